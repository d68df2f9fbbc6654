import PyProof.Rows.All
import Wide.All
import OpenK.AllK
import Wide.FinOn
import Lean
import PyProof.EqAt
import PyProof.EqKinds
import PyProof.TupleCall
import KE.KDictSum
import PyProof.Rows.SortStr
import PyProof.EnumStmt
import PyProof.EnumMake
import PyProof.StrBlockH
import PyProof.ReprStr
import PyProof.StrLawsRepr
import PyProof.FString
import PyProof.DictCompW
import PyProof.P3Eq
import PyProof.P3In
import PyProof.NeData
import PyProof.ReprHeadsTuple
import KE.KLam
import KE.KNestM
import KE.KSortKey
import KE.KSortTup
import PyProof.WalkInts
import PyProof.DictWalks
import PyProof.MinMaxWalk
import PyProof.SeqI3
import PySem.Challenge.RW_shoretold_k26_whole_least_plots_of_a_cro
set_option bootstrap.genMatcherCode false
noncomputable section
set_option Elab.async false
set_option linter.all false
set_option maxRecDepth 100000
abbrev Oo := @List.length_map
abbrev Op := @List.getElem?_eq_getElem
abbrev Oq := @Nat.le_refl
abbrev Ot := @List.mem_singleton
abbrev Ou := @List.mem_cons_of_mem
abbrev Ov := @Array.length_toList
abbrev Ow := @List.mem_cons_self
abbrev Ox := @List.size_toArray
abbrev Oy := @List.length_append
abbrev Oz := @List.mem_append
abbrev O0 := @List.mem_filter
abbrev O1 := @Nat.ne_of_lt
abbrev O2 := @List.getElem?_map
abbrev O3 := @List.length_take
abbrev O4 := @Bool.false_ne_true
abbrev O5 := @List.map_append
abbrev O6 := @List.mem_cons
abbrev O7 := @List.getD_eq_getElem?_getD
abbrev O8 := @List.take_succ_eq_append_getElem
abbrev O9 := @Bool.and_eq_true
abbrev Pa := @Option.some.inj
abbrev Pb := @List.getElem?_eq_some_iff
abbrev Pc := @List.length_cons
abbrev Pd := @Nat.lt_of_lt_of_le
abbrev Pe := @List.mem_map
abbrev Pf := @Bool.false_eq_true
abbrev Pg := @List.map_cons
abbrev Ph := @List.pairwise_append
abbrev Pi := @List.take_append_drop
abbrev Pj := @List.append_assoc
abbrev Pk := @List.filter_append
abbrev Pl := @List.all_eq_true
abbrev Pm := @List.mem_append_right
abbrev Pn := @List.getElem_mem
abbrev Po := @List.mem_iff_getElem
abbrev Pp := @List.map_map
abbrev Pq := @Nat.zero_le
abbrev Pr := @Nat.le_trans
abbrev Ps := @List.filter_eq_self
abbrev Pt := @List.length_filter_le
abbrev Pu := @List.take_of_length_le
abbrev Pw := @List.filter_cons
abbrev Px := @List.mem_of_mem_take
abbrev Py := @List.length_eq_zero_iff
abbrev Pz := @Int.eq_ofNat_of_zero_le
abbrev P0 := @List.map_congr_left
abbrev P1 := @List.take_sublist
abbrev P2 := @List.length_range
abbrev P3 := @Nat.lt_irrefl
abbrev P4 := @List.mem_append_left
abbrev P5 := @List.lookup_cons
abbrev P6 := @List.mem_range
abbrev P7 := @List.mem_of_mem_drop
abbrev P8 := @List.length_drop
abbrev P9 := @List.take_length
abbrev Qa := @List.append_nil
abbrev Qb := @List.nodup_append
abbrev Qc := @List.range_succ
abbrev Qd := @List.length_singleton
abbrev Qe := @List.Perm.append_left
abbrev Qf := @List.nodup_cons
abbrev Qg := @Nat.not_lt_zero
abbrev Qh := @Int.toNat_natCast
abbrev Qi := @List.sum_cons
abbrev Qj := @List.getElem_map
abbrev Qk := @Nat.lt_succ_of_lt
abbrev Ql := @Nat.zero_add
abbrev Qm := @List.drop_eq_nil_of_le
abbrev Qn := @List.Perm.refl
abbrev Qo := @Bool.eq_iff_iff
abbrev Qp := @List.mem_singleton_self
abbrev Qq := @List.countP_cons
abbrev Qr := @List.filterMap_cons
abbrev Qs := @List.replicate_succ
abbrev Qt := @Nat.le_succ
abbrev Qu := @List.drop_sublist
abbrev Qv := @Bool.false_and
abbrev Qw := @List.getElem?_append_left
abbrev Qx := @Bool.true_and
abbrev Qy := @List.perm_append_comm
abbrev Qz := @Option.isSome_iff_exists
abbrev Q3 := @List.countP_eq_length_filter
abbrev Q4 := @Sum.inr.inj
abbrev Q5 := @List.find?_cons
abbrev Q6 := @Option.map_some
abbrev Q7 := @List.length_nil
abbrev Q8 := @Nat.min_eq_left
abbrev Q9 := @List.dropWhile_cons
abbrev Ra := @List.takeWhile_cons
abbrev Rb := @List.filter_eq_nil_iff
abbrev Rc := @List.getElem?_append_right
abbrev Rf := @List.length_eraseIdx_of_lt
abbrev Rg := @List.ext_getElem
abbrev Rh := @Array.getElem?_toList
abbrev Ri := @List.pairwise_cons
abbrev Rj := @List.getElem?_toArray
abbrev Rk := @List.pairwise_iff_getElem
abbrev Rl := @List.drop_eq_getElem_cons
abbrev Rm := @List.mem_of_getElem?
abbrev Ro := @List.nil_append
abbrev Rp := @List.count_append
abbrev Rq := @Nat.lt_trans
abbrev Rr := @List.any_eq_true
abbrev Rs := @List.perm_middle
abbrev Rt := @List.count_eq_zero
abbrev Ru := @Int.emod_lt_of_pos
abbrev Rv := @List.foldl_cons
abbrev Rw := @List.getElem?_eq_none
abbrev Rx := @Bool.or_eq_true
abbrev Ry := @Bool.eq_false_iff
abbrev Rz := @List.count_cons_self
abbrev R0 := @List.drop_zero
abbrev R1 := @Array.getElem?_eq_getElem
abbrev R4 := @List.getElem_inj
abbrev R5 := @Nat.le_of_lt
abbrev R6 := @List.getElem?_take_of_lt
abbrev R7 := @List.findIdx?_eq_some_iff_getElem
abbrev R8 := @Bool.not_true
abbrev R9 := @Bool.and_self
abbrev Sa := @List.map_inj_right
abbrev Sb := @List.getElem?_drop
abbrev Sc := @Array.forIn_toList
abbrev Sd := @Int.emod_nonneg
abbrev Se := @List.length_pos_of_mem
abbrev Sf := @List.flatten_cons
abbrev Sg := @List.pairwise_map
abbrev Sh := @List.getElem_take
abbrev Si := @List.drop_take
abbrev Sj := @List.any_cons
abbrev Sk := @List.of_mem_zip
abbrev Sl := @List.forIn_cons
abbrev Sm := @Bool.or_eq_true_iff
abbrev Sn := @List.flatMap_append
abbrev So := @Array.Perm.refl
abbrev Sq := @List.mem_filterMap
abbrev Sr := @Option.isSome_some
abbrev Ss := @Nat.lt_of_le_of_lt
abbrev Su := @List.count_pos_iff
abbrev Sv := @List.getElem_range
abbrev Sw := @List.getElem?_take
abbrev Sx := @Int.zero_add
abbrev Sy := @List.forIn_nil
abbrev Sz := @List.reverse_cons
abbrev S0 := @Bool.not_eq_true'
abbrev S5 := @Nat.mod_lt
abbrev S6 := @List.flatMap_cons
abbrev S7 := @List.getElem_drop
abbrev S8 := @Bool.or_false
abbrev S9 := @Int.le_refl
abbrev Ta := @Nat.ne_of_gt
abbrev Tb := @Nat.sub_zero
abbrev Tc := @List.set_set
abbrev Td := @Bool.or_true
abbrev Te := @PySem.wpAny_bind
abbrev Tf := @PySem.wpAny_pure
abbrev Tg := @PyProof.Rows.wpS_bind
abbrev Th := @PyProof.Rows.wpS_pure
abbrev Ti := @PySem.sizeLine_eq
abbrev Tj := @if_neg
abbrev Tk := @if_pos
abbrev Tl := @decide_eq_true
abbrev Tm := @decide_eq_false
abbrev Tn := @of_decide_eq_true
abbrev Tp := @of_decide_eq_false
abbrev Tq := @PySem.Heap.lt_size
abbrev Tr := @PySem.Heap.get?_push_of_some
abbrev Tt := @PySem.Heap.SameBut.update
namespace L2
open PySem PySem.Spec PyProof.Rows
abbrev Key:=Sum Int Str
def D3:Key->Value->Bool
 | .inl k,v=>Value.isInt k v
 | .inr x,v=>Value.isStrOf x v
def keyH (w:World):Key->Int
 | .inl k=>hashInt k
 | .inr x=>hashStr w x
theorem Dq:∀{k:Key} {v:Value},D3 k v=true->(∃i t,k=Sum.inl i/\v=Value.int i t)\/(∃x t,k=Sum.inr x/\v=Value.str x t)
 | .inl i,v,h=>by
  obtain⟨t,e⟩:=Value.isInt_shape (k:=i) (v:=v) h;exact .inl ⟨i,t,rfl,e⟩
 | .inr x,v,h=>by
  obtain⟨t,e⟩:=Value.isStrOf_shape (x:=x) (v:=v) h;exact .inr ⟨x,t,rfl,e⟩
theorem Xf7(i:Int)(t:Tok):D3 (.inl i) (.int i t)=true:=by simp[D3,Value.isInt]
theorem Xf8(x:Str)(t:Tok):D3 (.inr x) (.str x t)=true:=by simp[D3,Value.isStrOf]
theorem Xf9(a b:Int):decide ((Sum.inl a:Key)=Sum.inl b)=(a==b):=by
 by_cases e:a=b
 ·subst e;simp
 ·have h:¬(Sum.inl a:Key)=Sum.inl b:=λq=>e (Sum.inl.inj q);rw[Tm h];exact(beq_eq_false_iff_ne.mpr e).symm
theorem Xga(a b:Str):decide ((Sum.inr a:Key)=Sum.inr b)=decide (a=b):=by
 by_cases e:a=b
 ·subst e;simp
 ·have h:¬(Sum.inr a:Key)=Sum.inr b:=λq=>e (Q4 q);rw[Tm h,Tm e]
theorem Xgb(a:Int)(b:Str):decide ((Sum.inl a:Key)=Sum.inr b)=false:=Tm (λq=>nomatch q)
theorem Xgc(a:Str)(b:Int):decide ((Sum.inr a:Key)=Sum.inl b)=false:=Tm (λq=>nomatch q)
def Bi (prog:Program) (w:World):PySem.KeyKind prog w Key where
 is:=D3
 hash:=keyH w
 inj:=λv a b ha hb=>by
  rcases Dq ha with ⟨i,t,rfl,rfl⟩ | ⟨x,t,rfl,rfl⟩
  ·rcases Dq hb with ⟨j,u,rfl,e⟩ | ⟨y,u,rfl,e⟩
   ·injection e with e1 _;rw[e1]
   ·exact nomatch e
  ·rcases Dq hb with ⟨j,u,rfl,e⟩ | ⟨y,u,rfl,e⟩
   ·exact nomatch e
   ·injection e with e1 _;rw[e1]
 byValue:=λk v h=>by
  rcases Dq h with ⟨i,t,rfl,rfl⟩ | ⟨x,t,rfl,rfl⟩<;>rfl
 pyHash:=λhv h=>by
  rcases Dq hv with ⟨i,t,rfl,rfl⟩ | ⟨x,t,rfl,rfl⟩
  ·exact wpAny_pyHash_int h
  ·exact wpAny_pyHash_str h
 eqBool:=λhu hv h=>by
  rcases Dq hu with ⟨i,t,rfl,rfl⟩ | ⟨x,t,rfl,rfl⟩
  ·rcases Dq hv with ⟨j,u,rfl,rfl⟩ | ⟨y,u,rfl,rfl⟩
   ·rw[Xf9] at h;exact wpAny_eqBool_int h
   ·rw[Xgb] at h;exact SeqAt.EqAt.int_str i t y u _ _ _ _ h
  ·rcases Dq hv with ⟨j,u,rfl,rfl⟩ | ⟨y,u,rfl,rfl⟩
   ·rw[Xgc] at h;exact SeqAt.EqAt.str_int x t j u _ _ _ _ h
   ·rw[Xga] at h;exact wpAny_eqBool_str h
 «strs»:=λk x t v h=>by
  rcases Dq h with ⟨i,u,rfl,e⟩ | ⟨y,u,rfl,e⟩
  ·exact nomatch e
  ·injection e with e1 _
   subst e1;cases v<;>rfl
theorem Xgd(prog:Program)(w:World)(i:Int)(t:Tok):(Bi prog w).is (.inl i) (.int i t)=true:=Xf7 i t
theorem Xge(prog:Program)(w:World)(x:Str)(t:Tok):(Bi prog w).is (.inr x) (.str x t)=true:=Xf8 x t
inductive V where
 | non | bl (b:Bool) | int (i:Int) | str (x:Str) | byt (b:Array UInt8) | flt (b:UInt64) | ref (a:Addr) | ty (n:String)
 deriving DecidableEq
def Ah:V->Value->Prop
 | .non,u=>u=Value.none
 | .bl b,u=>u=Value.bool b
 | .int i,u=>∃t,u=Value.int i t
 | .str x,u=>∃t,u=Value.str x t
 | .byt b,u=>∃t,u=Value.bytes b t
 | .flt b,u=>∃t,u=Value.float b t
 | .ref a,u=>u=Value.ref a
 | .ty n,u=>u=Value.type n
abbrev Vals:List V->List Value->Prop:=Paired Ah
theorem Vals.length{xs:List V}{us:List Value}(r:Vals xs us):xs.length=us.length:=Paired.length r
theorem Vals.get:∀{xs:List V} {us:List Value} {i:Nat} {x:V},Vals xs us->xs[i]? = some x->∃u,us[i]? = some u/\Ah x u
 | _,_,_,_,.nil,e=>by simp at e
 | _,_,0,_,.cons r _,e=>by simp at e;subst e;exact⟨_,rfl,r⟩
 | _,_,i+1,x,.cons _ t,e=>by
  obtain⟨u,h1,h2⟩:=Vals.get (i:=i) (x:=x) t (by simpa using e);exact⟨u,by simpa using h1,h2⟩
theorem Vals.set{x:V}{u:Value}(r:Ah x u):∀{xs:List V} {us:List Value} (i:Nat),Vals xs us->Vals (xs.set i x) (us.set i u)
 | _,_,_,.nil=>.nil
 | _,_,0,.cons _ t=>.cons r t
 | _,_,i+1,.cons q t=>.cons q (Vals.set r i t)
theorem Vals.append:∀{xs ys:List V} {us ws:List Value},Vals xs us->Vals ys ws->Vals (xs++ys) (us++ws)
 | _,_,_,_,.nil,s=>s
 | _,_,_,_,.cons r t,s=>.cons r (Vals.append t s)
theorem Vals.take:∀{xs:List V} {us:List Value} (n:Nat),Vals xs us->Vals (xs.take n) (us.take n)
 | _,_,0,_=>.nil
 | _,_,_+1,.nil=>.nil
 | _,_,n+1,.cons r t=>.cons r (Vals.take n t)
theorem Vals.drop:∀{xs:List V} {us:List Value} (n:Nat),Vals xs us->Vals (xs.drop n) (us.drop n)
 | _,_,0,r=>r
 | _,_,_+1,.nil=>.nil
 | _,_,n+1,.cons _ t=>Vals.drop n t
def Cq:Option V->Option Value->Prop
 | some v,some u=>Ah v u
 | none,none=>True
 | _,_=>False
def KV {κ : Type}:List (κ × V)->List (κ × Value)->Prop:=Paired λ(p : κ × V) (q : κ × Value)=>p.1=q.1/\Ah p.2 q.2
def kV:Key->V
 | .inl i=>.int i
 | .inr x=>.str x
inductive HO where
 | lst (xs:List V)
 | tup (xs:List V)
 | dK (kvs:List (Key×V)) | dT (kvs:List (List Key×V))
 | set (S:Int->Bool) (n:Nat)
 | ins (C dx:Addr) (fs:List (Str×V))
 | own (x:Addr)
 | xd (fs:List (Str×V))
 | met (f x:Addr)
 | rng (lo hi:Int)
 | frz (o:Obj) (u:HO)
 | tbl (ps:Array Value)
 | ext (φ : Heap->Prop)
abbrev Hp:=Addr->Option HO
def upd (H:Hp) (a:Addr) (o:HO):Hp:=λb=>if b=a then some o else H b
theorem Ac{H:Hp}{a:Addr}{o:HO}:upd H a o a=some o:=by unfold upd;rw[Tk rfl]
theorem Ad{H:Hp}{a b:Addr}{o:HO}(h:b≠a):upd H a o b=H b:=by unfold upd;rw[Tj h]
theorem Il{H:Hp}{a b:Addr}{o u:HO}(h:H a=some o)(h':H b=some u)(d:o≠u):a≠b:=by
 intro e;subst e;rw[h] at h';exact d (Pa h')
theorem Aw{H:Hp}{a b:Addr}{o:HO}(h:H a=some o)(h':H b=none):a≠b:=by
 intro e;subst e;rw[h] at h';cases h'
section
variable (P:Program) (w:World)
def A0 (H:Hp) (h:Heap) (a:Addr):HO->Prop
 | .lst xs=>xs.length<=sizeLine/\∃(its:List Value) (n:Nat),Vals xs its/\h.get? a=some {cls:=.type "list",data:=.seq its.toArray n}
 | .tup xs=>xs.length<=sizeLine/\∃its:List Value,Vals xs its/\IsTup h a its.toArray
 | .dK kvs=>kvs.length<=sizeLine/\(a==sysModules)=false/\∃vs,KV kvs vs/\h.DictOf (Bi P w) a vs
 | .dT kvs=>kvs.length<=sizeLine/\(a==sysModules)=false/\∃xs:List (List Key×Addr×Value),
   Paired (λ(p:List Key×V) (q:List Key×Addr×Value)=>p.1=q.1/\H q.2.1=some (.tup (p.1.map kV))/\Ah p.2 q.2.2) kvs xs /\
   ∃o es ep,h.get? a=some o/\o.ExactDict/\o.data = .dict es ep/\es.toList=xs.map (entryOfKey (tupleKind (Bi P w)))/\(xs.map (·.1)).Nodup
 | .set S n=>h.SetOf (intKind P w) a S n
 | .ins C dx fs=>H dx=some (.own a)/\fs.length<=1000/\dx≠a/\h.get? a=some (PySem.W.instObj C dx) /\
   ∃mA,h.Ns1 dx mA/\(∀f,Cq (fs.lookup f) (mA f))/\PySem.Within mA (fs.map (·.1))
 | .own _=>∃o,h.get? a=some o
 | .xd fs=>∃mA,h.Ns1 a mA/\∀f,Cq (fs.lookup f) (mA f)
 | .rng lo hi=>∃t u v,h.get? a=some {cls:=.type "range",data:=.fields #[.int lo t,.int hi u,.int 1 v]}
 | .frz o u=>h.get? a=some o/\A0 H h a u
 | .tbl ps=>h.get? a=some {cls:=.none,data:=.fields ps}
 | .met f x=>h.get? a=some (PySem.W.methodObj (.ref f) (.ref x))
 | .ext φ => φ h/\(∃o,h.get? a=some o)/\∀h1 h2:Heap, φ h1->(∀o,h1.get? a=some o->h2.get? a=some o) -> φ h2
def HOk (H:Hp) (h:Heap):Prop:=∀a o,H a=some o->A0 P w H h a o
end
section
variable {P:Program}{w:World}{H H':Hp}{h h':Heap}{a:Addr}{o:HO}
theorem A0.lt(x:A0 P w H h a o):a<h.objs.size:=by
 cases o with
 | lst xs=>obtain⟨_,_,_,_,e⟩:=x;exact Tq e
 | tup xs=>obtain⟨_,_,_,p⟩:=x;exact p.lt
 | dK kvs=>obtain⟨_,_,_,_,o,_,_,e,_⟩:=x;exact Tq e
 | dT kvs=>obtain⟨_,_,_,_,o,_,_,e,_⟩:=x;exact Tq e
 | set S n=>obtain⟨o,_,_,_,e,_⟩:=x;exact Tq e
 | ins C dx fs=>obtain⟨_,_,_,e,_⟩:=x;exact Tq e
 | own y=>obtain⟨_,e⟩:=x;exact Tq e
 | xd fs=>obtain⟨_,⟨_,_,_,e,_⟩,_⟩:=x;exact Tq e
 | rng lo hi=>obtain⟨_,_,_,e⟩:=x;exact Tq e
 | frz ob u=>obtain⟨e,_⟩:=x;exact Tq e
 | tbl ps=>exact Tq (show h.get? a=some _ from x)
 | met f y=>exact Tq (show h.get? a=some _ from x)
 | ext φ=>obtain⟨_,⟨_,e⟩,_⟩:=x;exact Tq e
theorem Paired.mapP{α β : Type}{F G : α -> β->Prop}:∀{l₁ : List α} {l₂ : List β},Paired F l₁ l₂->(∀a b,F a b->G a b)->Paired G l₁ l₂
 | _,_,.nil,_=>.nil
 | _,_,.cons r t,f=>.cons (f _ _ r) (Paired.mapP t f)
theorem A0.stay(x:A0 P w H h a o)(k:∀b u,(b=a\/H b=some (.own a))->h.get? b=some u->h'.get? b=some u)
  (ho:∀b,H b=some (.own a)->H' b=some (.own a)) (ht:∀b xs,H b=some (.tup xs)->H' b=some (.tup xs)):A0 P w H' h' a o:=by
 induction o with
 | lst xs=>obtain⟨z,its,n,r,e⟩:=x;exact⟨z,its,n,r,k _ _ (.inl rfl) e⟩
 | tup xs=>obtain⟨z,its,r,ob,e,c⟩:=x;exact⟨z,its,r,ob,k _ _ (.inl rfl) e,c⟩
 | dK kvs=>obtain⟨z,y,vs,r,ob,es,ep,e,c⟩:=x;exact⟨z,y,vs,r,ob,es,ep,k _ _ (.inl rfl) e,c⟩
 | dT kvs=>
  obtain⟨z,y,xs,r,ob,es,ep,e,c⟩:=x;exact⟨z,y,xs,Paired.mapP r λp q z=>⟨z.1,ht _ _ z.2.1,z.2.2⟩,ob,es,ep,k _ _ (.inl rfl) e,c⟩
 | set S n=>obtain⟨ob,es,ep,t,e,c⟩:=x;exact⟨ob,es,ep,t,k _ _ (.inl rfl) e,c⟩
 | ins C dx fs=>
  obtain⟨d,z,ne,e,mA,⟨od,es,ep,e2,c⟩,r⟩:=x;exact⟨ho _ d,z,ne,k _ _ (.inl rfl) e,mA,⟨od,es,ep,k _ _ (.inr d) e2,c⟩,r⟩
 | own y=>obtain⟨ob,e⟩:=x;exact⟨ob,k _ _ (.inl rfl) e⟩
 | xd fs=>obtain⟨mA,⟨od,es,ep,e,c⟩,r⟩:=x;exact⟨mA,⟨od,es,ep,k _ _ (.inl rfl) e,c⟩,r⟩
 | rng lo hi=>obtain⟨t,u,v,e⟩:=x;exact⟨t,u,v,k _ _ (.inl rfl) e⟩
 | frz ob u ih=>obtain⟨e,q⟩:=x;exact⟨k _ _ (.inl rfl) e,ih q⟩
 | tbl ps=>
  have e:h.get? a=some {cls:=.none,data:=.fields ps}:=x;show h'.get? a=some {cls:=.none,data:=.fields ps};exact k a _ (.inl rfl) e
 | met f y=>
  have e:h.get? a=some (PySem.W.methodObj (.ref f) (.ref y)):=x;show h'.get? a=some (PySem.W.methodObj (.ref f) (.ref y));exact k a _ (.inl rfl) e
 | ext φ=>obtain⟨p,⟨o,e⟩,st⟩:=x;exact⟨st _ _ p λo q=>k _ _ (.inl rfl) q,⟨o,k _ _ (.inl rfl) e⟩,st⟩
theorem HOk.lt(x:HOk P w H h)(e:H a=some o):a<h.objs.size:=(x a o e).lt
theorem HOk.fresh(x:HOk P w H h)(e:h.objs.size<=a):H a=none:=by
 cases q:H a with
 | none=>rfl
 | some u=>exact absurd (Pd (x.lt q) e) (P3 _)
theorem HOk.kept(x:HOk P w H h)(k:∀b u,h.get? b=some u->h'.get? b=some u):HOk P w H h':=λa o e=>
 (x a o e).stay (λb u _ q=>k b u q) (λ_ q=>q) λ_ _ q=>q
theorem HOk.laid(x:HOk P w H h)(k:∀b u,h.get? b=some u->h'.get? b=some u)(hp:h.objs.size<=a)(new:A0 P w (upd H a o) h' a o):HOk P w (upd H a o) h':=λb u e=>by
 have hn:=x.fresh hp;by_cases hb:b=a
 ·subst hb;rw[Ac] at e;cases e;exact new
 ·rw[Ad hb] at e;exact(x b u e).stay (λc v _ q=>k c v q) (λc q=>by rw[Ad (Aw q hn)];exact q) λc xs q=>by rw[Ad (Aw q hn)];exact q
end
def Rd (H:Hp) (a:Addr) (u:HO):Prop:=H a=some u \/ ∃o,H a=some (.frz o u)
theorem Rd.ok{P:Program}{w:World}{H:Hp}{h:Heap}{a:Addr}{u:HO}(r:Rd H a u)(x:HOk P w H h):A0 P w H h a u:=by
 rcases r with r | ⟨o,r⟩
 ·exact x a u r
 ·obtain⟨_,q⟩:=x a _ r;exact q
def Mut:Option HO->Prop
 | some (.lst _)=>True
 | some (.dK _)=>True
 | some (.dT _)=>True
 | some (.set _ _)=>True
 | some (.ins _ _ _)=>True
 | some (.ext _)=>True
 | _=>False
section
variable {P:Program}{w:World}{H:Hp}{h h':Heap}{x e:Addr}{o':HO}
theorem HOk.write(ok:HOk P w H h)(mu:Mut (H x))(he:e=x\/H e=some (.own x))(k:∀b u,b≠e->h.get? b=some u->h'.get? b=some u)(heo:∃u,h'.get? e=some u)
  (new:A0 P w (upd H x o') h' x o'):HOk P w (upd H x o') h':=λb u q=>by
 have nown:∀c y,H c=some (.own y)->c≠x:=λc y r z=>by subst z;rw[r] at mu;exact mu
 have ntup:∀c xs,H c=some (.tup xs)->c≠x:=λc xs r z=>by subst z;rw[r] at mu;exact mu
 by_cases hb:b=x
 ·subst hb;rw[Ac] at q;cases q;exact new
 ·rw[Ad hb] at q;by_cases hbe:b=e
  ·have q':H b=some (.own x):=by
    rcases he with z | z
    ·exact absurd (hbe.trans z) hb
    ·rw[hbe];exact z
   rw[q] at q';cases q';obtain⟨v,hv⟩:=heo;exact⟨v,by rw[hbe];exact hv⟩
  ·refine(ok b u q).stay (λc v hc r=>k c v ?_ r) (λc r=>by rw[Ad (nown c b r)];exact r) λc xs r=>by rw[Ad (ntup c xs r)];exact r
   rcases hc with rfl | hc
   ·exact hbe
   ·rintro rfl;rcases he with z | z
    ·exact nown c b hc z
    ·rw[hc] at z;cases z;exact hb rfl
end
structure Un (fs ex:List Addr) (H H':Hp) (h h':Heap):Prop where
 keep:∀b o,h.get? b=some o->H b=none->b∉fs->b∉ex->h'.get? b=some o
 slot:∀b o,h.get? b=some o->H b=none->b∈fs->b∉ex->∃sl,h'.get? b=some {o with slots:=sl}
 free:∀b o,h.get? b=some o->H b=none->b∉ex->H' b=none
 there:∀b o,h.get? b=some o->b∉ex->∃o',h'.get? b=some o'
 tups:∀b xs,H b=some (.tup xs)->H' b=some (.tup xs)
 frzs:∀b o u,H b=some (.frz o u)->H' b=some (.frz o u)
 tbls:∀b ps,H b=some (.tbl ps)->∃more,H' b=some (.tbl (ps++more))
section
variable {fs fs' ex ex':List Addr}{H H1 H2:Hp}{h h1 h2 h':Heap}{a x e:Addr}{o:HO}
theorem Un.any(u:Un fs ex H H1 h h1){b:Addr}{ob:Obj}(q:h.get? b=some ob)(n:H b=none)(hx:b∉ex):∃sl,h1.get? b=some {ob with slots:=sl}:=by
 by_cases hb:b∈fs
 ·exact u.slot b ob q n hb hx
 ·exact⟨ob.slots,u.keep b ob q n hb hx⟩
theorem Un.kept(k:∀b u,h.get? b=some u->h'.get? b=some u):Un fs ex H H h h':=
 ⟨λb ob q _ _ _=>k b ob q,λb ob q _ _ _=>⟨ob.slots,k b ob q⟩,λ_ _ _ n _=>n,λb ob q _=>⟨ob,k b ob q⟩,λ_ _ q=>q,λ_ _ _ q=>q,λ_ ps q=>⟨#[],by rw[q];simp⟩⟩
theorem Un.refl:Un fs ex H H h h:=Un.kept λ_ _ q=>q
theorem Un.laid(k:∀b u,h.get? b=some u->h'.get? b=some u)(hp:h.objs.size<=a)(hn:H a=none):Un fs ex H (upd H a o) h h' where
 keep:=λb u q _ _ _=>k b u q
 slot:=λb u q _ _ _=>⟨u.slots,k b u q⟩
 free:=λb u q n _=>by rw[Ad (O1 (Pd (Tq q) hp))];exact n
 there:=λb u q _=>⟨u,k b u q⟩
 tups:=λb xs q=>by rw[Ad (Aw q hn)];exact q
 frzs:=λb u xs q=>by rw[Ad (Aw q hn)];exact q
 tbls:=λb ps q=>⟨#[],by rw[Ad (Aw q hn),q];simp⟩
theorem Un.write(mu:Mut (H x))(he:e=x\/H e=some (.own x))(k:∀b u,b≠e->h.get? b=some u->h'.get? b=some u)(heo:∃u,h'.get? e=some u):Un fs ex H (upd H x o) h h':=by
 have hx:∀b,H b=none->b≠x:=λb n z=>by subst z;rw[n] at mu;exact mu
 have hb:∀b,H b=none->b≠e:=λb n z=>by
  subst z;rcases he with r | r
  ·exact hx b n r
  ·rw[n] at r;cases r
 have hm:∀b u,H b=some u->¬Mut (some u)->b≠x:=λb u q nm z=>by subst z;rw[q] at mu;exact nm mu
 refine⟨λb u q n _ _=>k b u (hb b n) q,λb u q n _ _=>⟨u.slots,k b u (hb b n) q⟩,λb u q n _=>by rw[Ad (hx b n)];exact n,λb u q _=>?_,
  λb xs q=>by rw[Ad (hm b _ q λz=>z)];exact q,λb u xs q=>by rw[Ad (hm b _ q λz=>z)];exact q,λb ps q=>⟨#[],by rw[Ad (hm b _ q λz=>z),q];simp⟩⟩
 by_cases hbe:b=e
 ·subst hbe;exact heo
 ·exact⟨u,k b u hbe q⟩
end
def trk (h:Heap) (H:Hp):List Addr:=(List.range h.objs.size).filter λa=>(H a).isSome
def Dr (h:Heap) (H:Hp):Heap:=PySem.W.hideAll h (trk h H)
theorem Xgf(h:Heap)(H:Hp):(Dr h H).objs.size=h.objs.size:=PySem.W.hideAll_size _ _
theorem Xgg{h:Heap}{H:Hp}{b:Addr}{o:Obj}(e:h.get? b=some o)(n:H b=none):(Dr h H).get? b=some o:=
 PySem.W.hideAll_get _ e λhm=>by
  have q:(H b).isSome=true:=(O0.mp hm).2;rw[n] at q;simp at q
theorem Xgh{h:Heap}{H:Hp}{b:Addr}{o:Obj}(e:(Dr h H).get? b=some o):h.get? b=some o/\H b=none:=by
 have e':h.get? b=some o:=PySem.W.of_hideAll (trk h H) e;refine⟨e',?_⟩;cases q:H b with
 | none=>rfl
 | some x=>
  have hm:b∈trk h H:=O0.mpr ⟨P6.mpr (Tq e'),by simp[q]⟩;have z:(Dr h H).get? b=none:=PySem.W.hideAll_none (trk h H) hm;rw[z] at e;cases e
def Xgi (g h:Heap) (L:Addr):List (Addr×Obj):=(List.range h.objs.size).filterMap λa=>if a=L\/(g.get? a).isSome=true then none else (h.get? a).map λo=>(a,o)
def rest (g h:Heap) (L d:Addr):List (Addr×Obj):=(Xgi g h L).filter λp=>decide (p.1≠d)
structure Mod (K:PySem.W.Frag) (mg:Str->Option Value) (base:Heap):Prop where
 kin:K.In base
 glob:base.Ns mainGlobals mg
 blt:∃mb,base.Ns builtinsNs mb/\∀x:Str,x ≠ "__name__" -> mb x=bootBuiltins x
 nolimit:base.NoLimit
structure Cx where
 prog:Program
 w:World
 K:PySem.W.Frag
 mg:Str->Option Value
 base:Heap
 A:Around
 N:List Str
 s₀ : Shared
 H₀ : Hp
 env:Env
 outer:List Env
 stack:List Env
 ex:List Addr
 fn:Str->Bool
 calm:Bool
 pn:List (Addr×Obj)
 xe:Value->Shared->Prop
def frs (l:List Env):List Addr:=l.filterMap (·.frame)
abbrev Cx.fs (X:Cx):List Addr:=frs X.outer
def Vis (sc:Scope) (x:Str):Prop:=sc.names.lookup x=some .local\/sc.names.lookup x=some .cell\/sc.names.lookup x=some .free
def Loc (sc:Scope) (x:Str):Prop:=sc.names.lookup x=some .local\/sc.names.lookup x=some .cell
def Look (env:Env) (h:Heap) (m:Str->Option Value) (x:Str) (u:Value):Prop:=
 (env.kindOf x=some .local/\m x=some u)\/((env.kindOf x=some .cell\/env.kindOf x=some .free)/\∃c,env.cells.lookup x=some c/\h.IsCell c (some u))
structure Cx.Ok (X:Cx):Prop where
 mod:Mod X.K X.mg X.base
 kind:X.env.scope.kind = .function
 glob:X.env.globals=mainGlobals
 blt:X.env.builtins=builtinsNs
 above:X.s₀.heap.objs.size<=X.env.locals
 inj:∀x y c,X.env.cells.lookup x=some c->X.env.cells.lookup y=some c->x=y
 has:∀x,(X.env.kindOf x=some .cell\/X.env.kindOf x=some .free)->∃c,X.env.cells.lookup x=some c
 cab:∀x c,X.fn x=true->X.env.cells.lookup x=some c->X.s₀.heap.objs.size<=c
 hd:X.calm=true->X.A.handled=none
 frames:X.A.frames=some X.stack
 stk:X.stack=X.outer\/(X.stack=X.env::X.outer/\X.env.frame=some X.env.locals)
 exf:∀b∈X.ex,b≠X.env.locals/\∀x c,X.env.cells.lookup x=some c->c≠b
 bs:∀b o,X.base.get? b=some o->X.s₀.heap.get? b=some o/\X.H₀ b=none
 bsz:X.base.objs.size<=X.s₀.heap.objs.size
 noex:∀b o,X.base.get? b=some o->b∉X.ex
 exfs:∀b∈X.ex,b∉X.fs
 funs:X.s₀.heap.FunFrames X.base X.outer
 frf:∀b∈X.fs,X.H₀ b=none
structure Inv (X:Cx) (pins:List (Addr×Obj)) (σ:List (Option V)) (H:Hp) (s:Shared):Prop where
 ok:X.Ok
 os:s.os=X.s₀.os
 bare:AllBare s.gens
 base:Un X.fs X.ex X.H₀ H X.s₀.heap s.heap
 loc:∃m,s.heap.Ns X.env.locals m/\∀(i:Nat) (x:Str) (v:V),X.N[i]? = some x -> σ[i]? = some (some v)->Vis X.env.scope x->∃u,Ah v u/\Look X.env s.heap m x u
 cell:∀x c,X.env.cells.lookup x=some c->∃v,s.heap.IsCell c v
 free:H X.env.locals=none
 freeC:∀x c,X.env.cells.lookup x=some c->H c=none
 pin:∀p∈X.pn++pins,s.heap.get? p.1=some p.2/\H p.1=none/\p.1≠X.env.locals/\p.1∉X.fs/\∀v,p.2.data ≠ .cell v
 hok:HOk X.prog X.w H s.heap
 len : σ.length=X.N.length
section
variable {X:Cx}{pins:List (Addr×Obj)}{σ:List (Option V)}{H H':Hp}{s:Shared}{h':Heap}
theorem Cx.Ok.nofr(ok:X.Ok){b:Addr}{o:Obj}(e:X.base.get? b=some o):b∉X.fs:=λhb=>by
 have:=(ok.funs.mem hb).1;rw[e] at this;cases this
theorem Inv.bs(I:Inv X pins σ H s):∀b o,X.base.get? b=some o->s.heap.get? b=some o/\H b=none:=λb o e=>
 ⟨I.base.keep b o (I.ok.bs b o e).1 (I.ok.bs b o e).2 (I.ok.nofr e) (I.ok.noex b o e),I.base.free b o (I.ok.bs b o e).1 (I.ok.bs b o e).2 (I.ok.noex b o e)⟩
theorem Inv.bk(I:Inv X pins σ H s):∀b o,X.base.get? b=some o->s.heap.get? b=some o:=λb o e=>(I.bs b o e).1
theorem Inv.mod(I:Inv X pins σ H s):Mod X.K X.mg X.base:=I.ok.mod
theorem Inv.kIn(I:Inv X pins σ H s):X.K.In s.heap:=I.ok.mod.kin.keeps I.bk
theorem Inv.lt(I:Inv X pins σ H s):X.env.locals<s.heap.objs.size:=let ⟨_,hn,_⟩:=I.loc;hn.lt
theorem Inv.sz(I:Inv X pins σ H s):X.s₀.heap.objs.size<=s.heap.objs.size:=Pr I.ok.above (R5 I.lt)
theorem Inv.nofs(I:Inv X pins σ H s){a:Addr}(h:s.heap.objs.size<=a):a∉X.fs:=λhb=>by
 obtain⟨_,o,ho,_⟩:=I.ok.funs.mem hb;exact absurd (Pd (Tq ho) (Pr I.sz h)) (P3 _)
theorem Inv.cne(I:Inv X pins σ H s):∀x c,X.env.cells.lookup x=some c->c≠X.env.locals:=λx c e z=>by
 obtain⟨v,o,ho,hd⟩:=I.cell x c e;obtain⟨m,⟨o',es,ep,ho',hd',_⟩,_⟩:=I.loc;rw[z,ho'] at ho;cases ho;rw[hd'] at hd;cases hd
theorem Inv.funs(I:Inv X pins σ H s):s.heap.FunFrames X.base X.outer:=by
 have all:∀(l:List Env),(∀b∈frs l,b∈X.fs)->X.s₀.heap.FunFrames X.base l->s.heap.FunFrames X.base l:=by
  intro l
  induction l with
  | nil=>intro _ _;trivial
  | cons env r ih=>
   intro hs hl;obtain⟨hk,⟨L,o,hf,hn,ho,hd⟩,hr⟩:=hl;have hL:L∈X.fs:=hs L (by unfold frs;rw[Qr,hf];exact Ow);obtain⟨sl,e⟩:=I.base.slot L o ho (I.ok.frf L hL) hL λz=>I.ok.exfs L z hL;exact⟨hk,⟨L,_,hf,hn,e,hd⟩,ih (λb hb=>hs b (by unfold frs;rw[Qr,hf];exact Ou _ hb)) hr⟩
 exact all X.outer (λ_ hb=>hb) I.ok.funs
theorem Inv.stack(I:Inv X pins σ H s):s.heap.FunFrames X.base X.stack:=by
 rcases I.ok.stk with e | ⟨e,hf⟩
 ·rw[e];exact I.funs
 ·rw[e];obtain⟨m,hn,_⟩:=I.loc;refine .cons (by rw[I.ok.kind];decide) hf hn ?_ I.funs;exact Heap.get?_none_of_le (Pr I.ok.bsz I.ok.above)
theorem Inv.stkSub(I:Inv X pins σ H s):∀b∈frs X.stack,b∈X.env.locals::X.fs:=λb hb=>by
 rcases I.ok.stk with e | ⟨e,hf⟩
 ·rw[e] at hb;exact Ou _ hb
 ·rw[e] at hb;unfold frs at hb;rw[Qr,hf] at hb;exact hb
theorem Inv.stkFree(I:Inv X pins σ H s):∀b∈frs X.stack,H b=none:=λb hb=>by
 rcases O6.mp (I.stkSub b hb) with e | hb
 ·rw[e];exact I.free
 ·obtain⟨_,o,ho,_⟩:=I.ok.funs.mem hb;exact I.base.free b o ho (I.ok.frf b hb) λz=>I.ok.exfs b z hb
theorem Inv.step{g':Array GenState}{t':Nat}{d':Drawn}{ch:List Addr}(I:Inv X pins σ H s)
  (hch:∀b∈ch,(b∈X.ex\/X.s₀.heap.objs.size<=b)/\b≠X.env.locals/\(∀x c,X.env.cells.lookup x=some c->c≠b)/\∀p∈X.pn++pins,p.1≠b)
  (keep:∀b o,b≠X.env.locals->b∉X.fs->b∉ch->s.heap.get? b=some o->H b=none->h'.get? b=some o)
  (slot:∀b o,b≠X.env.locals->b∈X.fs->b∉ch->s.heap.get? b=some o->H b=none->∃sl,h'.get? b=some {o with slots:=sl}) (free:∀b o,b∉ch->s.heap.get? b=some o->H b=none->H' b=none)
  (there:∀b o,b∉ch->s.heap.get? b=some o->∃o',h'.get? b=some o')
  (tups:∀b xs,H b=some (.tup xs)->H' b=some (.tup xs)) (frzs:∀b o u,H b=some (.frz o u)->H' b=some (.frz o u)) (tbls:∀b ps,H b=some (.tbl ps)->∃more,H' b=some (.tbl (ps++more)))
  (ns:∀m,s.heap.Ns X.env.locals m->h'.Ns X.env.locals m) (hok:HOk X.prog X.w H' h') (hg:AllBare g'):
  Inv X pins σ H' {s with heap:=h',gens:=g',drawn:=d',toks:=t'}:=by
 have neL:∀b o,X.s₀.heap.get? b=some o->b≠X.env.locals:=λb o e=>O1 (Pd (Tq e) I.ok.above);have neC:∀b o,X.s₀.heap.get? b=some o->b∉X.ex->b∉ch:=λb o e hx hb=>by
  rcases (hch b hb).1 with z | z
  ·exact hx z
  ·exact absurd (Pd (Tq e) z) (P3 _)
 have cellK:∀x c,X.env.cells.lookup x=some c->∀v,s.heap.IsCell c v->h'.IsCell c v:=λx c e v ⟨o,ho,hd⟩=>by
  have nch:c∉ch:=λz=>(hch c z).2.2.1 x c e rfl;by_cases hc:c∈X.fs
  ·obtain⟨sl,q⟩:=slot c o (I.cne x c e) hc nch ho (I.freeC x c e);exact⟨_,q,hd⟩
  ·exact⟨o,keep c o (I.cne x c e) hc nch ho (I.freeC x c e),hd⟩
 refine⟨I.ok,I.os,hg,⟨λb o e n hb hx=>?_,λb o e n hb hx=>?_,λb o e n hx=>?_,λb o e hx=>?_,λb xs e=>tups b xs (I.base.tups b xs e),λb o xs e=>frzs b o xs (I.base.frzs b o xs e),λb ps e=>?_⟩,?_,λx c e=>?_,?_,λx c e=>?_,λp hp=>?_,hok,I.len⟩
 ·exact keep b o (neL b o e) hb (neC b o e hx) (I.base.keep b o e n hb hx) (I.base.free b o e n hx)
 ·obtain⟨sl,e1⟩:=I.base.slot b o e n hb hx;obtain⟨sl',e2⟩:=slot b _ (neL b o e) hb (neC b o e hx) e1 (I.base.free b o e n hx);exact⟨sl',e2⟩
 ·obtain⟨o',e1⟩:=I.base.there b o e hx;exact free b o' (neC b o e hx) e1 (I.base.free b o e n hx)
 ·obtain⟨o',e1⟩:=I.base.there b o e hx;exact there b o' (neC b o e hx) e1
 ·obtain⟨m1,e1⟩:=I.base.tbls b ps e;obtain⟨m2,e2⟩:=tbls b _ e1;exact⟨m1++m2,by rw[e2,Array.append_assoc]⟩
 ·obtain⟨m,hn,hl⟩:=I.loc;refine⟨m,ns m hn,λi x v e1 e2 e3=>?_⟩;obtain⟨u,r,l⟩:=hl i x v e1 e2 e3;refine⟨u,r,?_⟩;rcases l with l | ⟨k,c,e,z⟩
  ·exact .inl l
  ·exact .inr ⟨k,c,e,cellK x c e _ z⟩
 ·obtain⟨v,z⟩:=I.cell x c e;exact⟨v,cellK x c e v z⟩
 ·obtain⟨m,⟨o,_,_,ho,_⟩,_⟩:=I.loc;exact free _ o (λz=>(hch _ z).2.1 rfl) ho I.free
 ·obtain⟨v,o,ho,hd⟩:=I.cell x c e;exact free c o (λz=>(hch c z).2.2.1 x c e rfl) ho (I.freeC x c e)
 ·obtain⟨e,n,ne,nf,d⟩:=I.pin p hp;have nch:p.1∉ch:=λz=>(hch p.1 z).2.2.2 p hp rfl;exact⟨keep p.1 p.2 ne nf nch e n,free p.1 p.2 nch e n,ne,nf,d⟩
theorem Inv.un{t':Nat}(I:Inv X pins σ H s)(u:Un X.fs [] H H' s.heap h')(hok:HOk X.prog X.w H' h'):Inv X pins σ H' {s with heap:=h',toks:=t'}:=by
 obtain⟨m,⟨o,es,ep,ho,r⟩,_⟩:=id I.loc;obtain⟨sl,hL⟩:=u.any ho I.free (by simp);exact I.step (g':=s.gens) (d':=s.drawn) (ch:=[]) (λ_ z=>nomatch z) (λb o _ hb _ e n=>u.keep b o e n hb (by simp)) (λb o _ hb _ e n=>u.slot b o e n hb (by simp)) (λb o _ e n=>u.free b o e n (by simp)) (λb o _ e=>u.there b o e (by simp)) u.tups u.frzs u.tbls (λm' hm=>by
  obtain⟨o',es',ep',ho',r'⟩:=hm;rw[ho] at ho';cases ho';exact⟨_,es',ep',hL,r'⟩) hok I.bare
theorem Inv.call{g':Array GenState}{t':Nat}{d':Drawn}{ch:List Addr}(I:Inv X pins σ H s)(u:Un (frs X.stack) ch H H' s.heap h')(hok:HOk X.prog X.w H' h')(hg:AllBare g')
  (hch:∀b∈ch,(b∈X.ex\/X.s₀.heap.objs.size<=b)/\b≠X.env.locals/\(∀x c,X.env.cells.lookup x=some c->c≠b)/\∀p∈X.pn++pins,p.1≠b):
  Inv X pins σ H' {s with heap:=h',gens:=g',drawn:=d',toks:=t'}:=by
 obtain⟨m,⟨o,es,ep,ho,r⟩,_⟩:=id I.loc;obtain⟨sl,hL⟩:=u.any ho I.free λz=>(hch _ z).2.1 rfl;exact I.step (ch:=ch) hch (λb o hL hb hc e n=>u.keep b o e n (λz=>(O6.mp (I.stkSub b z)).elim hL hb) hc) (λb o _ _ hc e n=>u.any e n hc) (λb o hc e n=>u.free b o e n hc) (λb o hc e=>u.there b o e hc) u.tups u.frzs u.tbls (λm' hm=>by
  obtain⟨o',es',ep',ho',r'⟩:=hm;rw[ho] at ho';cases ho';exact⟨_,es',ep',hL,r'⟩) hok hg
theorem Inv.turned{t':Nat}{it:Addr}(I:Inv X pins σ H s)(k:∀b o,b≠it->s.heap.get? b=some o->h'.get? b=some o)(hn:H it=none)(hL:it≠X.env.locals)
  (h1:it∈X.ex\/X.s₀.heap.objs.size<=it) (h2:∀x c,X.env.cells.lookup x=some c->c≠it) (h3:∀p∈X.pn++pins,p.1≠it):Inv X pins σ H {s with heap:=h',toks:=t'}:=by
 have nit:∀b u,H b=some u->b≠it:=λb u e z=>by rw[z,hn] at e;cases e
 refine I.step (g':=s.gens) (d':=s.drawn) (ch:=[it]) (λb hb=>?_) (λb o _ _ hc e _=>k b o (λz=>hc (by simp[z])) e) (λb o _ _ hc e _=>⟨o.slots,k b o (λz=>hc (by simp[z])) e⟩) (λ_ _ _ _ n=>n)
  (λb o hc e=>⟨o,k b o (λz=>hc (by simp[z])) e⟩) (λ_ _ e=>e) (λ_ _ _ e=>e) (λb ps e=>⟨#[],by rw[e];simp⟩) (λm hm=>?_) (λb u e=>?_) I.bare
 ·have e:b=it:=by simpa using hb
  subst e;exact⟨h1,hL,h2,h3⟩
 ·obtain⟨o,es,ep,ho,r⟩:=hm;exact⟨o,es,ep,k _ o (Ne.symm hL) ho,r⟩
 ·refine(I.hok b u e).stay (λc v hc q=>k c v ?_ q) (λ_ q=>q) λ_ _ q=>q;rcases hc with z | z
  ·rw[z];exact nit b u e
  ·exact nit c _ z
theorem Inv.tok(I:Inv X pins σ H s)(t:Nat):Inv X pins σ H {s with toks:=t}:=I.un (h':=s.heap) (t':=t) Un.refl I.hok
theorem Inv.kept{t':Nat}(I:Inv X pins σ H s)(k:∀b u,s.heap.get? b=some u->h'.get? b=some u):Inv X pins σ H {s with heap:=h',toks:=t'}:=I.un (Un.kept k) (I.hok.kept k)
theorem Inv.laid{a:Addr}{o:HO}{t':Nat}(I:Inv X pins σ H s)(k:∀b u,s.heap.get? b=some u->h'.get? b=some u)(hp:s.heap.objs.size<=a)(new:A0 X.prog X.w (upd H a o) h' a o):
  Inv X pins σ (upd H a o) {s with heap:=h',toks:=t'}:=I.un (Un.laid k hp (I.hok.fresh hp)) (I.hok.laid k hp new)
theorem Inv.write{x e:Addr}{o:HO}{t':Nat}(I:Inv X pins σ H s)(mu:Mut (H x))(he:e=x\/H e=some (.own x))(k:∀b u,b≠e->s.heap.get? b=some u->h'.get? b=some u)(heo:∃u,h'.get? e=some u)
  (new:A0 X.prog X.w (upd H x o) h' x o):Inv X pins σ (upd H x o) {s with heap:=h',toks:=t'}:=I.un (Un.write mu he k heo) (I.hok.write mu he k heo new)
theorem Inv.pins_of{pins':List (Addr×Obj)}(I:Inv X pins σ H s)(h:∀p∈pins',s.heap.get? p.1=some p.2/\H p.1=none/\p.1≠X.env.locals/\p.1∉X.fs/\∀v,p.2.data ≠ .cell v):Inv X pins' σ H s:=
 ⟨I.ok,I.os,I.bare,I.base,I.loc,I.cell,I.free,I.freeC,λp hp=>(Oz.mp hp).elim (λz=>I.pin p (P4 _ z)) (h p),I.hok,I.len⟩
theorem Xaa{N:List Str}(hN:N.Nodup){i j:Nat}{x:Str}(a:N[i]? = some x)(b:N[j]? = some x):i=j:=by
 obtain⟨h1,e1⟩:=Pb.mp a;obtain⟨h2,e2⟩:=Pb.mp b;exact(R4 hN).mp (e1.trans e2.symm)
theorem Xab{M:Model}{A:Around}{E:Value->Shared->Prop}{i:Nat}{x:Str}{v:V}{u:Value}{Q:Unit->Shared->Prop}(I:Inv X pins σ H s)(hN:X.N.Nodup)(hi:X.N[i]? = some x)(hx:Loc X.env.scope x)(r:Ah v u)
  (h:∀s',Inv X pins (σ.set i (some v)) H s'->(∃a,Heap.SameBut a s.heap s'.heap/\(a=X.env.locals\/X.env.cells.lookup x=some a))->Q () s') (hf:X.fn x=true\/X.env.scope.names.lookup x=some .local:=by first | exact .inl rfl | exact .inr rfl | assumption):wpAny M A (storeName X.env x u) Q E s:=by
 obtain⟨m,hn,hl⟩:=id I.loc;have hcls:(X.env.scope.kind == .class||(X.env.scope.kind == .module&&X.env.locals != X.env.globals))=false:=by rw[I.ok.kind];rfl
 have hiσ:i < σ.length:=by rw[I.len];exact(Pb.mp hi).1
 have cne:=I.cne;have tracked:∀{a:Addr} {h':Heap},(∃o,s.heap.get? a=some o/\H a=none)->Heap.SameBut a s.heap h'->HOk X.prog X.w H h':=λ{a h'} ha hs b ob e=>by
  obtain⟨_,_,hfree⟩:=ha;refine(I.hok b ob e).stay (λc w' hc q=>(hs.2 c ?_).trans q) (λ_ q=>q) λ_ _ q=>q;rintro rfl;rcases hc with rfl | hc
  ·rw[hfree] at e;cases e
  ·rw[hfree] at hc;cases hc
 rcases hx with hk | hk
 ·refine wpAny_storeName_local hk hn (λh' hn' hs=>?_) hcls;obtain⟨oL,_,_,hoL,_⟩:=id hn;refine h _ ⟨I.ok,I.os,I.bare,⟨λb o e n hb hx=>?_,λb o e n hb hx=>?_,I.base.free,λb o e hx=>?_,I.base.tups,I.base.frzs,I.base.tbls⟩,⟨_,hn',λj y v' e1 e2 e3=>?_⟩,λy c e=>?_,I.free,I.freeC,λp hp=>?_,tracked ⟨oL,hoL,I.free⟩ hs,by simpa using I.len⟩ ⟨_,hs,.inl rfl⟩
  ·exact(hs.2 b (O1 (Pd (Tq e) I.ok.above))).trans (I.base.keep b o e n hb hx)
  ·obtain⟨sl,e1⟩:=I.base.slot b o e n hb hx;exact⟨sl,(hs.2 b (O1 (Pd (Tq e) I.ok.above))).trans e1⟩
  ·obtain⟨o',e1⟩:=I.base.there b o e hx;exact⟨o',(hs.2 b (O1 (Pd (Tq e) I.ok.above))).trans e1⟩
  ·by_cases hj:j=i
   ·subst hj;rw[hi] at e1;cases e1;rw[List.getElem?_set_self hiσ] at e2;cases e2;exact⟨u,r,.inl ⟨hk,by simp⟩⟩
   ·rw[List.getElem?_set_ne (Ne.symm hj)] at e2;obtain⟨u',r',q⟩:=hl j y v' e1 e2 e3;refine⟨u',r',?_⟩;rcases q with ⟨k,e⟩ | ⟨k,c,e,z⟩
    ·refine .inl ⟨k,?_⟩;have:y≠x:=λe=>hj (Xaa hN e1 (e ▸ hi));simp[this,e]
    ·exact .inr ⟨k,c,e,z.sameBut hs (cne y c e)⟩
  ·obtain⟨w',z⟩:=I.cell y c e;exact⟨w',z.sameBut hs (cne y c e)⟩
  ·obtain⟨e,n,ne,nf,d⟩:=I.pin p hp;exact⟨(hs.2 p.1 ne).trans e,n,ne,nf,d⟩
 ·have hfn:X.fn x=true:=by
   rcases hf with z | z
   ·exact z
   ·rw[z] at hk;cases hk
  obtain⟨c,hc⟩:=I.ok.has x (.inl hk);obtain⟨w',z⟩:=I.cell x c hc;refine wpAny_storeName_cell I.ok.kind hk hc z (λh' hc' hs=>?_);obtain⟨oc,hoc,hocd⟩:=id z;refine h {s with heap:=h'} ⟨I.ok,I.os,I.bare,⟨λb o e n hb hx=>?_,λb o e n hb hx=>?_,I.base.free,λb o e hx=>?_,I.base.tups,I.base.frzs,I.base.tbls⟩,⟨m,hn.sameBut hs (Ne.symm (cne x c hc)),λj y v' e1 e2 e3=>?_⟩,λy c' e=>?_,I.free,I.freeC,λp hp=>?_,tracked ⟨oc,hoc,I.freeC x c hc⟩ hs,by simpa using I.len⟩ ⟨c,hs,.inr hc⟩
  ·exact(hs.2 b (O1 (Pd (Tq e) (I.ok.cab x c hfn hc)))).trans (I.base.keep b o e n hb hx)
  ·obtain⟨sl,e1⟩:=I.base.slot b o e n hb hx;exact⟨sl,(hs.2 b (O1 (Pd (Tq e) (I.ok.cab x c hfn hc)))).trans e1⟩
  ·obtain⟨o',e1⟩:=I.base.there b o e hx;exact⟨o',(hs.2 b (O1 (Pd (Tq e) (I.ok.cab x c hfn hc)))).trans e1⟩
  ·by_cases hj:j=i
   ·subst hj;rw[hi] at e1;cases e1;rw[List.getElem?_set_self hiσ] at e2;cases e2;exact⟨u,r,.inr ⟨.inl hk,c,hc,hc'⟩⟩
   ·rw[List.getElem?_set_ne (Ne.symm hj)] at e2;obtain⟨u',r',q⟩:=hl j y v' e1 e2 e3;refine⟨u',r',?_⟩;rcases q with q | ⟨k,c',e,z'⟩
    ·exact .inl q
    ·refine .inr ⟨k,c',e,z'.sameBut hs ?_⟩;rintro rfl;exact hj (Xaa hN e1 (I.ok.inj _ _ _ e hc ▸ hi))
  ·by_cases hcc:c'=c
   ·subst hcc;exact⟨_,hc'⟩
   ·obtain⟨w2,z2⟩:=I.cell y c' e;exact⟨w2,z2.sameBut hs hcc⟩
  ·obtain⟨e,n,ne,nf,d⟩:=I.pin p hp;refine⟨(hs.2 p.1 ?_).trans e,n,ne,nf,d⟩;intro q;rw[q,hoc] at e;have q':oc=p.2:=Pa e;exact d w' (by rw[<-q'];exact hocd)
theorem Xac{M:Model}{A:Around}{E:Value->Shared->Prop}{i:Nat}{x:Str}{v:V}{u:Value}{Q:Unit->Shared->Prop}(I:Inv X pins σ H s)(hN:X.N.Nodup)(hi:X.N[i]? = some x)(hx:Loc X.env.scope x)(r:Ah v u)
  (h:∀s',Inv X pins (σ.set i (some v)) H s'->Q () s') (hf:X.fn x=true\/X.env.scope.names.lookup x=some .local:=by first | exact .inl rfl | exact .inr rfl | assumption):wpAny M A (storeName X.env x u) Q E s:=
 Xab I hN hi hx r (λs' I' _=>h s' I') hf
theorem Inv.call'{s':Shared}{ch:List Addr}(I:Inv X pins σ H s)(ho:s'.os=s.os)(u:Un (frs X.stack) ch H H' s.heap s'.heap)(hok:HOk X.prog X.w H' s'.heap)(hg:AllBare s'.gens)
  (hch:∀b∈ch,(b∈X.ex\/X.s₀.heap.objs.size<=b)/\b≠X.env.locals/\(∀x c,X.env.cells.lookup x=some c->c≠b)/\∀p∈X.pn++pins,p.1≠b):Inv X pins σ H' s':=by
 obtain⟨h',g',d',t',o'⟩:=s';have e:o'=s.os:=ho;subst e;exact I.call (g':=g') (t':=t') (d':=d') u hok hg hch
end
abbrev XK:=Value->Option Addr->Hp->Prop
abbrev St:=List (Option V)
abbrev VK:=V->Hp->Prop
abbrev TE:=St->Hp->VK->Prop
abbrev TT:=St->Hp->(Bool->Hp->Prop)->Prop
abbrev TA:=St->Hp->(List V->Hp->Prop)->Prop
structure Ends where
 nx:St->Hp->Prop
 rt:VK
 bk:St->Hp->Prop:=λ_ _=>False
 ct:St->Hp->Prop:=λ_ _=>False
abbrev TS:=Ends->St->Hp->Prop
def EP (X:Cx) (pins:List (Addr×Obj)) (σ:St) (Q:VK) (u:Value) (s':Shared):Prop:=∃v H',Inv X pins σ H' s'/\Ah v u/\Q v H'
def TP (X:Cx) (pins:List (Addr×Obj)) (σ:St) (Q:Bool->Hp->Prop) (b:Bool) (s':Shared):Prop:=∃H',Inv X pins σ H' s'/\Q b H'
def AP (X:Cx) (pins:List (Addr×Obj)) (σ:St) (Q:List V->Hp->Prop) (us:List Value) (s':Shared):Prop:=∃vs H',Inv X pins σ H' s'/\Vals vs us/\Q vs H'
def SP (X:Cx) (pins:List (Addr×Obj)) (D:Ends) (f:Flow) (s':Shared):Prop:=
 match f with
 | .next=>∃σ' H',Inv X pins σ' H' s'/\D.nx σ' H'
 | .brk=>∃σ' H',Inv X pins σ' H' s'/\D.bk σ' H'
 | .cont=>∃σ' H',Inv X pins σ' H' s'/\D.ct σ' H'
 | .ret u=>∃v σ' H',Inv X pins σ' H' s'/\Ah v u/\D.rt v H'
def PE (X:Cx) (e:Expr) (t:TE):Prop:=
 ∀(pins:List (Addr×Obj)) (s:Shared) (σ:St) (H:Hp) (Q:VK),Inv X pins σ H s->t σ H Q->wpAny (model X.prog X.w) X.A (eval e X.env) (EP X pins σ Q) X.xe s
def PT (X:Cx) (e:Expr) (t:TT):Prop:=
 ∀(pins:List (Addr×Obj)) (s:Shared) (σ:St) (H:Hp) (Q:Bool->Hp->Prop),Inv X pins σ H s->t σ H Q->wpAny (model X.prog X.w) X.A (isTrue e X.env (eval e X.env)) (TP X pins σ Q) X.xe s
def PW (X:Cx) (e:Expr) (t:TT):Prop:=
 ∀(whole:Sem Value) (pins:List (Addr×Obj)) (s:Shared) (σ:St) (H:Hp) (Q:Bool->Hp->Prop),Inv X pins σ H s->t σ H Q->wpAny (model X.prog X.w) X.A (isTrue e X.env whole) (TP X pins σ Q) X.xe s
theorem PW.pt{X:Cx}{e:Expr}{t:TT}(h:PW X e t):PT X e t:=h _
def PA (X:Cx) (es:List Expr) (t:TA):Prop:=
 ∀(pos:Pos) (pins:List (Addr×Obj)) (s:Shared) (σ:St) (H:Hp) (Q:List V->Hp->Prop),Inv X pins σ H s->t σ H Q->wpAny (model X.prog X.w) X.A (spliced (backTo pos (starEach es X.env))) (AP X pins σ Q) X.xe s
def PS (X:Cx) (st:Stmt) (t:TS):Prop:=
 ∀(pins:List (Addr×Obj)) (s:Shared) (σ:St) (H:Hp) (D:Ends),Inv X pins σ H s->t D σ H->wpAny (model X.prog X.w) X.A (exec st X.env) (SP X pins D) X.xe s
def PSs (X:Cx) (st:List Stmt) (t:TS):Prop:=
 ∀(pins:List (Addr×Obj)) (s:Shared) (σ:St) (H:Hp) (D:Ends),Inv X pins σ H s->t D σ H->wpAny (model X.prog X.w) X.A (execs st X.env) (SP X pins D) X.xe s
theorem thn{α : Type}{t:Sem α}{Q Q' : α->Shared->Prop}{M:Model}{A:Around}{E:Value->Shared->Prop}{s:Shared}(h:wpAny M A t Q E s)(hQ:∀a s,Q a s->Q' a s):wpAny M A t Q' E s:=wpAny_mono h hQ λ_ _ x=>x
section
variable {X:Cx}
def Eh (i:Nat):TE:=fun σ H Q=>∃v, σ[i]? = some (some v)/\Q v H
def tC (v:V):TE:=λ_ H Q=>Q v H
theorem Xgj{i:Nat}{x:Str}{pos:Pos}(hN:X.N[i]? = some x)(hv:Vis X.env.scope x)(hd:(x==("__debug__" : Str))=false:=by decide)(hcd:(x==("__classdict__" : Str))=false:=by decide):PE X (.Name x pos) (Eh i):=by
 intro pins s σ H Q I h;obtain⟨v,e,h⟩:=h;obtain⟨m,hn,hl⟩:=I.loc;obtain⟨u,r,l⟩:=hl i x v hN e hv;have fin:EP X pins σ Q u s:=⟨v,H,I,r,h⟩;rcases l with ⟨hk,hm⟩ | ⟨hk,c,hc,hcell⟩
 ·exact wpAny_Name (wpAny_loadName_local I.ok.kind hk hn hm fin) hd
 ·rcases hk with hk | hk
  ·exact wpAny_Name (wpAny_loadName_cell I.ok.kind hk hc hcell fin) hd
  ·exact wpAny_Name (wpAny_loadName_free I.ok.kind hk hc hcell fin hcd) hd
theorem Af{i j pos}:PE X (.Constant (.int i) j pos) (tC (.int i)):=λ_ _ _ H _ I h=>wpAny_Constant_int ⟨.int i,H,I.tok _,⟨_,rfl⟩,h⟩
theorem D4{b j pos}:PE X (.Constant (.bool b) j pos) (tC (.bl b)):=λ_ _ _ H _ I h=>Constant_bool ⟨.bl b,H,I,rfl,h⟩
theorem Bn{x j pos}:PE X (.Constant (.str x) j pos) (tC (.str x)):=λ_ _ _ H _ I h=>Calls.Constant_str ⟨.str x,H,I.tok _,⟨_,rfl⟩,h⟩
def Gl (X:Cx) (x:Str):Prop:=X.env.kindOf x=some .globalImplicit
theorem Im{E:Value->Shared->Prop}{pins:List (Addr×Obj)}{s:Shared}{σ:St}{H:Hp}{x:Str}{u:Value}{pos:Pos}{Q:Value->Shared->Prop}(I:Inv X pins σ H s)(hg:Gl X x)(hm:X.mg x=some u)(h:Q u s)
  (hd:(x==("__debug__" : Str))=false:=by decide):wpAny (model X.prog X.w) X.A (eval (.Name x pos) X.env) Q E s:=
 Calls.Name_function_global I.ok.kind hg (Calls.loadGlobal_global (by rw[I.ok.glob];exact I.mod.glob.keeps I.bk) hm h) hd
theorem Fr{E:Value->Shared->Prop}{pins:List (Addr×Obj)}{s:Shared}{σ:St}{H:Hp}{x:Str}{u:Value}{pos:Pos}{Q:Value->Shared->Prop}(I:Inv X pins σ H s)(hg:Gl X x)(hm:X.mg x=none)(hv:bootBuiltins x=some u)(h:Q u s)
  (hn:x ≠ "__name__" := by decide) (hd:(x==("__debug__" : Str))=false:=by decide):wpAny (model X.prog X.w) X.A (eval (.Name x pos) X.env) Q E s:=by
 obtain⟨mb,h1,h2⟩:=I.mod.blt;exact Calls.Name_function_global I.ok.kind hg (Calls.loadGlobal_builtin (by rw[I.ok.glob];exact I.mod.glob.keeps I.bk) hm (by rw[I.ok.blt];exact h1.keeps I.bk) ((h2 x hn).trans hv) h) hd
theorem K2{x:Str}{v:V}{u:Value}{pos:Pos}(hg:Gl X x)(hm:X.mg x=none)(hv:bootBuiltins x=some u)(r:Ah v u)(hn:x ≠ "__name__" := by decide)(hd:(x==("__debug__" : Str))=false:=by decide):PE X (.Name x pos) (tC v):=
 λ_ _ _ H _ I h=>Fr I hg hm hv ⟨v,H,I,r,h⟩ hn hd
def t2I (ta tb:TE) (k:Int->Int->Hp->Prop):St->Hp->Prop:=fun σ H=>ta σ H λx H1=>tb σ H1 λy H2=>∃i j,x = .int i/\y = .int j/\k i j H2
def tMul (ta tb:TE):TE:=fun σ H Q=>t2I ta tb (λi j H2=>(-(2 ^ 64)<i/\i<2 ^ 64)/\Q (.int (i * j)) H2) σ H
variable {a b:Expr}{ta tb:TE}{pos:Pos}
def tIsN (ta:TE):TE:=fun σ H Q=>ta σ H λx H1=>Q (.bl (decide (x = .non))) H1
def tB (t:TE):TT:=fun σ H Q=>t σ H λx H1=>∃c,x = .bl c/\Q c H1
theorem Io{e:Expr}{t:TE}(h:PE X e t)(he:∀whole,isTrue e X.env whole=(do let v <-whole;standAt e.pos;holding [v] (truthy v)):=by intro _;rfl):PT X e (tB t):=by
 intro pins s σ H Q I hw;refine isTrue_plain (thn (h pins s σ H _ I hw) λv s1 ⟨x,H1,I1,r1,q1⟩=>?_) (he _);obtain⟨d,rfl,q⟩:=q1;cases r1;exact wpAny_truthy_bool ⟨H1,I1,q⟩
variable {tA tB':TT}{rest:List Expr}
def tAnd (t u:TT):TT:=fun σ H Q=>t σ H λc H1=>if c=true then u σ H1 Q else Q false H1
def tOr (t u:TT):TT:=fun σ H Q=>t σ H λc H1=>if c=true then Q true H1 else u σ H1 Q
def tNot (t:TT):TT:=fun σ H Q=>t σ H λc H1=>Q (!c) H1
theorem E6(ha:PT X a tA):PW X (.BoolOp .And [a] pos) tA:=by
 intro wh pins s σ H Q I h;refine isTrue_and (thn (ha pins s σ H Q I h) λc s1 e=>?_);cases c with
 | true=>exact isTrue_and_nil e
 | false=>exact e
theorem Gp(ha:PT X a tA):PW X (.BoolOp .Or [a] pos) tA:=by
 intro wh pins s σ H Q I h;refine isTrue_or (thn (ha pins s σ H Q I h) λc s1 e=>?_);cases c with
 | false=>exact isTrue_or_nil e
 | true=>exact e
theorem E7(ha:PT X a tA)(hb:PW X (.BoolOp .And (b::rest) pos) tB'):PW X (.BoolOp .And (a::b::rest) pos) (tAnd tA tB'):=by
 intro wh pins s σ H Q I h;refine isTrue_and (thn (ha pins s σ H _ I h) λc s1 ⟨H1,I1,q1⟩=>?_);cases c with
 | true=>exact hb wh pins s1 σ H1 Q I1 q1
 | false=>exact⟨H1,I1,q1⟩
theorem Fs(ha:PT X a tA)(hb:PW X (.BoolOp .Or (b::rest) pos) tB'):PW X (.BoolOp .Or (a::b::rest) pos) (tOr tA tB'):=by
 intro wh pins s σ H Q I h;refine isTrue_or (thn (ha pins s σ H _ I h) λc s1 ⟨H1,I1,q1⟩=>?_);cases c with
 | true=>exact⟨H1,I1,q1⟩
 | false=>exact hb wh pins s1 σ H1 Q I1 q1
theorem Xgk(ha:PT X a tA):PT X (.UnaryOp .Not a pos) (tNot tA):=by
 intro pins s σ H Q I h;exact isTrue_not (ha pins s σ H (λc H1=>Q (!c) H1) I h)
def Xgl (ta tb:TE):TE:=fun σ H Q=>ta σ H λx H1=>∃c,x = .bl c/\if c=true then tb σ H1 Q else Q (.bl false) H1
theorem Xad{op}{t:TE}(h:PE X a t):PE X (.BoolOp op [a] pos) t:=λpins s σ H Q I hw=>BoolOp_one (h pins s σ H Q I hw)
theorem Xae(ha:PE X a ta)(hb:PE X (.BoolOp .And (b::rest) pos) tb):PE X (.BoolOp .And (a::b::rest) pos) (Xgl ta tb):=by
 intro pins s σ H Q I h;refine BoolOp_and (thn (ha pins s σ H _ I h) λv s1 ⟨x,H1,I1,r1,q1⟩=>?_);obtain⟨c,rfl,q1⟩:=q1;cases r1;refine wpAny_truthy_bool ?_;cases c with
 | true=>exact hb pins s1 σ H1 Q I1 q1
 | false=>exact⟨.bl false,H1,I1,rfl,q1⟩
def tIf (t:TT) (ta tb:TE):TE:=fun σ H Q=>t σ H λc H1=>if c=true then ta σ H1 Q else tb σ H1 Q
theorem Gq{c:Expr}(hc:PT X c tA)(ha:PE X a ta)(hb:PE X b tb):PE X (.IfExp c a b pos) (tIf tA ta tb):=by
 intro pins s σ H Q I h;refine wpAny_IfExp (thn (hc pins s σ H _ I h) λd s1 ⟨H1,I1,q1⟩=>?_);cases d with
 | true=>exact ha pins s1 σ H1 Q I1 q1
 | false=>exact hb pins s1 σ H1 Q I1 q1
end
def SqL (K:PySem.W.Frag) (H:Hp) (a:Addr) (xs:List V):Prop:=
 Rd H a (.lst xs) \/
  ∃(o:Obj) (its:Array Value) (n:Nat),K.lookup a=some o/\o.cls = .type "list" /\ o.dict=none/\o.data = .seq its n/\its.size<=sizeLine/\Vals xs its.toList
def SqT (K:PySem.W.Frag) (H:Hp) (a:Addr) (xs:List V):Prop:=
 Rd H a (.tup xs) \/
  ∃(o:Obj) (its:Array Value) (n:Nat),K.lookup a=some o/\o.cls = .type "tuple" /\ o.data = .seq its n/\its.size<=sizeLine/\Vals xs its.toList
def absV:Value->Option V
 | .none=>some .non
 | .bool b=>some (.bl b)
 | .int i _=>some (.int i)
 | .str x _=>some (.str x)
 | .bytes b _=>some (.byt b)
 | .float b _=>some (.flt b)
 | .ref a=>some (.ref a)
 | .type n=>some (.ty n)
 | _=>none
theorem Ah.abs{x:V}{u:Value}(r:Ah x u):absV u=some x:=by
 cases x with
 | non=>cases r;rfl
 | bl _=>cases r;rfl
 | int _=>obtain⟨t,rfl⟩:=r;rfl
 | str _=>obtain⟨t,rfl⟩:=r;rfl
 | byt _=>obtain⟨t,rfl⟩:=r;rfl
 | flt _=>obtain⟨t,rfl⟩:=r;rfl
 | ref _=>cases r;rfl
 | ty _=>cases r;rfl
theorem Ah.inj{x y:V}{u:Value}(r:Ah x u)(q:Ah y u):x=y:=Pa (r.abs.symm.trans q.abs)
theorem Vals.inj:∀{xs ys:List V} {us:List Value},Vals xs us->Vals ys us->xs=ys
 | _,_,_,.nil,.nil=>rfl
 | _,_,_,.cons r t,.cons r' t'=>by rw[r.inj r',Vals.inj t t']
section
variable {X:Cx}{pins:List (Addr×Obj)}{σ:St}{H:Hp}{s:Shared}{a:Addr}{xs ys:List V}
theorem SqL.of{K:PySem.W.Frag}(h:H a=some (.lst xs)):SqL K H a xs:=.inl (.inl h)
theorem SqT.of{K:PySem.W.Frag}(h:H a=some (.tup xs)):SqT K H a xs:=.inl (.inl h)
theorem Inv.list(I:Inv X pins σ H s)(h:SqL X.K H a xs):∃its:List Value,Vals xs its/\PlainL s.heap a its.toArray/\xs.length<=sizeLine:=by
 rcases h with h | ⟨o,its,n,hk,hc,hd,hs,hz,r⟩
 ·obtain⟨z,its,n,r,e⟩:=h.ok I.hok;exact⟨its,r,⟨_,n,e,rfl,rfl,rfl⟩,z⟩
 ·refine⟨its.toList,r,⟨o,n,I.kIn a o hk,hc,hd,by simpa using hs⟩,?_⟩;have e:=r.length;simp only[Ov] at e;omega
theorem Inv.tuple(I:Inv X pins σ H s)(h:SqT X.K H a xs):∃its:List Value,Vals xs its/\IsTup s.heap a its.toArray/\xs.length<=sizeLine:=by
 rcases h with h | ⟨o,its,n,hk,hc,hs,hz,r⟩
 ·obtain⟨z,its,r,p⟩:=h.ok I.hok;exact⟨its,r,p,z⟩
 ·refine⟨its.toList,r,⟨o,I.kIn a o hk,hc,n,by simpa using hs⟩,?_⟩;have e:=r.length;simp only[Ov] at e;omega
theorem Inv.list_inj(I:Inv X pins σ H s)(h:SqL X.K H a xs)(h':SqL X.K H a ys):xs=ys:=by
 obtain⟨its,r,⟨o,n,e,_,_,d⟩,_⟩:=I.list h;obtain⟨its',r',⟨o',n',e',_,_,d'⟩,_⟩:=I.list h';rw[e] at e';cases e';rw[d] at d';injection d' with d1 _
 have:its=its':=by simpa using congrArg Array.toList d1
 subst this;exact r.inj r'
theorem Inv.tuple_inj(I:Inv X pins σ H s)(h:SqT X.K H a xs)(h':SqT X.K H a ys):xs=ys:=by
 obtain⟨its,r,⟨o,e,_,n,d⟩,_⟩:=I.tuple h;obtain⟨its',r',⟨o',e',_,n',d'⟩,_⟩:=I.tuple h';rw[e] at e';cases e';rw[d] at d';injection d' with d1 _
 have:its=its':=by simpa using congrArg Array.toList d1
 subst this;exact r.inj r'
end
abbrev Cx.wish (X:Cx) (E:Value->Shared->Prop):Cx:={X with xe:=E}
abbrev Cx.nox (X:Cx):Cx:=X.wish λ_ _=>False
theorem Cx.Ok.wish{X:Cx}(ok:X.Ok)(E:Value->Shared->Prop):(X.wish E).Ok:=
 ⟨ok.mod,ok.kind,ok.glob,ok.blt,ok.above,ok.inj,ok.has,ok.cab,ok.hd,ok.frames,ok.stk,ok.exf,ok.bs,ok.bsz,ok.noex,ok.exfs,ok.funs,ok.frf⟩
theorem Cx.Ok.unwish{X:Cx}{E:Value->Shared->Prop}(ok:(X.wish E).Ok):X.Ok:=
 ⟨ok.mod,ok.kind,ok.glob,ok.blt,ok.above,ok.inj,ok.has,ok.cab,ok.hd,ok.frames,ok.stk,ok.exf,ok.bs,ok.bsz,ok.noex,ok.exfs,ok.funs,ok.frf⟩
section
variable {X:Cx}{pins:List (Addr×Obj)}{σ:St}{H:Hp}{s:Shared}{E:Value->Shared->Prop}
theorem Inv.wish(I:Inv X pins σ H s)(E:Value->Shared->Prop):Inv (X.wish E) pins σ H s:=⟨I.ok.wish E,I.os,I.bare,I.base,I.loc,I.cell,I.free,I.freeC,I.pin,I.hok,I.len⟩
theorem Inv.unwish(I:Inv (X.wish E) pins σ H s):Inv X pins σ H s:=⟨I.ok.unwish,I.os,I.bare,I.base,I.loc,I.cell,I.free,I.freeC,I.pin,I.hok,I.len⟩
theorem SP.unwish{D:Ends}{f:Flow}{s':Shared}(h:SP (X.wish E) pins D f s'):SP X pins D f s':=by
 cases f with
 | next=>obtain⟨σ',H',I,q⟩:=h;exact⟨σ',H',I.unwish,q⟩
 | brk=>obtain⟨σ',H',I,q⟩:=h;exact⟨σ',H',I.unwish,q⟩
 | cont=>obtain⟨σ',H',I,q⟩:=h;exact⟨σ',H',I.unwish,q⟩
 | ret u=>obtain⟨v, σ',H',I,r,q⟩:=h;exact⟨v, σ',H',I.unwish,r,q⟩
theorem PSs.nox{st:List Stmt}{t:TS}(h:PSs X.nox st t):PSs X st t:=λpins s σ H D I hw=>
 wpAny_mono (h pins s σ H D (I.wish _) hw) (λ_ _ q=>q.unwish) λ_ _ z=>False.elim z
end
section
variable {X:Cx}{st:Stmt}{rest:List Stmt}{t u:TS}{e:Expr}{te:TE}{pos:Pos}
def K3:TS:=λD σ H=>D.nx σ H
def K4 (t u:TS):TS:=λD σ H=>t {D with nx:=u D} σ H
theorem B3:PSs X [] K3:=λ_ _ σ H _ I h=>wpAny_execs_nil ⟨σ,H,I,h⟩
theorem Ag(h1:PS X st t)(h2:PSs X rest u):PSs X (st::rest) (K4 t u):=by
 intro pins s σ H D I h;refine wpAny_execs_cons (thn (h1 pins s σ H {D with nx:=u D} I h) λf s1 q=>?_);cases f with
 | next=>
  obtain⟨σ',H',I',q⟩:=q;exact h2 pins s1 σ' H' D I' q
 | ret v=>exact q
 | brk=>exact q
 | cont=>exact q
theorem Ai(h1:PS X st t):PSs X [st] t:=by
 intro pins s σ H D I h;refine wpAny_execs_cons (thn (h1 pins s σ H D I h) λf s1 q=>?_);cases f with
 | next=>exact wpAny_execs_nil q
 | ret v=>exact q
 | brk=>exact q
 | cont=>exact q
theorem Inv.quiet{pins:List (Addr×Obj)}{σ:St}{H:Hp}{s:Shared}(I:Inv X pins σ H s):interactive X.env=false:=by simp[interactive,I.ok.kind]
def Xaf (te:TE):TS:=λD σ H=>te σ H λ_ H1=>D.nx σ H1
theorem Ei(he:PE X e te)(hs:swapsWith e none pos.line X.env=pure false:=by rfl):PS X (.Expr e pos) (Xaf te):=by
 intro pins s σ H D I h;exact wpAny_Expr_any (thn (he pins s σ H _ I h) λv s1 ⟨x,H1,I1,r1,q1⟩=>⟨σ,H1,I1,q1⟩) I.quiet hs
def Xag (te:TE):TS:=λD σ H=>te σ H D.rt
theorem Ar(he:PE X e te):PS X (.Return (some e) pos) (Xag te):=by
 intro pins s σ H D I h;exact wpAny_Return_some (thn (he pins s σ H _ I h) λv s1 ⟨x,H1,I1,r1,q1⟩=>⟨x, σ,H1,I1,r1,q1⟩)
def tIfS (c:TT) (t u:TS):TS:=λD σ H=>c σ H λb H1=>if b=true then t D σ H1 else u D σ H1
theorem Bz{c:Expr}{a b:List Stmt}{tc:TT}(hc:PT X c tc)(ha:PSs X a t)(hb:PSs X b u):PS X (.If c a b pos) (tIfS tc t u):=by
 intro pins s σ H D I h;refine wpAny_If (thn (hc pins s σ H _ I h) λd s1 ⟨H1,I1,q1⟩=>?_);cases d with
 | true=>exact ha pins s1 σ H1 D I1 q1
 | false=>exact hb pins s1 σ H1 D I1 q1
def Xqk:TS:=λ_ _ _=>False
end
abbrev TG:=V->St->Hp->(St->Hp->Prop)->Prop
abbrev TGs:=List V->St->Hp->(St->Hp->Prop)->Prop
def PG (X:Cx) (target:Expr) (t:TG):Prop:=
 ∀(pins:List (Addr×Obj)) (s:Shared) (σ:St) (H:Hp) (v:V) (u:Value) (Q:St->Hp->Prop),Inv X pins σ H s->Ah v u->t v σ H Q ->
  wpAny (model X.prog X.w) X.A (assign target X.env u) (λ_ s'=>∃σ' H',Inv X pins σ' H' s'/\Q σ' H') X.xe s
def PGs (X:Cx) (ts:List Expr) (t:TGs):Prop:=
 ∀(pins:List (Addr×Obj)) (s:Shared) (σ:St) (H:Hp) (vs:List V) (us:List Value) (Q:St->Hp->Prop),Inv X pins σ H s->Vals vs us->t vs σ H Q ->
  wpAny (model X.prog X.w) X.A (assignInOrder ((assignEach ts X.env).map (·.2)) us) (λ_ s'=>∃σ' H',Inv X pins σ' H' s'/\Q σ' H') X.xe s
abbrev TSet:=V->V->V->Hp->(Hp->Prop)->Prop
def PSet (X:Cx) (t:TSet):Prop:=
 ∀(pins:List (Addr×Obj)) (s:Shared) (σ:St) (H:Hp) (o i v:V) (ov iv u:Value) (Q:Hp->Prop),Inv X pins σ H s->Ah o ov->Ah i iv->Ah v u->t o i v H Q ->
  wpAny (model X.prog X.w) X.A (setItem ov iv u) (λ_ s'=>∃H',Inv X pins σ H' s'/\Q H') X.xe s
abbrev TIp:=V->V->Hp->VK->Prop
section
variable {X:Cx}{pos:Pos}
def Bp (i:Nat):TG:=λv σ H Q=>Q (σ.set i (some v)) H
theorem Au{i:Nat}{x:Str}(hN:X.N.Nodup)(hi:X.N[i]? = some x)(hx:Loc X.env.scope x)(hf:X.fn x=true\/X.env.scope.names.lookup x=some .local:=by first | exact .inl rfl | exact .inr rfl | assumption):PG X (.Name x pos) (Bp i):=by
 intro pins s σ H v u Q I r h;exact wpAny_assign_Name (Xac I hN hi hx r (λs' I'=>⟨_,H,I',h⟩) hf)
def Xah:TGs:=λvs σ H Q=>vs=[]/\Q σ H
def K5 (t:TG) (u:TGs):TGs:=λvs σ H Q=>∃v r,vs=v::r/\t v σ H fun σ' H'=>u r σ' H' Q
theorem Ft:PGs X [] Xah:=by
 intro pins s σ H vs us Q I r h;obtain⟨e,h⟩:=h;subst e;cases r;exact assignInOrder_nil ⟨σ,H,I,h⟩
theorem Ch{e:Expr}{es:List Expr}{t:TG}{u:TGs}(h1:PG X e t)(h2:PGs X es u)
  (hs:(assignEach (e::es) X.env).map (·.2)=assign e X.env::(assignEach es X.env).map (·.2):=by rfl):PGs X (e::es) (K5 t u):=by
 intro pins s σ H vs us Q I r h;obtain⟨v,vr,e1,h⟩:=h;subst e1;cases r with
 | cons r rr=>
  rw[hs];refine assignInOrder_cons (thn (h1 pins s σ H _ _ _ I r h) λ_ s1 ⟨σ1,H1,I1,q1⟩=>?_);exact h2 pins s1 σ1 H1 _ _ Q I1 rr q1
def K6 (K:PySem.W.Frag) (n:Nat) (t:TGs):TG:=λv σ H Q=>∃a xs,v = .ref a/\SqT K H a xs/\xs.length=n/\t xs σ H Q
theorem Xai{es:List Expr}{k:Nat}{t:TGs}{n:Nat}(hc:X.calm=true)(h:PGs X es t)
  (hn:(assignEach es X.env).length=n:=by rfl) (hst:(assignEach es X.env).findIdx? (·.1)=none:=by rfl):PG X (.Tuple es k pos) (K6 X.K n t):=by
 intro pins s σ H v u Q I r hw;obtain⟨a,xs,e1,hq,hl,hw⟩:=hw;subst e1;cases r;obtain⟨its,rv,ht,hz⟩:=I.tuple hq;refine assign_Tuple_tuple (I.ok.hd hc) ht (by simp[hn,<-hl,rv.length]) hst λh' hx=>?_;have I1:Inv X pins σ H {s with heap:=h'}:=I.kept (t':=s.toks) λb o e=>hx b o (O1 (Tq e)) e;exact h pins _ σ H xs _ Q I1 (by simpa using rv) hw
def gSub (to ti:TE) (t:TSet):TG:=λv σ H Q=>to σ H λo H1=>ti σ H1 λi H2=>t o i v H2 λH3=>Q σ H3
theorem E8{o i:Expr}{to ti:TE}{t:TSet}(ho:PE X o to)(hi:PE X i ti)(hs:PSet X t)
  (ha:∀v,assign (.Subscript o i pos) X.env v=(do
   let ov <-holding [v] (eval o X.env)
   let iv <-holding [v,ov] (eval i X.env)
   standAt pos
   holding [v,ov,iv] (setItem ov iv v)
   release [v,ov,iv] []):=by intro _;rfl):PG X (.Subscript o i pos) (gSub to ti t):=by
 intro pins s σ H v u Q I r h;rw[ha];refine Te (wpAny_holding (thn (ho pins s σ H _ I h) λov s1 ⟨x,H1,I1,r1,q1⟩=>?_));refine Te (wpAny_holding (thn (hi pins s1 σ H1 _ I1 q1) λiv s2 ⟨y,H2,I2,r2,q2⟩=>?_));refine Te (wpAny_standAt (Te (wpAny_holding (thn (hs pins s2 σ H2 x y v ov iv u _ I2 r1 r2 r q2) λ_ s3 ⟨H3,I3,q3⟩=>?_))));exact wpAny_release ⟨σ,H3,I3,q3⟩
def K7 (te:TE) (g:TG):TS:=λD σ H=>te σ H λx H1=>g x σ H1 D.nx
theorem Ej{tg e:Expr}{te:TE}{g:TG}(he:PE X e te)(hg:PG X tg g)(hs:swapsWithSole [tg] e pos.line X.env=pure false:=by rfl)(hw:swappedStores [tg] e X.env=pure none:=by rfl)
  (h1:(assignEach [tg] X.env).map (·.2)=[assign tg X.env]:=by rfl):PS X (.Assign [tg] e pos) (K7 te g):=by
 intro pins s σ H D I h;refine wpAny_Assign_stores (thn (he pins s σ H _ I h) λv s1 ⟨x,H1,I1,r1,q1⟩=>?_) hs hw;rw[h1];exact thn (hg pins s1 σ H1 x v _ I1 r1 q1) λ_ s2 q=>q
theorem An{i:Nat}{x:Str}{e:Expr}{te:TE}{pos':Pos}(hN:X.N.Nodup)(hi:X.N[i]? = some x)(hx:Loc X.env.scope x)(he:PE X e te)(hs:swapsWith e (some (.Name x pos')) pos.line X.env=pure false:=by rfl)(hf:X.fn x=true\/X.env.scope.names.lookup x=some .local:=by first | exact .inl rfl | exact .inr rfl | assumption):
  PS X (.Assign [.Name x pos'] e pos) (K7 te (Bp i)):=by
 intro pins s σ H D I h;refine wpAny_Assign_Name (thn (he pins s σ H _ I h) λv s1 ⟨y,H1,I1,r1,q1⟩=>?_) hs;exact Xac I1 hN hi hx r1 (λs2 I2=>⟨_,H1,I2,q1⟩) hf
def tPar (i j:Nat) (ta:TA):TS:=λD σ H=>ta σ H λvs H1=>∃v w,vs=[v,w]/\D.nx ((σ.set i (some v)).set j (some w)) H1
def tAug (i:Nat) (te:TE) (ti:TIp):TS:=λD σ H=>∃x, σ[i]? = some (some x)/\te σ H λy H1=>ti x y H1 λz H2=>D.nx (σ.set i (some z)) H2
def tAugS (to ti te:TE) (tget:V->V->Hp->VK->Prop) (tip:TIp) (tset:TSet):TS:=λD σ H=>to σ H λo H1=>ti σ H1 λi H2=>tget o i H2 λx H3=>te σ H3 λy H4=>tip x y H4 λz H5=>tset o i z H5 λH6=>D.nx σ H6
def PGet (X:Cx) (t:V->V->Hp->VK->Prop):Prop:=
 ∀(pins:List (Addr×Obj)) (s:Shared) (σ:St) (H:Hp) (o i:V) (ov iv:Value) (Q:VK),Inv X pins σ H s->Ah o ov->Ah i iv->t o i H Q ->
  wpAny (model X.prog X.w) X.A (getItem ov iv) (EP X pins σ Q) X.xe s
def ipI (f:Int->Int->Int):TIp:=λx y H Q=>∃i j,x = .int i/\y = .int j/\Q (.int (f i j)) H
end
section
variable {X:Cx}{pos:Pos}
def Xql (c:TT) (tb:TS):TS:=λD σ H=>∃W:Nat->St->Hp->Prop,(∃m,W m σ H)/\∀m σ H,W m σ H ->
 c σ H λb H1=>if b=true then ∃N:St->Hp->Prop,(∀σ' H',N σ' H'->∃m',m'<m/\W m' σ' H')/\tb {D with nx:=N,ct:=N,bk:=D.nx} σ H1 else D.nx σ H1
end
structure It where
 go:Nat->Hp->Prop
 yld:Nat->Hp->V->Hp->Prop
 stop:Nat->Hp->Prop
def FpOk (X:Cx) (pins:List (Addr×Obj)) (H:Hp) (b:Addr):Prop:=
 H b=none/\b≠X.env.locals/\b∉X.fs/\(b∈X.ex\/X.s₀.heap.objs.size<=b)/\(∀x c,X.env.cells.lookup x=some c->c≠b)/\∀p∈X.pn++pins,p.1≠b
theorem Inv.fpOk{X:Cx}{pins:List (Addr×Obj)}{σ:St}{H H':Hp}{s:Shared}{b:Addr}(I:Inv X pins σ H s)(hb:s.heap.objs.size<=b)(hn:H' b=none):FpOk X pins H' b:=by
 refine⟨hn,Ta (Pd I.lt hb),I.nofs hb,.inr (Pr I.sz hb),λx c e z=>?_,λp hp z=>?_⟩
 ·obtain⟨v,q⟩:=I.cell x c e;exact absurd (Pd q.lt (by rw[z];exact hb)) (P3 _)
 ·exact absurd (Pd (Tq (I.pin p hp).1) (by rw[z];exact hb)) (P3 _)
structure Turn (P:Program) (w:World) (K:PySem.W.Frag) (tg:Expr) (J:It) (fp:List Addr) (it:Addr) (tn:Nat->Heap->Prop):Prop where
 mem:it∈fp
 obj:∀i h,tn i h->∀b∈fp,∃o,h.get? b=some o/\∀v,o.data ≠ .cell v
 keep:∀i h h',tn i h->(∀b∈fp,∀o,h.get? b=some o->h'.get? b=some o)->tn i h'
 item:∀(X:Cx),X.prog=P->X.w=w->X.K=K->X.calm=true->∀(i:Nat) (pins:List (Addr×Obj)) (s:Shared) (σ:St) (H:Hp) (E:Value->Shared->Prop),Inv X pins σ H s->(∀b∈fp,FpOk X pins H b)->tn i s.heap->J.go i H ->
  wpAny (model P w) X.A (pyNext (.ref it)) (λr s1=>∃u,r=some u /\
   wpAny (model P w) X.A (letOwnedTupleGo tg (.ref it) u) (λ_ s2=>∃x H',Inv X pins σ H' s2/\Ah x u/\J.yld i H x H'/\tn (i+1) s2.heap/\∀b∈fp,H' b=none) E s1) E s
 done:∀(X:Cx),X.prog=P->X.w=w->X.K=K->X.calm=true->∀(i:Nat) (pins:List (Addr×Obj)) (s:Shared) (σ:St) (H:Hp) (E:Value->Shared->Prop),Inv X pins σ H s->(∀b∈fp,FpOk X pins H b)->tn i s.heap->J.stop i H ->
  wpAny (model P w) X.A (pyNext (.ref it)) (λr s1=>r=none/\Inv X pins σ H s1) E s
 self:∀(A:Around) (i:Nat) (s:Shared) (Q:Value->Shared->Prop) (E:Value->Shared->Prop),tn i s.heap->Q (.ref it) s->wpAny (model P w) A (pyIter (.ref it)) Q E s
abbrev TI:=St->Hp->(It->Hp->Prop)->Prop
def PIE (X:Cx) (pins:List (Addr×Obj)) (σ:St) (tg:Expr) (R:It->Hp->Prop) (itv:Value) (s2:Shared):Prop:=
 ∃(it:Addr) (fp:List Addr) (tn:Nat->Heap->Prop) (J:It) (H':Hp),itv = .ref it/\Inv X pins σ H' s2/\Turn X.prog X.w X.K tg J fp it tn/\tn 0 s2.heap/\(∀b∈fp,FpOk X pins H' b)/\R J H'
def PI (X:Cx) (tg iter:Expr) (wi:TI):Prop:=
 ∀(pins:List (Addr×Obj)) (s:Shared) (σ:St) (H:Hp) (R:It->Hp->Prop),Inv X pins σ H s->wi σ H R ->
  wpAny (model X.prog X.w) X.A (eval iter X.env) (λv s1=>wpAny (model X.prog X.w) X.A (pyIter v) (PIE X pins σ tg R) X.xe s1) X.xe s
theorem Gr{M:Model}{A:Around}{E:Value->Shared->Prop}{s:Shared}{tg:Expr}{it:Addr}{u:Value}{o:Obj}{n:String}{vs:Array Value}{Q:Unit->Shared->Prop}(ho:s.heap.get? it=some o)(hc:o.cls = .type n)(hd:o.data = .fields vs)
    (hn:["enumerate", "zip", "dict_itemiterator", "dict_reverseitemiterator", "odict_iterator", "itertools.zip_longest", "itertools.pairwise"].contains n=false) (hQ:Q () s):wpAny M A (letOwnedTupleGo tg (.ref it) u) Q E s:=by
  unfold letOwnedTupleGo;cases tg<;>first
    | exact Tf hQ
    | (cases u<;>first
        | exact Tf hQ
        | (refine Te (wpAny_load ho ?_)
           rw[hc,hd];show wpAny M A (if (["enumerate", "zip", "dict_itemiterator", "dict_reverseitemiterator", "odict_iterator", "itertools.zip_longest", "itertools.pairwise"].contains n&&vs[0]? == some (rawInt _))=true then _ else _) Q E s;rw[Tj (by intro h;rw[hn,Qv] at h;cases h)];exact Tf hQ))
def Itl (K:PySem.W.Frag) (a:Addr):It:=
 ⟨λi H=>∃xs x,SqL K H a xs/\xs[i]? = some x,λi H x H'=>H'=H/\∀xs,SqL K H a xs->xs[i]? = some x,λi H=>∃xs,SqL K H a xs/\xs.length<=i⟩
def Itt (K:PySem.W.Frag) (a:Addr):It:=
 ⟨λi H=>∃xs x,SqT K H a xs/\xs[i]? = some x,λi H x H'=>H'=H/\∀xs,SqT K H a xs->xs[i]? = some x,λi H=>∃xs,SqT K H a xs/\xs.length<=i⟩
def Itr (lo:Int) (n:Nat):It:=⟨λi _=>i<n,λi H x H'=>H'=H/\x = .int (lo+i),λi _=>n<=i⟩
theorem Xgm{P:Program}{w:World}{K:PySem.W.Frag}{tg:Expr}(a it:Addr):Turn P w K tg (Itl K a) [it] it (λi h=>h.IsListIter it a i) where
 mem:=by simp
 obj:=λi h st b hb=>by
  have e:b=it:=by simpa using hb
  subst e;obtain⟨o,e,c,d⟩:=st;exact⟨o,e,λv z=>by rw[d] at z;cases z⟩
 keep:=λi h h' st k=>st.at λo e=>k it (by simp) o e
 item:=by
  intro X hP hw hK hc i pins s σ H E I hf st hg;subst hP hw hK;obtain⟨xs,x,hq,hx⟩:=hg;obtain⟨its,rv,p,hz⟩:=I.list hq;obtain⟨u,hu,ru⟩:=rv.get hx;obtain⟨f0,f1,f2,f3,f4,f5⟩:=hf it (by simp);refine wpAny_pyNext_list_item st p.isList (x:=u) (by simpa using hu) λh' st' sb=>?_;have I1:Inv X pins σ H {s with heap:=h'}:=I.turned (t':=s.toks) (λb o hb e=>(sb.2 b hb).trans e) f0 f1 f3 f4 f5;obtain⟨o,e,c,d⟩:=id st';exact⟨u,rfl,Gr (s:={s with heap:=h'}) e c d (by decide) ⟨x,H,I1,ru,⟨rfl,λys hy=>by rw[I.list_inj hy hq];exact hx⟩,st',λb hb=>(hf b hb).1⟩⟩
 done:=by
  intro X hP hw hK hc i pins s σ H E I hf st hg;subst hP hw hK;obtain⟨xs,hq,hx⟩:=hg;obtain⟨its,rv,p,hz⟩:=I.list hq;obtain⟨f0,f1,f2,f3,f4,f5⟩:=hf it (by simp);have hl:=rv.length;exact wpAny_pyNext_list_end (I.ok.hd hc) st p.isList (by simp;omega) λh' eb=>⟨rfl,I.turned (t':=s.toks) (λb o hb e=>eb b o hb e) f0 f1 f3 f4 f5⟩
 self:=λ_ _ _ _ _ st h=>wpAny_pyIter_listiter st h
theorem Xgn{P:Program}{w:World}{K:PySem.W.Frag}{tg:Expr}(a it:Addr):Turn P w K tg (Itt K a) [it] it (λi h=>h.IsTupleIter it a i) where
 mem:=by simp
 obj:=λi h st b hb=>by
  have e:b=it:=by simpa using hb
  subst e;obtain⟨o,e,c,d⟩:=st;exact⟨o,e,λv z=>by rw[d] at z;cases z⟩
 keep:=λi h h' st k=>st.at λo e=>k it (by simp) o e
 item:=by
  intro X hP hw hK hc i pins s σ H E I hf st hg;subst hP hw hK;obtain⟨xs,x,hq,hx⟩:=hg;obtain⟨its,rv,p,hz⟩:=I.tuple hq;obtain⟨u,hu,ru⟩:=rv.get hx;obtain⟨f0,f1,f2,f3,f4,f5⟩:=hf it (by simp);refine wpAny_pyNext_tuple_item st (show s.heap.IsTuple a its.toArray from p) (x:=u) (by simpa using hu) λh' st' sb=>?_;have I1:Inv X pins σ H {s with heap:=h'}:=I.turned (t':=s.toks) (λb o hb e=>(sb.2 b hb).trans e) f0 f1 f3 f4 f5;obtain⟨o,e,c,d⟩:=id st';exact⟨u,rfl,Gr (s:={s with heap:=h'}) e c d (by decide) ⟨x,H,I1,ru,⟨rfl,λys hy=>by rw[I.tuple_inj hy hq];exact hx⟩,st',λb hb=>(hf b hb).1⟩⟩
 done:=by
  intro X hP hw hK hc i pins s σ H E I hf st hg;subst hP hw hK;obtain⟨xs,hq,hx⟩:=hg;obtain⟨its,rv,p,hz⟩:=I.tuple hq;obtain⟨f0,f1,f2,f3,f4,f5⟩:=hf it (by simp);have hl:=rv.length;exact wpAny_pyNext_tuple_end (I.ok.hd hc) st (show s.heap.IsTuple a its.toArray from p) (by simp;omega) λh' eb=>⟨rfl,I.turned (t':=s.toks) (λb o hb e=>eb b o hb e) f0 f1 f3 f4 f5⟩
 self:=λ_ _ _ _ _ st h=>wpAny_pyIter_tupleiter st h
theorem Xgo{P:Program}{w:World}{K:PySem.W.Frag}{tg:Expr}(it:Addr)(lo:Int)(n:Nat):Turn P w K tg (Itr lo n) [it] it (λi h=>IsRangeIter h it (lo+(i:Nat) * 1) ((n:Int) - (i:Nat)) 1) where
 mem:=by simp
 obj:=λi h st b hb=>by
  have e:b=it:=by simpa using hb
  subst e;exact⟨_,st,λv z=>by
   have z':Data.fields _=Data.cell v:=z;cases z'⟩
 keep:=λi h h' st k=>k it (by simp) _ st
 item:=by
  intro X hP hw hK hc i pins s σ H E I hf st hg;subst hP hw hK;obtain⟨f0,f1,f2,f3,f4,f5⟩:=hf it (by simp);have W:=Walks.range (prog:=X.prog) (w:=X.w) (I.ok.hd hc) it lo 1 n;refine W.item i s _ _ hg st λv h' tk hv st' kk=>?_;obtain⟨t,rfl⟩:=hv;have I1:Inv X pins σ H {s with heap:=h',toks:=tk}:=I.turned (λb o hb e=>kk b o (by simpa using hb) e) f0 f1 f3 f4 f5;refine⟨_,rfl,Gr (s:={s with heap:=h',toks:=tk}) (n := "range_iterator") st' rfl rfl (by decide) ⟨.int (lo+i),H,I1,⟨t,?_⟩,⟨rfl,rfl⟩,st',λb hb=>(hf b hb).1⟩⟩;rw[Int.mul_one]
 done:=by
  intro X hP hw hK hc i pins s σ H E I hf st hg;subst hP hw hK;obtain⟨f0,f1,f2,f3,f4,f5⟩:=hf it (by simp);exact wpAny_pyNext_range_end (I.ok.hd hc) st (by have:n<=i:=hg;omega) λh' eb=>⟨rfl,I.turned (t':=s.toks) (λb o hb e=>eb b o hb e) f0 f1 f3 f4 f5⟩
 self:=λ_ _ _ _ _ st h=>wpAny_pyIter_rangeiter st h
section
variable {X:Cx}{tg:Expr}
def Xaj (K:PySem.W.Frag) (tl:TE):TI:=fun σ H R=>tl σ H λx H1=>∃a,x = .ref a/\(∃xs,SqL K H1 a xs)/\R (Itl K a) H1
def iTup (K:PySem.W.Frag) (tl:TE):TI:=fun σ H R=>tl σ H λx H1=>∃a,x = .ref a/\(∃xs,SqT K H1 a xs)/\R (Itt K a) H1
theorem Bq{l:Expr}{tl:TE}(hl:PE X l tl):PI X tg l (Xaj X.K tl):=by
 intro pins s σ H R I h;refine thn (hl pins s σ H _ I h) λv s1 ⟨x,H1,I1,r1,q1⟩=>?_;obtain⟨a,e,⟨xs,hq⟩,q⟩:=q1;subst e;cases r1;obtain⟨its,rv,p,hz⟩:=I1.list hq;refine wpAny_pyIter_list p.isList ?_;refine⟨s1.heap.objs.size,[s1.heap.objs.size],_,_,H1,rfl,I1.kept (t':=s1.toks) λb o e=>Tr _ e,Xgm a _,⟨_,Heap.get?_push_size _ rfl,rfl,rfl⟩,λb hb=>?_,q⟩;have e:b=s1.heap.objs.size:=by simpa using hb
 subst e;exact I1.fpOk (Oq _) (I1.hok.fresh (Oq _))
theorem K8{l:Expr}{tl:TE}(hl:PE X l tl):PI X tg l (iTup X.K tl):=by
 intro pins s σ H R I h;refine thn (hl pins s σ H _ I h) λv s1 ⟨x,H1,I1,r1,q1⟩=>?_;obtain⟨a,e,⟨xs,hq⟩,q⟩:=q1;subst e;cases r1;obtain⟨its,rv,p,hz⟩:=I1.tuple hq;refine wpAny_pyIter_tuple (show s1.heap.IsTuple a its.toArray from p) ?_;refine⟨s1.heap.objs.size,[s1.heap.objs.size],_,_,H1,rfl,I1.kept (t':=s1.toks) λb o e=>Tr _ e,Xgn a _,⟨_,Heap.get?_push_size _ rfl,rfl,rfl⟩,λb hb=>?_,q⟩;have e:b=s1.heap.objs.size:=by simpa using hb
 subst e;exact I1.fpOk (Oq _) (I1.hok.fresh (Oq _))
theorem Xgp{pins:List (Addr×Obj)}{σ:St}{H:Hp}{s:Shared}{R:It->Hp->Prop}{E:Value->Shared->Prop}{lo hi:Int}{t u v:Tok}{tk:Nat}(I:Inv X pins σ H s)(h1 : -(2 ^ 62)<=lo)(h2:lo<2 ^ 62)(h3 : -(2 ^ 62)<=hi)(h4:hi<2 ^ 62)
  (q:R (Itr lo (hi - lo).toNat) H):wpAny (model X.prog X.w) X.A (pyIter (.ref s.heap.objs.size)) (PIE X pins σ tg R) E {s with heap:=s.heap.push {cls:=.type "range",data:=.fields #[.int lo t,.int hi u,.int 1 v]},toks:=tk}:=by
 refine wpAny_pyIter_range (IsRange.new ..) (small_one h1 h2 h3 h4) ?_;have I1:Inv X pins σ H {s with heap:=s.heap.push {cls:=.type "range",data:=.fields #[.int lo t,.int hi u,.int 1 v]},toks:=tk}:=I.kept λb o e=>Tr _ e;refine⟨(s.heap.push {cls:=.type "range",data:=.fields #[.int lo t,.int hi u,.int 1 v]}).objs.size,[(s.heap.push {cls:=.type "range",data:=.fields #[.int lo t,.int hi u,.int 1 v]}).objs.size],_,_,H,rfl,
  I1.kept (t':=tk) λb o e=>Tr _ e,Xgo _ lo (hi - lo).toNat,?_,λb hb=>?_,q⟩
 ·have e1:lo+((0:Nat):Int) * 1=lo:=by simp
  have e2:(((hi - lo).toNat:Nat):Int) - ((0:Nat):Int)=Builtin.Range.rangeSize lo hi 1:=by rw[rangeSize_one];split<;>omega
  show IsRangeIter _ _ (lo+((0:Nat):Int) * 1) ((((hi - lo).toNat:Nat):Int) - ((0:Nat):Int)) 1;rw[e1,e2];exact Heap.get?_push_size _ rfl
 ·have e:b=(s.heap.push {cls:=.type "range",data:=.fields #[.int lo t,.int hi u,.int 1 v]}).objs.size:=by simpa using hb
  subst e;exact I1.fpOk (Oq _) (I1.hok.fresh (Oq _))
def Xgq (ta:TA):TI:=fun σ H R=>ta σ H λvs H1=>∃j:Int,vs=[.int j] /\ -(2 ^ 62)<=j/\j<2 ^ 62/\R (Itr 0 j.toNat) H1
theorem Fu{a:Expr}{ta:TA}{p pos:Pos}(hg:Gl X "range")(hm:X.mg "range" = none)(ha:PA X [a] ta)(hs:starEach [a] X.env=[(false,eval a X.env)]:=by rfl):PI X tg (.Call (.Name "range" p) [a] [] pos) (Xgq ta):=by
 intro pins s σ H R I h;refine Call_ (Fr I hg hm boot_range (PyProof.Rows.callWith_type1 (thn (ha pos pins s σ H _ I h) λus s1 ⟨vs,H1,I1,r1,q1⟩=>?_) hs rfl));obtain⟨j,e,q1,q2,q⟩:=q1;subst e;cases r1 with
 | cons r rr=>
  cases rr;obtain⟨t,rfl⟩:=r;exact call_range_1 (Xgp I1 (by omega) (by omega) q1 q2 (by simpa using q))
def tFor (wi:TI) (g:TG) (tb:TS):TS:=λD σ H=>wi σ H λJ H1=>∃W:Nat->Nat->St->Hp->Prop,(∃m,W 0 m σ H1)/\∀i m σ H,W i m σ H ->
 (J.stop i H/\D.nx σ H)\/(J.go i H/\∃N:St->Hp->Prop,(∀σ' H',N σ' H'->∃m',m'<m/\W (i+1) m' σ' H')/\∀x H',J.yld i H x H'->g x σ H' fun σ2 H2=>tb {D with nx:=N,ct:=N,bk:=D.nx} σ2 H2)
def Gs (fp:List Addr) (h:Heap):List (Addr×Obj):=fp.filterMap λb=>(h.get? b).map λo=>(b,o)
theorem Ip{fp:List Addr}{h:Heap}{b:Addr}{o:Obj}(hb:b∈fp)(e:h.get? b=some o):(b,o)∈Gs fp h:=Sq.mpr ⟨b,hb,by rw[e];rfl⟩
theorem Xgr{fp:List Addr}{h:Heap}{p:Addr×Obj}(hp:p∈Gs fp h):p.1∈fp/\h.get? p.1=some p.2:=by
 obtain⟨b,hb,e⟩:=Sq.mp hp;cases q:h.get? b with
 | none=>rw[q] at e;cases e
 | some o=>
  rw[q] at e;have e':(b,o)=p:=Pa e;subst e';exact⟨hb,q⟩
theorem Inv.pinned{pins:List (Addr×Obj)}{σ:St}{H:Hp}{s:Shared}{fp:List Addr}(I:Inv X pins σ H s)(hf:∀b∈fp,FpOk X pins H b)(ho:∀b∈fp,∃o,s.heap.get? b=some o/\∀v,o.data ≠ .cell v):Inv X (pins++Gs fp s.heap) σ H s:=
 I.pins_of λp hp=>(Oz.mp hp).elim (λz=>I.pin p (Pm _ z)) λz=>by
  obtain⟨hb,e⟩:=Xgr z;obtain⟨f0,f1,f2,_⟩:=hf p.1 hb;obtain⟨o,e',d⟩:=ho p.1 hb;rw[e] at e';cases e';exact⟨e,f0,f1,f2,d⟩
theorem Inv.unpinned{pins pl:List (Addr×Obj)}{σ:St}{H:Hp}{s:Shared}(I:Inv X (pins++pl) σ H s):Inv X pins σ H s:=I.pins_of λp hp=>I.pin p (Pm _ (P4 _ hp))
theorem Cr{iter:Expr}{body:List Stmt}{wi:TI}{g:TG}{tb:TS}{pos:Pos}(hp:PassesOwn (model X.prog X.w) X.A X.env X.xe)(hc:X.calm=true)(hi:PI X tg iter wi)(hg:PG X tg g)(hb:PSs X body tb)
  (hs:∀x,foldedSetIterable iter X.env x=pure x:=by intro _;rfl):PS X (.For tg iter body [] pos) (tFor wi g tb):=by
 intro pins s σ H D I h;refine wpAny_For (thn (hi pins s σ H _ I h) λv s1 h1=>thn h1 λitv s2 h2=>?_) hs;obtain⟨it,fp,tn,J,H2,e,I2,T,st2,f2,W,⟨m0,w0⟩,turn⟩:=h2;subst e;have stat:∀{H':Hp},(∀b∈fp,H' b=none)->∀b∈fp,FpOk X pins H' b:=λhn b hb=>⟨hn b hb,(f2 b hb).2⟩;refine codeAny_forLoop_any (λn s'=>∃i σ' H',Inv X pins σ' H' s'/\tn i s'.heap/\(∀b∈fp,H' b=none)/\W i n σ' H') ?_ m0 ⟨0, σ,H2,I2,st2,λb hb=>(f2 b hb).1,w0⟩;rintro n s3 ⟨i, σ3,H3,I3,st3,fr3,w3⟩;rcases turn i n σ3 H3 w3 with ⟨stop,qn⟩ | ⟨go,N,hN,step⟩
 ·refine wpAny_passesOwn hp (thn (T.done X rfl rfl rfl hc i pins s3 σ3 H3 X.xe I3 (stat fr3) st3 stop) λr s4 ⟨hr,I4⟩=>?_);subst hr;exact wpAny_execs_nil ⟨σ3,H3,I4,qn⟩
 ·refine wpAny_passesOwn hp (thn (T.item X rfl rfl rfl hc i pins s3 σ3 H3 X.xe I3 (stat fr3) st3 go) λr s4 ⟨u,hr,h4⟩=>?_);subst hr;refine wpAny_passesOwn hp (thn h4 λ_ s5 ⟨x,H5,I5,r5,y5,st5,fr5⟩=>?_);have I5':=I5.pinned (stat fr5) (T.obj _ _ st5);refine wpAny_passesOwn hp (thn (hg _ s5 σ3 H5 x u _ I5' r5 (step x H5 y5)) λ_ s6 ⟨σ6,H6,I6,q6⟩=>?_);refine wpAny_passesOwn hp (thn (hb _ s6 σ6 H6 _ I6 q6) λf s7 q7=>?_);have again:∀{σ7:St} {H7:Hp},Inv X (pins++Gs fp s5.heap) σ7 H7 s7->N σ7 H7->∃m,m<n/\∃i σ' H',Inv X pins σ' H' s7/\tn i s7.heap/\(∀b∈fp,H' b=none)/\W i m σ' H':=λ{σ7 H7} I7 n7=>by
   obtain⟨m',hm,w7⟩:=hN σ7 H7 n7;refine⟨m',hm,i+1, σ7,H7,I7.unpinned,T.keep _ _ _ st5 λb hb o e=>(I7.pin (b,o) (Pm _ (Pm _ (Ip hb e)))).1,λb hb=>?_,w7⟩;obtain⟨o,e,d⟩:=T.obj _ _ st5 b hb;exact(I7.pin (b,o) (Pm _ (Pm _ (Ip hb e)))).2.1
  cases f with
  | next=>obtain⟨σ7,H7,I7,n7⟩:=q7;exact again I7 n7
  | cont=>obtain⟨σ7,H7,I7,n7⟩:=q7;exact again I7 n7
  | brk=>obtain⟨σ7,H7,I7,q7⟩:=q7;exact⟨σ7,H7,I7.unpinned,q7⟩
  | ret v=>obtain⟨x7, σ7,H7,I7,r7,q7⟩:=q7;exact⟨x7, σ7,H7,I7.unpinned,r7,q7⟩
end
theorem Ek{K:PySem.W.Frag}{a:Addr}{xs:List V}{g:TG}{tb:TS}{D:Ends}{σ:St}{H:Hp}(Pv:Nat->St->Hp->Prop)(h0:Pv 0 σ H)(hl:∀i σ H,i<=xs.length->Pv i σ H->SqL K H a xs)
  (hs:∀i x σ H,xs[i]? = some x->Pv i σ H->g x σ H fun σ2 H2=>tb {D with nx:=Pv (i+1),ct:=Pv (i+1),bk:=D.nx} σ2 H2) (hd:∀σ H,Pv xs.length σ H->D.nx σ H):
  ∃W:Nat->Nat->St->Hp->Prop,(∃m,W 0 m σ H)/\∀i m σ H,W i m σ H ->
   ((Itl K a).stop i H/\D.nx σ H)\/((Itl K a).go i H/\∃N:St->Hp->Prop,(∀σ' H',N σ' H'->∃m',m'<m/\W (i+1) m' σ' H')/\∀x H',(Itl K a).yld i H x H'->g x σ H' fun σ2 H2=>tb {D with nx:=N,ct:=N,bk:=D.nx} σ2 H2):=by
 refine⟨λi m σ H=>m=xs.length - i/\i<=xs.length/\Pv i σ H,⟨xs.length,by simp,Pq _,h0⟩,?_⟩;rintro i m σ H ⟨rfl,hi,p⟩;have q:=hl i σ H hi p;by_cases hlt:i<xs.length
 ·refine .inr ⟨⟨xs,xs[i],q,by simp[hlt]⟩,Pv (i+1),fun σ' H' p'=>⟨xs.length - (i+1),by omega,rfl,hlt,p'⟩,λx H' y=>?_⟩;obtain⟨e,y⟩:=y;subst e;exact hs i x σ _ (y xs q) p
 ·have e:i=xs.length:=by omega
  subst e;exact .inl ⟨⟨xs,q,Oq _⟩,hd σ H p⟩
theorem Gu{lo:Int}{n:Nat}{g:TG}{tb:TS}{D:Ends}{σ:St}{H:Hp}(Pv:Nat->St->Hp->Prop)(h0:Pv 0 σ H)
  (hs:∀i σ H,i<n->Pv i σ H->g (.int (lo+i)) σ H fun σ2 H2=>tb {D with nx:=Pv (i+1),ct:=Pv (i+1),bk:=D.nx} σ2 H2) (hd:∀σ H,Pv n σ H->D.nx σ H):
  ∃W:Nat->Nat->St->Hp->Prop,(∃m,W 0 m σ H)/\∀i m σ H,W i m σ H ->
   ((Itr lo n).stop i H/\D.nx σ H)\/((Itr lo n).go i H/\∃N:St->Hp->Prop,(∀σ' H',N σ' H'->∃m',m'<m/\W (i+1) m' σ' H')/\∀x H',(Itr lo n).yld i H x H'->g x σ H' fun σ2 H2=>tb {D with nx:=N,ct:=N,bk:=D.nx} σ2 H2):=by
 refine⟨λi m σ H=>m=n - i/\i<=n/\Pv i σ H,⟨n,by simp,Pq _,h0⟩,?_⟩;rintro i m σ H ⟨rfl,hi,p⟩;by_cases hlt:i<n
 ·refine .inr ⟨hlt,Pv (i+1),fun σ' H' p'=>⟨n - (i+1),by omega,rfl,hlt,p'⟩,λx H' y=>?_⟩;obtain⟨e,y⟩:=y;subst e y;exact hs i σ _ hlt p
 ·have e:i=n:=by omega
  subst e;exact .inl ⟨Oq _,hd σ H p⟩
abbrev R2:=V->V->Hp->VK->Prop
def OpR (X:Cx) (f:Value->Value->Sem Value) (r:R2):Prop:=
 ∀(pins:List (Addr×Obj)) (s:Shared) (σ:St) (H:Hp) (x y:V) (v u:Value) (Q:VK),Inv X pins σ H s->Ah x v->Ah y u->r x y H Q ->
  wpAny (model X.prog X.w) X.A (f v u) (EP X pins σ Q) X.xe s
def UnR (X:Cx) (f:Value->Sem Value) (r:V->Hp->VK->Prop):Prop:=
 ∀(pins:List (Addr×Obj)) (s:Shared) (σ:St) (H:Hp) (x:V) (v:Value) (Q:VK),Inv X pins σ H s->Ah x v->r x H Q ->
  wpAny (model X.prog X.w) X.A (f v) (EP X pins σ Q) X.xe s
def Br (X:Cx) (f:Value) (r:List V->Hp->VK->Prop):Prop:=
 ∀(pins:List (Addr×Obj)) (s:Shared) (σ:St) (H:Hp) (xs:List V) (us:List Value) (Q:VK),Inv X pins σ H s->Vals xs us->r xs H Q ->
  wpAny (model X.prog X.w) X.A (call f us) (EP X pins σ Q) X.xe s
def TruR (X:Cx) (r:V->Hp->(Bool->Hp->Prop)->Prop):Prop:=
 ∀(pins:List (Addr×Obj)) (s:Shared) (σ:St) (H:Hp) (x:V) (v:Value) (Q:Bool->Hp->Prop),Inv X pins σ H s->Ah x v->r x H Q ->
  wpAny (model X.prog X.w) X.A (truthy v) (TP X pins σ Q) X.xe s
def tOp (r:R2) (ta tb:TE):TE:=fun σ H Q=>ta σ H λx H1=>tb σ H1 λy H2=>r x y H2 Q
def tUn (r:V->Hp->VK->Prop) (ta:TE):TE:=fun σ H Q=>ta σ H λx H1=>r x H1 Q
def rI (C:Int->Int->Prop) (g:Int->Int->V):R2:=λx y H Q=>∃i j,x = .int i/\y = .int j/\C i j/\Q (g i j) H
def rI0 (g:Int->Int->V):R2:=λx y H Q=>∃i j,x = .int i/\y = .int j/\Q (g i j) H
def rU (g:Int->V):V->Hp->VK->Prop:=λx H Q=>∃i,x = .int i/\Q (g i) H
section
variable {X:Cx}{a b c:Expr}{ta tb tc:TE}{pos:Pos}
theorem binT(ha:PE X a ta)(hb:PE X b tb){pins:List (Addr×Obj)}{s:Shared}{σ:St}{H:Hp}{R:V->V->Hp->Prop}(I:Inv X pins σ H s)
  (h:ta σ H λx H1=>tb σ H1 λy H2=>R x y H2) {Q:Value->Shared->Prop} {f:Value->Value->Sem Value}
  (hf:∀v u s2 x y H2,Inv X pins σ H2 s2->Ah x v->Ah y u->R x y H2->wpAny (model X.prog X.w) X.A (f v u) Q X.xe s2):
  wpAny (model X.prog X.w) X.A (eval a X.env) (λv s₁=>wpAny (model X.prog X.w) X.A (eval b X.env) (λu s₂=>wpAny (model X.prog X.w) X.A (f v u) Q X.xe s₂) X.xe s₁) X.xe s:=by
 refine thn (ha pins s σ H _ I h) λv s1 ⟨x,H1,I1,r1,q1⟩=>?_;refine thn (hb pins s1 σ H1 _ I1 q1) λu s2 ⟨y,H2,I2,r2,q2⟩=>?_;exact hf v u s2 x y H2 I2 r1 r2 q2
theorem Aq{op:Operator}{r:R2}(ho:OpR X (binaryOp op) r)(ha:PE X a ta)(hb:PE X b tb):PE X (.BinOp a op b pos) (tOp r ta tb):=by
 intro pins s σ H Q I h;exact wpAny_BinOp (binT ha hb I h λv u s2 x y H2 I2 rx ry q=>ho pins s2 σ H2 x y v u Q I2 rx ry q)
theorem Xgs{op:UnaryOp}{r:V->Hp->VK->Prop}(ho:UnR X (unaryOp op) r)(ha:PE X a ta):PE X (.UnaryOp op a pos) (tUn r ta):=by
 intro pins s σ H Q I h;exact UnaryOp_ (thn (ha pins s σ H _ I h) λv s1 ⟨x,H1,I1,r1,q1⟩=>ho pins s1 σ H1 x v Q I1 r1 q1)
theorem opI{f:Value->Value->Sem Value}{C:Int->Int->Prop}{g:Int->Int->Int}
  (rule:∀(i j:Int) (t u:Tok) (s:Shared) (Q:Value->Shared->Prop) (E:Value->Shared->Prop),C i j->Q (.int (g i j) s.toks) {s with toks:=s.toks+1}->wpAny (model X.prog X.w) X.A (f (.int i t) (.int j u)) Q E s):
  OpR X f (rI C λi j=>.int (g i j)):=by
 intro pins s σ H x y v u Q I rx ry h;obtain⟨i,j,rfl,rfl,hc,q⟩:=h;obtain⟨t,rfl⟩:=rx;obtain⟨t',rfl⟩:=ry;exact rule i j t t' s _ _ hc ⟨.int (g i j),H,I.tok _,⟨_,rfl⟩,q⟩
theorem Xak{f:Value->Value->Sem Value}{g:Int->Int->Int}
  (rule:∀(i j:Int) (t u:Tok) (s:Shared) (Q:Value->Shared->Prop) (E:Value->Shared->Prop),Q (.int (g i j) s.toks) {s with toks:=s.toks+1}->wpAny (model X.prog X.w) X.A (f (.int i t) (.int j u)) Q E s):
  OpR X f (rI0 λi j=>.int (g i j)):=by
 intro pins s σ H x y v u Q I rx ry h;obtain⟨i,j,rfl,rfl,q⟩:=h;obtain⟨t,rfl⟩:=rx;obtain⟨t',rfl⟩:=ry;exact rule i j t t' s _ _ ⟨.int (g i j),H,I.tok _,⟨_,rfl⟩,q⟩
theorem K9{f:Value->Value->Sem Value}{g:Int->Int->Bool}
  (rule:∀(i j:Int) (t u:Tok) (s:Shared) (Q:Value->Shared->Prop) (E:Value->Shared->Prop),Q (.bool (g i j)) s->wpAny (model X.prog X.w) X.A (f (.int i t) (.int j u)) Q E s):
  OpR X f (rI0 λi j=>.bl (g i j)):=by
 intro pins s σ H x y v u Q I rx ry h;obtain⟨i,j,rfl,rfl,q⟩:=h;obtain⟨t,rfl⟩:=rx;obtain⟨t',rfl⟩:=ry;exact rule i j t t' s _ _ ⟨.bl (g i j),H,I,rfl,q⟩
def CDiv (i j:Int):Prop:=0<j/\j<1073741824
def CPow (i j:Int):Prop:=0<=j/\j<=1000000/\i.natAbs<2 ^ 64
def CMul (i j:Int):Prop:=(-(2 ^ 64)<i/\i<2 ^ 64)\/(-(2 ^ 64)<j/\j<2 ^ 64)
theorem CMul.ok{i j:Int}(h:CMul i j):IntMulOk i j:=by
 rcases h with ⟨h1,h2⟩ | ⟨h1,h2⟩
 ·exact .of_left (intBits_le_64 h1 h2)
 ·exact .of_right (intBits_le_64 h1 h2)
theorem Ci:OpR X (binaryOp .Add) (rI0 λi j=>.int (i+j)):=Xak λ_ _ _ _ _ _ _ q=>add_int q
theorem Xal:OpR X (binaryOp .Sub) (rI0 λi j=>.int (i - j)):=Xak λ_ _ _ _ _ _ _ q=>sub_int q
theorem Xam:OpR X (binaryOp .Mult) (rI CMul λi j=>.int (i * j)):=opI λ_ _ _ _ _ _ _ hc q=>mul_int q hc.ok
theorem Xan:OpR X (binaryOp .FloorDiv) (rI CDiv λi j=>.int (i / j)):=opI λi j _ _ _ _ _ hc q=>by
 have h1:(0:Int)<j:=hc.1;have h2:j<1073741824:=hc.2;exact floordiv_int (by omega) (by rw[Int.fdiv_eq_ediv_of_nonneg i (by omega)];exact q) (.inl (PyProof.noPylong_small (by omega)))
theorem Fv:OpR X (binaryOp .Mod) (rI (λ_ j=>0<j) λi j=>.int (i % j)):=opI λi j _ _ _ _ _ hc q=>by
 have h1:(0:Int)<j:=hc;exact mod_int' (by omega) (by rw[Int.fmod_eq_emod_of_nonneg i (by omega)];exact q)
theorem Xao:OpR X (binaryOp .Pow) (rI CPow λi j=>.int (i ^ j.toNat)):=opI λ_ _ _ _ _ _ _ hc q=>pow_int_small hc.1 hc.2.1 hc.2.2 q
theorem unI{f:Value->Sem Value}{g:Int->Int}
  (rule:∀(i:Int) (t:Tok) (s:Shared) (Q:Value->Shared->Prop) (E:Value->Shared->Prop),Q (.int (g i) s.toks) {s with toks:=s.toks+1}->wpAny (model X.prog X.w) X.A (f (.int i t)) Q E s):
  UnR X f (rU λi=>.int (g i)):=by
 intro pins s σ H x v Q I rx h;obtain⟨i,rfl,q⟩:=h;obtain⟨t,rfl⟩:=rx;exact rule i t s _ _ ⟨.int (g i),H,I.tok _,⟨_,rfl⟩,q⟩
theorem Xgt:UnR X (unaryOp .USub) (rU λi=>.int (-i)):=unI λ_ _ _ _ _ q=>neg_int q
end
def scal:V->V->Bool
 | .non,.non=>true | .non,.int _=>true | .int _,.non=>true | .non,.bl _=>true | .bl _,.non=>true | .non,.str _=>true | .str _,.non=>true
 | .int _,.int _=>true | .bl _,.bl _=>true | .str _,.str _=>true | .byt _,.byt _=>true
 | .int _,.str _=>true | .str _,.int _=>true | .bl _,.str _=>true | .str _,.bl _=>true
 | _,_=>false
def rEq:R2:=λx y H Q=>scal x y=true/\Q (.bl (decide (x=y))) H
def rNe:R2:=λx y H Q=>scal x y=true/\Q (.bl (!decide (x=y))) H
theorem Xap{i j:Int}:decide (V.int i=V.int j)=(i==j):=by
 rw[Qo];simp
theorem La{i j:Bool}:decide (V.bl i=V.bl j)=(i==j):=by
 rw[Qo];simp
theorem Xaq{i j:Str}:decide (V.str i=V.str j)=(i==j):=by
 rw[Qo];simp
theorem Xar{i j:Array UInt8}:decide (V.byt i=V.byt j)=(i.toList==j.toList):=by
 rw[Qo];cases i;cases j;simp
section
variable {X:Cx}{a b c:Expr}{ta tb tc:TE}{pos:Pos}
theorem Bf{pins:List (Addr×Obj)}{σ:St}{H:Hp}{s:Shared}{Q:VK}{k k':Bool}(I:Inv X pins σ H s)(q:Q (.bl k) H)(e:k=k'):EP X pins σ Q (.bool k') s:=by
 subst e;exact⟨.bl k,H,I,rfl,q⟩
theorem Cs:OpR X (compareOp .Eq) rEq:=by
 intro pins s σ H x y v u Q I rx ry h;obtain⟨hs,q⟩:=h;cases x with
 | non=>
  cases rx;cases y with
  | non=>cases ry;exact PySem.EqNone.eq_none_none (Bf I q (by simp))
  | bl j=>cases ry;exact PySem.EqNone.eq_none_bool (Bf I q (by simp))
  | int j=>obtain⟨t',rfl⟩:=ry;exact PySem.EqNone.eq_none_int (Bf I q (by simp))
  | str j=>obtain⟨t',rfl⟩:=ry;exact PySem.EqNone.eq_none_str (Bf I q (by simp))
  | _=>exact absurd (show false=true from hs) O4
 | bl i=>
  cases rx;cases y with
  | non=>cases ry;exact PySem.EqNone.eq_bool_none (Bf I q (by simp))
  | bl j=>cases ry;exact eq_bool (Bf I q La)
  | str j=>obtain⟨t',rfl⟩:=ry;exact PySem.EqMixed.eq_bool_str (Bf I q (by simp))
  | _=>exact absurd (show false=true from hs) O4
 | int i=>
  obtain⟨t,rfl⟩:=rx;cases y with
  | non=>cases ry;exact PySem.EqNone.eq_int_none (Bf I q (by simp))
  | int j=>obtain⟨t',rfl⟩:=ry;exact eq_int (Bf I q Xap)
  | str j=>obtain⟨t',rfl⟩:=ry;exact PySem.EqMixed.eq_int_str (Bf I q (by simp))
  | _=>exact absurd (show false=true from hs) O4
 | str i=>
  obtain⟨t,rfl⟩:=rx;cases y with
  | non=>cases ry;exact PySem.EqNone.eq_str_none (Bf I q (by simp))
  | bl j=>cases ry;exact PySem.EqMixed.eq_str_bool (Bf I q (by simp))
  | int j=>obtain⟨t',rfl⟩:=ry;exact PySem.EqMixed.eq_str_int (Bf I q (by simp))
  | str j=>obtain⟨t',rfl⟩:=ry;exact eq_str (Bf I q Xaq)
  | _=>exact absurd (show false=true from hs) O4
 | byt i=>
  obtain⟨t,rfl⟩:=rx;cases y with
  | byt j=>obtain⟨t',rfl⟩:=ry;exact PySem.W.eq_bytes (Bf I q Xar)
  | _=>exact absurd (show false=true from hs) O4
 | _=>cases y<;>exact absurd (show false=true from hs) O4
theorem Lb:OpR X (compareOp .NotEq) rNe:=by
 intro pins s σ H x y v u Q I rx ry h;obtain⟨hs,q⟩:=h;cases x with
 | non=>
  cases rx;cases y with
  | non=>cases ry;exact PySem.EqNone.ne_none_none (Bf I q (by simp))
  | bl j=>cases ry;exact PySem.EqNone.ne_none_bool (Bf I q (by simp))
  | int j=>obtain⟨t',rfl⟩:=ry;exact PySem.EqNone.ne_none_int (Bf I q (by simp))
  | str j=>obtain⟨t',rfl⟩:=ry;exact PySem.EqNone.ne_none_str (Bf I q (by simp))
  | _=>exact absurd (show false=true from hs) O4
 | bl i=>
  cases rx;cases y with
  | non=>cases ry;exact PySem.EqNone.ne_bool_none (Bf I q (by simp))
  | bl j=>cases ry;exact ne_bool (Bf I q (congrArg not La))
  | str j=>obtain⟨t',rfl⟩:=ry;exact PySem.EqMixed.ne_bool_str (Bf I q (by simp))
  | _=>exact absurd (show false=true from hs) O4
 | int i=>
  obtain⟨t,rfl⟩:=rx;cases y with
  | non=>cases ry;exact PySem.EqNone.ne_int_none (Bf I q (by simp))
  | int j=>obtain⟨t',rfl⟩:=ry;exact ne_int (Bf I q (congrArg not Xap))
  | str j=>obtain⟨t',rfl⟩:=ry;exact PySem.EqMixed.ne_int_str (Bf I q (by simp))
  | _=>exact absurd (show false=true from hs) O4
 | str i=>
  obtain⟨t,rfl⟩:=rx;cases y with
  | non=>cases ry;exact PySem.EqNone.ne_str_none (Bf I q (by simp))
  | bl j=>cases ry;exact PySem.EqMixed.ne_str_bool (Bf I q (by simp))
  | int j=>obtain⟨t',rfl⟩:=ry;exact PySem.EqMixed.ne_str_int (Bf I q (by simp))
  | str j=>obtain⟨t',rfl⟩:=ry;exact ne_str (Bf I q (congrArg not Xaq))
  | _=>exact absurd (show false=true from hs) O4
 | byt i=>
  obtain⟨t,rfl⟩:=rx;cases y with
  | byt j=>obtain⟨t',rfl⟩:=ry;exact PySem.W.ne_bytes (Bf I q (congrArg not Xar))
  | _=>exact absurd (show false=true from hs) O4
 | _=>cases y<;>exact absurd (show false=true from hs) O4
theorem Ct:OpR X (compareOp .Lt) (rI0 λi j=>.bl (decide (i<j))):=K9 λ_ _ _ _ _ _ _ q=>lt_int q
theorem Xgu:OpR X (compareOp .Gt) (rI0 λi j=>.bl (decide (j<i))):=K9 λ_ _ _ _ _ _ _ q=>gt_int q
theorem Xas:OpR X (compareOp .GtE) (rI0 λi j=>.bl (decide (j<=i))):=K9 λ_ _ _ _ _ _ _ q=>ge_int q
theorem Xat:OpR X (compareOp .Lt) (λx y H Q=>∃i j,x = .str i/\y = .str j/\Q (.bl (decide (i.cps.toList<j.cps.toList))) H):=by
 intro pins s σ H x y v u Q I rx ry h;obtain⟨i,j,rfl,rfl,q⟩:=h;obtain⟨t,rfl⟩:=rx;obtain⟨t',rfl⟩:=ry;exact lt_str (Bf I q rfl)
def isObj:HO->Bool
 | .lst _=>true
 | .ins _ _ _=>true
 | _=>false
theorem Bc(b:Expr){op:CmpOp}(h:op ≠ .In:=by decide)(h2:op ≠ .NotIn:=by decide):behindInMarks op b=false:=by
 have e1:(op==CmpOp.In)=false:=by cases op<;>first | rfl | exact absurd rfl h
 have e2:(op==CmpOp.NotIn)=false:=by cases op<;>first | rfl | exact absurd rfl h2
 cases b<;>simp[behindInMarks,e1,e2]
theorem Iq{op:CmpOp}{r:R2}(ho:OpR X (compareOp op) r)(ha:PE X a ta)(hb:PE X b tb)(hm:behindInMarks op b=false):PE X (.Compare a [op] [b] pos) (tOp r ta tb):=by
 intro pins s σ H Q I h;exact wpAny_Compare1 (binT ha hb I h λv u s2 x y H2 I2 rx ry q=>ho pins s2 σ H2 x y v u Q I2 rx ry q) hm
def Lc (t:TE):TT:=fun σ H Q=>t σ H λx H'=>∃k,x = .bl k/\Q k H'
theorem Ay{op:CmpOp}{r:R2}(ho:OpR X (compareOp op) r)(ha:PE X a ta)(hb:PE X b tb)(hm:behindInMarks op b=false):PT X (.Compare a [op] [b] pos) (Lc (tOp r ta tb)):=by
 intro pins s σ H Q I h;refine wpAny_isTrue_Compare1 (thn (ha pins s σ H _ I h) λv s1 ⟨x,H1,I1,r1,q1⟩=>thn (hb pins s1 σ H1 _ I1 q1) λu s2 ⟨y,H2,I2,r2,q2⟩=>
  thn (ho pins s2 σ H2 x y v u _ I2 r1 r2 q2) λc s3 ⟨z,H3,I3,r3,k,e,q3⟩=>?_) hm
 subst e;cases r3;exact wpAny_truthy_bool ⟨H3,I3,q3⟩
def Ld (r r':R2) (ta tb tc:TE):TE:=fun σ H Q=>ta σ H λx H1=>tb σ H1 λy H2=>r x y H2 λz H3=>∃k,z = .bl k /\
 (if k=true then tc σ H3 λw' H4=>r' y w' H4 Q else Q (.bl false) H3)
theorem Xau{op op':CmpOp}{r r':R2}(ho:OpR X (compareOp op) r)(ho':OpR X (compareOp op') r')(ha:PE X a ta)(hb:PE X b tb)(hc:PE X c tc)
  (hm:lastMarks [op,op'] [b,c]=false:=by with_unfolding_all rfl):PE X (.Compare a [op,op'] [b,c] pos) (Ld r r' ta tb tc):=by
 intro pins s σ H Q I h;refine Compare_chain (thn (ha pins s σ H _ I h) λv s1 ⟨x,H1,I1,r1,q1⟩=>chain_link (thn (hb pins s1 σ H1 _ I1 q1) λu s2 ⟨y,H2,I2,r2,q2⟩=>
  thn (ho pins s2 σ H2 x y v u _ I2 r1 r2 q2) λd s3 ⟨z,H3,I3,r3,k,e,q3⟩=>?_)) hm
 subst e;cases r3;refine wpAny_truthy_bool ?_;cases k with
 | false=>exact ite_ff ⟨.bl false,H3,I3,rfl,q3⟩
 | true=>exact ite_tt (chain_last (thn (hc pins s3 σ H3 _ I3 q3) λw' s4 ⟨z',H4,I4,r4,q4⟩=>ho' pins s4 σ H4 y z' u w' Q I4 r2 r4 q4))
theorem Xgv{op op':CmpOp}{r r':R2}(ho:OpR X (compareOp op) r)(ho':OpR X (compareOp op') r')(ha:PE X a ta)(hb:PE X b tb)(hc:PE X c tc)
  (hm:lastMarks [op,op'] [b,c]=false:=by with_unfolding_all rfl):PT X (.Compare a [op,op'] [b,c] pos) (Lc (Ld r r' ta tb tc)):=by
 intro pins s σ H Q I h;refine isTrue_chain (thn (ha pins s σ H _ I h) λv s1 ⟨x,H1,I1,r1,q1⟩=>test_link (thn (hb pins s1 σ H1 _ I1 q1) λu s2 ⟨y,H2,I2,r2,q2⟩=>
  thn (ho pins s2 σ H2 x y v u _ I2 r1 r2 q2) λd s3 ⟨z,H3,I3,r3,k,e,q3⟩=>?_)) hm
 subst e;cases r3;refine wpAny_truthy_bool ?_;cases k with
 | false=>
  obtain⟨k',e',q'⟩:=q3;cases e';exact ite_ff ⟨H3,I3,q'⟩
 | true=>
  refine ite_tt (test_last (thn (hc pins s3 σ H3 _ I3 q3) λw' s4 ⟨z',H4,I4,r4,q4⟩=>thn (ho' pins s4 σ H4 y z' u w' _ I4 r2 r4 q4) λd' s5 ⟨z2,H5,I5,r5,k2,e2,q5⟩=>?_));subst e2;cases r5;exact wpAny_truthy_bool ⟨H5,I5,q5⟩
def TruV (K:PySem.W.Frag) (x:V) (H:Hp) (k:Bool):Prop:=
 match x with
 | .non=>k=false
 | .bl b=>k=b
 | .int i=>k=(i != 0)
 | .str y=>y.length<=sizeLine/\k=((y.length:Int) != 0)
 | .byt y=>y.size<=sizeLine/\k=((y.size:Int) != 0)
 | .ref p=>(∃xs,SqL K H p xs/\k = !xs.isEmpty)\/(∃xs,SqT K H p xs/\k = !xs.isEmpty) \/ ∃kvs,H p=some (.dK kvs)/\k = !kvs.isEmpty
 | _=>False
theorem line63:(sizeLine:Nat)<2 ^ 63:=by rw[Ti];decide
theorem Ir:OpR X (binaryOp .Add) (λx y H Q=>∃i j,x = .str i/\y = .str j/\i.length+j.length<=sizeLine/\Q (.str (i++j)) H):=by
 intro pins s σ H x y v u Q I rx ry h;obtain⟨i,j,rfl,rfl,hz,q⟩:=h;obtain⟨t,rfl⟩:=rx;obtain⟨t',rfl⟩:=ry;exact add_str (λt' tk=>⟨.str (i++j),H,I.tok _,⟨_,rfl⟩,q⟩) hz
theorem B4{x:V}{us:List Value}(r:Vals [x] us):∃u,us=[u]/\Ah x u:=by
 cases r with
 | cons r1 r2=>cases r2;exact⟨_,rfl,r1⟩
theorem vals2{x y:V}{us:List Value}(r:Vals [x,y] us):∃u w',us=[u,w']/\Ah x u/\Ah y w':=by
 cases r with
 | cons r1 r2=>
  cases r2 with
  | cons r3 r4=>cases r4;exact⟨_,_,rfl,r1,r3⟩
theorem Xav(hc:X.calm=true):Br X (.builtin "min") (λxs H Q=>∃i j,xs=[.int i,.int j]/\Q (.int (if j<i then j else i)) H):=by
 intro pins s σ H xs us Q I r h;obtain⟨i,j,rfl,q⟩:=h;obtain⟨u,w',rfl,⟨t,rfl⟩,⟨t',rfl⟩⟩:=vals2 r;refine min_two_ints (I.ok.hd hc) λh' tk k=>⟨_,H,I.kept k,?_,q⟩;by_cases hj:j<i
 ·rw[Tk hj,Tk hj];exact⟨_,rfl⟩
 ·rw[Tj hj,Tj hj];exact⟨_,rfl⟩
theorem Xaw:Br X (.type "int") (λxs H Q=>(∃i,xs=[.int i]/\Q (.int i) H) \/ ∃k,xs=[.bl k]/\Q (.int (if k then 1 else 0)) H):=by
 intro pins s σ H xs us Q I r h;rcases h with ⟨i,rfl,q⟩ | ⟨k,rfl,q⟩
 ·obtain⟨u,rfl,t,rfl⟩:=B4 r;exact call_int_int ⟨.int i,H,I,⟨_,rfl⟩,q⟩
 ·obtain⟨u,rfl,r1⟩:=B4 r;cases r1;exact call_int_bool ⟨.int (if k then 1 else 0),H,I.tok _,⟨_,rfl⟩,q⟩
def LenV (K:PySem.W.Frag) (x:V) (H:Hp) (n:Nat):Prop:=
 match x with
 | .str y=>y.length<=sizeLine/\n=y.length
 | .byt y=>y.size<=sizeLine/\n=y.size
 | .ref p=>(∃xs,SqL K H p xs/\n=xs.length) \/ ∃xs,SqT K H p xs/\n=xs.length
 | _=>False
end
structure ObjM (h:Heap) (x dx C:Addr) (mA:Str->Option Value):Prop where
 obj:h.get? x=some (PySem.W.instObj C dx)
 ns:h.Ns1 dx mA
 ne:dx≠x
theorem Xgw{h:Heap}{dx:Addr}{mA:Str->Option Value}(n:h.Ns1 dx mA):∃od,h.get? dx=some od/\∀name,PySem.W.lookIn name od=some (mA name):=by
 obtain⟨o,es,ep,ho,hd,hk,_,hm⟩:=n;refine⟨o,ho,λname=>?_⟩;have e:=hm name;unfold nsFind findBy at e;rw[<-Array.find?_toList] at e;unfold PySem.W.lookIn;rw[hd];dsimp only;split
 ·rename_i y q;rw[q] at e;exact congrArg some e
 ·rename_i q;rw[q] at e;have a:es.toList.any (·.refKey)=false:=by
   rw[List.any_eq_false];intro y hy;obtain⟨z,t,hkey⟩:=hk y (Array.mem_toList_iff.mp hy);simp[DictEntry.refKey,hkey]
  have a':¬es.toList.any (·.refKey)=true:=by rw[a];exact O4
  rw[Tj a'];exact congrArg some e
theorem ObjM.look{h:Heap}{x dx C:Addr}{mA:Str->Option Value}(I:ObjM h x dx C mA):∃od,PySem.W.InstAt h x (PySem.W.instObj C dx) C (some od)/\∀name,PySem.W.lookIn name od=some (mA name):=
 let ⟨od,ho,hl⟩:=Xgw I.ns
 ⟨od,⟨I.obj,rfl,rfl,ho⟩,hl⟩
section
variable {prog:Program}{w:World}{A:Around}{E:Value->Shared->Prop}{s:Shared}{K:PySem.W.Frag}{x dx C f:Addr}{mA:Str->Option Value}{name:Str}{v:Value}
end
def Lf (f:Str) (v:V):List (Str×V)->List (Str×V)
 | []=>[(f,v)]
 | (g,x)::r=>if g=f then (g,v)::r else (g,x)::Lf f v r
theorem Cq.some_of{v:V}{o:Option Value}(r:Cq (some v) o):∃u,o=some u/\Ah v u:=by
 cases o with
 | none=>exact(show False from r).elim
 | some u=>exact⟨u,rfl,r⟩
section
variable {P:Program}{w:World}{H H':Hp}{h h':Heap}{a C dx:Addr}{fs fs':List (Str×V)}
theorem Xgx(hok:HOk P w H h)(e:H a=some (.ins C dx fs)):∃mA,ObjM h a dx C mA/\(∀f,Cq (fs.lookup f) (mA f))/\PySem.Within mA (fs.map (·.1))/\fs.length<=1000/\H dx=some (.own a):=by
 obtain⟨d,z,ne,ob,mA,n,r,q⟩:=(show A0 P w H h a (.ins C dx fs) from hok a _ e);exact⟨mA,⟨ob,n,ne⟩,r,q,z,d⟩
end
structure Cls (K:PySem.W.Frag) (C:Addr):Prop where
 pg:PySem.W.plainGet K C Str.empty=true
 hd:PySem.W.hasDictIn K C=true
 po:PySem.W.plainOver K C=true
 sa:PySem.W.findIn K (.ref C) "__setattr__" = some (some (.builtin "object.__setattr__"))
theorem Cls.get{K:PySem.W.Frag}{C:Addr}(c:Cls K C)(f:Str):PySem.W.plainGet K C f=true:=c.pg
def Lg (K:PySem.W.Frag) (C:Addr) (f:Str):Prop:=PySem.W.findIn K (.ref C) f=some none
structure Con (K:PySem.W.Frag) (C:Addr) (f:Str) (v:V) (u:Value):Prop where
 at_:PySem.W.findIn K (.ref C) f=some (some u)
 rel:Ah v u
 get:PySem.W.specialIn K u "__get__" = some none
 cp:PySem.W.copiedNames.contains f=false
structure Meth (K:PySem.W.Frag) (C:Addr) (m:Str) (f:Addr):Prop where
 at_:PySem.W.findIn K (.ref C) m=some (some (.ref f))
 fn:PySem.W.isFn K (.ref f)=true
 kp:PySem.W.keepIn K (.ref f)=true
section
variable {X:Cx}{pins:List (Addr×Obj)}{σ:St}{H:Hp}{s:Shared}{a C dx:Addr}{fs:List (Str×V)}{f:Str}{v:V}{A:Around}{E:Value->Shared->Prop}
end
def tFld (K:PySem.W.Frag) (ta:TE) (f:Str):TE:=fun σ H Q=>ta σ H λx H1=>∃a C dx fs v,x = .ref a/\H1 a=some (.ins C dx fs)/\Cls K C/\Lg K C f/\fs.lookup f=some v/\Q v H1
def tCon (K:PySem.W.Frag) (ta:TE) (f:Str):TE:=fun σ H Q=>ta σ H λx H1=>∃a C dx fs v u,x = .ref a/\H1 a=some (.ins C dx fs)/\Cls K C/\Con K C f v u/\fs.lookup f=none/\Q v H1
def sFld (K:PySem.W.Frag) (ta tv:TE) (f:Str):TS:=λD σ H=>tv σ H λy H1=>ta σ H1 λx H2=>∃a C dx fs,x = .ref a/\H2 a=some (.ins C dx fs)/\Cls K C/\Lg K C f/\fs.length<1000 /\
 D.nx σ (upd H2 a (.ins C dx (Lf f y fs)))
def InOp (X:Cx) (op:Operator) (rd:V->V->Hp->VK->Prop):Prop:=
 ∀(pins:List (Addr×Obj)) (s:Shared) (σ:St) (H:Hp) (x y:V) (u v:Value) (Q:VK),Inv X pins σ H s->Ah x u->Ah y v->rd x y H Q->wpAny (model X.prog X.w) X.A (inplaceOp op u v) (EP X pins σ Q) X.xe s
def Xqm (K:PySem.W.Frag) (ta tv:TE) (rd:V->V->Hp->VK->Prop) (f:Str):TS:=λD σ H=>ta σ H λx H1=>∃a C dx fs v,x = .ref a/\H1 a=some (.ins C dx fs)/\Cls K C/\Lg K C f/\fs.lookup f=some v /\
 tv σ H1 λy H2=>rd v y H2 λz H3=>∃dx' fs',H3 a=some (.ins C dx' fs')/\fs'.length<1000/\D.nx σ (upd H3 a (.ins C dx' (Lf f z fs')))
section
variable {X:Cx}{o e value:Expr}{f:Str}{pos pos' tpos:Pos}{ta tv:TE}
end
section
variable {X:Cx}{pins:List (Addr×Obj)}{σ:St}{H:Hp}{s:Shared}{A:Around}{E:Value->Shared->Prop}{Q:Value->Shared->Prop}{c:Value}{b:Bool}
inductive TyOf (K:PySem.W.Frag) (H:Hp):V->Value->Prop where
 | non:TyOf K H .non (.type "NoneType")
 | bl (x:Bool):TyOf K H (.bl x) (.type "bool")
 | int (i:Int):TyOf K H (.int i) (.type "int")
 | str (x:Str):TyOf K H (.str x) (.type "str")
 | flt (x:UInt64):TyOf K H (.flt x) (.type "float")
 | lst {a:Addr} {xs:List V} (e:H a=some (.lst xs)):TyOf K H (.ref a) (.type "list")
 | frz {a:Addr} {o:Obj} {xs:List V} (e:H a=some (.frz o (.lst xs))):TyOf K H (.ref a) (.type "list")
 | tup {a:Addr} {xs:List V} (e:H a=some (.tup xs)):TyOf K H (.ref a) (.type "tuple")
 | dK {a:Addr} {kvs:List (Key×V)} (e:H a=some (.dK kvs)):TyOf K H (.ref a) (.type "dict")
 | dT {a:Addr} {kvs:List (List Key×V)} (e:H a=some (.dT kvs)):TyOf K H (.ref a) (.type "dict")
 | ins {a C dx:Addr} {fs:List (Str×V)} (e:H a=some (.ins C dx fs)) (cl:Cls K C) (ha:PySem.W.findIn K (.ref C) "__class__" = some (some (.builtin "object.__class__")))
   (hn:PySem.W.specialIn K (.builtin "object.__class__") "__get__" = some (some (.builtin "getset_descriptor.__get__"))) (htk:PySem.W.takesIn K (.builtin "object.__class__")=some true)
   (hm:PySem.W.mroIn K C (.type "object")=some true):TyOf K H (.ref a) (.ref C)
theorem Xgy{x:V}{u t:Value}(I:Inv X pins σ H s)(rx:Ah x u)(ty:TyOf X.K H x t)(e:PySem.W.kitOne X.K t c=some b)(h:∀tk,Q (.bool b) {s with toks:=tk}):
  wpAny (model X.prog X.w) A (call (.builtin "isinstance") [u,c]) Q E s:=by
 cases ty with
 | non=>cases (show u=Value.none from rx);exact PySem.W.kia_one PySem.W.kitx_none I.kIn True.intro e (λz=>nomatch z) h
 | bl y=>cases (show u=Value.bool y from rx);exact PySem.W.kia_one PySem.W.kitx_bool I.kIn True.intro e (λz=>nomatch z) h
 | int i=>obtain⟨t,q⟩:=(show ∃t,u=Value.int i t from rx);cases q;exact PySem.W.kia_one PySem.W.kitx_int I.kIn True.intro e (λz=>nomatch z) h
 | str y=>obtain⟨t,q⟩:=(show ∃t,u=Value.str y t from rx);cases q;exact PySem.W.kia_one PySem.W.kitx_str I.kIn True.intro e (λz=>nomatch z) h
 | flt y=>obtain⟨t,q⟩:=(show ∃t,u=Value.float y t from rx);cases q;exact PySem.W.kia_one PySem.W.kitx_float I.kIn True.intro e (λz=>nomatch z) h
 | @lst a xs ea=>
  cases (show u=Value.ref a from rx);obtain⟨_,_,n,_,h1⟩:=(show A0 X.prog X.w H s.heap a (.lst xs) from I.hok a _ ea);exact PySem.W.kia_one PySem.W.kitx_list I.kIn ⟨_,h1,rfl⟩ e (λz=>nomatch z) h
 | @frz a ob xs ea=>
  cases (show u=Value.ref a from rx);obtain⟨_,_,_,n,_,h1⟩:=(show A0 X.prog X.w H s.heap a (.frz ob (.lst xs)) from I.hok a _ ea);exact PySem.W.kia_one PySem.W.kitx_list I.kIn ⟨_,h1,rfl⟩ e (λz=>nomatch z) h
 | @tup a xs ea=>
  cases (show u=Value.ref a from rx);obtain⟨_,_,_,p⟩:=(show A0 X.prog X.w H s.heap a (.tup xs) from I.hok a _ ea);obtain⟨o,h1,h2,_⟩:=p;exact PySem.W.kia_one PySem.W.kitx_tuple I.kIn ⟨o,h1,h2⟩ e (λz=>nomatch z) h
 | @dK a kvs ea=>
  cases (show u=Value.ref a from rx);obtain⟨_,_,vs,_,p⟩:=(show A0 X.prog X.w H s.heap a (.dK kvs) from I.hok a _ ea);obtain⟨o,es,ep,h1,h2,_⟩:=p;exact PySem.W.kia_one PySem.W.kitx_dict I.kIn ⟨o,h1,h2.1⟩ e (λz=>nomatch z) h
 | @dT a kvs ea=>
  cases (show u=Value.ref a from rx);obtain⟨_,_,xs,_,o,es,ep,h1,h2,_⟩:=(show A0 X.prog X.w H s.heap a (.dT kvs) from I.hok a _ ea);exact PySem.W.kia_one PySem.W.kitx_dict I.kIn ⟨o,h1,h2.1⟩ e (λz=>nomatch z) h
 | @ins a C dx fs ea cl ha hn htk hm=>
  cases (show u=Value.ref a from rx);obtain⟨mA,O,_⟩:=Xgx I.hok ea;obtain⟨od,J,_⟩:=O.look;exact PySem.W.kia_one (PySem.W.kitx_own (cl.get _) cl.hd ha hn htk hm) I.kIn J e (λz=>nomatch z) h
end
structure Room (k:Nat) (A:Around):Prop where
 hd:A.handled=none
 dp:A.depth+3 * k+5<recursionLimit
 un:A.units+16 * k+200<cLine
 gd:A.guards=some []
theorem Room.mono{j k:Nat}{A:Around}(r:Room k A)(h:j<=k):Room j A:=⟨r.hd,by have:=r.dp;omega,by have:=r.un;omega,r.gd⟩
theorem Room.deeper{k:Nat}{A:Around}(r:Room (k+1) A)(env:Env):Room k (A.deeper env):=
 ⟨r.hd,by have:=r.dp;show A.depth+1+3 * k+5<_;omega,by have:=r.un;show A.units+3+16 * k+200<_;omega,r.gd⟩
theorem Room.in1{k:Nat}{A:Around}(r:Room (k+1) A):Room k A.in1:=
 ⟨r.hd,by have:=r.dp;show A.depth+3 * k+5<_;omega,by have:=r.un;show A.units+1+16 * k+200<_;omega,r.gd⟩
theorem Room.depth{k:Nat}{A:Around}(r:Room k A):A.depth<recursionLimit:=by have:=r.dp;omega
theorem Room.units{k:Nat}{A:Around}(r:Room k A):A.units+64<cLine:=by have:=r.un;omega
theorem Room.units0{k:Nat}{A:Around}(r:Room k A):A.units<cLine:=by have:=r.un;omega
def E9:TA:=λ_ H Q=>Q [] H
def El (ta:TE) (tr:TA):TA:=fun σ H Q=>ta σ H λx H1=>tr σ H1 λxs H2=>Q (x::xs) H2
section
variable {X:Cx}{e:Expr}{es:List Expr}{te:TE}{t:TA}{pos:Pos}
theorem Ab:PA X [] E9:=λ_ _ _ _ H Q I h=>Calls.spliced_nil ⟨[],H,I,.nil,h⟩
theorem Aa(ha:PE X e te)(hr:PA X es t)(hs:starEach (e::es) X.env=(false,eval e X.env)::starEach es X.env:=by rfl):PA X (e::es) (El te t):=by
 intro pos pins s σ H Q I h;rw[hs];show wpAny _ _ (spliced ((false,eval e X.env)::backTo pos (starEach es X.env))) _ _ s;refine Calls.spliced_cons (thn (ha pins s σ H _ I h) λu s1 ⟨x,H1,I1,r1,q1⟩=>?_);exact thn (hr pos pins s1 σ H1 _ I1 q1) λus s2 ⟨xs,H2,I2,r2,q2⟩=>⟨x::xs,H2,I2,.cons r1 r2,q2⟩
def Lh (t:TA):TE:=fun σ H Q=>t σ H λxs H1=>xs.length<=sizeLine/\∀p,H1 p=none->Q (.ref p) (upd H1 p (.tup xs))
def tLst (t:TA):TE:=fun σ H Q=>t σ H λxs H1=>xs.length<=sizeLine/\∀p,H1 p=none->Q (.ref p) (upd H1 p (.lst xs))
theorem B0{x1}(h:PA X es t):PE X (.Tuple es x1 pos) (Lh t):=by
 intro pins s σ H Q I hq;refine wpAny_Tuple_spliced (thn (h pos pins s σ H _ I hq) λus s1 ⟨xs,H1,I1,r,z,q⟩=>⟨by rw[<-r.length];exact z,?_⟩);have hf:H1 s1.heap.objs.size=none:=I1.hok.fresh (Oq _);refine⟨.ref s1.heap.objs.size,upd H1 s1.heap.objs.size (.tup xs),I1.laid (t':=s1.toks) (λb u e=>Tr _ e) (Oq _) ?_,rfl,q _ hf⟩;exact⟨z,us,r,⟨_,Heap.get?_push_size _ rfl,rfl,_,rfl⟩⟩
theorem B1(h:PA X es t):PE X (.List es pos) (tLst t):=by
 intro pins s σ H Q I hq;refine wpAny_List_spliced (thn (h pos pins s σ H _ I hq) λus s1 ⟨xs,H1,I1,r,z,q⟩=>⟨by rw[<-r.length];exact z,?_⟩);have hf:H1 s1.heap.objs.size=none:=I1.hok.fresh (Oq _);refine⟨.ref s1.heap.objs.size,upd H1 s1.heap.objs.size (.lst xs),I1.laid (t':=s1.toks) (λb u e=>Tr _ e) (Oq _) ?_,rfl,q _ hf⟩;exact⟨z,us,0,r,Heap.get?_push_size _ rfl⟩
end
abbrev Sp:=List V->Hp->VK->XK->Prop
abbrev CXT:=List Env->Hp->Shared->XK->Value->Shared->Prop
structure Env0 (P:Program) (w:World) (K:PySem.W.Frag) (mg:Str->Option Value) (base:Heap) (A:Around) (outer:List Env) (s:Shared) (H:Hp):Prop where
 frames:A.frames=some outer
 mod:Mod K mg base
 bs:∀b o,base.get? b=some o->s.heap.get? b=some o/\H b=none
 bsz:base.objs.size<=s.heap.objs.size
 funs:s.heap.FunFrames base outer
 frf:∀b∈frs outer,H b=none
 hok:HOk P w H s.heap
 bare:AllBare s.gens
def CE (outer:List Env) (P:Program) (w:World) (H:Hp) (s:Shared) (Q:VK) (u:Value) (s':Shared):Prop:=
 ∃v H',s'.os=s.os/\AllBare s'.gens/\Un (frs outer) [] H H' s.heap s'.heap/\HOk P w H' s'.heap/\Ah v u/\Q v H'
def CR (CX:CXT) (outer:List Env) (P:Program) (w:World) (H:Hp) (s:Shared) (Q:VK) (E:XK) (r:Result) (s':Shared):Prop:=
 match r with
 | .ok (.ret u)=>CE outer P w H s Q u s'
 | .ok _=>False
 | .error e=>CX outer H s E e s'
structure FnOk (P:Program) (w:World) (K:PySem.W.Frag) (mg:Str->Option Value) (base:Heap) (CX:CXT) (k:Nat) (f:Addr) (fd:FuncData) (ps:List Str) (sp:Sp):Prop where
 len:∀vs H Q E,sp vs H Q E->vs.length=ps.length
 run:∀(A:Around) (outer:List Env) (s:Shared) (H:Hp) (args:Args) (us:List Value) (vs:List V) (Q:VK) (E:XK),Room k A->Env0 P w K mg base A outer s H->BindsTo s fd args (ps.zip us)->Vals vs us->sp vs H Q E ->
  codeAny (model P w) A (.call (.ref f) args) (CR CX outer P w H s Q E) s
theorem Env0.in1{P:Program}{w:World}{K:PySem.W.Frag}{mg:Str->Option Value}{base:Heap}{A:Around}{outer:List Env}{s:Shared}{H:Hp}(e:Env0 P w K mg base A outer s H):
  Env0 P w K mg base A.in1 outer s H:=⟨e.frames,e.mod,e.bs,e.bsz,e.funs,e.frf,e.hok,e.bare⟩
section
variable {X:Cx}{pins:List (Addr×Obj)}{σ:St}{H:Hp}{s s':Shared}
theorem Inv.env0(I:Inv X pins σ H s):Env0 X.prog X.w X.K X.mg X.base X.A X.stack s H:=
 ⟨I.ok.frames,I.ok.mod,I.bs,Pr I.ok.bsz I.sz,I.stack,I.stkFree,I.hok,I.bare⟩
theorem Inv.after{Q:VK}{u:Value}(I:Inv X pins σ H s)(h:CE X.stack X.prog X.w H s Q u s'):EP X pins σ Q u s':=by
 obtain⟨v,H',os,bare,un,hok,r,q⟩:=h;obtain⟨hh,g,d,t,os'⟩:=s';obtain rfl:os'=s.os:=os;exact⟨v,H',I.call (h':=hh) (g':=g) (d':=d) (t':=t) (ch:=[]) un hok bare (λb z=>absurd z (by simp)),r,q⟩
end
def Xax (sp:Sp) (dvs:List V) (E:XK) (t:TA):TE:=fun σ H Q=>t σ H λvs H1=>sp (vs++dvs) H1 Q E
def tMeth (C:Addr) (m:Str) (sp:Sp) (dvs:List V) (E:XK) (ta:TE) (t:TA):TE:=fun σ H Q=>ta σ H λx H1=>∃a dx fs,x = .ref a/\H1 a=some (.ins C dx fs)/\fs.lookup m=none /\
 t σ H1 λvs H2=>sp (x::(vs++dvs)) H2 Q E
def tMake (C:Addr) (sp:Sp) (dvs:List V) (E:XK) (t:TA):TE:=fun σ H Q=>t σ H λvs H1=>∀x dx,H1 x=none->H1 dx=none->dx≠x ->
 sp (.ref x::(vs++dvs)) (upd (upd H1 dx (.own x)) x (.ins C dx [])) (λv H2=>v = .non/\Q (.ref x) H2) E
def Binds (K:PySem.W.Frag) (fd:FuncData) (ps:List Str) (ds:List Value):Prop:=
 ∀(s:Shared) (us:List Value),K.In s.heap->(us++ds).length=ps.length->BindsTo s fd ⟨us,[]⟩ (ps.zip (us++ds))
theorem Binds.all{K:PySem.W.Frag}{fd:FuncData}{ps:List Str}(h:∀us:List Value,us.length=ps.length->bindArgs fd ⟨us,[]⟩=pure (ps.zip us)):Binds K fd ps []:=λs us _ hl=>by
 rw[Qa] at hl ⊢;exact .of_eq (h us hl)
def Passes (CX:CXT) (X:Cx) (E:XK):Prop:=∀(pins:List (Addr×Obj)) (σ:St) (H:Hp) (s:Shared) (e:Value) (s':Shared),Inv X pins σ H s->CX X.stack H s E e s'->X.xe e s'
section
variable {X:Cx}{CX:CXT}{k:Nat}{f C:Addr}{fd:FuncData}{ps:List Str}{sp:Sp}{dvs:List V}{ds:List Value}{E:XK}{x m:Str}{p pos apos:Pos}{e o:Expr}{es:List Expr}{ta:TE}{t:TA}
theorem Xgz{pins:List (Addr×Obj)}{σ:St}{H:Hp}{s:Shared}{Q:VK}{us:List Value}{vs:List V}(F:FnOk X.prog X.w X.K X.mg X.base CX k f fd ps sp)(hr:Room k X.A)(hb:Binds X.K fd ps ds)(hd:Vals dvs ds)(hx:Passes CX X E)
  (I:Inv X pins σ H s) (r:Vals vs us) (h:sp (vs++dvs) H Q E):wpAny (model X.prog X.w) X.A (call (.ref f) us) (EP X pins σ Q) X.xe s:=by
 have r2:Vals (vs++dvs) (us++ds):=r.append hd;have hl:(us++ds).length=ps.length:=by rw[<-r2.length];exact F.len _ _ _ _ h
 refine wpAny_call (codeAny_mono (F.run X.A X.stack s H ⟨us,[]⟩ (us++ds) (vs++dvs) Q E hr I.env0 (hb s us I.kIn hl) r2 h) λr s' hq=>?_);cases r with
 | error e=>exact hx pins σ H s e s' I hq
 | ok fl=>
  cases fl with
  | ret u=>exact I.after hq
  | next=>exact False.elim hq
  | brk=>exact False.elim hq
  | cont=>exact False.elim hq
theorem Xg0(F:FnOk X.prog X.w X.K X.mg X.base CX k f fd ps sp)(hr:Room k X.A)(hg:Gl X x)(hm:X.mg x=some (.ref f))(hk:PySem.W.keepIn X.K (.ref f)=true)(hb:Binds X.K fd ps ds)(hd:Vals dvs ds)(hx:Passes CX X E)
  (ha:PA X (e::es) t) (hdb:(x==("__debug__" : Str))=false:=by decide) (he:starEach (e::es) X.env=(false,eval e X.env)::starEach es X.env:=by rfl) (hpl:(backTo pos (starEach es X.env)).any (·.1)=false:=by rfl):
  PE X (.Call (.Name x p) (e::es) [] pos) (Xax sp dvs E t):=by
 intro pins s σ H Q I h;refine wpAny_Call_Name_kw (Im I hg hm ?_ hdb);refine PySem.W.callWith_K (h₀:=X.base) I.ok.mod.kin hk (thn (ha pos pins s σ H _ I h) λus s1 ⟨vs,H1,I1,r,q⟩=>⟨I1.kIn,?_⟩) he hpl;exact Xgz F hr hb hd hx I1 r q
structure Mk (K:PySem.W.Frag) (C f:Addr):Prop where
 makes:PySem.W.makesIn K C=true
 init:PySem.W.findIn K (.ref C) "__init__" = some (some (.ref f))
 fn:PySem.W.isFn K (.ref f)=true
 kp:PySem.W.keepIn K (.ref C)=true
end
def PK (X:Cx) (kws:List Keyword) (t:TA):Prop:=
 ∀(pos:Pos) (pins:List (Addr×Obj)) (s:Shared) (σ:St) (H:Hp) (Q:List V->Hp->Prop),Inv X pins σ H s->t σ H Q->wpAny (model X.prog X.w) X.A (evalAll ((backToKw pos (keywordEach kws X.env)).map (·.2))) (AP X pins σ Q) X.xe s
section
variable {X:Cx}{CX:CXT}{k:Nat}{f C:Addr}{fd:FuncData}{ps ks:List Str}{sp:Sp}{E:XK}{x m:Str}{p pos apos kpos:Pos}{e o:Expr}{es:List Expr}{kws:List Keyword}{te ta:TE}{t tk:TA}{nm:Option Str}
theorem Xg1:PK X [] E9:=λ_ _ _ _ H Q I h=>wpAny_evalAll_nil ⟨[],H,I,.nil,h⟩
theorem Xg2(ha:PE X e te)(hr:PK X kws t):PK X (⟨nm,e,kpos⟩::kws) (El te t):=by
 intro pos pins s σ H Q I h
 show wpAny _ _ (evalAll ((do let v <-eval e X.env;standAt pos;pure v)::(backToKw pos (keywordEach kws X.env)).map (·.2))) _ _ s;refine wpAny_evalAll_cons (Te (thn (ha pins s σ H _ I h) λu s1 ⟨x,H1,I1,r1,q1⟩=>Te (wpAny_standAt (Tf ?_))));exact thn (hr pos pins s1 σ H1 _ I1 q1) λus s2 ⟨xs,H2,I2,r2,q2⟩=>⟨x::xs,H2,I2,.cons r1 r2,q2⟩
structure KBinds (K:PySem.W.Frag) (fd:FuncData) (ps ks:List Str) (g:List Value->List Value->List Value) (gV:List V->List V->List V):Prop where
 to:∀(s:Shared) (us ws:List Value),K.In s.heap->(g us ws).length=ps.length->BindsTo s fd ⟨us,ks.zip ws⟩ (ps.zip (g us ws))
 rel:∀{vs:List V} {us:List Value} {zs:List V} {ws:List Value},Vals vs us->Vals zs ws->Vals (gV vs zs) (g us ws)
variable {g:List Value->List Value->List Value}{gV:List V->List V->List V}
end
structure FnScope (N P:List Str) (sc:Scope):Prop where
 kind:sc.kind = .function
 co:sc.isCoroutine=false
 gen:sc.isGenerator=false
 nd:N.Nodup
 pre:N.take P.length=P
 par:∀x∈P,sc.names.lookup x=some .local\/sc.names.lookup x=some .cell
 nofree:∀y∈sc.names,y.2 ≠ .free
theorem Xay{kindOf:Str->Option NameKind}{x:Str}:∀{binds:List (Str×Value)} {m:Str->Option Value},(∀v,(x,v)∉binds)->bindL kindOf binds m x=m x
 | [],_,_=>rfl
 | (n,v)::r,m,h=>by
  unfold bindL;rw[Xay λw hw=>h w (Ou _ hw)];split
  ·have:x≠n:=by rintro rfl;exact h v Ow
   simp[this]
  ·rfl
theorem Xaz{kindOf:Str->Option NameKind}{x:Str}:∀{binds:List (Str×Value)} {m:Str->Option Value},(∀v,(x,v)∉binds)->bindC kindOf binds m x=m x
 | [],_,_=>rfl
 | (n,v)::r,m,h=>by
  unfold bindC;rw[Xaz λw hw=>h w (Ou _ hw)];split
  ·rfl
  ·have:x≠n:=by rintro rfl;exact h v Ow
   simp[this]
theorem Xa0{kindOf:Str->Option NameKind}{x:Str}{v:Value}:∀{P:List Str} {vs:List Value} {i:Nat} {m:Str->Option Value},P.Nodup->P[i]? = some x->vs[i]? = some v->kindOf x=some .local ->
  bindL kindOf (P.zip vs) m x=some v
 | [],_,_,_,_,h,_,_=>by simp at h
 | _::_,[],_,_,_,_,h,_=>by simp at h
 | p::P,w::vs,0,m,nd,h1,h2,hk=>by
  simp at h1 h2;subst h1;subst h2;show bindL kindOf ((p,w)::P.zip vs) m p=_;unfold bindL;rw[Xay λv hv=>(Qf.mp nd).1 (Sk hv).1,Tk hk];simp
 | p::P,w::vs,i+1,m,nd,h1,h2,hk=>by
  show bindL kindOf ((p,w)::P.zip vs) m x=_;unfold bindL;exact Xa0 (i:=i) (Qf.mp nd).2 (by simpa using h1) (by simpa using h2) hk
theorem Xa1{kindOf:Str->Option NameKind}{x:Str}{v:Value}:∀{P:List Str} {vs:List Value} {i:Nat} {m:Str->Option Value},P.Nodup->P[i]? = some x->vs[i]? = some v->kindOf x≠some .local ->
  bindC kindOf (P.zip vs) m x=some v
 | [],_,_,_,_,h,_,_=>by simp at h
 | _::_,[],_,_,_,_,h,_=>by simp at h
 | p::P,w::vs,0,m,nd,h1,h2,hk=>by
  simp at h1 h2;subst h1;subst h2;show bindC kindOf ((p,w)::P.zip vs) m p=_;unfold bindC;rw[Xaz λv hv=>(Qf.mp nd).1 (Sk hv).1,Tj hk];simp
 | p::P,w::vs,i+1,m,nd,h1,h2,hk=>by
  show bindC kindOf ((p,w)::P.zip vs) m x=_;unfold bindC;exact Xa1 (i:=i) (Qf.mp nd).2 (by simpa using h1) (by simpa using h2) hk
def start (N:List Str) (vs:List V):St:=vs.map some++List.replicate (N.length - vs.length) none
def Cj (CX:CXT) (P:Program) (w:World) (K:PySem.W.Frag) (mg:Str->Option Value) (base:Heap) (N:List Str) (qual:Str) (scope:Scope) (f:Addr) (cd:Value) (A:Around) (outer:List Env) (s:Shared) (H:Hp) (E:XK):Cx where
 prog:=P
 w:=w
 K:=K
 mg:=mg
 base:=base
 A:=A.deeper (envOfC qual scope s.heap.objs.size f cd)
 N:=N
 s₀:=s
 H₀:=H
 env:=envOfC qual scope s.heap.objs.size f cd
 outer:=outer
 stack:=envOfC qual scope s.heap.objs.size f cd::outer
 ex:=[]
 calm:=true
 fn:=λ_=>true
 pn:=[]
 xe:=λe s'=>wpAny (model P w) (A.deeper (envOfC qual scope s.heap.objs.size f cd)) (leaving (envOfC qual scope s.heap.objs.size f cd) e) (λ_ s''=>CX outer H s E e s'') (λe' s''=>CX outer H s E e' s'') s'
theorem Xa2{sc:Scope}{n:Nat}{x:Str}(h:sc.names.lookup x=some .cell):∃c,(cellsFrom n sc.names []).lookup x=some c:=by
 have q:=PySem.W.cellsFrom_some sc.names n [] (.inl h);exact Qz.mp q
theorem Xa3{CX:CXT}{P:Program}{w:World}{K:PySem.W.Frag}{mg:Str->Option Value}{base:Heap}{N ps:List Str}{qual:Str}{scope:Scope}{f:Addr}{cd:Value}{A:Around}{outer:List Env}{s s1:Shared}{H:Hp}{E:XK}{us:List Value}{vs:List V}
  (S:FnScope N ps scope) (hd:A.handled=none) (e0:Env0 P w K mg base A outer s H) (hl:vs.length=ps.length) (r:Vals vs us)
  (x:InCallC s s.heap.objs.size (bindL (envOfC qual scope s.heap.objs.size f cd).kindOf (ps.zip us) λ_=>none) (cellsFrom (s.heap.objs.size+1) scope.names []) (bindC (envOfC qual scope s.heap.objs.size f cd).kindOf (ps.zip us) λ_=>none) s1):
  Inv (Cj CX P w K mg base N qual scope f cd A outer s H E) [] (start N vs) H s1:=by
 have hpl:ps.length<=N.length:=by have:=congrArg List.length S.pre;rw[O3] at this;omega
 obtain⟨h1,tk,rfl,hk⟩:=x.done;have noA:∀b:Addr,b∉(Cj CX P w K mg base N qual scope f cd A outer s H E).ex:=λb z=>absurd (show b∈([]:List Addr) from z) (by simp);refine⟨⟨e0.mod,S.kind,rfl,rfl,Oq _,λy z c h1 h2=>?_,λy hy=>?_,λy c _ h=>?_,λ_=>hd,Around.frames_deeper e0.frames,.inr ⟨rfl,rfl⟩,λb z=>absurd z (noA b),e0.bs,e0.bsz,λb _ _=>noA b,λb z=>absurd z (noA b),e0.funs,e0.frf⟩,
  rfl,e0.bare,Un.kept hk,⟨_,x.toInCall.ns,λi y v h1 h2 h3=>?_⟩,λy c h=>⟨_,x.cell y c h⟩,e0.hok.fresh (Oq _),λy c h=>?_,λp hp=>absurd (show p∈([]:List (Addr×Obj)) from hp) (by simp),e0.hok.kept hk,?_⟩
 ·exact name_of_addr x.apart (PySem.mem_of_lookup h1) (PySem.mem_of_lookup h2)
 ·have hy:scope.names.lookup y=some .cell\/scope.names.lookup y=some .free:=hy;rcases hy with hy | hy
  ·exact Xa2 hy
  ·exact absurd rfl (S.nofree _ (PySem.mem_of_lookup hy))
 ·exact R5 (x.above y c (PySem.mem_of_lookup h))
 ·have hi:i<vs.length:=by
   unfold start at h2;by_cases hi:i<vs.length
   ·exact hi
   ·rw[Rc (by simpa using hi)] at h2;rw[List.getElem?_replicate] at h2;split at h2<;>cases h2
  have ha:vs[i]? = some v:=by
   unfold start at h2;rw[Qw (by simpa using hi),O2] at h2;cases e:vs[i]? with
   | none=>rw[e] at h2;cases h2
   | some a=>rw[e] at h2;cases h2;rfl
  obtain⟨u,hu,rv⟩:=r.get ha;have hp:ps[i]? = some y:=by
   rw[<-S.pre,R6 (by omega)];exact h1
  have ndP:ps.Nodup:=by rw[<-S.pre];exact S.nd.sublist (P1 _ _)
  refine⟨u,rv,?_⟩;rcases S.par y (Rm hp) with k | k
  ·exact .inl ⟨k,Xa0 ndP hp hu k⟩
  ·obtain⟨c,e⟩:=Xa2 (n:=s.heap.objs.size+1) k;refine .inr ⟨.inl k,c,e,?_⟩;have q:=x.cell y c e;rw[Xa1 ndP hp hu (by show scope.names.lookup y≠_;rw[k];decide)] at q;exact q
 ·exact e0.hok.fresh (R5 (x.above y c (PySem.mem_of_lookup h)))
 ·unfold start;show _=N.length;rw[Oy,Oo,List.length_replicate];omega
theorem Li{CX:CXT}{P:Program}{w:World}{K:PySem.W.Frag}{mg:Str->Option Value}{base:Heap}{k:Nat}{f:Addr}{name qual:Str}{params:Arguments}{body:List Stmt}{scope:Scope}{dV kV doc pm cdv ct oc:Value}{an od:Option Addr}
  {osl:Array (Option Value)} {N ps:List Str} {sp:Sp} (lk:K.lookup f=some ⟨oc,od,.func (PySem.W.fnOf name qual params body scope dV kV doc pm an cdv ct),osl⟩) (hcd:PySem.W.codeIn K cdv qual=true) (S:FnScope N ps scope)
  (len:∀vs H Q E,sp vs H Q E->vs.length=ps.length)
  (hbody:∀(A:Around) (outer:List Env) (s:Shared) (H:Hp) (vs:List V) (Q:VK) (E:XK),Room k (A.deeper (envOfC qual scope s.heap.objs.size f cdv))->sp vs H Q E ->
   ∃t,PSs (Cj CX P w K mg base N qual scope f cdv A outer s H E) body t/\t {nx:=λ_ H'=>Q .non H',rt:=Q} (start N vs) H):
  FnOk P w K mg base CX (k+1) f (PySem.W.fnOf name qual params body scope dV kV doc pm an cdv ct) ps sp:=by
 refine⟨len,λA outer s H args us vs Q E hr e0 hb r hsp=>?_⟩;have hl:=len _ _ _ _ hsp;have KX:K.In s.heap:=e0.mod.kin.keeps λb o e=>(e0.bs b o e).1;have lim:s.heap.NoLimit:=e0.mod.nolimit.keeps λb o e=>(e0.bs b o e).1;have hkind:∀y∈ps.zip us,scope.names.lookup y.1=some .local\/(scope.names.lookup y.1=some .cell/\((cellsFrom (s.heap.objs.size+1) scope.names []).lookup y.1).isSome=true):=λ⟨n,v⟩ hy=>by
  rcases S.par n (Sk hy).1 with q | q
  ·exact .inl q
  ·exact .inr ⟨q,PySem.W.cellsFrom_some _ _ _ (.inl q)⟩
 refine codeAny_call_function hr.depth (KX _ _ lk) rfl S.co S.gen rfl (PySem.W.codeRec_of KX hcd) (hb _ _ _ _ ?_);refine wpAny_newFunctionEnv_cells S.kind hkind λenv he s1 x=>?_;subst he;refine⟨lim.keeps x.toInCall.keep,codeAny_func ?_⟩;obtain⟨t,ht,hq⟩:=hbody A outer s H vs Q E (hr.deeper _) hsp;have I:Inv (Cj CX P w K mg base N qual scope f cdv A outer s H E) [] (start N vs) H s1:=Xa3 S hr.hd e0 hl r x;refine wpAny_mono (ht [] s1 (start N vs) H _ I hq) (λfl s' hs=>?_) λe s' hs=>hs;have fin:∀{σ':St} {H':Hp} {v:V} {u:Value},Inv (Cj CX P w K mg base N qual scope f cdv A outer s H E) [] σ' H' s'->Ah v u->Q v H'->CE outer P w H s Q u s':=
  λ{σ' H' v u} J rv q=>⟨v,H',J.os,J.bare,J.base,J.hok,rv,q⟩
 cases fl with
 | ret u=>
  obtain⟨v, σ',H',J,rv,q⟩:=hs;exact fin J rv q
 | next=>
  obtain⟨σ',H',J,q⟩:=hs;exact fin (v:=V.non) (u:=Value.none) J rfl q
 | brk=>
  obtain⟨_,_,_,q⟩:=hs;exact False.elim q
 | cont=>
  obtain⟨_,_,_,q⟩:=hs;exact False.elim q
section
variable {X:Cx}{x:Str}{p pos:Pos}{e:Expr}{es:List Expr}{t:TA}{id T:String}{r:List V->Hp->VK->Prop}
def tCB (r:List V->Hp->VK->Prop) (t:TA):TE:=fun σ H Q=>t σ H λvs H1=>r vs H1 Q
theorem Ba(hc:Br X (.builtin id) r)(hg:Gl X x)(hm:X.mg x=none)(hv:bootBuiltins x=some (.builtin id))(ha:PA X (e::es) t)(hn:x ≠ "__name__" := by decide)(hdb:(x==("__debug__" : Str))=false:=by decide)
  (he:starEach (e::es) X.env=(false,eval e X.env)::starEach es X.env:=by rfl) (hpl:(backTo pos (starEach es X.env)).any (·.1)=false:=by rfl):PE X (.Call (.Name x p) (e::es) [] pos) (tCB r t):=by
 intro pins s σ H Q I h;refine wpAny_Call_Name_kw (Fr I hg hm hv ?_ hn hdb);exact PyProof.Rows.callWith_builtin1 (thn (ha pos pins s σ H _ I h) λus s1 ⟨vs,H1,I1,r1,q1⟩=>hc pins s1 σ H1 vs us Q I1 r1 q1) he hpl
theorem Df(hc:Br X (.type T) r)(hg:Gl X x)(hm:X.mg x=none)(hv:bootBuiltins x=some (.type T))(ha:PA X (e::es) t)(hn:x ≠ "__name__" := by decide)(hdb:(x==("__debug__" : Str))=false:=by decide)
  (he:starEach (e::es) X.env=(false,eval e X.env)::starEach es X.env:=by rfl) (hpl:(backTo pos (starEach es X.env)).any (·.1)=false:=by rfl):PE X (.Call (.Name x p) (e::es) [] pos) (tCB r t):=by
 intro pins s σ H Q I h;refine wpAny_Call_Name_kw (Fr I hg hm hv ?_ hn hdb);exact PyProof.Rows.callWith_type1 (thn (ha pos pins s σ H _ I h) λus s1 ⟨vs,H1,I1,r1,q1⟩=>hc pins s1 σ H1 vs us Q I1 r1 q1) he hpl
end
end L2
namespace HT
open PySem PyProof.Rows
def Xg3:List Int->List Int->Bool
 | [],[]=>false
 | [],_::_=>true
 | _::_,[]=>false
 | x::xs,y::ys=>if x=y then Xg3 xs ys else decide (x<y)
section
open PySem.SeqAt
open PySem.AutoSeq1 (wpAny_loadPart')
open PySem.MeetsSeq PySem.MeetsSeq2 PySem.MeetsSeq3
end
section
variable {prog:Program}{w:World}{A:Around}{E:Value->Shared->Prop}{s:Shared}
theorem cat_tup{t b:Addr}{vs ws:List Value}{Q:Value->Shared->Prop}(ht:IsTup s.heap t vs.toArray)(hb:IsTup s.heap b ws.toArray)(hv:vs≠[])
  (h1:ws=[]->Q (.ref t) s) (h2:ws≠[]->Q (.ref s.heap.objs.size) {s with heap:=s.heap.push {cls:=.type "tuple",data:=.seq (vs++ws).toArray} })
  (hsz:vs.length+ws.length<=sizeLine):wpAny (model prog w) A (binaryOp .Add (.ref t) (.ref b)) Q E s:=by
 obtain⟨⟨cls,dd,data,sl⟩,ho,hc,n,hd⟩:=id ht;obtain⟨⟨cls2,dd2,data2,sl2⟩,ho2,hc2,n2,hd2⟩:=id hb;simp only at hc hd hc2 hd2;subst hc hd hc2 hd2;have e:vs.toArray++ws.toArray=(vs++ws).toArray:=by simp
 by_cases hw:ws=[]
 ·exact concat_meets ⟨_,ho,rfl⟩ ⟨_,ho2,rfl⟩ noFill_tuple_add seq_tuple_add PySem.F.slot_tuple_add PySem.F.entry_tuple_add (PySem.F.args_tuple_add_2 _ _)
   (tuple_addW1 t b vs.toArray ws.toArray n n2 dd dd2 sl sl2 (by simpa using hv) (by simp[hw])) ⟨ho,ho2,h1 hw⟩
 ·refine concat_meets ⟨_,ho,rfl⟩ ⟨_,ho2,rfl⟩ noFill_tuple_add seq_tuple_add PySem.F.slot_tuple_add PySem.F.entry_tuple_add (PySem.F.args_tuple_add_2 _ _)
   (tuple_addW2 t b vs.toArray ws.toArray n n2 dd dd2 sl sl2 (by simpa using hv) (by simpa using hw) (by rw[Ox,Ox];exact hsz)) ⟨ho,ho2,?_⟩
  rw[e];exact h2 hw
def sIx (n d:Nat):Option Int->Nat
 | none=>d
 | some v=>if v<0 then (v+(n:Int)).toNat else min v.toNat n
theorem sIx_none(n d:Nat):sIx n d none=d:=rfl
theorem sIx_nat(n d k:Nat):sIx n d (some (k:Int))=min k n:=by
 show (if (k:Int)<0 then ((k:Int)+(n:Int)).toNat else min (k:Int).toNat n)=min k n;rw[Tj (by omega),Qh]
end
end HT
namespace L2
open PySem PySem.Spec PyProof.Rows
abbrev TO:=St->Hp->(Option Int->Hp->Prop)->Prop
def PO (X:Cx) (e:Option Expr) (t:TO):Prop:=
 ∀(pins:List (Addr×Obj)) (s:Shared) (σ:St) (H:Hp) (Q:Option Int->Hp->Prop),Inv X pins σ H s->t σ H Q ->
  wpAny (model X.prog X.w) X.A (evalPart e X.env) (λu s'=>∃o H',Inv X pins σ H' s'/\IsPart u o/\Q o H') X.xe s
def Xg4:TO:=λ_ H Q=>Q none H
def Xg5 (t:TE):TO:=fun σ H Q=>t σ H λx H1=>∃i,x = .int i/\Q (some i) H1
section
variable {X:Cx}{e:Expr}{te:TE}{lo hi:Option Expr}{tl th:TO}{pos p2:Pos}
theorem Dg:PO X none Xg4:=by
 intro pins s σ H Q I h;rw[evalPart_none];exact Tf ⟨none,H,I,.none,h⟩
theorem Cu(h:PE X e te):PO X (some e) (Xg5 te):=by
 intro pins s σ H Q I hw;rw[evalPart_some];refine thn (h pins s σ H _ I hw) λu s1 ⟨x,H1,I1,r1,q1⟩=>?_;obtain⟨i,rfl,q⟩:=q1;obtain⟨t,rfl⟩:=r1;exact⟨some i,H1,I1,.int i t,q⟩
def SlR (X:Cx) (r:V->Option Int->Option Int->Hp->VK->Prop):Prop:=
 ∀(pins:List (Addr×Obj)) (s:Shared) (σ:St) (H:Hp) (x:V) (v vl vu:Value) (lo hi:Option Int) (sl:Addr) (Q:VK),Inv X pins σ H s->Ah x v->s.heap.IsSliceOf sl vl vu .none->IsPart vl lo->IsPart vu hi->r x lo hi H Q ->
  ∃T id,typeLookup (.type T) "__getitem__" = pure (some (.builtin id))/\s.TypeIs v T/\wpAny (model X.prog X.w) X.A (getItem v (.ref sl)) (EP X pins σ Q) X.xe s
def tSl (r:V->Option Int->Option Int->Hp->VK->Prop) (te:TE) (tl th:TO):TE:=fun σ H Q=>te σ H λx H1=>tl σ H1 λl H2=>th σ H2 λu H3=>r x l u H3 Q
theorem C5{r:V->Option Int->Option Int->Hp->VK->Prop}(hr:SlR X r)(he:PE X e te)(hl:PO X lo tl)(hu:PO X hi th):PE X (.Subscript e (.Slice lo hi none p2) pos) (tSl r te tl th):=by
 intro pins s σ H Q I h;refine Subscript_ (thn (he pins s σ H _ I h) λv s1 ⟨x,H1,I1,r1,q1⟩=>?_);refine wpAny_Slice (thn (hl pins s1 σ H1 _ I1 q1) λvl s2 ⟨l,H2,I2,pl,q2⟩=>thn (hu pins s2 σ H2 _ I2 q2) λvu s3 ⟨u,H3,I3,pu,q3⟩=>?_);rw[evalPart_none];refine Tf ?_;have I4:Inv X pins σ H3 {s3 with heap:=s3.heap.push {cls:=.type "slice",data:=.fields #[vl,vu,.none]} }:=I3.kept (t':=s3.toks) λb ob q=>Tr _ q;obtain⟨T,id,hT,ht,hg⟩:=hr pins {s3 with heap:=s3.heap.push {cls:=.type "slice",data:=.fields #[vl,vu,.none]} } σ H3 x v vl vu l u s3.heap.objs.size Q I4 r1 (Heap.IsSliceOf.new ..) pl pu q3;show wpAny (model X.prog X.w) X.A (subscriptTail e (.Slice lo hi none p2) v (.ref s3.heap.objs.size)) (EP X pins σ Q) X.xe {s3 with heap:=s3.heap.push {cls:=.type "slice",data:=.fields #[vl,vu,.none]} };exact tail_any (ops:=[.ref s3.heap.objs.size,v]) ht hT hg (by with_unfolding_all rfl)
def B5 (xs:List V) (lo hi:Option Int):List V:=(xs.drop (HT.sIx xs.length 0 lo)).take (HT.sIx xs.length xs.length hi - HT.sIx xs.length 0 lo)
theorem Xg6(xs:List V)(lo hi:Option Int):(B5 xs lo hi).length<=xs.length:=by
 unfold B5;rw[O3,P8];omega
def rSlT (K:PySem.W.Frag):V->Option Int->Option Int->Hp->VK->Prop:=λx lo hi H Q=>∃a xs,x = .ref a/\SqT K H a xs /\
 ¬(HT.sIx xs.length 0 lo=0/\HT.sIx xs.length xs.length hi=xs.length)/\∀p,H p=none->Q (.ref p) (upd H p (.tup (B5 xs lo hi)))
def Xg7 (K:PySem.W.Frag):R2:=λx y H Q=>∃a b xs ys,x = .ref a/\y = .ref b/\SqT K H a xs/\SqT K H b ys/\xs≠[]/\xs.length+ys.length<=sizeLine /\
 (ys=[]->Q (.ref a) H)/\(ys≠[]->∀p,H p=none->Q (.ref p) (upd H p (.tup (xs++ys))))
theorem Vals.nil_iff{xs:List V}{us:List Value}(r:Vals xs us):us=[]↔xs=[]:=by
 cases r with
 | nil=>simp
 | cons _ _=>simp
theorem Xg8:OpR X (binaryOp .Add) (Xg7 X.K):=by
 intro pins s σ H x y v u Q I rx ry h;obtain⟨a,b,xs,ys,rfl,rfl,ha,hb,hx,hz,q1,q2⟩:=h;cases rx;cases ry;obtain⟨its,r1,p1,_⟩:=I.tuple ha;obtain⟨its2,r2,p2,_⟩:=I.tuple hb;refine HT.cat_tup p1 p2 (λz=>hx (r1.nil_iff.mp z)) (λz=>⟨.ref a,H,I,rfl,q1 (r2.nil_iff.mp z)⟩) (λz=>?_) (by rw[<-r1.length,<-r2.length];exact hz);refine⟨.ref s.heap.objs.size,_,I.laid (t':=s.toks) (o:=.tup (xs++ys)) (λb ob q=>Tr _ q) (Oq _) ?_,rfl,q2 (λw=>z (r2.nil_iff.mpr w)) _ (I.hok.fresh (Oq _))⟩;exact⟨by rw[Oy];exact hz,_,r1.append r2,IsTup.new _ _⟩
end
def ixN (n:Nat) (i:Int):Option Nat:=if 0<=i then (if i<n then some i.toNat else none) else if -(n:Int)<=i then some (i+n).toNat else none
def atI {α : Type} (xs:List α) (i:Int):Option α:=(ixN xs.length i).bind λj=>xs[j]?
theorem Xa4{n:Nat}{i:Int}{j:Nat}(h:ixN n i=some j):seqIndex? i n=some j/\j<n /\ -(n:Int)<=i/\i<n:=by
 unfold ixN at h;by_cases h0:0<=i
 ·rw[Tk h0] at h;by_cases h1:i<n
  ·rw[Tk h1] at h;have e:i.toNat=j:=Pa h;exact⟨by rw[seqIndex_of h0 h1,e],by omega,by omega,h1⟩
  ·rw[Tj h1] at h;cases h
 ·rw[Tj h0] at h;by_cases h1 : -(n:Int)<=i
  ·rw[Tk h1] at h;have e:(i+n).toNat=j:=Pa h;exact⟨by rw[seqIndex_neg (by omega) h1,e],by omega,h1,by omega⟩
  ·rw[Tj h1] at h;cases h
theorem Lj{α : Type}{xs:List α}{i:Int}{v : α}(h:atI xs i=some v):∃j,seqIndex? i xs.length=some j/\xs[j]? = some v/\j<xs.length /\ -(xs.length:Int)<=i/\i<xs.length:=by
 unfold atI at h;cases e:ixN xs.length i with
 | none=>rw[e] at h;cases h
 | some j=>
  rw[e] at h;obtain⟨h1,h2,h3,h4⟩:=Xa4 e;exact⟨j,h1,h,h2,h3,h4⟩
theorem D6{α : Type}{xs:List α}{j:Nat}{v : α}(h:xs[j]? = some v):atI xs (j:Int)=some v:=by
 have hj:j<xs.length:=(Pb.mp h).1;have e:ixN xs.length (j:Int)=some j:=by
  unfold ixN;rw[Tk (by omega),Tk (by omega)];simp
 unfold atI;rw[e];exact h
def Xg9 (b:Expr):Prop:=∀o i,subscripted b false o i=operate [o,i] (getItem o i)
def IxR (X:Cx) (r:R2):Prop:=
 ∀(value slice:Expr) (pins:List (Addr×Obj)) (s:Shared) (σ:St) (H:Hp) (x y:V) (v u:Value) (Q:VK),Inv X pins σ H s->Ah x v->Ah y u->r x y H Q ->
  subscripted slice false v u=operate [v,u] (getItem v u)->wpAny (model X.prog X.w) X.A (subscriptTail value slice v u) (EP X pins σ Q) X.xe s
def MtR (X:Cx) (id:String) (r:V->List V->Hp->VK->Prop):Prop:=
 ∀(pins:List (Addr×Obj)) (s:Shared) (σ:St) (H:Hp) (x:V) (xs:List V) (v:Value) (us:List Value) (Q:VK),Inv X pins σ H s->Ah x v->Vals xs us->r x xs H Q ->
  wpAny (model X.prog X.w) X.A (call (.builtin id) (v::us)) (EP X pins σ Q) X.xe s
section
variable {X:Cx}{a b:Expr}{ta tb:TE}{pos:Pos}
theorem Ax{r:R2}(hr:IxR X r)(ha:PE X a ta)(hb:PE X b tb)(hs:Xg9 b):PE X (.Subscript a b pos) (tOp r ta tb):=by
 intro pins s σ H Q I h;exact Subscript_ (binT ha hb I h λv u s2 x y H2 I2 rx ry q=>hr a b pins s2 σ H2 x y v u Q I2 rx ry q (hs _ _))
def Lk (K:PySem.W.Frag):R2:=λx y H Q=>∃p xs i v,x = .ref p/\y = .int i/\SqL K H p xs/\atI xs i=some v/\Q v H
def Ll (K:PySem.W.Frag):R2:=λx y H Q=>∃p xs i v,x = .ref p/\y = .int i/\SqT K H p xs/\atI xs i=some v/\Q v H
def Xa5:R2:=λx y H Q=>∃z i c,x = .str z/\y = .int i/\z.length<=sizeLine/\atI z.cps.toList i=some c/\Q (.str ⟨#[c]⟩) H
theorem Bj:IxR X (Lk X.K):=by
 intro value slice pins s σ H x y v u Q I rx ry h hs;obtain⟨p,xs,i,z,rfl,rfl,hq,he,q⟩:=h;cases rx;obtain⟨t,rfl⟩:=ry;obtain⟨its,r,pl,hz⟩:=I.list hq;obtain⟨j,h1,h2,h3,h4,h5⟩:=Lj he;obtain⟨w,ew,rw'⟩:=r.get h2;have hl:=r.length;have hn:=line63;have fin:EP X pins σ Q w s:=⟨z,H,I,rw',q⟩;by_cases h0:0<=i
 ·have hj:i.toNat=j:=by
   rw[seqIndex_of h0 h5] at h1;exact Pa h1
  exact item_listR pl.isList h0 (by omega) (by rw[hj];simpa using ew) fin hs
 ·have hj:(i+(its.toArray.size:Int)).toNat=j:=by
   rw[seqIndex_neg (by omega) h4] at h1;rw[Ox,<-hl];exact Pa h1
  exact subscriptTail_builtinR (x:=w) pl.isList.typeIs slot_list_getitem.lookup
   (wpAny_getItem_list_neg (Q:=λr s'=>r=w/\EP X pins σ Q r s') pl.isList (by omega) (by rw[Ox]<;>omega) (by omega) (by rw[hj];simpa using ew) ⟨rfl,fin⟩) hs
theorem Fw:IxR X (Ll X.K):=by
 intro value slice pins s σ H x y v u Q I rx ry h hs;obtain⟨p,xs,i,z,rfl,rfl,hq,he,q⟩:=h;cases rx;obtain⟨t,rfl⟩:=ry;obtain⟨its,r,pl,hz⟩:=I.tuple hq;obtain⟨j,h1,h2,h3,h4,h5⟩:=Lj he;obtain⟨w,ew,rw'⟩:=r.get h2;have hl:=r.length;have hn:=line63;have fin:EP X pins σ Q w s:=⟨z,H,I,rw',q⟩;exact subscriptTail_builtinR (x:=w) pl.typeIs slot_tuple_getitem.lookup
  (getItem_tuple (j:=j) (Q:=λr s'=>r=w/\EP X pins σ Q r s') pl (by omega) (by omega) (by rw[Ox,<-hl];exact h1) (by simpa using ew) ⟨rfl,fin⟩) hs
theorem Xha:IxR X Xa5:=by
 intro value slice pins s σ H x y v u Q I rx ry h hs;obtain⟨z,i,c,rfl,rfl,hz,he,q⟩:=h;obtain⟨t,rfl⟩:=rx;obtain⟨t',rfl⟩:=ry;obtain⟨j,h1,h2,h3,h4,h5⟩:=Lj he;have hl:z.cps.toList.length=z.length:=by simp[Str.length]
 rw[hl] at h1 h4 h5;have hn:=line63;exact tail_any (typeIs_str s z t) slot_str_getitem.lookup (getItem_str (c:=c) (by
  have e1:decide (i < -(2 ^ 63:Int))=false:=Tm (by omega);have e2:decide (i ≥ 2 ^ 63)=false:=Tm (by omega);rw[e1,e2,S8]) (by rw[h1];simpa using h2) ⟨.str ⟨#[c]⟩,H,I.tok _,⟨_,rfl⟩,q⟩) hs
def rIx (K:PySem.W.Frag):R2:=λx y H Q=>Lk K x y H Q\/Ll K x y H Q\/Xa5 x y H Q
theorem Xhb(its:List Value)(n j:Nat)(u:Value):Obj.mapSeq (·.setIfInBounds j u) {cls:=.type "list",data:=.seq its.toArray n} = {cls:=.type "list",data:=.seq (its.set j u).toArray n}:=by
 simp[Obj.mapSeq]
theorem Inv.lst{pins:List (Addr×Obj)}{σ:St}{H:Hp}{s:Shared}{p:Addr}{xs:List V}(I:Inv X pins σ H s)(h:H p=some (.lst xs)):
  ∃(its:List Value) (n:Nat),Vals xs its/\s.heap.get? p=some {cls:=.type "list",data:=.seq its.toArray n}/\xs.length<=sizeLine:=by
 obtain⟨z,its,n,r,e⟩:=I.hok p _ h;exact⟨its,n,r,e,z⟩
theorem Inv.lstUpd{pins:List (Addr×Obj)}{σ:St}{H:Hp}{s:Shared}{p:Addr}{xs ys:List V}{its its':List Value}{n n':Nat}{f:Obj->Obj}(I:Inv X pins σ H s)(h:H p=some (.lst xs))
  (ho:s.heap.get? p=some {cls:=.type "list",data:=.seq its.toArray n}) (hf:f {cls:=.type "list",data:=.seq its.toArray n} = {cls:=.type "list",data:=.seq its'.toArray n'}) (r:Vals ys its') (hz:ys.length<=sizeLine) (t:Nat):
  Inv X pins σ (upd H p (.lst ys)) {s with heap:=s.heap.update p f,toks:=t}:=by
 have e:(s.heap.update p f).get? p=some {cls:=.type "list",data:=.seq its'.toArray n'}:=by
  rw[Heap.get?_update_self f ho (by rw[hf]<;>rfl),hf]
 refine I.write (x:=p) (e:=p) (by rw[h];trivial) (.inl rfl) (λb u hb q=>(Heap.get?_update_other _ _ (Ne.symm hb)).trans q) ⟨_,e⟩ ?_;exact⟨hz,its',n',r,e⟩
def Xhc:V->V->V->Hp->(Hp->Prop)->Prop:=λo i v H Q=>∃p xs k j,o = .ref p/\i = .int k/\H p=some (.lst xs)/\ixN xs.length k=some j/\Q (upd H p (.lst (xs.set j v)))
theorem Fa:PSet X Xhc:=by
 intro pins s σ H o i v ov iv u Q I ro ri rv h;obtain⟨p,xs,k,j,rfl,rfl,hp,hj,q⟩:=h;cases ro;obtain⟨t,rfl⟩:=ri;obtain⟨its,n,r,ho,hz⟩:=I.lst hp;obtain⟨h1,h2,h3,h4⟩:=Xa4 hj;have hl:=r.length;have hn:=line63;have I':Inv X pins σ (upd H p (.lst (xs.set j v))) {s with heap:=s.heap.update p (Obj.mapSeq (·.setIfInBounds j u))}:=
  I.lstUpd hp ho (Xhb its n j u) (r.set rv j) (by rw[List.length_set];exact hz) s.toks
 by_cases h0:0<=k
 ·have hk:k.toNat=j:=by
   rw[seqIndex_of h0 h4] at h1;exact Pa h1
  exact PySem.W.ki_setAt ho h0 (by omega) (by rw[Ox,<-hl];exact h4) (by rw[hk];exact⟨_,I',q⟩)
 ·have hk:(k+(its.toArray.size:Int)).toNat=j:=by
   rw[seqIndex_neg (by omega) h3] at h1;rw[Ox,<-hl];exact Pa h1
  exact PySem.W.ki_setBack ho (by omega) (by rw[Ox,<-hl];exact h3) (by omega) (by rw[hk];exact⟨_,I',q⟩)
theorem Xhd(lo hi:Option Int)(n:Nat):(sliceBounds lo hi none n).1=((HT.sIx n 0 lo:Nat):Int)/\(sliceBounds lo hi none n).2.1=((HT.sIx n n hi:Nat):Int)/\(sliceBounds lo hi none n).2.2=1:=by
 refine⟨?_,?_,rfl⟩
 ·cases lo with
  | none=>simp[sliceBounds,HT.sIx]
  | some i=>
   simp only[sliceBounds,HT.sIx,Option.getD_none,show (1:Int) > 0 by decide,if_true];by_cases h:i<0
   ·simp only[h,if_true]<;>omega
   ·simp only[h,if_false]<;>omega
 ·cases hi with
  | none=>simp[sliceBounds,HT.sIx]
  | some i=>
   simp only[sliceBounds,HT.sIx,Option.getD_none,show (1:Int) > 0 by decide,if_true];by_cases h:i<0
   ·simp only[h,if_true]<;>omega
   ·simp only[h,if_false]<;>omega
theorem Xhe(its:List Value)(lo hi:Option Int):slicePick its.toArray lo hi none=((its.drop (HT.sIx its.length 0 lo)).take (HT.sIx its.length its.length hi - HT.sIx its.length 0 lo)).toArray:=by
 obtain⟨h1,h2,h3⟩:=Xhd lo hi its.toArray.size;unfold slicePick;rw[h1,h2,h3];simp only[sliceRange_one,pick_run,Ox]<;>rfl
def rSlL (K:PySem.W.Frag):V->Option Int->Option Int->Hp->VK->Prop:=λx lo hi H Q=>∃a xs,x = .ref a/\SqL K H a xs/\∀p,H p=none->Q (.ref p) (upd H p (.lst (B5 xs lo hi)))
theorem Dh:SlR X (rSlL X.K):=by
 intro pins s σ H x v vl vu lo hi sl Q I rx hs pl pu h;obtain⟨a,xs,rfl,hx,q⟩:=h;cases rx;obtain⟨its,r,ht,hz⟩:=I.list hx;have hlen:=r.length;refine⟨"list",_,slot_list_getitem.lookup,ht.isList.typeIs,?_⟩;refine wpAny_getItem_list_slice ht.isList hs pl pu .none (by simp) ?_ (by rw[Ox]<;>omega);rw[Xhe,<-hlen];refine⟨.ref s.heap.objs.size,_,I.laid (t':=s.toks) (o:=.lst (B5 xs lo hi)) (λb ob q=>Tr _ q) (Oq _) ?_,rfl,q _ (I.hok.fresh (Oq _))⟩;exact⟨Pr (Xg6 xs lo hi) hz,_,0,(r.drop (HT.sIx xs.length 0 lo)).take (HT.sIx xs.length xs.length hi - HT.sIx xs.length 0 lo),Heap.get?_push_size _ rfl⟩
def Ck:V->Bool
 | .non=>true
 | .bl _=>true
 | .int _=>true
 | .str _=>true
 | _=>false
def eqV:V->V->Bool
 | .non,.non=>true
 | .bl a,.bl b=>a==b
 | .bl a,.int b=>(if a then 1 else 0)==b
 | .int a,.bl b=>a==(if b then 1 else 0)
 | .int a,.int b=>a==b
 | .str a,.str b=>a==b
 | _,_=>false
theorem Xa6{A:Around}{s:Shared}{y x:V}{u v:Value}(ry:Ah y u)(rx:Ah x v)(fy:Ck y=true)(fx:Ck x=true):SeqAt.EqAt A s u v (eqV y x):=by
 cases y with
 | non=>
  cases ry;cases x with
  | non=>cases rx;exact SeqAt.EqAt.same _
  | bl b=>cases rx;exact SeqAt.EqAt.none_bool b
  | int b=>obtain⟨t,rfl⟩:=rx;exact SeqAt.EqAt.none_int b t
  | str b=>obtain⟨t,rfl⟩:=rx;exact SeqAt.EqAt.none_str b t
  | _=>exact absurd (show false=true from fx) O4
 | bl a=>
  cases ry;cases x with
  | non=>cases rx;exact SeqAt.EqAt.bool_none a
  | bl b=>cases rx;exact SeqAt.EqAt.bool_bool a b
  | int b=>obtain⟨t,rfl⟩:=rx;exact SeqAt.EqAt.bool_int a b t
  | str b=>obtain⟨t,rfl⟩:=rx;exact SeqAt.EqAt.bool_str a b t
  | _=>exact absurd (show false=true from fx) O4
 | int a=>
  obtain⟨t',rfl⟩:=ry;cases x with
  | non=>cases rx;exact SeqAt.EqAt.int_none a t'
  | bl b=>cases rx;exact SeqAt.EqAt.int_bool a t' b
  | int b=>obtain⟨t,rfl⟩:=rx;exact SeqAt.EqAt.int_int a t' b t
  | str b=>obtain⟨t,rfl⟩:=rx;exact SeqAt.EqAt.int_str a t' b t
  | _=>exact absurd (show false=true from fx) O4
 | str a=>
  obtain⟨t',rfl⟩:=ry;cases x with
  | non=>cases rx;exact SeqAt.EqAt.str_none a t'
  | bl b=>cases rx;exact SeqAt.EqAt.str_bool a t' b
  | int b=>obtain⟨t,rfl⟩:=rx;exact SeqAt.EqAt.str_int a t' b t
  | str b=>obtain⟨t,rfl⟩:=rx;exact SeqAt.EqAt.str_str a t' b t
  | _=>exact absurd (show false=true from fx) O4
 | _=>exact absurd (show false=true from fy) O4
def eqU (x:V) (u:Value):Bool:=match u with
 | .none=>eqV .non x
 | .bool b=>eqV (.bl b) x
 | .int i _=>eqV (.int i) x
 | .str z _=>eqV (.str z) x
 | _=>false
theorem Xa7{x y:V}{u:Value}(r:Ah y u)(f:Ck y=true):eqU x u=eqV y x:=by
 cases y with
 | non=>cases r;rfl
 | bl b=>cases r;rfl
 | int i=>obtain⟨t,rfl⟩:=r;rfl
 | str z=>obtain⟨t,rfl⟩:=r;rfl
 | _=>exact absurd (show false=true from f) O4
theorem Gv{x:V}:∀{xs:List V} {us:List Value},Vals xs us->xs.all Ck=true->us.any (eqU x)=xs.any λy=>eqV y x
 | _,_,.nil,_=>rfl
 | y::xs,u::us,.cons r t,f=>by
  rw[List.all_cons,O9] at f;rw[Sj,Sj,Xa7 r f.1,Gv t f.2]
theorem Gw{A:Around}{s:Shared}{x:V}{v:Value}(rx:Ah x v)(fx:Ck x=true):∀{xs:List V} {us:List Value},Vals xs us->xs.all Ck=true->∀u∈us,SeqAt.EqAt A s u v (eqU x u)
 | _,_,.nil,_=>λu hu=>by cases hu
 | y::xs,u::us,.cons r t,f=>λu' hu=>by
  rw[List.all_cons,O9] at f;rcases O6.mp hu with rfl | hu
  ·rw[Xa7 r f.1];exact Xa6 r rx f.1 fx
  ·exact Gw rx fx t f.2 u' hu
def inV (x:V) (xs:List V):Bool:=xs.any λy=>eqV y x
def rIn (K:PySem.W.Frag) (neg:Bool):R2:=λx y H Q=>∃p xs,y = .ref p/\(SqL K H p xs\/SqT K H p xs)/\Ck x=true/\xs.all Ck=true/\Q (.bl (if neg then !inV x xs else inV x xs)) H
theorem Lm:OpR X (compareOp .In) (rIn X.K false):=by
 intro pins s σ H x y v u Q I rx ry h;obtain⟨p,xs,rfl,hq,fx,fs,q⟩:=h;cases ry;rcases hq with hq | hq
 ·obtain⟨its,r,pl,hz⟩:=I.list hq;refine SeqAt.in_listAt (eqU x) pl.isList (λw hw=>Gw rx fx r fs w (by simpa using hw)) ⟨.bl _,H,I,rfl,?_⟩;rw[show its.toArray.any (eqU x)=its.any (eqU x) by simp,Gv r fs];exact q
 ·obtain⟨its,r,pl,hz⟩:=I.tuple hq;refine SeqAt.in_tupleAt (eqU x) pl (λw hw=>Gw rx fx r fs w (by simpa using hw)) ⟨.bl _,H,I,rfl,?_⟩;rw[show its.toArray.any (eqU x)=its.any (eqU x) by simp,Gv r fs];exact q
theorem Ln:OpR X (compareOp .NotIn) (rIn X.K true):=by
 intro pins s σ H x y v u Q I rx ry h;obtain⟨p,xs,rfl,hq,fx,fs,q⟩:=h;cases ry;rcases hq with hq | hq
 ·obtain⟨its,r,pl,hz⟩:=I.list hq;refine SeqAt.notIn_listAt (eqU x) pl.isList (λw hw=>Gw rx fx r fs w (by simpa using hw)) ⟨.bl _,H,I,rfl,?_⟩;rw[show its.toArray.any (eqU x)=its.any (eqU x) by simp,Gv r fs];exact q
 ·obtain⟨its,r,pl,hz⟩:=I.tuple hq;refine SeqAt.notIn_tupleAt (eqU x) pl (λw hw=>Gw rx fx r fs w (by simpa using hw)) ⟨.bl _,H,I,rfl,?_⟩;rw[show its.toArray.any (eqU x)=its.any (eqU x) by simp,Gv r fs];exact q
theorem Cv:Br X (.builtin "len") (λxs H Q=>∃p ys,xs=[.ref p]/\(SqL X.K H p ys\/SqT X.K H p ys)/\Q (.int ys.length) H):=by
 intro pins s σ H xs us Q I r h;obtain⟨p,ys,rfl,hq,q⟩:=h;obtain⟨u,rfl,rx⟩:=B4 r;cases rx;have hn:=line63;rcases hq with hq | hq
 ·obtain⟨its,r',pl,hz⟩:=I.list hq;have hlen:=r'.length;exact Calls.call_len_list pl.isList (by simp only[Ox]<;>omega) ⟨.int ys.length,H,I.tok _,⟨s.toks+1,by rw[Ox,hlen]⟩,q⟩
 ·obtain⟨its,r',pl,hz⟩:=I.tuple hq;have hlen:=r'.length;exact len_tuple pl (by simp only[Ox]<;>omega) ⟨.int ys.length,H,I.tok _,⟨s.toks+1,by rw[Ox,hlen]⟩,q⟩
theorem Xa8:Br X (.type "list") (λxs H Q=>∃p ys,xs=[.ref p]/\(SqL X.K H p ys\/SqT X.K H p ys)/\∀l,H l=none->Q (.ref l) (upd H l (.lst ys))):=by
 intro pins s σ H xs us Q I r h;obtain⟨p,ys,rfl,hq,q⟩:=h;obtain⟨u,rfl,rx⟩:=B4 r;cases rx;have fin:∀(its:List Value),Vals ys its->ys.length<=sizeLine->∀(h':Heap) (c':Nat),(∀b o',s.heap.get? b=some o'->h'.get? b=some o') ->
   h'.get? s.heap.objs.size=some {cls:=.type "list",dict:=none,data:=.seq its.toArray c',slots := #[]}->EP X pins σ Q (.ref s.heap.objs.size) {s with heap:=h'}:=λits r' hz h' c' kp e=>
  ⟨.ref s.heap.objs.size,_,I.laid (t':=s.toks) kp (Oq _) (show A0 X.prog X.w _ h' _ (.lst ys) from ⟨hz,its,c',r',e⟩),rfl,q _ (I.hok.fresh (Oq _))⟩
 rcases hq with hq | hq
 ·obtain⟨its,r',pl,hz⟩:=I.list hq;have hlen:=r'.length;obtain⟨o,ho,hc,n,hd⟩:=pl.isList;exact call_list_seq p (.inl rfl) ho hc hd (λh' c' kp e=>fin its r' hz h' c' kp e) (by simp only[Ox]<;>omega)
 ·obtain⟨its,r',pl,hz⟩:=I.tuple hq;have hlen:=r'.length;obtain⟨o,ho,hc,n,hd⟩:=pl;exact call_list_seq p (.inr rfl) ho hc hd (λh' c' kp e=>fin its r' hz h' c' kp e) (by simp only[Ox]<;>omega)
theorem Xa9:Br X (.type "tuple") (λxs H Q=>∃p ys,xs=[.ref p]/\((SqL X.K H p ys/\∀l,H l=none->Q (.ref l) (upd H l (.tup ys)))\/(SqT X.K H p ys/\Q (.ref p) H))):=by
 intro pins s σ H xs us Q I r h;obtain⟨p,ys,rfl,h⟩:=h;obtain⟨u,rfl,rx⟩:=B4 r;cases rx;rcases h with ⟨hq,q⟩ | ⟨hq,q⟩
 ·obtain⟨its,r',pl,hz⟩:=I.list hq;have hlen:=r'.length;refine call_tuple_list pl.isList (λh' kp=>?_) (by simp only[Ox]<;>omega);have I1:Inv X pins σ H {s with heap:=h'}:=I.kept (t':=s.toks) kp;have I2:Inv X pins σ (upd H h'.objs.size (.tup ys)) {s with heap:=h'.push {cls:=.type "tuple",data:=.seq its.toArray} }:=
   I1.laid (t':=s.toks) (λb o e=>Tr _ e) (Oq _) (show A0 X.prog X.w _ _ _ (.tup ys) from ⟨hz,its,r',IsTup.new _ _⟩)
  exact⟨.ref h'.objs.size,_,I2,rfl,q _ (I1.hok.fresh (Oq _))⟩
 ·obtain⟨its,r',pl,hz⟩:=I.tuple hq;exact call_tuple_same pl ⟨.ref p,H,I,rfl,q⟩
def tyV (K:PySem.W.Frag) (T:String) (x:V) (H:Hp):Prop:=match x with
 | .str _=>T = "str"
 | .int _=>T = "int"
 | .ref p=>(T = "list" /\ ∃xs,SqL K H p xs)\/(T = "tuple" /\ ∃o,K.lookup p=some o/\o.cls = .type "tuple" /\ o.dict=none) \/
   (T = "dict" /\ ((∃kvs,H p=some (.dK kvs)) \/ ∃kvs,H p=some (.dT kvs)))\/(T = "set" /\ ∃S n,H p=some (.set S n))
 | _=>False
theorem Xba{pins:List (Addr×Obj)}{σ:St}{H:Hp}{s:Shared}{T:String}{x:V}{v:Value}(I:Inv X pins σ H s)(r:Ah x v)(ty:tyV X.K T x H):
  s.TypeIs v T/\∀a,v = .ref a->∃ob,s.heap.get? a=some ob/\ob.dict=none:=by
 cases x with
 | str z=>
  obtain⟨t,rfl⟩:=r;cases (show T = "str" from ty);exact⟨typeIs_str s z t,λ_ e=>nomatch e⟩
 | int i=>
  obtain⟨t,rfl⟩:=r;cases (show T = "int" from ty);exact⟨typeIs_int s i t,λ_ e=>nomatch e⟩
 | ref p=>
  cases r;rcases ty with ⟨rfl,xs,hq⟩ | ⟨rfl,o,hk,hc,hd⟩ | ⟨rfl,hk⟩ | ⟨rfl,S,n,hk⟩
  ·obtain⟨its,_,pl,_⟩:=I.list hq;refine⟨pl.isList.typeIs,λa e=>?_⟩;cases e;obtain⟨o,n,e,c,hd,_⟩:=pl;exact⟨o,e,hd⟩
  ·refine⟨⟨o,I.kIn p o hk,hc⟩,λa e=>?_⟩;cases e;exact⟨o,I.kIn _ o hk,hd⟩
  ·have z:∃o,s.heap.get? p=some o/\o.ExactDict:=by
    rcases hk with ⟨kvs,hk⟩ | ⟨kvs,hk⟩
    ·obtain⟨_,_,_,_,o,_,_,e,ex,_⟩:=I.hok p _ hk;exact⟨o,e,ex⟩
    ·obtain⟨_,_,_,_,o,_,_,e,ex,_⟩:=I.hok p _ hk;exact⟨o,e,ex⟩
   obtain⟨o,e,ex⟩:=z;refine⟨⟨o,e,ex.1⟩,λa e2=>?_⟩;cases e2;exact⟨o,e,ex.2.1⟩
  ·obtain⟨o,_,_,_,e,ex,_⟩:=I.hok p _ hk;refine⟨⟨o,e,ex.1⟩,λa e2=>?_⟩;cases e2;exact⟨o,e,ex.2.1⟩
 | _=>exact False.elim ty
def tBM0 (K:PySem.W.Frag) (T:String) (r:V->List V->Hp->VK->Prop) (to:TE):TE:=fun σ H Q=>to σ H λx H1=>tyV K T x H1/\r x [] H1 Q
def tBM (K:PySem.W.Frag) (T:String) (r:V->List V->Hp->VK->Prop) (to:TE) (t:TA):TE:=fun σ H Q=>to σ H λx H1=>tyV K T x H1/\t σ H1 λxs H2=>r x xs H2 Q
variable {o e:Expr}{es:List Expr}{to:TE}{t:TA}{name:Str}{apos cpos:Pos}{T id:String}{r:V->List V->Hp->VK->Prop}
theorem Xhf(pa:PlainAttrs T)(slot:Slot T name id)(hty:typeOf (.builtin id)=pure (.type "method_descriptor"))(hm:MtR X id r)(ho:PE X o to)
  (hbase:attributeBase o name X.env (eval o X.env)=eval o X.env:=by rfl) (hline:(apos.endLine==cpos.line)=true:=by rfl):PE X (.Call (.Attribute o name apos) [] [] cpos) (tBM0 X.K T r to):=by
 intro pins s σ H Q I h;refine wpAny_Call_method0_late hbase hline (thn (ho pins s σ H _ I h) λv s1 ⟨x,H1,I1,r1,ty,q1⟩=>?_);obtain⟨h1,h2⟩:=Xba I1 r1 ty;exact⟨T,id,pa,slot,hty,h1,h2,Calls.callWith_builtin rfl (PySem.evalArgs_none (hm pins s1 σ H1 x [] v [] Q I1 r1 .nil q1))⟩
theorem Iu(pa:PlainAttrs T)(slot:Slot T name id)(hty:typeOf (.builtin id)=pure (.type "method_descriptor"))(hm:MtR X id r)(ho:PE X o to)(ha:PA X (e::es) t)
  (hbase:attributeBase o name X.env (eval o X.env)=eval o X.env:=by rfl)
  (hfew:((backTo cpos (starEach (e::es) X.env)).all (λx => !x.1)&&(backToKw cpos (keywordEach [] X.env)).all (λx=>x.1.isSome)
   && decide ((e::es).length+([]:List Keyword).length+(if ([]:List Keyword).isEmpty then 0 else 1)<30))=true:=by rfl)
  (hline:(apos.endLine==cpos.line)=true:=by rfl) (hs:starEach (e::es) X.env=(false,eval e X.env)::starEach es X.env:=by rfl) (hplain:(backTo cpos (starEach es X.env)).any (·.1)=false:=by rfl):
  PE X (.Call (.Attribute o name apos) (e::es) [] cpos) (tBM X.K T r to t):=by
 intro pins s σ H Q I h;refine wpAny_Call_method_late hbase hfew hline rfl (thn (ho pins s σ H _ I h) λv s1 ⟨x,H1,I1,r1,ty,q1⟩=>?_);obtain⟨h1,h2⟩:=Xba I1 r1 ty;refine⟨T,id,pa,slot,hty,h1,h2,?_⟩;have hA:=ha cpos pins s1 σ H1 _ I1 q1;rw[hs] at hA ⊢;refine Calls.callWith_builtin (by show (false||(backTo cpos (starEach es X.env)).any (·.1))=false;rw[hplain]<;>rfl) (Calls.evalArgs_plain ?_);exact thn hA λus s2 ⟨vs,H2,I2,r2,q2⟩=>hm pins s2 σ H2 x vs v us Q I2 r1 r2 q2
end
def MtM (X:Cx) (id:String) (r:V->List V->Hp->VK->Prop):Prop:=
 ∀(pins:List (Addr×Obj)) (s:Shared) (σ:St) (H:Hp) (x:V) (xs:List V) (v:Value) (us:List Value) (Q:VK),Inv X pins σ H s->Ah x v->Vals xs us->r x xs H Q ->
  wpAny (model X.prog X.w) X.A (call (.builtin id) (v::us)) (EP X pins σ Q) X.xe s
theorem Vals.one:∀{x:V} {us:List Value},Vals [x] us->∃u,us=[u]/\Ah x u
 | _,_,.cons r .nil=>⟨_,rfl,r⟩
theorem Vals.two{x y:V}{us:List Value}(h:Vals [x,y] us):∃u v,us=[u,v]/\Ah x u/\Ah y v:=by
 cases h with
 | cons r t=>
  cases t with
  | cons q z=>cases z;exact⟨_,_,rfl,r,q⟩
theorem Vals.reverse{xs:List V}{us:List Value}(h:Vals xs us):Vals xs.reverse us.reverse:=by
 induction h with
 | nil=>exact .nil
 | cons r t ih=>rw[Sz,Sz];exact Vals.append ih (.cons r .nil)
theorem Vals.rep{xs:List V}{us:List Value}(h:Vals xs us):∀k:Nat,Vals (List.replicate k xs).flatten (List.replicate k us).flatten
 | 0=>.nil
 | k+1=>by
  rw[Qs,Qs,Sf,Sf];exact Vals.append h (Vals.rep h k)
theorem Xbb(its:List Value):∀(k:Nat) (acc:List Value),
  List.foldl (λx1 x2=>x1++x2) acc.toArray (List.replicate k its.toArray)=(acc++(List.replicate k its).flatten).toArray
 | 0,acc=>by simp
 | k+1,acc=>by
  have e:acc.toArray++its.toArray=(acc++its).toArray:=by simp
  have e2:(acc++its)++(List.replicate k its).flatten=acc++(List.replicate (k+1) its).flatten:=by
   rw[Qs,Sf,Pj]
  rw[<-e2,<-Xbb its k (acc++its),<-e,Qs,Rv]
section
variable {X:Cx}{pins:List (Addr×Obj)}{σ:St}{H:Hp}{s:Shared}{l b:Addr}{xs ys zs:List V}
theorem Inv.lset{its its':List Value}{n:Nat}{f:Array Value->Array Value}{t':Nat}(I:Inv X pins σ H s)(hH:H l=some (.lst xs))
  (e:s.heap.get? l=some {cls:=.type "list",data:=.seq its.toArray n}) (hf:f its.toArray=its'.toArray) (hv:Vals ys its') (hz:ys.length<=sizeLine):
  Inv X pins σ (upd H l (.lst ys)) {s with heap:=s.heap.update l (Obj.mapSeq f),toks:=t'}:=by
 have q:=PySem.IsL.update e f;rw[hf] at q;refine I.write (x:=l) (e:=l) (by rw[hH];exact trivial) (.inl rfl) (λb' u hb hu=>(Heap.get?_update_other s.heap (Obj.mapSeq f) (Ne.symm hb)).trans hu) ⟨_,q⟩ ?_;exact⟨hz,its',_,hv,q⟩
theorem Inv.lnew{its:List Value}{t':Nat}(I:Inv X pins σ H s)(hv:Vals ys its)(hz:ys.length<=sizeLine):
  Inv X pins σ (upd H s.heap.objs.size (.lst ys)) {s with heap:=s.heap.push {cls:=.type "list",data:=.seq its.toArray},toks:=t'}:=
 I.laid (λ_ _ q=>Tr _ q) (Oq _) ⟨hz,its,0,hv,Heap.get?_push_size _ rfl⟩
theorem Inv.fresh(I:Inv X pins σ H s):H s.heap.objs.size=none:=I.hok.fresh (Oq _)
theorem Inv.lstM(I:Inv X pins σ H s)(hH:H l=some (.lst xs)):xs.length<=sizeLine/\∃(its:List Value) (n:Nat),Vals xs its/\xs.length=its.length/\s.heap.get? l=some {cls:=.type "list",data:=.seq its.toArray n}:=by
 obtain⟨z,its,n,r,e⟩:=I.hok l _ hH;exact⟨z,its,n,r,r.length,e⟩
theorem Xhg{n:Nat}(h:n<=sizeLine):Builtin.List.listTooLong n=false:=by
 unfold Builtin.List.listTooLong;exact Tm (by omega)
end
section
variable {X:Cx}
def Iv:V->List V->Hp->VK->Prop:=λx vs H Q=>∃l xs y,x = .ref l/\vs=[y]/\H l=some (.lst xs)/\xs.length<sizeLine/\Q .non (upd H l (.lst (xs++[y])))
theorem Gx:MtM X "list.append" Iv:=by
 intro pins s σ H x vs v us Q I rx rv h;obtain⟨l,xs,y,rfl,rfl,hH,hz,q⟩:=h;cases rx;obtain⟨u,rfl,ru⟩:=rv.one;obtain⟨z,its,n,r,hl,e⟩:=I.lstM hH;refine call_meets F.slot_list_append ⟨_,e,rfl⟩ F.entry_list_append (F.args_list_append_2 _ _) (PySem.list_append l its.toArray n u (by rw[Ox];omega)) ⟨e,?_⟩;refine⟨.non,_,I.lset (its':=its++[u]) hH e (by simp) (r.append (.cons ru .nil)) ?_,rfl,q⟩;rw[Oy,Qd];omega
def rCat:R2:=λx y H Q=>∃l b xs zs,x = .ref l/\y = .ref b/\H l=some (.lst xs)/\H b=some (.lst zs)/\xs.length+zs.length<=sizeLine/\∀p,H p=none->Q (.ref p) (upd H p (.lst (xs++zs)))
theorem B8:OpR X (binaryOp .Add) rCat:=by
 intro pins s σ H x y v u Q I rx ry h;obtain⟨l,b,xs,zs,rfl,rfl,hH,hB,hz,q⟩:=h;cases rx;cases ry;obtain⟨z,its,n,r,hl,e⟩:=I.lstM hH;obtain⟨z2,its2,n2,r2,hl2,e2⟩:=I.lstM hB;refine PySem.P.add_list e e2 ?_ (by rw[Ox,Ox];omega);have ea:its.toArray++its2.toArray=(its++its2).toArray:=by simp
 rw[ea];exact⟨.ref _,_,I.lnew (t':=s.toks) (r.append r2) (by rw[Oy];omega),rfl,q _ I.fresh⟩
def rRep:R2:=λx y H Q=>∃l k xs,x = .ref l/\y = .int k/\H l=some (.lst xs) /\ -(2 ^ 63)<=k/\k<2 ^ 63/\xs.length * k.toNat<=sizeLine /\
 ∀p,H p=none->Q (.ref p) (upd H p (.lst (List.replicate k.toNat xs).flatten))
theorem Xhh{α : Type}(xs:List α)(k:Nat):(List.replicate k xs).flatten.length=k * xs.length:=by
 induction k with
 | zero=>simp
 | succ k ih=>rw[Qs,Sf,Oy,ih,Nat.succ_mul,Nat.add_comm]
theorem Xhi:OpR X (binaryOp .Mult) rRep:=by
 intro pins s σ H x y v u Q I rx ry h;obtain⟨l,k,xs,rfl,rfl,hH,h1,h2,hz,q⟩:=h;cases rx;obtain⟨t,rfl⟩:=ry;obtain⟨z,its,n,r,hl,e⟩:=I.lstM hH;have hlen:its.toArray.size * k.toNat<=sizeLine:=by rw[Ox,<-hl];exact hz
 have hcap:¬its.toArray.size * k.toNat > (2 ^ 63 - 1) / 8:=by
  have:(sizeLine:Nat)<=(2 ^ 63 - 1) / 8:=by decide
  omega
 have hfit:¬(!Builtin.List.listFitsIndex k)=true:=by
  rw[fitsIndex_both h1 h2];exact O4
 have hlong:¬Builtin.List.listTooLong (its.toArray.size * k.toNat)=true:=by
  rw[Xhg hlen];exact O4
 have hnew:List.foldl (λx1 x2=>x1++x2) #[] (List.replicate (if its.toArray.isEmpty=true then 0 else k.toNat) its.toArray)=(List.replicate k.toNat its).flatten.toArray:=by
  have f0:∀m:Nat,List.foldl (λx1 x2=>x1++x2) #[] (List.replicate m its.toArray)=(List.replicate m its).flatten.toArray:=λm=>by
   have:=Xbb its m [];rw[Ro] at this;exact this
  rw[f0];cases its with
  | nil=>simp
  | cons a r'=>rw[Tj (by simp)]
 refine wpAny_binaryOp_repeat_ref (T := "list") (U := "int") (by decide) ⟨_,e,rfl⟩ (λs'=>typeIs_int s' k t) noFill_list_mul F.fills_int_mul F.slot_int_rmul repeat_list F.slot_int_index.lookup
  (call_meets F.slot_int_rmul (typeIs_int s k t) F.entry_int_rmul (F.args_int_rmul_2 _ _) (int___rmul___int_list k t l its.toArray n)
   ⟨e,rfl,⟨_,e,rfl⟩,call_meets F.slot_list_mul ⟨_,e,rfl⟩ F.entry_list_mul (F.args_list_mul_2 _ _) (AutoListH.list___mul___list_int_3 l its.toArray n k t hfit hcap hlong) ⟨e,?_⟩⟩)
 rw[hnew];exact⟨.ref _,_,I.lnew (t':=s.toks) (r.rep k.toNat) (by rw[Xhh,Nat.mul_comm];exact hz),rfl,q _ I.fresh⟩
end
section
variable {prog:Program}{w:World}{A:Around}{E:Value->Shared->Prop}{s:Shared}
end
section
variable {X:Cx}
end
section
variable {κ : Type} [DecidableEq κ]
def Av (kvs:List (κ × V)) (k : κ):Option V:=(kvs.find? λkv=>decide (kv.1=k)).map (·.2)
def Bk (kvs:List (κ × V)) (k : κ) (v:V):List (κ × V):=
 if (kvs.any λkv=>decide (kv.1=k))=true then kvs.map (λkv=>if kv.1=k then (kv.1,v) else kv) else kvs++[(k,v)]
def Xbc (kvs:List (κ × V)) (k : κ):List (κ × V):=kvs.filter λkv=>decide (kv.1≠k)
theorem Di{p : κ × V}{r:List (κ × V)}{k : κ}(e:p.1=k):Av (p::r) k=some p.2:=by simp[Av,Q5,e]
theorem Dj{p : κ × V}{r:List (κ × V)}{k : κ}(e:¬p.1=k):Av (p::r) k=Av r k:=by simp[Av,Q5,e]
theorem Em(k : κ):∀kvs:List (κ × V),(kvs.any λkv=>decide (kv.1=k))=(Av kvs k).isSome
 | []=>rfl
 | p::r=>by
  rw[Sj];by_cases e:p.1=k
  ·simp only[Di e,Tl e,Bool.true_or,Sr]
  ·rw[Dj e,Tm e,Bool.false_or];exact Em k r
theorem Xbd(k j : κ)(y:V):∀kvs:List (κ × V),Av (kvs.map λkv=>if kv.1=k then (kv.1,y) else kv) j=(Av kvs j).map λx=>if j=k then y else x
 | []=>rfl
 | p::r=>by
  have ih:=Xbd k j y r;rw[Pg];by_cases h:p.1=k
  ·rw[Tk h];by_cases e:p.1=j
   ·rw[Di (p:=(p.1,y)) e,Di e,Q6,Tk (e.symm.trans h)]
   ·rw[Dj (p:=(p.1,y)) e,Dj e,ih]
  ·rw[Tj h];by_cases e:p.1=j
   ·rw[Di (p:=p) e,Di e,Q6,Tj (λz=>h (e.trans z))]
   ·rw[Dj (p:=p) e,Dj e,ih]
theorem Xbe(k j : κ)(y:V):∀kvs:List (κ × V),Av kvs k=none->Av (kvs++[(k,y)]) j=if j=k then some y else Av kvs j
 | [],_=>by
  by_cases e:k=j
  ·rw[Tk e.symm];exact Di (p:=(k,y)) e
  ·rw[Tj (λz=>e z.symm)];exact Dj (p:=(k,y)) e
 | p::r,hn=>by
  rw[List.cons_append];have hk:¬p.1=k:=λz=>by rw[Di z] at hn;cases hn
  rw[Dj hk] at hn;have ih:=Xbe k j y r hn;by_cases e:p.1=j
  ·rw[Di e,Di e,Tj (λz=>hk (e.trans z))]
  ·rw[Dj e,Dj e,ih]
theorem Iw(kvs:List (κ × V))(k j : κ)(y:V):Av (Bk kvs k y) j=if j=k then some y else Av kvs j:=by
 unfold Bk;by_cases a:(kvs.any λkv=>decide (kv.1=k))=true
 ·rw[Tk a,Xbd];rw[Em] at a;by_cases e:j=k
  ·obtain⟨x,hx⟩:=Qz.mp a;rw[Tk e,e,hx,Q6,Tk rfl]
  ·rw[Tj e];cases Av kvs j with
   | none=>rfl
   | some x=>rw[Q6,Tj e]
 ·rw[Tj a];refine Xbe k j y kvs ?_;rw[Em] at a;cases q:Av kvs k with
  | none=>rfl
  | some x=>rw[q] at a;exact(a rfl).elim
theorem Gy(kvs:List (κ × V))(k : κ)(v:V):(Bk kvs k v).length<=kvs.length+1:=by
 unfold Bk;split
 ·rw[Oo];omega
 ·rw[Oy,Pc,Q7];omega
theorem Fx{kvs:List (κ × V)}{k : κ}(v:V)(h:Av kvs k=none):Bk kvs k v=kvs++[(k,v)]:=by
 unfold Bk;rw[Em,h];exact Tj (by decide)
theorem Cq.isSome_eq{o:Option V}{u:Option Value}(r:Cq o u):o.isSome=u.isSome:=by
 cases o with
 | none=>cases u with
  | none=>rfl
  | some _=>exact(show False from r).elim
 | some _=>cases u with
  | none=>exact(show False from r).elim
  | some _=>rfl
theorem Cq.getD{o:Option V}{u:Option Value}{d:V}{d':Value}(r:Cq o u)(rd:Ah d d'):Ah (o.getD d) (u.getD d'):=by
 cases o with
 | none=>cases u with
  | none=>exact rd
  | some _=>exact(show False from r).elim
 | some _=>cases u with
  | none=>exact(show False from r).elim
  | some _=>exact r
theorem KV.val{kvs:List (κ × V)}{vs:List (κ × Value)}(r:KV kvs vs)(k : κ):Cq (Av kvs k) (valueAt vs k):=by
 unfold KV at r
 induction r with
 | nil=>exact True.intro
 | @cons p q ps qs h t ih=>
  obtain⟨h1,h2⟩:=h;by_cases e:p.1=k
  ·have e':q.1=k:=h1.symm.trans e;have b:valueAt (q::qs) k=some q.2:=by simp[valueAt,Q5,e']
   rw[Di e,b];exact h2
  ·have e':¬q.1=k:=λz=>e (h1.trans z);have b:valueAt (q::qs) k=valueAt qs k:=by simp[valueAt,Q5,e']
   rw[Dj e,b];exact ih
theorem KV.any{kvs:List (κ × V)}{vs:List (κ × Value)}(r:KV kvs vs)(k : κ):(kvs.any λkv=>decide (kv.1=k))=vs.any λkv=>decide (kv.1=k):=by
 unfold KV at r
 induction r with
 | nil=>rfl
 | cons h t ih=>rw[Sj,Sj,ih,h.1]
theorem KV.repl{kvs:List (κ × V)}{vs:List (κ × Value)}(r:KV kvs vs)(k : κ){y:V}{u:Value}(ry:Ah y u):
  KV (kvs.map λkv=>if kv.1=k then (kv.1,y) else kv) (vs.map λkv=>if kv.1=k then (kv.1,u) else kv):=by
 unfold KV at r ⊢
 induction r with
 | nil=>exact .nil
 | @cons p q ps qs h t ih=>
  rw[Pg,Pg];refine .cons ?_ ih;obtain⟨h1,h2⟩:=h;by_cases e:p.1=k
  ·rw[Tk e,Tk (h1.symm.trans e)];exact⟨h1,ry⟩
  ·rw[Tj e,Tj (λz=>e (h1.trans z))];exact⟨h1,h2⟩
theorem KV.put{kvs:List (κ × V)}{vs:List (κ × Value)}(r:KV kvs vs)(k : κ){y:V}{u:Value}(ry:Ah y u):KV (Bk kvs k y) (stored vs k u):=by
 unfold Bk stored;rw[r.any k];by_cases e:(vs.any λkv=>decide (kv.1=k))=true
 ·rw[Tk e,Tk e];exact r.repl k ry
 ·rw[Tj e,Tj e];exact Paired.snoc r ⟨rfl,ry⟩
theorem KV.keys{kvs:List (κ × V)}{vs:List (κ × Value)}(r:KV kvs vs):kvs.map (·.1)=vs.map (·.1):=by
 unfold KV at r
 induction r with
 | nil=>rfl
 | cons h t ih=>rw[Pg,Pg,ih,h.1]
theorem KV.length{kvs:List (κ × V)}{vs:List (κ × Value)}(r:KV kvs vs):kvs.length=vs.length:=Paired.length r
end
theorem Gz{P:Program}{w:World}{k:Key}{u:Value}(r:Ah (kV k) u):(Bi P w).is k u=true:=by
 cases k with
 | inl i=>obtain⟨t,e⟩:=(show ∃t,u=Value.int i t from r);subst e;exact Xgd P w i t
 | inr x=>obtain⟨t,e⟩:=(show ∃t,u=Value.str x t from r);subst e;exact Xge P w x t
theorem Xbf{P:Program}{w:World}:∀{ks:List Key} {us:List Value},Vals (ks.map kV) us->ItemsAre (Bi P w) ks us
 | [],_,r=>by rw[List.map_nil] at r;cases r;exact .nil
 | k::ks,_,r=>by
  rw[Pg] at r;cases r with
  | cons h t=>exact .cons (Gz h) (Xbf t)
abbrev KT (H:Hp):List (List Key×V)->List (List Key×Addr×Value)->Prop:=Paired λp q=>p.1=q.1/\H q.2.1=some (.tup (p.1.map kV))/\Ah p.2 q.2.2
theorem KT.val{H:Hp}{kvs:List (List Key×V)}{xs:List (List Key×Addr×Value)}(r:KT H kvs xs)(k:List Key):Cq (Av kvs k) ((atKey xs k).map (·.2)):=by
 induction r with
 | nil=>exact True.intro
 | @cons p q ps qs h t ih=>
  obtain⟨h1,_,h2⟩:=h;by_cases e:p.1=k
  ·have e':q.1=k:=h1.symm.trans e;have b:atKey (q::qs) k=some q.2:=by simp[atKey,Q5,e']
   rw[Di e,b];exact h2
  ·have e':¬q.1=k:=λz=>e (h1.trans z);have b:atKey (q::qs) k=atKey qs k:=by simp[atKey,Q5,e']
   rw[Dj e,b];exact ih
theorem KT.repl{H:Hp}{kvs:List (List Key×V)}{xs:List (List Key×Addr×Value)}(r:KT H kvs xs)(k:List Key){y:V}{u:Value}(ry:Ah y u):
  KT H (kvs.map λkv=>if kv.1=k then (kv.1,y) else kv) (xs.map (putAt k u)):=by
 induction r with
 | nil=>exact .nil
 | @cons p q ps qs h t ih=>
  rw[Pg,Pg];refine .cons ?_ ih;obtain⟨h1,h2,h3⟩:=h;unfold putAt;by_cases e:p.1=k
  ·rw[Tk e,Tk (h1.symm.trans e)];exact⟨h1,h2,ry⟩
  ·rw[Tj e,Tj (λz=>e (h1.trans z))];exact⟨h1,h2,h3⟩
theorem KT.put{H:Hp}{kvs:List (List Key×V)}{xs:List (List Key×Addr×Value)}(r:KT H kvs xs)(k:List Key){b:Addr}{y:V}{u:Value}(hb:H b=some (.tup (k.map kV)))(ry:Ah y u):
  KT H (Bk kvs k y) (storedH xs k b u):=by
 have e:(kvs.any λkv=>decide (kv.1=k))=(atKey xs k).isSome:=by
  rw[Em,(r.val k).isSome_eq,Option.isSome_map]
 unfold Bk storedH;rw[e];by_cases q:(atKey xs k).isSome=true
 ·rw[Tk q,Tk q];exact r.repl k ry
 ·rw[Tj q,Tj q];exact Paired.snoc r ⟨rfl,hb,ry⟩
theorem KT.keeps{H H':Hp}{kvs:List (List Key×V)}{xs:List (List Key×Addr×Value)}(r:KT H kvs xs)(ht:∀b ys,H b=some (.tup ys)->H' b=some (.tup ys)):KT H' kvs xs:=
 Paired.mapP r λ_ _ z=>⟨z.1,ht _ _ z.2.1,z.2.2⟩
section
variable {P:Program}{w:World}{H:Hp}{h:Heap}{a:Addr}
theorem Xbg{u:HO}(ok:HOk P w H h)(e:Rd H a u):A0 P w H h a u:=e.ok ok
theorem Fy{kvs:List (Key×V)}(ok:HOk P w H h)(e:Rd H a (.dK kvs)):kvs.length<=sizeLine/\(a==sysModules)=false/\∃vs,KV kvs vs/\h.DictOf (Bi P w) a vs:=
 show A0 P w H h a (.dK kvs) from Xbg ok e
theorem Xbh{kvs:List (Key×V)}(ok:HOk P w H h)(e:H a=some (.dK kvs)):kvs.length<=sizeLine/\(a==sysModules)=false/\∃vs,KV kvs vs/\h.DictOf (Bi P w) a vs:=Fy ok (.inl e)
theorem G0{ks:List Key}(ok:HOk P w H h)(e:H a=some (.tup (ks.map kV))):(tupleKind (Bi P w)).is h ks a:=by
 obtain⟨_,its,r,o,h1,h2,n,h3⟩:=(show A0 P w H h a (.tup (ks.map kV)) from ok a _ e);exact⟨o,its.toArray,n,h1,h2,h3,by simpa using Xbf r⟩
theorem G1{kvs:List (List Key×V)}(ok:HOk P w H h)(e:Rd H a (.dT kvs)):kvs.length<=sizeLine/\(a==sysModules)=false /\
  ∃xs,KT H kvs xs/\h.DictOfH (tupleKind (Bi P w)) a xs:=by
 obtain⟨z,y,xs,r,o,es,ep,h1,h2,h3,h4,h5⟩:=(show A0 P w H h a (.dT kvs) from Xbg ok e);refine⟨z,y,xs,r,o,es,ep,h1,h2,h3,h4,λx hx=>?_,h5⟩;have all:∀{l:List (List Key×V)} {m:List (List Key×Addr×Value)},KT H l m->∀x∈m,(tupleKind (Bi P w)).is h x.1 x.2.1:=by
  intro l m q
  induction q with
  | nil=>intro x hx;exact nomatch hx
  | @cons p q ps qs hq t ih=>
   intro x hx;rcases O6.mp hx with e | hx
   ·subst e;exact G0 ok (by rw[<-hq.1];exact hq.2.1)
   ·exact ih x hx
 exact all r x hx
theorem Xbi{kvs:List (List Key×V)}(ok:HOk P w H h)(e:H a=some (.dT kvs)):kvs.length<=sizeLine/\(a==sysModules)=false /\
  ∃xs,KT H kvs xs/\h.DictOfH (tupleKind (Bi P w)) a xs:=G1 ok (.inl e)
end
def DGet (H:Hp) (a:Addr) (y:V) (r:Option V):Prop:=
 (∃kvs k,Rd H a (.dK kvs)/\y=kV k/\r=Av kvs k) \/ ∃kvs k b,Rd H a (.dT kvs)/\y = .ref b/\H b=some (.tup (k.map kV))/\r=Av kvs k
def DPut (H:Hp) (a:Addr) (y v:V) (H':Hp):Prop:=
 (∃kvs k,H a=some (.dK kvs)/\y=kV k/\kvs.length<sizeLine/\H'=upd H a (.dK (Bk kvs k v))) \/
 ∃kvs k b,H a=some (.dT kvs)/\y = .ref b/\H b=some (.tup (k.map kV))/\kvs.length<sizeLine/\H'=upd H a (.dT (Bk kvs k v))
theorem DGet.k{H:Hp}{a:Addr}{kvs:List (Key×V)}{k:Key}(e:H a=some (.dK kvs)):DGet H a (kV k) (Av kvs k):=.inl ⟨kvs,k,.inl e,rfl,rfl⟩
theorem DPut.k{H:Hp}{a:Addr}{kvs:List (Key×V)}{k:Key}{v:V}(e:H a=some (.dK kvs))(hl:kvs.length<sizeLine):DPut H a (kV k) v (upd H a (.dK (Bk kvs k v))):=.inl ⟨kvs,k,e,rfl,hl,rfl⟩
section
variable {X:Cx}{pins:List (Addr×Obj)}{σ:St}{H:Hp}{s:Shared}{a:Addr}{y v:V}{u r:Value}{o:Option V}{A:Around}{E:Value->Shared->Prop}
theorem Inv.big(I:Inv X pins σ H s):sysModules<s.heap.objs.size:=by
 have h:mainGlobals<s.heap.objs.size:=(I.mod.glob.keeps I.bk).lt;exact Rq (by decide) h
theorem d_getItem{Q:Value->Shared->Prop}(hu:A.units+1<cLine)(I:Inv X pins σ H s)(g:DGet H a y (some v))(ry:Ah y u)(h:∀w' s',Inv X pins σ H s'->Ah v w'->Q w' s'):
  wpAny (model X.prog X.w) A (getItem (.ref a) u) Q E s:=by
 rcases g with ⟨kvs,k,e,ey,l⟩ | ⟨kvs,k,b,e,ey,eb,l⟩
 ·subst ey;obtain⟨z,hd,vs,rel,dd⟩:=Fy I.hok e;obtain⟨w',hw,rw'⟩:=Cq.some_of (v:=v) (o:=valueAt vs k) (by rw[l];exact rel.val k);exact wpAny_getItem_of (Gz ry) dd.mapOf hw (h w' _ (I.tok _) rw')
 ·subst ey;cases (show u=Value.ref b from ry);obtain⟨z,hd,xs,rel,dd⟩:=G1 I.hok e;obtain⟨w',hw,rw'⟩:=Cq.some_of (v:=v) (o:=(atKey xs k).map (·.2)) (by rw[l];exact rel.val k);obtain⟨p,hp,hp2⟩:=Option.map_eq_some_iff.mp hw;refine wpAny_getItem_heap (tupleKind_room_in1 hu) (G0 I.hok eb) dd hp ?_;rw[hp2];exact h w' _ (I.tok _) rw'
theorem Ix{h':Heap}{t':Nat}{ob:HO}(I:Inv X pins σ H s)(mu:Mut (H a))(hs:Heap.SameBut a s.heap h')(he:∃q,h'.get? a=some q)(new:A0 X.prog X.w (upd H a ob) h' a ob):
  Inv X pins σ (upd H a ob) {s with heap:=h',toks:=t'}:=
 I.write (x:=a) (e:=a) mu (.inl rfl) (λb q hb z=>(hs.2 b hb).trans z) he new
theorem Xbj{P:Program}{w:World}{H':Hp}{h':Heap}{kvs:List (Key×V)}{vs:List (Key×Value)}(z:kvs.length<=sizeLine)(hd:(a==sysModules)=false)(rel:KV kvs vs)(dd:h'.DictOf (Bi P w) a vs):
  A0 P w H' h' a (.dK kvs):=⟨z,hd,vs,rel,dd⟩
theorem Xhj{H':Hp}{Q:Unit->Shared->Prop}(hu:A.units+1<cLine)(I:Inv X pins σ H s)(g:DPut H a y v H')(ry:Ah y u)(rv:Ah v r)(h:∀s',Inv X pins σ H' s'->Q () s'):
  wpAny (model X.prog X.w) A (setItem (.ref a) u r) Q E s:=by
 rcases g with ⟨kvs,k,e,ey,l,eH⟩ | ⟨kvs,k,b,e,ey,eb,l,eH⟩
 ·subst ey eH;obtain⟨z,hd,vs,rel,dd⟩:=Xbh I.hok e;have hz:vs.length<=sizeLine:=by rw[<-rel.length];exact z
  have hl:(Bk kvs k v).length<=sizeLine:=by have:=Gy kvs k v;omega
  refine wpAny_setItem_pairs (hsz:=hz) (Gz ry) dd λh' dd' hs=>h _ ?_;have he:∃q,h'.get? a=some q:=let ⟨q,_,_,hq,_⟩:=dd'; ⟨q,hq⟩;exact Ix I (by rw[e];exact True.intro) hs he (Xbj hl hd (rel.put k rv) dd')
 ·subst ey eH;cases (show u=Value.ref b from ry);obtain⟨z,hd,xs,rel,dd⟩:=Xbi I.hok e;have hz:xs.length<=sizeLine:=by rw[<-Paired.length rel];exact z
  have hl:(Bk kvs k v).length<=sizeLine:=by have:=Gy kvs k v;omega
  refine wpAny_setItem_heap (hsz:=hz) (tupleKind_room_in1 hu) (G0 I.hok eb) dd λh' dd' hs=>h _ ?_;obtain⟨q,es,ep,hq,h2,h3,h4,_,h5⟩:=dd';refine Ix I (by rw[e];exact True.intro) hs ⟨q,hq⟩ ⟨hl,hd,_,(rel.put k eb rv).keeps λc ys ec=>?_,q,es,ep,hq,h2,h3,h4,h5⟩;rw[Ad (Il ec e (λz=>nomatch z))];exact ec
end
section
variable {X:Cx}{pins:List (Addr×Obj)}{σ:St}{H:Hp}{s:Shared}{a:Addr}{kvs:List (Key×V)}{k:Key}{u:Value}{A:Around}{E:Value->Shared->Prop}
end
def Xbk (i:Expr):Prop:=∀ov iv,subscripted i false ov iv=operate [ov,iv] (getItem ov iv)
theorem Xhk{prog:Program}{w:World}{A:Around}{E:Value->Shared->Prop}{s:Shared}{env:Env}{value slice:Expr}{pos:Pos}{T id:String}{Q:Value->Shared->Prop}
  (hl:typeLookup (.type T) "__getitem__" = pure (some (.builtin id))) (hs:Xbk slice)
  (h:wpAny (model prog w) A (eval value env) (λo s₁=>wpAny (model prog w) A (eval slice env) (λi s₂=>s₂.TypeIs o T/\wpAny (model prog w) A (getItem o i) Q E s₂) E s₁) E s):
  wpAny (model prog w) A (eval (.Subscript value slice pos) env) Q E s:=by
 refine Subscript_ (wpAny_mono h (λo s₁ h₁=>wpAny_mono h₁ (λi s₂ h₂=>?_) λ_ _ x=>x) λ_ _ x=>x);obtain⟨hT,h₂⟩:=h₂;unfold subscriptTail;refine Te ?_;rw[getitemInPython_of_ne hT.not_modules];refine Te (wpAny_specialOf hT hl ?_);have fin:wpAny (model prog w) A (subscripted slice false o i) (λr s₃=>wpAny (model prog w) A (letTemporaryGo value o r >>= λ_=>pure r) Q E s₃) E s₂:=by
  rw[hs o i];exact wpAny_operating (wpAny_mono h₂ (λr s₃ h₃=>Te (wpAny_letTemporaryGo (Tf h₃))) λ_ _ x=>x)
 first
  | exact Tf (Te fin)
  | exact Te (Tf (Te fin))
  | exact Te fin
theorem Xhl{X:Cx}{pins:List (Addr×Obj)}{σ:St}{H:Hp}{s:Shared}{a:Addr}{y:V}{o:Option V}(I:Inv X pins σ H s)(g:DGet H a y o):s.TypeIs (.ref a) "dict" := by
 rcases g with ⟨kvs,k,e,_,_⟩ | ⟨kvs,k,b,e,_,_,_⟩
 ·obtain⟨_,_,vs,_,dd⟩:=Fy I.hok e;exact dd.typeIs
 ·obtain⟨_,_,xs,_,dd⟩:=G1 I.hok e;exact dd.typeIs
def Xhm (td ty:TE):TE:=fun σ H Q=>td σ H λx H1=>ty σ H1 λy H2=>∃a v,x = .ref a/\DGet H2 a y (some v)/\Q v H2
def tDIn (ty td:TE):TE:=fun σ H Q=>ty σ H λy H1=>td σ H1 λx H2=>∃a o,x = .ref a/\DGet H2 a y o/\Q (.bl o.isSome) H2
def Xhn (td ty tv:TE):TS:=λD σ H=>tv σ H λv H1=>td σ H1 λx H2=>ty σ H2 λy H3=>∃a H4,x = .ref a/\DPut H3 a y v H4/\D.nx σ H4
def sDAug (td ty tv:TE) (rd:V->V->Hp->VK->Prop):TS:=λD σ H=>td σ H λx H1=>ty σ H1 λy H2=>∃a v,x = .ref a/\DGet H2 a y (some v) /\
 tv σ H2 λy2 H3=>rd v y2 H3 λz H4=>∃H5,DPut H4 a y z H5/\D.nx σ H5
def sDDel (td ty:TE):TS:=λD σ H=>td σ H λx H1=>ty σ H1 λy H2=>∃a kvs k,x = .ref a/\H2 a=some (.dK kvs)/\y=kV k/\(Av kvs k).isSome=true/\D.nx σ (upd H2 a (.dK (Xbc kvs k)))
section
variable {X:Cx}{o i e value:Expr}{pos pos' tpos:Pos}{td ty tv:TE}
theorem Cl(hu:X.A.units+1<cLine)(ho:PE X o td)(hi:PE X i ty)(hs:Xbk i):PE X (.Subscript o i pos) (Xhm td ty):=by
 intro pins s σ H Q I h;refine Xhk PySem.F.slot_dict_getitem.lookup hs (thn (ho pins s σ H _ I h) λu s1 ⟨x,H1,I1,rx,q1⟩=>thn (hi pins s1 σ H1 _ I1 q1) λiv s2 ⟨y,H2,I2,ry,a,v,ex,g,q2⟩=>?_);subst ex;obtain rfl:u=Value.ref a:=rx;exact⟨Xhl I2 g,d_getItem hu I2 g ry λw' s3 I3 rw'=>⟨v,H2,I3,rw',q2⟩⟩
theorem Xho(hu:X.A.units+1<cLine)(ho:PE X o td)(hi:PE X i ty)(hv:PE X value tv)(hs:swapsWith value (some (.Subscript o i pos')) pos.line X.env=pure false):
  PS X (.Assign [.Subscript o i pos'] value pos) (Xhn td ty tv):=by
 intro pins s σ H D I h;refine wpAny_Assign_Subscript (thn (hv pins s σ H _ I h) λr s1 ⟨v,H1,I1,rv,q1⟩=>thn (ho pins s1 σ H1 _ I1 q1) λu s2 ⟨x,H2,I2,rx,q2⟩=>thn (hi pins s2 σ H2 _ I2 q2) λiv s3 ⟨y,H3,I3,ry,a,H4,ex,g,q3⟩=>?_) hs;subst ex;obtain rfl:u=Value.ref a:=rx;exact Xhj hu I3 g ry rv λs4 I4=>⟨σ,H4,I4,q3⟩
end
theorem Xbl{P:Program}{w:World}{H:Hp}(h:Heap)(hb:sysModules<h.objs.size):A0 P w H (h.push {cls:=.type "dict",data:=.dict #[]}) h.objs.size (.dK []):=
 ⟨Pq _,beq_eq_false_iff_ne.mpr (Ne.symm (O1 hb)),[],.nil,Heap.DictOf.new h⟩
theorem Xhp{P:Program}{w:World}{H:Hp}(h:Heap)(hb:sysModules<h.objs.size):A0 P w H (h.push {cls:=.type "dict",data:=.dict #[]}) h.objs.size (.dT []):=
 ⟨Pq _,beq_eq_false_iff_ne.mpr (Ne.symm (O1 hb)),[],.nil,_, #[],0,Heap.get?_push_size _ rfl,⟨rfl,rfl,rfl⟩,rfl,rfl,List.nodup_nil⟩
def Xhq:TE:=λ_ H Q=>∀p,H p=none->Q (.ref p) (upd H p (.dK []))
section
variable {X:Cx}{pos:Pos}
theorem Xhr:PE X (.Dict [] [] pos) Xhq:=λpins s σ H Q I h=>
 wpAny_Dict_empty ⟨.ref s.heap.objs.size,_,I.laid (a:=s.heap.objs.size) (o:=.dK []) (t':=s.toks) (λ_ _ q=>Tr _ q) (Oq _) (Xbl s.heap I.big),rfl,h _ (I.hok.fresh (Oq _))⟩
end
def Xbm:List (TE×TE)->St->Hp->(List (V×V)->Hp->Prop)->Prop
 | [],_,H,Q=>Q [] H
 | (tk,tv)::r, σ,H,Q=>tk σ H λx H1=>tv σ H1 λy H2=>Xbm r σ H2 λps H3=>Q ((x,y)::ps) H3
def Xhs (kvs more:List (Key×V)):List (Key×V):=more.foldl (λacc kv=>Bk acc kv.1 kv.2) kvs
def tDisp (trs:List (TE×TE)):TE:=fun σ H Q=>∀p,H p=none->Xbm trs σ (upd H p (.dK [])) λps H2=>H2 p=some (.dK [])/\∃kvs:List (Key×V),ps=kvs.map (λkv=>(kV kv.1,kv.2))/\kvs.length<=15/\Q (.ref p) (upd H2 p (.dK (Xhs [] kvs)))
structure M1 (X:Cx) (o:Expr) (m:Str) (apos:Pos) (e:Expr) (cpos:Pos):Prop where
 base:attributeBase o m X.env (eval o X.env)=eval o X.env
 few:((backTo cpos (starEach [e] X.env)).all (λx => !x.1)&&(backToKw cpos (keywordEach [] X.env)).all (λx=>x.1.isSome)
  && decide (([e]:List Expr).length+([]:List Keyword).length+(if ([]:List Keyword).isEmpty then 0 else 1)<30))=true
 line:(apos.endLine==cpos.line)=true
 trees:backTo cpos (starEach [e] X.env)=[(false,eval e X.env)]
structure M2 (X:Cx) (o:Expr) (m:Str) (apos:Pos) (e f:Expr) (cpos:Pos):Prop where
 base:attributeBase o m X.env (eval o X.env)=eval o X.env
 few:((backTo cpos (starEach [e,f] X.env)).all (λx => !x.1)&&(backToKw cpos (keywordEach [] X.env)).all (λx=>x.1.isSome)
  && decide (([e,f]:List Expr).length+([]:List Keyword).length+(if ([]:List Keyword).isEmpty then 0 else 1)<30))=true
 line:(apos.endLine==cpos.line)=true
 trees:backTo cpos (starEach [e,f] X.env)=[(false,eval e X.env),(false,eval f X.env)]
def IsD (H:Hp) (a:Addr):Prop:=(∃kvs,Rd H a (.dK kvs)) \/ ∃kvs,Rd H a (.dT kvs)
theorem Xht{X:Cx}{pins:List (Addr×Obj)}{σ:St}{H:Hp}{s:Shared}{a:Addr}(I:Inv X pins σ H s)(d:IsD H a):
  s.TypeIs (.ref a) "dict" /\ (∀b,Value.ref a = .ref b->∃ob,s.heap.get? b=some ob/\ob.dict=none)/\(a==sysModules)=false:=by
 rcases d with ⟨kvs,e⟩ | ⟨kvs,e⟩
 ·obtain⟨_,hd,vs,_,dd⟩:=Fy I.hok e;refine⟨dd.typeIs,λb q=>?_,hd⟩;cases q;obtain⟨ob,_,_,h1,h2,_⟩:=dd;exact⟨ob,h1,h2.2.1⟩
 ·obtain⟨_,hd,xs,_,dd⟩:=G1 I.hok e;refine⟨dd.typeIs,λb q=>?_,hd⟩;cases q;obtain⟨ob,_,_,h1,h2,_⟩:=dd;exact⟨ob,h1,h2.2.1⟩
section
variable {X:Cx}{pins:List (Addr×Obj)}{σ:St}{H:Hp}{s:Shared}{a:Addr}{y d:V}{u r:Value}{o:Option V}{A:Around}{E:Value->Shared->Prop}
theorem Xhu{Q:Value->Shared->Prop}(hu:A.units+1<cLine)(I:Inv X pins σ H s)(g:DGet H a y o)(ry:Ah y u)(rd:Ah d r)(h:∀w' s',Inv X pins σ H s'->Ah (o.getD d) w'->Q w' s'):
  wpAny (model X.prog X.w) A (call (.builtin "dict.get") [.ref a,u,r]) Q E s:=by
 rcases g with ⟨kvs,k,e,ey,l⟩ | ⟨kvs,k,b,e,ey,eb,l⟩
 ·subst ey;obtain⟨z,hd,vs,rel,dd⟩:=Fy I.hok e;refine call_meetsIn PySem.F.slot_dict_get dd.typeIs PySem.F.entry_dict_get (PySem.F.args_dict_get_3 _ _ _) (meets_dict_get_default (Bi X.prog X.w) a (Gz ry) hd r) ⟨_,dd.mapOf,h _ _ (I.tok _) ?_⟩;rw[l];exact(rel.val k).getD rd
 ·subst ey;cases (show u=Value.ref b from ry);obtain⟨z,hd,xs,rel,dd⟩:=G1 I.hok e;refine call_meetsIn PySem.F.slot_dict_get dd.typeIs PySem.F.entry_dict_get (PySem.F.args_dict_get_3 _ _ _) (meetsH_dict_get_default (tupleKind (Bi X.prog X.w)) a b hd r) ⟨tupleKind_room_in1 hu,k,xs,G0 I.hok eb,dd,h _ _ (I.tok _) ?_⟩;rw[l];exact(rel.val k).getD rd
end
def Xhv (td ty tx:TE):TE:=fun σ H Q=>td σ H λx H1=>∃a,x = .ref a/\IsD H1 a/\ty σ H1 λy H2=>tx σ H2 λz H3=>∃o,DGet H3 a y o/\Q (o.getD z) H3
def Xqn (td ty:TE):TE:=fun σ H Q=>td σ H λx H1=>∃a,x = .ref a/\IsD H1 a/\ty σ H1 λy H2=>∃kvs k v,H2 a=some (.dK kvs)/\y=kV k/\Av kvs k=some v/\Q v (upd H2 a (.dK (Xbc kvs k)))
section
variable {X:Cx}{o e f:Expr}{apos cpos:Pos}{td ty tx:TE}
theorem Xhw(hu:X.A.units+1<cLine)(ho:PE X o td)(he:PE X e ty)(hf:PE X f tx)(m:M2 X o "get" apos e f cpos):PE X (.Call (.Attribute o "get" apos) [e,f] [] cpos) (Xhv td ty tx):=by
 intro pins s σ H Q I h;refine wpAny_Call_method m.base m.few m.line PySem.F.plainAttrs_dict PySem.F.slot_dict_get PySem.F.type_dict_get (thn (ho pins s σ H _ I h) λu s1 ⟨x,H1,I1,rx,a,ex,d,q1⟩=>?_);subst ex;obtain rfl:u=Value.ref a:=rx;obtain⟨t1,t2,_⟩:=Xht I1 d;refine⟨t1,t2,?_⟩;rw[m.trees];refine Calls.callWith_builtin rfl (Calls.evalArgs_plain (Calls.spliced_cons (thn (he pins s1 σ H1 _ I1 q1) λiv s2 ⟨y,H2,I2,ry,q2⟩=>
  Calls.spliced_cons (thn (hf pins s2 σ H2 _ I2 q2) λfv s3 ⟨z,H3,I3,rz,ov,g,q3⟩=>Calls.spliced_nil ?_))))
 exact Xhu hu I3 g ry rz λw' s4 I4 rw'=>⟨_,H3,I4,rw',q3⟩
end
section
variable {X:Cx}{pins:List (Addr×Obj)}{σ:St}{H:Hp}{s:Shared}{a:Addr}{kvs:List (Key×V)}{A:Around}{E:Value->Shared->Prop}
end
section
variable {X:Cx}{pins:List (Addr×Obj)}{σ:St}{H:Hp}{s:Shared}{a:Addr}{y:V}{u:Value}{A:Around}{E:Value->Shared->Prop}
end
end L2
namespace Att
open PySem PySem.W PySem.Calls PyProof.Rows
theorem Xhx{P:Params}{h:Heap}:∀(ns:List Int) (vs:List Value),WellAll P h vs (ns.map WData.int)->IntsAre vs ns:=by
 intro ns
 induction ns with
 | nil=>
  intro vs w;rw[List.map_nil] at w;cases w;exact .nil
 | cons n ns ih=>
  intro vs w;rw[Pg] at w;cases w with
  | cons a b=>
   cases a;exact .cons _ _ (ih _ b)
theorem Xhy{l:OpenLaw}{n:Nat}(hn:l.most=some n){P:Params}{h:Heap}{args:List WData}{vals:List Value}
  (hpre:l.row.toRowW.claim.pre args=true) (hwl:WellAll P h vals args):
  ∃a vs ns,vals=[Value.ref a]/\args=[WData.list (ns.map WData.int)]/\h.get? a=some {cls:=.type "list",data:=.seq vs.toArray}/\IntsAre vs ns/\ns.length<=n:=by
 have hsh:WShape.hasAll [] args [.list .int]=true:=(pre_splitW hpre).1;have hc:l.pre.holds [] {args:=args}=true:=(pre_splitW hpre).2;obtain⟨d,r,rfl,h1,h2⟩:=hasAllW_cons hsh;obtain rfl:=hasAllW_nil h2;obtain⟨xs,rfl,h3⟩:=hasW_list h1;obtain⟨ns,rfl⟩:=items_int h3;have hlen:ns.length<=n:=by
  unfold OpenLaw.pre at hc;have h4:(WTm.not (.lt (.lit (.int (n:Int))) (.len (.arg 0)))).holds [] {args:=[.list (ns.map .int)]}=true:=by
   have h4:=(holds_andW hc).1;rw[hn] at h4;exact h4
  have h5:=condW_of h4 (w_not (w_lt w_lit (w_len_list (w_arg rfl))));rw[Oo] at h5;refine Nat.le_of_not_lt λq=>?_;have q':(n:Int)<((ns.length:Nat):Int):=by omega
  first
   | (rw[Tl q'] at h5;exact absurd h5 (by decide))
   | (simp at h5;omega)
 cases hwl with
 | cons w1 w2=>
  cases w2;cases w1 with
  | list ho hall=>exact⟨_,_,ns,rfl,rfl,ho,Xhx ns _ hall,hlen⟩
theorem Xhz(l:OpenLaw)(args:List WData):l.row.toRowW.claim.post args (.bool true) args=true:=
 postW_of (r:=l.row.toRowW) (X:=(true==true))
  (show WShape.has [] (.bool true) .bool=true by first | rfl | decide | simp[WShape.has,WShape.arms,WShape.armsAll])
  (show (WTm.eq .res (.lit (.bool true))).value [] {args:=args,res:=some (.bool true),after:=args}=some (.bool (true==true)) from w_eq_bool (w_res rfl) w_lit) rfl
theorem attach_call{l:OpenLaw}{n:Nat}{q:Program}{loose:List Str}{XP:(Str->Option Value)->Heap->Prop}{YP:World->Heap->Prop}{d:DefRec}
  (hn:l.most=some n) (hdf:d.params.defaults=[])
  (call:∀(w:World) (s₀ s₁ : Shared) (mg mb:Str->Option Value) (fa:Addr) (o:Obj) (pm cd doc:Value) (a:Addr) (vs:List Value) (ns:List Int),
   Ground q loose [] XP w s₀ mg mb s₁.heap->YP w s₁.heap ->
   s₁.heap.get? fa=some o->o.data = .func (docDef d.name d.params d.body d.scope pm cd doc)->s₁.heap.CodeRec cd d.name->mg d.name=some (.ref fa) ->
   s₁.heap.get? a=some {cls:=.type "list",data:=.seq vs.toArray}->IntsAre vs ns->ns.length<=n->s₁.gens = #[] ->
   codeAny (model l.prog w) callerA (.call (.ref fa) ⟨[.ref a],[]⟩) (λr s'=>r = .ok (.ret (.bool true))/\OldK s₁.heap s'.heap/\s'.os=s₁.os/\AllBare s'.gens) s₁):
  WalkO q loose XP YP l.row.toRowW d [] (λf vs=>PySem.call f vs):=by
 intro w s₀ s₁ mg mb G Y fa o pm cd doc dV kV ho hd hcd hD hmg hg args vals as hpre hlay hrd hwl hlo;obtain rfl:dV = .none:=Dflts.none hD hdf;obtain rfl:kV = .none:=Dflts.noKw hD;obtain⟨a,vs,ns,rfl,rfl,hobj,hints,hlen⟩:=Xhy hn hpre hwl;refine enter_call (codeAny_mono (call w s₀ s₁ mg mb fa o pm cd doc a vs ns G Y ho (fd_plain hd) hcd hmg hobj hints hlen hg) λr s' hq=>?_);obtain⟨rfl,h2,h3,h4⟩:=hq;exact⟨.inl ⟨.bool true,.bool true,[],rfl,λ_=>rfl,.bool true,Xhz l _,λ_=>⟨List.Pairwise.nil,λ_ hm=>(nomatch hm)⟩⟩,h2,h3,h4⟩
section
variable {prog:Program}{w:World}{A:Around}{E:Value->Shared->Prop}{s:Shared}{K:Frag}
def ledger (h:Heap) (L d:Addr):List (Addr×Obj):=(List.range h.objs.size).filterMap λa=>if a=L\/a=d then none else (h.get? a).map λo=>(a,o)
end
end Att
namespace L2
open PySem PySem.Spec PyProof.Rows
theorem Xbn:∀{vs:List Value} {ns:List Int},IntsAre vs ns->Vals (ns.map V.int) vs
 | _,_,.nil=>.nil
 | _,_,.cons n t h=>.cons ⟨t,rfl⟩ (Xbn h)
def Only (H:Hp):Prop:=∀b,H b=none \/ ∃o xs,H b=some (.frz o (.lst xs))
abbrev KOf {K:PySem.W.Frag} {h:Heap} (_:K.In h):PySem.W.Frag:=K
def Xqo (s:Stmt) (j:Nat):Stmt:=match s with
 | .ClassDef _ _ _ body _ _ _ _ _ _ _=>body.getD j (.Pass ⟨0,0,0,0⟩)
 | _=>.Pass ⟨0,0,0,0⟩
def D7 (s:Stmt):Arguments:=match s with
 | .FunctionDef _ a _ _ _ _ _ _ _ _=>a
 | _=>{posonlyargs:=[],args:=[],vararg:=none,kwonlyargs:=[],kw_defaults:=[],kwarg:=none,defaults:=[]}
def Cw (s:Stmt):List Stmt:=match s with
 | .FunctionDef _ _ b _ _ _ _ _ _ _=>b
 | _=>[]
def defScope (s:Stmt):Scope:=match s with
 | .FunctionDef _ _ _ _ _ _ sc _ _ _=>sc
 | _=>{kind:=.function,names:=[],isGenerator:=false,isCoroutine:=false}
abbrev CX0:CXT:=λ_ _ _ _ _ _=>False
abbrev E0:XK:=λ_ _ _=>False
theorem Ak{X:Cx}:Passes CX0 X E0:=λ_ _ _ _ _ _ _ h=>h.elim
structure Fun (K:PySem.W.Frag) (x qual:Str) (st:Stmt) (f:Addr) (fd:FuncData):Prop where
 ex:∃(oc:Value) (od:Option Addr) (kV doc pm:Value) (an:Option Addr) (cdv ct:Value) (osl:Array (Option Value)),
  fd=PySem.W.fnOf x qual (D7 st) (Cw st) (defScope st) .none kV doc pm an cdv ct/\K.lookup f=some ⟨oc,od,.func fd,osl⟩/\PySem.W.codeIn K cdv qual=true
 kp:PySem.W.keepIn K (.ref f)=true
section
variable {P:Program}{w:World}{K:PySem.W.Frag}{mg:Str->Option Value}{base:Heap}
theorem Fun.ok{x qual:Str}{st:Stmt}{f:Addr}{fd:FuncData}{N ps:List Str}{k:Nat}{sp:Sp}(F:Fun K x qual st f fd)(S:FnScope N ps (defScope st))(len:∀vs H Q E,sp vs H Q E->vs.length=ps.length)
  (hbody:∀(cdv:Value) (A:Around) (outer:List Env) (s:Shared) (H:Hp) (vs:List V) (Q:VK) (E:XK),Room k (A.deeper (envOfC qual (defScope st) s.heap.objs.size f cdv))->sp vs H Q E ->
   ∃t,PSs (Cj CX0 P w K mg base N qual (defScope st) f cdv A outer s H E).nox (Cw st) t/\t {nx:=λ_ H'=>Q .non H',rt:=Q} (start N vs) H):FnOk P w K mg base CX0 (k+1) f fd ps sp:=by
 obtain⟨oc,od,kV,doc,pm,an,cdv,ct,osl,rfl,lk,hcd⟩:=F.ex;refine Li lk hcd S len λA outer s H vs Q E hr hsp=>?_;obtain⟨t,h,q⟩:=hbody cdv A outer s H vs Q E hr hsp;exact⟨t,h.nox,q⟩
theorem Fun.binds{x qual:Str}{st:Stmt}{f:Addr}{fd:FuncData}{ps:List Str}(F:Fun K x qual st f fd)
  (h:∀(kV doc pm:Value) (an:Option Addr) (cdv ct:Value) (us:List Value),us.length=ps.length->bindArgs (PySem.W.fnOf x qual (D7 st) (Cw st) (defScope st) .none kV doc pm an cdv ct) ⟨us,[]⟩=pure (ps.zip us)):Binds K fd ps []:=by
 obtain⟨oc,od,kV,doc,pm,an,cdv,ct,osl,rfl,lk,hcd⟩:=F.ex;exact .all (h kV doc pm an cdv ct)
theorem Xbo{x qual:Str}{st:Stmt}{f:Addr}{oc:Value}{od an:Option Addr}{osl:Array (Option Value)}{kV doc pm cdv ct:Value}(l:K.lookup f=some ⟨oc,od,.func (PySem.W.fnOf x qual (D7 st) (Cw st) (defScope st) .none kV doc pm an cdv ct),osl⟩)
  (c:PySem.W.codeIn K cdv qual=true) (k:PySem.W.keepIn K (.ref f)=true):Fun K x qual st f (PySem.W.fnOf x qual (D7 st) (Cw st) (defScope st) .none kV doc pm an cdv ct):=⟨⟨oc,od,kV,doc,pm,an,cdv,ct,osl,rfl,l,c⟩,k⟩
end
theorem En{A:Around}{k:Nat}(hr:Room k A):A.units+1<cLine:=Ss (Nat.add_le_add_left (by decide:1<=64) _) hr.units
section
variable {X:Cx}
theorem pv(i:Nat){x:Str}{pos:Pos}(hN:X.N[i]? = some x:=by rfl)(hv:Vis X.env.scope x:=by first | exact Or.inl rfl | exact Or.inr (Or.inl rfl) | exact Or.inr (Or.inr rfl))(hd:(x==("__debug__" : Str))=false:=by decide)
  (hcd:(x==("__classdict__" : Str))=false:=by decide):PE X (.Name x pos) (Eh i):=Xgj hN hv hd hcd
end
theorem Cd{A B:Prop}(h:B):if false=true then A else B:=by
 rw[Tj O4];exact h
theorem Fb{A B:Prop}(h:A):if true=true then A else B:=by
 rw[Tk rfl];exact h
theorem Xh0{c A B:Prop}[Decidable c](hc:c)(h:B):if (!decide c)=true then A else B:=by
 rw[Tl hc];exact Cd h
def Same (H H':Hp):Prop:=∀b o,H b=some o->H' b=some o
theorem Same.refl(H:Hp):Same H H:=λ_ _ h=>h
theorem Same.trans{H H1 H2:Hp}(a:Same H H1)(b:Same H1 H2):Same H H2:=λc o h=>b c o (a c o h)
theorem Same.free{H H':Hp}(e:Same H H'){l:Addr}(h:H' l=Option.none):H l=Option.none:=by
 cases q:H l with
 | none=>rfl
 | some o=>
  rw[e l o q] at h;cases h
theorem Same.seq{K:PySem.W.Frag}{H H':Hp}{a:Addr}{xs:List V}(e:Same H H')(h:SqL K H a xs):SqL K H' a xs:=by
 rcases h with (h | ⟨o,h⟩) | h
 ·exact .inl (.inl (e _ _ h))
 ·exact .inl (.inr ⟨o,e _ _ h⟩)
 ·exact .inr h
section
variable {X:Cx}
end
section
variable {κ : Type} [DecidableEq κ]
theorem Xh1{kvs:List (κ × V)}{k : κ}(h:Av kvs k=none):¬k∈kvs.map (·.1):=by
 intro m;obtain⟨p,hp,e⟩:=Pe.mp m;have q:(kvs.any λkv=>decide (kv.1=k))=true:=Rr.mpr ⟨p,hp,Tl e⟩;rw[Em,h] at q;exact absurd q (by simp)
theorem Iy{kvs:List (κ × V)}{k : κ}{v:V}(h:Av kvs k=some v):k∈kvs.map (·.1):=by
 have q:(kvs.any λkv=>decide (kv.1=k))=true:=by
  rw[Em,h]
  all_goals rfl
 obtain⟨p,hp,e⟩:=Rr.mp q;exact Pe.mpr ⟨p,hp,Tn e⟩
theorem nd_snoc:∀{l:List κ} {k : κ},l.Nodup->¬k∈l->(l++[k]).Nodup
 | [],k,_,_=>by simp
 | a::r,k,h,hk=>by
  obtain⟨h1,h2⟩:=Qf.mp h;show (a::(r++[k])).Nodup;refine Qf.mpr ⟨λm=>?_,nd_snoc h2 λm=>hk (O6.mpr (Or.inr m))⟩;rcases Oz.mp m with q | q
  ·exact h1 q
  ·exact hk (O6.mpr (Or.inl (Ot.mp q).symm))
theorem Xh2{kvs:List (κ × V)}{k : κ}(v:V)(hn:(kvs.map (·.1)).Nodup)(h:Av kvs k=none):((Bk kvs k v).map (·.1)).Nodup:=by
 rw[Fx v h,O5];exact nd_snoc hn (Xh1 h)
end
def Ce (env:Env):List (Str×NameKind)->List (Str×Addr)->List (Str×Addr)
 | [],cs=>cs
 | (n,k)::r,cs=>if k == .free then Ce env r ((n,(env.cells.lookup n).getD 0)::cs) else Ce env r cs
theorem Lo{env:Env}:∀(names:List (Str×NameKind)) (cs:List (Str×Addr)),(∀x∈names,x.2 = .free->∃c,env.cells.lookup x.1=some c) ->
  (forIn names cs fun (x : Str × NameKind) r => (if (x.2 == .free) = true then do let c <- cellOf env x.1; pure (ForInStep.yield ((x.1, c) :: r)) else pure (ForInStep.yield r) : Sem (ForInStep (List (Str × Addr))))) = pure (Ce env names cs)
 | [],cs,_=>rfl
 | (n,k)::r,cs,h=>by
  rw[Sl];cases hk:(k==NameKind.free) with
  | true=>
   have hk':k = .free:=by simpa using hk
   obtain⟨c,hc⟩:=h (n,k) Ow hk';have e1:cellOf env n=pure c:=by unfold cellOf;rw[hc]
   simp only[hk,if_true,e1,pure_bind];rw[Lo r _ λx hx=>h x (Ou _ hx)];show _=pure (if (k==NameKind.free)=true then _ else _);rw[hk,Tk rfl,hc];rfl
  | false=>
   simp only[hk,Pf,if_false,pure_bind];rw[Lo r _ λx hx=>h x (Ou _ hx)];show _=pure (if (k==NameKind.free)=true then _ else _);rw[hk,Tj O4]
theorem Xbp{scope:Scope}{env:Env}(h:∀x∈scope.names,x.2 = .free->∃c,env.cells.lookup x.1=some c):closureFor scope env=pure (Ce env scope.names []):=by
 have e:=Lo scope.names [] h
 have q : closureFor scope env = (forIn scope.names [] fun (x : Str × NameKind) r => (if (x.2 == .free) = true then do let c <- cellOf env x.1; pure (ForInStep.yield ((x.1, c) :: r)) else pure (ForInStep.yield r) : Sem (ForInStep (List (Str × Addr))))) >>= fun cs => pure cs := rfl
 rw[q,e];rfl
theorem Lp{env:Env}{x:Str}{c:Addr}:∀(names:List (Str×NameKind)) (cs:List (Str×Addr)),(∀x∈names,x.2 = .free->∃c,env.cells.lookup x.1=some c) ->
  (Ce env names cs).lookup x=some c->cs.lookup x=some c\/env.cells.lookup x=some c
 | [],cs,_,h=>.inl h
 | (n,k)::r,cs,hf,h=>by
  unfold Ce at h;split at h
  ·rename_i hk;rcases Lp r _ (λx hx=>hf x (Ou _ hx)) h with q | q
   ·rw[P5] at q;split at q
    ·rename_i e;have e':x=n:=by simpa using e
     subst e';obtain⟨c',hc⟩:=hf (x,k) Ow (by simpa using hk);have hc':env.cells.lookup x=some c':=hc;rw[hc'] at q ⊢;exact .inr q
    ·exact .inl q
   ·exact .inr q
  ·exact Lp r _ (λx hx=>hf x (Ou _ hx)) h
theorem Lq{env:Env}{x:Str}:∀(names:List (Str×NameKind)) (cs:List (Str×Addr)),((cs.lookup x).isSome=true\/(x,NameKind.free)∈names)->((Ce env names cs).lookup x).isSome=true
 | [],cs,h=>by
  rcases h with h | h
  ·exact h
  ·cases h
 | (n,k)::r,cs,h=>by
  unfold Ce;split
  ·refine Lq r _ ?_;rw[P5];rcases h with h | h
   ·left;split
    ·rfl
    ·exact h
   ·rcases O6.mp h with e | h
    ·left;cases e;simp
    ·exact .inr h
  ·rename_i hk;refine Lq r _ ?_;rcases h with h | h
   ·exact .inl h
   ·rcases O6.mp h with e | h
    ·cases e;exact absurd rfl hk
    ·exact .inr h
theorem Xbq{env:Env}{x:Str}{k':NameKind}:∀{names:List (Str×NameKind)},
  (names.map λ(n,k)=>if (k==NameKind.free&&env.scope.kind == .function&&env.kindOf n==some .cell) then (n,NameKind.cell) else (n,k)).lookup x=some k'->∃k,names.lookup x=some k/\(k'=k\/k = .free)
 | [],h=>by simp at h
 | (n,k)::r,h=>by
  have ih := @Xbq env x k' r;have h':List.lookup x ((if (k==NameKind.free&&env.scope.kind == .function&&env.kindOf n==some .cell)=true then (n,NameKind.cell) else (n,k))::_)=_:=h;rw[P5];by_cases hc:(k==NameKind.free&&env.scope.kind == .function&&env.kindOf n==some .cell)=true
  ·rw[Tk hc,P5] at h';cases hx:x==n with
   | true=>
    have hk:k = .free:=by
     simp only[O9,beq_iff_eq] at hc;exact hc.1.1
    exact⟨k,rfl,.inr hk⟩
   | false=>
    rw[hx] at h';exact ih h'
  ·rw[Tj hc,P5] at h';cases hx:x==n with
   | true=>
    rw[hx] at h';exact⟨k,rfl,.inl (Pa h').symm⟩
   | false=>
    rw[hx] at h';exact ih h'
theorem Lr:∀(names:List (Str×NameKind)) (h:Heap) (acc:List (Str×Addr)) (x:Str) (c:Addr),(cellsFrom h.objs.size names acc).lookup x=some c ->
  (h.objs.size<=c/\(x,NameKind.cell)∈names/\(pushCells h names).IsCell c none)\/acc.lookup x=some c
 | [],_,_,_,_,e=>.inr e
 | (name,kind)::r,h,acc,x,c,e=>by
  unfold cellsFrom at e;unfold pushCells;by_cases hk:(kind==NameKind.cell)=true
  ·rw[Tk hk] at e ⊢;have hk':kind = .cell:=by simpa using hk
   have sz:(h.push {cls:=.type "cell",data:=.cell none}).objs.size=h.objs.size+1:=Heap.size_push ..;rw[<-sz] at e;rcases Lr r _ _ x c e with ⟨a1,a2,a3⟩ | a
   ·exact .inl ⟨by omega,Ou _ a2,a3⟩
   ·rw[P5] at a;cases hx:x==name with
    | true=>
     rw[hx] at a;cases a;have:x=name:=by simpa using hx
     subst this;refine .inl ⟨Oq _,by rw[hk'];exact Ow,?_⟩;exact⟨_,pushCells_keeps r _ _ _ (Heap.get?_push_size _ rfl),rfl⟩
    | false=>rw[hx] at a;exact .inr a
  ·rw[Tj hk] at e ⊢;rcases Lr r h acc x c e with ⟨a1,a2,a3⟩ | a
   ·exact .inl ⟨a1,Ou _ a2,a3⟩
   ·exact .inr a
theorem Lu:∀(names:List (Str×NameKind)) (n:Nat) (acc:List (Str×Addr)),(∀x y c,acc.lookup x=some c->acc.lookup y=some c->x=y)->(∀x c,acc.lookup x=some c->c<n) ->
  ∀x y c,(cellsFrom n names acc).lookup x=some c->(cellsFrom n names acc).lookup y=some c->x=y
 | [],_,_,h,_=>h
 | (name,kind)::r,n,acc,h,hb=>by
  unfold cellsFrom;by_cases hk:(kind==NameKind.cell)=true
  ·rw[Tk hk];refine Lu r (n+1) _ (λx y c e1 e2=>?_) (λx c e=>?_)
   ·rw[P5] at e1 e2;cases hx:x==name with
    | true=>
     cases hy:y==name with
     | true=>rw[beq_iff_eq.mp hx,beq_iff_eq.mp hy]
     | false=>
      rw[hx] at e1;rw[hy] at e2;cases e1;exact absurd (hb y _ e2) (P3 _)
    | false=>
     cases hy:y==name with
     | true=>
      rw[hx] at e1;rw[hy] at e2;cases e2;exact absurd (hb x _ e1) (P3 _)
     | false=>rw[hx] at e1;rw[hy] at e2;exact h x y c e1 e2
   ·rw[P5] at e;cases hx:x==name with
    | true=>rw[hx] at e;cases e;exact Nat.lt_succ_self _
    | false=>rw[hx] at e;exact Qk (hb x c e)
  ·rw[Tj hk];exact Lu r n acc h hb
theorem Lv{env:Env}{x:Str}{c:Addr}:∀(names:List (Str×NameKind)) (cs:List (Str×Addr)),(Ce env names cs).lookup x=some c->cs.lookup x=some c\/(x,NameKind.free)∈names
 | [],cs,h=>.inl h
 | (n,k)::r,cs,h=>by
  unfold Ce at h;split at h
  ·rename_i hk;have hk':k = .free:=by simpa using hk
   rcases Lv r _ h with q | q
   ·rw[P5] at q;cases hx:x==n with
    | true=>
     have:x=n:=by simpa using hx
     subst this;exact .inr (by rw[hk'];exact Ow)
    | false=>rw[hx] at q;exact .inl q
   ·exact .inr (Ou _ q)
  ·rcases Lv r _ h with q | q
   ·exact .inl q
   ·exact .inr (Ou _ q)
theorem Xh3{M:Model}{A:Around}{E:Value->Shared->Prop}{s:Shared}{scope:Scope}{globals:Addr}{closure:List (Str×Addr)}{qual:Str}{outer:Env}{Q:Env->Shared->Prop}
  (h:Q (newEnv scope s.heap.objs.size globals (cellsFrom (s.heap.objs.size+1) scope.names closure) qual none .none (some outer) builtinsNs) {s with heap:=pushCells (s.heap.push {cls:=.type "dict",data:=.dict #[]}) scope.names}):
  wpAny M A (newFunctionEnv scope globals closure [] qual none .none (some outer)) Q E s:=by
 simp only[newFunctionEnv,Sr,if_true];refine Te (wpAny_alloc ?_);refine Te (wpAny_layCells _ (λname kind cells=>by cases hkc:kind==NameKind.cell<;>simp[hkc]) _ _ _ _ ?_);rw[show ({s with heap:=s.heap.push {cls:=.type "dict",data:=.dict #[]} }:Shared).heap.objs.size=s.heap.objs.size+1 from Heap.size_push ..];refine Te ?_;rw[Sy];exact Tf (Tf h)
def G2 (X:Cx) (scope:Scope) (s0:Shared):List (Str×Addr):=cellsFrom (s0.heap.objs.size+1) scope.names (Ce X.env scope.names [])
def Cx.comp (X:Cx) (N:List Str) (scope:Scope) (s0:Shared) (H0:Hp) (ex:List Addr):Cx where
 prog:=X.prog
 w:=X.w
 K:=X.K
 mg:=X.mg
 base:=X.base
 A:=X.A
 N:=N
 s₀:=s0
 H₀:=H0
 env:=compEnvC scope (G2 X scope s0) s0.heap.objs.size X.env
 outer:=X.stack
 stack:=X.stack
 ex:=ex
 fn:=λx=>decide (scope.names.lookup x=some .cell)
 calm:=X.calm
 pn:=[]
 xe:=λ_ _=>False
def B2 (cap:List (Option Nat)) (σ:St):St:=cap.map λo=>o.bind λj=>(σ[j]?).join
structure CompScope (X:Cx) (N:List Str) (cap:List (Option Nat)) (scope:Scope):Prop where
 kind:scope.kind = .function
 uniq:∀y∈scope.names,scope.names.lookup y.1=some y.2
 free:∀y∈scope.names,y.2 = .free->X.env.kindOf y.1=some .cell\/X.env.kindOf y.1=some .free
 len:cap.length=N.length
 cap:∀(i:Nat) (x:Str) (j:Nat),N[i]? = some x->cap[i]? = some (some j)->X.N[j]? = some x/\scope.names.lookup x=some .free
def PIfs (X:Cx) (ifs:List Expr) (t:TT):Prop:=
 ∀(pins:List (Addr×Obj)) (s:Shared) (σ:St) (H:Hp) (Q:Bool->Hp->Prop),Inv X pins σ H s->t σ H Q ->
  wpAny (model X.prog X.w) X.A (forIn ifs true fun c r => if r = true then do let ok <- isTrue c X.env (eval c X.env); pure (ForInStep.yield ok) else pure (ForInStep.yield r)) (TP X pins σ Q) X.xe s
def Eo:TT:=λ_ H Q=>Q true H
theorem Cf{X:Cx}:PIfs X [] Eo:=λ_ _ _ H _ I h=>wpAny_tests_nil ⟨H,I,h⟩
theorem Ds{X:Cx}{c:Expr}{t:TT}(h:PT X c t):PIfs X [c] t:=λpins s σ H Q I hw=>wpAny_tests_one (h pins s σ H Q I hw)
def Ep (cap:List (Option Nat)) (g:TG) (tt:TT) (te:TE) (J:It) (σ:St) (H1:Hp) (F:Addr->Hp->Prop):Prop:=
 ∀D,H1 D=none->∃W:Nat->Nat->St->Hp->Prop,(∃m,W 0 m (B2 cap σ) (upd H1 D (.lst [])))/\∀i m σ1 H2,W i m σ1 H2 ->
  (J.stop i H2/\F D H2)\/(J.go i H2/\∀x H3,J.yld i H2 x H3->g x σ1 H3 fun σ2 H4=>tt σ2 H4 λb H5=>
   if b=true then te σ2 H5 λy H6=>∃ys,H6 D=some (.lst ys)/\ys.length<sizeLine/\∃m',m'<m/\W (i+1) m' σ2 (upd H6 D (.lst (ys++[y])))
   else ∃m',m'<m/\W (i+1) m' σ2 H5)
theorem Xbr{env:Env}{x:Str}:∀{names:List (Str×NameKind)} {k:NameKind},names.lookup x=some k ->
  (names.map λ(n,k)=>if (k==NameKind.free&&env.scope.kind == .function&&env.kindOf n==some .cell) then (n,NameKind.cell) else (n,k)).lookup x=some (if (k==NameKind.free&&env.scope.kind == .function&&env.kindOf x==some .cell) then NameKind.cell else k)
 | [],_,h=>by simp at h
 | (n,q)::r,k,h=>by
  have ih := @Xbr env x r k;show List.lookup x ((if (q==NameKind.free&&env.scope.kind == .function&&env.kindOf n==some .cell)=true then (n,NameKind.cell) else (n,q))::_)=_;rw[P5] at h;cases hx:x==n with
  | true=>
   rw[hx] at h;cases h;have:x=n:=by simpa using hx
   subst this;by_cases hc:(q==NameKind.free&&env.scope.kind == .function&&env.kindOf x==some .cell)=true
   ·rw[Tk hc,Tk hc,P5,hx]
   ·rw[Tj hc,Tj hc,P5,hx]
  | false=>
   rw[hx] at h;by_cases hc:(q==NameKind.free&&env.scope.kind == .function&&env.kindOf n==some .cell)=true
   ·rw[Tk hc,P5,hx];exact ih h
   ·rw[Tj hc,P5,hx];exact ih h
section
variable {X:Cx}{N:List Str}{cap:List (Option Nat)}{scope:Scope}{pins:List (Addr×Obj)}{σ:St}{H H':Hp}{s s':Shared}{fp:List Addr}
theorem Lw(C:CompScope X N cap scope)(ok:X.Ok):∀x∈scope.names,x.2 = .free->∃c,X.env.cells.lookup x.1=some c:=λx hx hf=>ok.has x.1 (C.free x hx hf)
theorem Iz(C:CompScope X N cap scope)(ok:X.Ok){x:Str}{c:Addr}(h:(Ce X.env scope.names []).lookup x=some c):X.env.cells.lookup x=some c:=by
 rcases Lp scope.names [] (Lw C ok) h with q | q
 ·simp at q
 ·exact q
theorem Xbs(C:CompScope X N cap scope)(ok:X.Ok){x:Str}(h:scope.names.lookup x=some .free):∃c,(Ce X.env scope.names []).lookup x=some c:=
 Qz.mp (Lq scope.names [] (.inr (PySem.mem_of_lookup h)))
theorem Xbt(C:CompScope X N cap scope)(ok:X.Ok){h:Heap}(hz:h.objs.size=s.heap.objs.size+1){x:Str}{c:Addr}(e:(G2 X scope s).lookup x=some c):
  (s.heap.objs.size<c/\scope.names.lookup x=some .cell/\(pushCells h scope.names).IsCell c none)\/(scope.names.lookup x=some .free/\X.env.cells.lookup x=some c):=by
 unfold G2 at e;rw[<-hz] at e;rcases Lr scope.names h _ x c e with ⟨a1,a2,a3⟩ | a
 ·exact .inl ⟨by omega,C.uniq _ a2,a3⟩
 ·refine .inr ⟨?_,Iz C ok a⟩;rcases Lv scope.names [] a with q | q
  ·simp at q
  ·exact C.uniq _ q
theorem Xh4(C:CompScope X N cap scope)(I:Inv X pins σ H s)(hf:∀b∈fp,FpOk X pins H b)(hfl:∀b∈fp,b<s.heap.objs.size){tk:Nat}:
  Inv (X.comp N scope s H fp) [] (B2 cap σ) H {s with heap:=pushCells (s.heap.push {cls:=.type "dict",data:=.dict #[]}) scope.names,toks:=tk}:=by
 have hC:H s.heap.objs.size=none:=I.hok.fresh (Oq _);have hz:(s.heap.push {cls:=.type "dict",data:=.dict #[]}).objs.size=s.heap.objs.size+1:=Heap.size_push ..;have hns:(pushCells (s.heap.push {cls:=.type "dict",data:=.dict #[]}) scope.names).Ns s.heap.objs.size λ_=>none:=(Heap.Ns.new s.heap (.type "dict")).keeps (pushCells_keeps _ _);have hk:∀b o,s.heap.get? b=some o->(pushCells (s.heap.push {cls:=.type "dict",data:=.dict #[]}) scope.names).get? b=some o:=λb o e=>pushCells_keeps _ _ b o (Tr _ e);have look:∀{x c},(X.comp N scope s H fp).env.cells.lookup x=some c->_:=λ{x c} h=>Xbt (s:=s) C I.ok hz h;have clt:∀x c,X.env.cells.lookup x=some c->c<s.heap.objs.size:=λx c h=>by
  obtain⟨v,q⟩:=I.cell x c h;exact q.lt
 have kind:∀x k,(relabel scope X.env).names.lookup x=some k->k = .cell\/k = .free->scope.names.lookup x=some .cell\/scope.names.lookup x=some .free:=λx k e hk=>by
  obtain⟨k0,e0,z⟩:=Xbq e;rcases z with z | z
  ·rw[<-z] at e0;rcases hk with q | q
   ·rw[q] at e0;exact .inl e0
   ·rw[q] at e0;exact .inr e0
  ·rw[z] at e0;exact .inr e0
 refine⟨⟨I.ok.mod,C.kind,I.ok.glob,I.ok.blt,Oq _,?inj,λx hx=>?has,λx c h e=>?cab,I.ok.hd,I.ok.frames,.inl rfl,λb hb=>⟨O1 (hfl b hb),λx c h=>?exf⟩,
   I.bs,Pr I.ok.bsz I.sz,λb o e hb=>?noex,λb hb hs=>?exfs,I.stack,I.stkFree⟩,
  rfl,I.bare,Un.kept hk,⟨_,hns,λi x v h1' h2 h3=>?loc⟩,λx c h=>?cell,hC,λx c h=>?freeC,λp hp=>absurd (show p∈([]:List (Addr×Obj)) from hp) (by simp),I.hok.kept hk,?len⟩
 case inj=>
  refine Lu scope.names _ _ (λx y c e1 e2=>I.ok.inj x y c (Iz C I.ok e1) (Iz C I.ok e2)) λx c e=>Qk (clt x c (Iz C I.ok e))
 case has=>
  have hx':(relabel scope X.env).names.lookup x=some .cell\/(relabel scope X.env).names.lookup x=some .free:=hx;refine Qz.mp (PySem.W.cellsFrom_some scope.names _ _ ?_);rcases (hx'.elim (λq=>kind x _ q (.inl rfl)) λq=>kind x _ q (.inr rfl)) with q | q
  ·exact .inl q
  ·obtain⟨c,hc⟩:=Xbs C I.ok q;exact .inr (by rw[hc];rfl)
 case cab=>
  have h:scope.names.lookup x=some .cell:=Tn h;rcases look e with ⟨a,_⟩ | ⟨a,_⟩
  ·exact R5 a
  ·rw[h] at a;cases a
 case exf=>
  rcases look h with ⟨a,_⟩ | ⟨_,a⟩
  ·exact λz=>P3 _ (Rq a (by rw[z];exact hfl b hb))
  ·exact(hf b hb).2.2.2.2.1 x c a
 case noex=>
  obtain⟨_,_,_,z,_⟩:=hf b hb;rcases z with z | z
  ·exact I.ok.noex b o e z
  ·exact absurd (Pd (Tq e) (Pr I.ok.bsz z)) (P3 _)
 case exfs=>
  obtain⟨_,f1,f2,_⟩:=hf b hb;rcases O6.mp (I.stkSub b hs) with e | e
  ·exact f1 e
  ·exact f2 e
 case loc=>
  have h2':(cap.map λo=>o.bind λj=>(σ[j]?).join)[i]? = some (some v):=h2;rw[O2] at h2';cases hc:cap[i]? with
  | none=>rw[hc] at h2';cases h2'
  | some o=>
   rw[hc] at h2';cases o with
   | none=>cases h2'
   | some j=>
    have h2'':(σ[j]?).join=some v:=Pa h2';have hσ : σ[j]? = some (some v):=by
     cases hj : σ[j]? with
     | none=>rw[hj] at h2'';cases h2''
     | some o=>rw[hj] at h2'';exact congrArg some h2''
    obtain⟨hN,hfr⟩:=C.cap i x j h1' hc;obtain⟨m,hn,hl⟩:=I.loc;have hkind:X.env.kindOf x=some .cell\/X.env.kindOf x=some .free:=C.free (x,.free) (PySem.mem_of_lookup hfr) rfl;obtain⟨u,r,l⟩:=hl j x v hN hσ (by rcases hkind with q | q;exact .inr (.inl q);exact .inr (.inr q));refine⟨u,r,.inr ⟨?_,?_⟩⟩
    ·show (relabel scope X.env).names.lookup x=some .cell\/(relabel scope X.env).names.lookup x=some .free;have:=Xbr (env:=X.env) hfr;have e:(relabel scope X.env).names.lookup x=_:=this;rw[e];split
     ·exact .inl rfl
     ·exact .inr rfl
    ·obtain⟨c,hcl⟩:=Xbs C I.ok hfr;obtain⟨c2,hc2⟩:=Qz.mp (PySem.W.cellsFrom_some scope.names (s.heap.objs.size+1) (Ce X.env scope.names []) (x:=x) (.inr (by rw[hcl];rfl)));rcases look (x:=x) (c:=c2) hc2 with ⟨_,a,_⟩ | ⟨_,a⟩
     ·rw[hfr] at a;cases a
     ·rcases l with ⟨k,_⟩ | ⟨_,c',e,z⟩
      ·rcases hkind with q | q
       ·rw[k] at q;cases q
       ·rw[k] at q;cases q
      ·rw[a] at e;cases e;obtain⟨o,ho,hd⟩:=z;exact⟨c2,hc2,o,hk c2 o ho,hd⟩
 case cell=>
  rcases look h with ⟨_,_,a⟩ | ⟨_,a⟩
  ·exact⟨none,a⟩
  ·obtain⟨v,o,ho,hd⟩:=I.cell x c a;exact⟨v,o,hk c o ho,hd⟩
 case freeC=>
  rcases look h with ⟨a,_⟩ | ⟨_,a⟩
  ·exact I.hok.fresh (R5 a)
  ·exact I.freeC x c a
 case len=>
  show (cap.map _).length=N.length;rw[Oo,C.len]
end
def Xh5 (cap:List (Option Nat)) (wi:TI) (g:TG) (tt:TT) (te:TE):TE:=fun σ H Q=>wi σ H λJ H1=>Ep cap g tt te J σ H1 λD H2=>Q (.ref D) H2
def Xh6 (i:Nat) (cap:List (Option Nat)) (wi:TI) (g:TG) (tt:TT) (te:TE):TS:=λD σ H=>wi σ H λJ H1=>Ep cap g tt te J σ H1 λl H2=>D.nx (σ.set i (some (.ref l))) H2
theorem A0.there{P:Program}{w:World}{H:Hp}{h:Heap}{a:Addr}{o:HO}(x:A0 P w H h a o):∃u,h.get? a=some u:=by
 cases o with
 | lst xs=>obtain⟨_,_,_,_,e⟩:=x;exact⟨_,e⟩
 | tup xs=>obtain⟨_,_,_,o,e,_⟩:=x;exact⟨_,e⟩
 | dK kvs=>obtain⟨_,_,_,_,o,_,_,e,_⟩:=x;exact⟨_,e⟩
 | dT kvs=>obtain⟨_,_,_,_,o,_,_,e,_⟩:=x;exact⟨_,e⟩
 | set S n=>obtain⟨o,_,_,_,e,_⟩:=x;exact⟨_,e⟩
 | ins C dx fs=>obtain⟨_,_,_,e,_⟩:=x;exact⟨_,e⟩
 | own y=>exact x
 | xd fs=>obtain⟨_,⟨_,_,_,e,_⟩,_⟩:=x;exact⟨_,e⟩
 | rng lo hi=>obtain⟨_,_,_,e⟩:=x;exact⟨_,e⟩
 | frz ob u=>obtain⟨e,_⟩:=x;exact⟨_,e⟩
 | tbl ps=>exact⟨_,(show h.get? a=some _ from x)⟩
 | met f y=>exact⟨_,(show h.get? a=some _ from x)⟩
 | ext φ=>obtain⟨_,e,_⟩:=x;exact e
structure Flown (P:Program) (w:World) (outer:List Env) (H:Hp) (hc:Heap) (H':Hp) (ex C:Addr) (B:Heap) (a0:Value) (h:Heap):Prop where
 un:Un (frs outer) [] H H' hc h
 hok:HOk P w H' h
 fly:Heap.FlyingW B outer ex (.ref C) a0 h
 inB:∀b o,h.get? b=some o->b∉frs outer->((∃o',hc.get? b=some o')\/H' b≠none)->B.get? b=some o
 frf:∀b∈frs outer,H' b=none
theorem Flown.move{P:Program}{w:World}{outer:List Env}{H H':Hp}{hc B h h':Heap}{ex C:Addr}{a0:Value}(F:Flown P w outer H hc H' ex C B a0 h)(st:B.StaysIn h')(up:h.UpToSlots h'):
  Un (frs outer) [] H H' hc h'/\HOk P w H' h'/\∀b o,h'.get? b=some o->b∉frs outer->((∃o',hc.get? b=some o')\/H' b≠none)->B.get? b=some o:=by
 have nf:∀b∈frs outer,∀o,h.get? b=some o->∀vs,o.data ≠ .fields vs:=λb hb o e=>by
  obtain⟨_,o',e',d⟩:=F.fly.2.2.1.mem hb;rw[e] at e';cases e';exact d
 have tr:∀b o,H' b=some o->b∉frs outer:=λb o e hb=>by rw[F.frf b hb] at e;cases e
 have old:∀b,(∃o',hc.get? b=some o')\/H' b≠none->∃o,h.get? b=some o:=λb hb=>by
  rcases hb with ⟨o',e⟩ | hb
  ·obtain⟨o,e'⟩:=F.un.there b o' e (by simp);exact⟨o,e'⟩
  ·cases q:H' b with
   | none=>exact absurd q hb
   | some u=>exact(F.hok b u q).there
 refine⟨⟨λb o e n hb hx=>?_,λb o e n hb hx=>?_,F.un.free,λb o e hx=>?_,F.un.tups,F.un.frzs,F.un.tbls⟩,λa o e=>?_,λb o e hb hw=>?_⟩
 ·exact st b o (F.inB b o (F.un.keep b o e n hb hx) hb (.inl ⟨o,e⟩))
 ·obtain⟨sl,e1⟩:=F.un.slot b o e n hb hx;obtain⟨sl',e2⟩:=up b _ e1 (nf b hb _ e1);exact⟨sl',e2⟩
 ·obtain⟨o1,e1⟩:=F.un.there b o e hx;by_cases hb:b∈frs outer
  ·obtain⟨sl',e2⟩:=up b _ e1 (nf b hb _ e1);exact⟨_,e2⟩
  ·exact⟨o1,st b o1 (F.inB b o1 e1 hb (.inl ⟨o,e⟩))⟩
 ·refine(F.hok a o e).stay (λb u hb q=>?_) (λ_ q=>q) λ_ _ q=>q;have hn:H' b≠none:=by
   rcases hb with z | z
   ·rw[z,e];simp
   ·rw[z];simp
  have hb':b∉frs outer:=λz=>hn (F.frf b z);exact st b u (F.inB b u q hb' (.inr hn))
 ·obtain⟨o1,e1⟩:=old b hw;have e2:=F.inB b o1 e1 hb hw;have e3:=st b o1 e2;rw[e] at e3;cases e3;exact e2
def CX1 (P:Program) (w:World):CXT:=λouter H s E e s'=>
 ∃ex C H' B a0,e = .ref ex/\s'.os=s.os/\AllBare s'.gens/\Flown P w outer H s.heap H' ex C B a0 s'.heap/\E (.ref C) none H'
section
variable {P:Program}{w:World}{K:PySem.W.Frag}{mg:Str->Option Value}{base:Heap}{N:List Str}{qual:Str}{scope:Scope}{f:Addr}{cd:Value}{A:Around}{outer:List Env}{s:Shared}{H:Hp}{E:XK}
def Leaves (X:Cx) (E:XK):Prop:=∀(pins:List (Addr×Obj)) (σ:St) (H:Hp) (s:Shared) (h':Heap) (ex C:Addr) (args:List Value),
 Inv X pins σ H s->Heap.MadeExcOf s.heap h' ex (.ref C) args->E (.ref C) none H->X.xe (.ref ex) {s with heap:=h'}
theorem leaves1:Leaves (Cj (CX1 P w) P w K mg base N qual scope f cd A outer s H E) E:=by
 intro pins σ H1 s1 h' ex C args I hm hE;show wpAny (model P w) (A.deeper (envOfC qual scope s.heap.objs.size f cd)) (leaving (envOfC qual scope s.heap.objs.size f cd) (.ref ex)) _ _ {s1 with heap:=h'};have hst:(Cj (CX1 P w) P w K mg base N qual scope f cd A outer s H E).stack=envOfC qual scope s.heap.objs.size f cd::outer:=rfl;have hin:∀env∈(envOfC qual scope s.heap.objs.size f cd::outer),∀b,env.frame=some b->b∈frs (envOfC qual scope s.heap.objs.size f cd::outer):=λenv he b hb=>Sq.mpr ⟨env,he,hb⟩;have hFun:s1.heap.FunFrames base (envOfC qual scope s.heap.objs.size f cd::outer):=I.stack;have hB:(PySem.W.hideAll s1.heap (frs (envOfC qual scope s.heap.objs.size f cd::outer))).StaysIn s1.heap:=λb o q=>PySem.W.of_hideAll _ q;have getB:∀b o,s1.heap.get? b=some o->b∉frs (envOfC qual scope s.heap.objs.size f cd::outer)->(PySem.W.hideAll s1.heap (frs (envOfC qual scope s.heap.objs.size f cd::outer))).get? b=some o:=λb o e n=>PySem.W.hideAll_get _ e n;have sub:∀b,b∈frs (envOfC qual scope s.heap.objs.size f cd::outer)->b=s.heap.objs.size\/b∈frs outer:=λb hb=>O6.mp (I.stkSub b hb);have sup:∀b,b∈frs outer->b∈frs (envOfC qual scope s.heap.objs.size f cd::outer):=λb hb=>by
  unfold frs at hb ⊢;rw[Qr];split
  ·exact hb
  ·exact Ou _ hb
 have frFree:∀b,b∈frs (envOfC qual scope s.heap.objs.size f cd::outer)->H1 b=none:=λb hb=>I.stkFree b hb;refine wpAny_leaves_madeW (A:=A.deeper (envOfC qual scope s.heap.objs.size f cd)) (L:=s.heap.objs.size) I.ok.frames rfl hB (PySem.W.funFrames_hide hFun hin) hm λh'' t f1 _ _ up=>?_;have old:∀b o,s.heap.get? b=some o->b∉frs outer->b∉frs (envOfC qual scope s.heap.objs.size f cd::outer):=λb o e nb hb=>by
  rcases sub b hb with z | z
  ·exact absurd (Tq e) (by rw[z];exact P3 _)
  ·exact nb z
 have nf:∀b∈frs (envOfC qual scope s.heap.objs.size f cd::outer),∀o,s1.heap.get? b=some o->∀vs,o.data ≠ .fields vs:=λb hb o e=>by
  obtain⟨_,o',e',d⟩:=hFun.mem hb;rw[e] at e';cases e';exact d
 refine⟨ex,C,H1,_,_,rfl,I.os,I.bare,⟨⟨λb o e n hb hx=>?_,λb o e n hb hx=>?_,I.base.free,λb o e hx=>?_,I.base.tups,I.base.frzs,I.base.tbls⟩,λa o e=>?_,f1,λb o e hb hw=>?_,λb hb=>frFree b (sup b hb)⟩,hE⟩
 ·exact f1.1 b o (getB b o (I.base.keep b o e n hb hx) (old b o e hb))
 ·obtain⟨sl,e1⟩:=I.base.slot b o e n hb hx;obtain⟨sl',e2⟩:=up b _ (hm.keeps _ _ e1) (nf b (sup b hb) _ e1);exact⟨sl',e2⟩
 ·obtain⟨o1,e1⟩:=I.base.there b o e hx;by_cases hb:b∈frs (envOfC qual scope s.heap.objs.size f cd::outer)
  ·obtain⟨sl',e2⟩:=up b _ (hm.keeps _ _ e1) (nf b hb _ e1);exact⟨_,e2⟩
  ·exact⟨o1,f1.1 b o1 (getB b o1 e1 hb)⟩
 ·refine(I.hok a o e).stay (λb u hb q=>?_) (λ_ q=>q) λ_ _ q=>q;have hn:H1 b≠none:=by
   rcases hb with z | z
   ·rw[z,e];simp
   ·rw[z];simp
  exact f1.1 b u (getB b u q λz=>hn (frFree b z))
 ·have:∃o1,s1.heap.get? b=some o1/\b∉frs (envOfC qual scope s.heap.objs.size f cd::outer):=by
   rcases hw with ⟨o',e'⟩ | hw
   ·obtain⟨o1,e1⟩:=I.base.there b o' e' (λz=>absurd (show b∈([]:List Addr) from z) (by simp));exact⟨o1,e1,old b o' e' hb⟩
   ·cases q:H1 b with
    | none=>exact absurd q hw
    | some u=>
     obtain⟨o1,e1⟩:=(I.hok b u q).there;exact⟨o1,e1,λz=>hw (frFree b z)⟩
  obtain⟨o1,e1,nb⟩:=this;have e2:=getB b o1 e1 nb;have e3:=f1.1 b o1 e2;rw[e] at e3;cases e3;exact e2
theorem pass1:Passes (CX1 P w) (Cj (CX1 P w) P w K mg base N qual scope f cd A outer s H E) E:=by
 intro pins σ H1 s1 e s' I h;obtain⟨ex,C,H',B,a0,rfl,hos,hbare,F,hE⟩:=h;show wpAny (model P w) (A.deeper (envOfC qual scope s.heap.objs.size f cd)) (leaving (envOfC qual scope s.heap.objs.size f cd) (.ref ex)) _ _ s';have sub:∀b,b∈frs (envOfC qual scope s.heap.objs.size f cd::outer)->b=s.heap.objs.size\/b∈frs outer:=λb hb=>O6.mp (I.stkSub b hb);have sup:∀b,b∈frs outer->b∈frs (envOfC qual scope s.heap.objs.size f cd::outer):=λb hb=>by
  unfold frs at hb ⊢;rw[Qr];split
  ·exact hb
  ·exact Ou _ hb
 have old:∀b o,s.heap.get? b=some o->b∉frs outer->b∉frs (envOfC qual scope s.heap.objs.size f cd::outer):=λb o e nb hb=>by
  rcases sub b hb with z | z
  ·exact absurd (Tq e) (by rw[z];exact P3 _)
  ·exact nb z
 have F':Flown P w (envOfC qual scope s.heap.objs.size f cd::outer) H1 s1.heap H' ex C B a0 s'.heap:=F;refine wpAny_leaves_onW (A:=A.deeper (envOfC qual scope s.heap.objs.size f cd)) (L:=s.heap.objs.size) I.ok.frames rfl F'.fly λh'' f1 up=>?_;obtain⟨un,hok,inB⟩:=F'.move f1.1 up;refine⟨ex,C,H',B,a0,rfl,hos.trans I.os,hbare,⟨?_,hok,f1,λb o e hb hw=>?_,λb hb=>F'.frf b (sup b hb)⟩,hE⟩
 ·have un0:Un (frs outer) [] H H1 s.heap s1.heap:=I.base;refine⟨λb o e n hb hx=>?_,λb o e n hb hx=>?_,λb o e n hx=>?_,λb o e hx=>?_,λb xs e=>un.tups b xs (un0.tups b xs e),λb ob u e=>un.frzs b ob u (un0.frzs b ob u e),λb ps e=>?_⟩
  ·exact un.keep b o (un0.keep b o e n hb hx) (un0.free b o e n hx) (old b o e hb) hx
  ·obtain⟨sl,e1⟩:=un0.slot b o e n hb hx;obtain⟨sl',e2⟩:=un.slot b _ e1 (un0.free b o e n hx) (sup b hb) hx;exact⟨sl',e2⟩
  ·obtain⟨o1,e1⟩:=un0.there b o e hx;exact un.free b o1 e1 (un0.free b o e n hx) hx
  ·obtain⟨o1,e1⟩:=un0.there b o e hx;exact un.there b o1 e1 hx
  ·obtain⟨m1,e1⟩:=un0.tbls b ps e;obtain⟨m2,e2⟩:=un.tbls b _ e1;exact⟨m1++m2,by rw[e2,Array.append_assoc]⟩
 ·refine inB b o e ?_ ?_
  ·rcases hw with ⟨o',e'⟩ | hw
   ·exact old b o' e' hb
   ·intro z;exact hw (F'.frf b z)
  ·rcases hw with ⟨o',e'⟩ | hw
   ·obtain⟨o1,e1⟩:=(show Un (frs outer) [] H H1 s.heap s1.heap from I.base).there b o' e' (by simp);exact .inl ⟨o1,e1⟩
   ·exact .inr hw
end
abbrev bmV:List Value:=[.type "ValueError",.type "Exception",.type "BaseException",.type "object"]
theorem Xh7{K:PySem.W.Frag}{h:Heap}{C:Addr}{bmB:List Value}{newId:String}(X:K.In h)(q:PySem.W.excIn K C bmB newId=true):
  ∃bm N nm q bs hdct sn sub ab col dd k0 k1 k2 k3 k5 mN,h.get? C=some (excClassObj nm q C N bs bm hdct sn sub ab col dd k0 k1 k2 k3 k5 newId)/\h.Ns N mN/\mN "__init__" = none/\OwnTail h bmB bm:=by
 unfold PySem.W.excIn at q;split at q
 ·rename_i dd cd sl ho;split at q
  ·rename_i C' bm k0 k1 k2 k3 n k5 hm hs;simp only[O9,beq_iff_eq,S0] at q;obtain⟨⟨⟨⟨⟨rfl,rfl⟩,hdel⟩,ht⟩,hok⟩,hni⟩:=q;obtain⟨nm,bs,mro,ns,qn,hd,sn,sub,ab,col,del⟩:=cd;dsimp only at hm hdel hok hni;subst hm hdel;have hsl:sl = #[k0,k1,k2,k3,some (.builtin n),k5]:=by
    obtain⟨l⟩:=sl;simp only at hs;rw[hs]
   subst hsl;exact⟨bm,ns,nm,qn,bs,hd,sn,sub,ab,col,dd,k0,k1,k2,k3,k5,_,X _ _ ho,.of_isNs (PySem.W.isNs_of_in X hok),PySem.W.nsMap_none_of_in X hok hni,PySem.W.tail_of_in X ht⟩
  ·cases q
 ·cases q
def Xh8 (C:Addr) (E:XK) (t:TA):TS:=λ_ σ H=>t σ H λvs H1=>vs.length<=sizeLine/\E (.ref C) none H1
theorem Xbu{X:Cx}{C:Addr}{E:XK}{x:Str}{np cpos pos:Pos}{e:Expr}{es:List Expr}{t:TA}(hc:PySem.W.excIn X.K C bmV "ValueError.__new__" = true)(hcalm:X.calm=true)(hx:Leaves X E)(hg:Gl X x)(hm:X.mg x=some (.ref C))
  (ha:PA X (e::es) t) (hdb:(x==("__debug__" : Str))=false:=by decide) (he:starEach (e::es) X.env=(false,eval e X.env)::starEach es X.env:=by rfl) (hpl:(backTo cpos (starEach es X.env)).any (·.1)=false:=by rfl):
  PS X (.Raise (some (.Call (.Name x np) (e::es) [] cpos)) none pos) (Xh8 C E t):=by
 intro pins s σ H D I h;obtain⟨tl,N,nm,q,bs,hdct,sn,sub,ab,col,dd,k0,k1,k2,k3,k5,mN,hC,hN,hni,T⟩:=Xh7 I.mod.kin hc;refine wpAny_Raise_call_subT (C:=C) (nm:=nm) (q:=q) (N:=N) (bs:=bs) (bm:=tl) (hdct:=hdct) (sn:=sn) (sub:=sub) (ab:=ab) (col:=col) (dd:=dd) (k0:=k0) (k1:=k1) (k2:=k2) (k3:=k3) (k5:=k5)
  PySem.F.excBase_ValueError (mN:=mN) (T.hasType PySem.F.excBase_ValueError.hasBase) (I.ok.hd hcalm) (by rw[he];show (false||(backTo cpos (starEach es X.env)).any (·.1))=false;rw[hpl];rfl) hni (Im I hg hm ⟨rfl,?_⟩ hdb)
 have hh:=thn (ha cpos pins s σ H _ I h) (Q':=λvs s₂=>vs.length<=sizeLine/\(∀b o,X.base.get? b=some o->s₂.heap.get? b=some o)/\∀h' e,Heap.MadeExcOf s₂.heap h' e (.ref C) vs->X.xe (.ref e) {s₂ with heap:=h'})
  (λus s2 ⟨vs,H2,I2,r2,hl,hE⟩=>⟨by rw[<-r2.length];exact hl,I2.bk,λh' ex hmk=>hx pins σ H2 s2 h' ex C us I2 hmk hE⟩)
 rw[he] at hh ⊢;exact Calls.evalArgs_plain (wpAny_mono hh (λvs s₂ h₂=>⟨rfl,h₂.1,h₂.2.1 _ _ hC,hN.keeps h₂.2.1,T.keeps h₂.2.1,h₂.2.2⟩) λ_ _ y=>y)
theorem Fun.ok1{P:Program}{w:World}{K:PySem.W.Frag}{mg:Str->Option Value}{base:Heap}{x qual:Str}{st:Stmt}{f:Addr}{fd:FuncData}{N ps:List Str}{k:Nat}{sp:Sp}(F:Fun K x qual st f fd)(S:FnScope N ps (defScope st))(len:∀vs H Q E,sp vs H Q E->vs.length=ps.length)
  (hbody:∀(cdv:Value) (A:Around) (outer:List Env) (s:Shared) (H:Hp) (vs:List V) (Q:VK) (E:XK),Room k (A.deeper (envOfC qual (defScope st) s.heap.objs.size f cdv))->sp vs H Q E ->
   ∃t,PSs (Cj (CX1 P w) P w K mg base N qual (defScope st) f cdv A outer s H E) (Cw st) t/\t {nx:=λ_ H'=>Q .non H',rt:=Q} (start N vs) H):FnOk P w K mg base (CX1 P w) (k+1) f fd ps sp:=by
 obtain⟨oc,od,kV,doc,pm,an,cdv,ct,osl,rfl,lk,hcd⟩:=F.ex;exact Li lk hcd S len λA outer s H vs Q E hr hsp=>hbody cdv A outer s H vs Q E hr hsp
abbrev Cx.re (X:Cx) (pn:List (Addr×Obj)) (A:Around) (c:Bool) (E:Value->Shared->Prop):Cx:={X with pn:=pn,A:=A,calm:=c,xe:=E}
section
variable {X:Cx}{pins pins' pn:List (Addr×Obj)}{σ:St}{H:Hp}{s:Shared}{A:Around}{c:Bool}{E:Value->Shared->Prop}
theorem Inv.as(I:Inv X pins σ H s)(hd:c=true->A.handled=none)(hf:A.frames=some X.stack)(hp:∀p∈pn++pins',p∈X.pn++pins):Inv (X.re pn A c E) pins' σ H s:=
 ⟨⟨I.ok.mod,I.ok.kind,I.ok.glob,I.ok.blt,I.ok.above,I.ok.inj,I.ok.has,I.ok.cab,hd,hf,I.ok.stk,I.ok.exf,I.ok.bs,I.ok.bsz,I.ok.noex,I.ok.exfs,I.ok.funs,I.ok.frf⟩,
  I.os,I.bare,I.base,I.loc,I.cell,I.free,I.freeC,λp hp'=>I.pin p (hp p hp'),I.hok,I.len⟩
theorem Inv.back(I:Inv (X.re pn A c E) pins' σ H s)(ok:X.Ok)(hp:∀p∈X.pn++pins,p∈pn++pins'):Inv X pins σ H s:=
 ⟨ok,I.os,I.bare,I.base,I.loc,I.cell,I.free,I.freeC,λp hp'=>I.pin p (hp p hp'),I.hok,I.len⟩
end
def excP (ex C:Addr) (h:Heap):Prop:=∃o vs,h.get? ex=some o/\o.cls = .ref C/\o.data = .fields vs
def ExcO (ex C:Addr):HO:=.ext (excP ex C)
def Cx.tryC (X:Cx) (pn:List (Addr×Obj)) (R:Addr->St->Hp->Prop):Cx:=X.re pn X.A X.calm λe s1=>
 ∃σ Hc sc,Inv (X.re pn X.A X.calm λ_ _=>True) [] σ Hc sc/\CX1 X.prog X.w X.stack Hc sc (λc _ H1=>∃C,c = .ref C/\R C σ H1) e s1
def Cx.suite (X:Cx) (pn:List (Addr×Obj)) (ex:Addr):Cx:=X.re pn (X.A.mark (some (.ref ex))) false λ_ _=>False
section
variable {X:Cx}{pn:List (Addr×Obj)}{R:Addr->St->Hp->Prop}{k:Nat}{f:Addr}{fd:FuncData}{ps:List Str}{sp:Sp}{dvs:List V}{ds:List Value}{x:Str}{p pos:Pos}{e:Expr}{es:List Expr}{t:TA}
def Xh9 (sp:Sp) (dvs:List V) (R:Addr->St->Hp->Prop) (t:TA):TE:=fun σ H Q=>t σ H λvs H1=>sp (vs++dvs) H1 Q λc _ H'=>∃C,c = .ref C/\R C σ H'
theorem Xia(F:FnOk X.prog X.w X.K X.mg X.base (CX1 X.prog X.w) k f fd ps sp)(hr:Room k X.A)(hg:Gl X x)(hm:X.mg x=some (.ref f))(hk:PySem.W.keepIn X.K (.ref f)=true)(hb:Binds X.K fd ps ds)(hd:Vals dvs ds)
  (ha:PA (X.tryC pn R) (e::es) t) (hdb:(x==("__debug__" : Str))=false:=by decide) (he:starEach (e::es) X.env=(false,eval e X.env)::starEach es X.env:=by rfl) (hpl:(backTo pos (starEach es X.env)).any (·.1)=false:=by rfl):
  PE (X.tryC pn R) (.Call (.Name x p) (e::es) [] pos) (Xh9 sp dvs R t):=by
 intro pins s σ H Q I h;refine wpAny_Call_Name_kw (Im I (show Gl (X.tryC pn R) x from hg) hm ?_ hdb);refine PySem.W.callWith_K (h₀:=X.base) I.ok.mod.kin hk (thn (ha pos pins s σ H _ I h) λus s1 ⟨vs,H1,I1,r,q⟩=>⟨I1.kIn,?_⟩) he hpl;have r2:Vals (vs++dvs) (us++ds):=r.append hd;have hl:(us++ds).length=ps.length:=by rw[<-r2.length];exact F.len _ _ _ _ q
 refine wpAny_call (codeAny_mono (F.run X.A X.stack s1 H1 ⟨us,[]⟩ (us++ds) (vs++dvs) Q _ hr I1.env0 (hb s1 us I1.kIn hl) r2 q) λr s' hq=>?_);cases r with
 | error e=>exact⟨σ,H1,s1,(Inv.back (X:=X.re pn X.A X.calm λ_ _=>True) (pins:=[]) I1 (I1.as (X:=X.tryC pn R) (pins':=[]) (pn:=pn) (A:=X.A) (c:=X.calm) (E:=λ_ _=>True) I1.ok.hd I1.ok.frames (λp hp=>Oz.mpr (.inl (show p∈pn from by simpa using hp)))).ok (λp hp=>Oz.mpr (.inl (show p∈pn from by simpa using hp)))),hq⟩
 | ok fl=>
  cases fl with
  | ret u=>exact I1.after hq
  | next=>exact False.elim hq
  | brk=>exact False.elim hq
  | cont=>exact False.elim hq
end
section
variable {X:Cx}{pos np hpos:Pos}{body:List Stmt}{b0:Stmt}{suite:List Stmt}{n x:Str}{i:Nat}{Cc:Addr}{tb:(Addr->St->Hp->Prop)->TS}{th:TS}
def tTry (K:PySem.W.Frag) (i:Nat) (Cc:Addr) (tb:(Addr->St->Hp->Prop)->TS) (th:TS):TS:=λD σ H=>∃R:Addr->St->Hp->Prop,tb R D σ H/\∀C σ1 H1,R C σ1 H1->PySem.W.exmOne K (.ref C) (.ref Cc)=some true /\
 ∀ex,H1 ex=none->th {nx:=fun σ2 H2=>D.nx (σ2.set i none) H2,rt:=D.rt,bk:=fun σ2 H2=>D.bk (σ2.set i none) H2,ct:=fun σ2 H2=>D.ct (σ2.set i none) H2} (σ1.set i (some (.ref ex))) (upd H1 ex (ExcO ex C))
end
section
variable {X:Cx}{pos p2:Pos}{e:Expr}{te:TE}
def tRev (K:PySem.W.Frag) (te:TE):TE:=fun σ H Q=>te σ H λx H1=>∃a xs,x = .ref a/\SqL K H1 a xs/\∀p,H1 p=none->Q (.ref p) (upd H1 p (.lst xs.reverse))
theorem Xbv{k:Nat}{p3 p4:Pos}(he:PE X e te):PE X (.Subscript e (.Slice none none (some (.UnaryOp .USub (.Constant (.int 1) k p3) p4)) p2) pos) (tRev X.K te):=by
 intro pins s σ H Q I h;refine Subscript_ (thn (he pins s σ H _ I h) λv s1 ⟨x,H1,I1,r1,q1⟩=>?_);have hstep:PE X (.UnaryOp .USub (.Constant (.int 1) k p3) p4) (tUn (rU λi=>.int (-i)) (tC (.int 1))):=Xgs Xgt Af;refine wpAny_Slice ?_;rw[evalPart_none];refine Tf (Tf ?_);rw[evalPart_some];refine thn (hstep pins s1 σ H1 (λy H2=>y = .int (-1)/\H2=H1) I1 ⟨1,rfl,rfl,rfl⟩) λu s2 ⟨y,H2,I2,r2,ey,eH⟩=>?_;subst ey eH;obtain⟨t,rfl⟩:=r2;obtain⟨a,xs,ex,hx,q⟩:=q1;subst ex;cases r1;obtain⟨its,r,ht,hz⟩:=I2.list hx;have I4:Inv X pins σ H2 {s2 with heap:=s2.heap.push {cls:=.type "slice",data:=.fields #[.none,.none,.int (-1) t]} }:=I2.kept (t':=s2.toks) λb ob q=>Tr _ q;obtain⟨its4,r4,ht4,hz4⟩:=I4.list hx;have hlen:=r4.length;refine tail_any (ops:=[.ref a,.ref s2.heap.objs.size]) ht4.isList.typeIs slot_list_getitem.lookup (wpAny_getItem_list_slice ht4.isList (Heap.IsSliceOf.new ..) .none .none (.int (-1) t) (by simp) ?_ (by rw[Ox]<;>omega)) (by with_unfolding_all rfl);rw[PySem.W.krv_pick];refine⟨.ref _,_,I4.laid (t':=s2.toks) (o:=.lst xs.reverse) (λb ob q=>Tr _ q) (Oq _) ?_,rfl,q _ (I4.hok.fresh (Oq _))⟩;exact⟨by rw[List.length_reverse];exact hz4,_,0,Vals.reverse r4,Heap.get?_push_size _ rfl⟩
def Dt (xs ys:List V):Bool:=(xs.length==ys.length)&&(List.range xs.length).all λj=>eqV (xs.getD j .non) (ys.getD j .non)
theorem Xib:∀(xs ys:List Str),Dt (xs.map V.str) (ys.map V.str)=decide (xs=ys):=by
 intro xs ys;unfold Dt;rw[Oo,Oo];by_cases e:xs=ys
 ·subst e;simp only[beq_self_eq_true,Qx,decide_true];rw[Pl];intro j hj;have hj':j<xs.length:=P6.mp hj;simp[List.getD,hj',eqV]
 ·rw[Tm e];by_cases hl:xs.length=ys.length
  ·cases hb:((xs.length==ys.length)&&(List.range xs.length).all λj=>eqV ((xs.map V.str).getD j .non) ((ys.map V.str).getD j .non)) with
   | false=>rfl
   | true=>
    exfalso;refine e (Rg hl λj h1 h2=>?_);rw[O9,Pl] at hb;have q:=hb.2 j (P6.mpr h1);simp[List.getD,h1,h2,eqV] at q;exact q
  ·have:(xs.length==ys.length)=false:=by simpa using hl
   rw[this,Qv]
def rEqL (K:PySem.W.Frag) (g:Bool->Bool):R2:=λx y H Q=>∃a b xs ys,x = .ref a/\y = .ref b/\SqL K H a xs/\SqL K H b ys/\(∀v∈xs,Ck v=true)/\(∀v∈ys,Ck v=true)/\Q (.bl (g (Dt xs ys))) H
theorem Xic{A:Around}{s:Shared}{xs ys:List V}{us vs:List Value}(rx:Vals xs us)(ry:Vals ys vs)(fx:∀v∈xs,Ck v=true)(fy:∀v∈ys,Ck v=true)(j:Nat)(h1:j<us.toArray.size)(h2:j<vs.toArray.size):
  SeqAt.EqAt A s us.toArray[j] vs.toArray[j] (eqV (xs.getD j .non) (ys.getD j .non)):=by
 have l1:=rx.length;have l2:=ry.length;rw[Ox] at h1 h2;have g1:xs[j]? = some (xs[j]'(by omega)):=Op (by omega);have g2:ys[j]? = some (ys[j]'(by omega)):=Op (by omega);obtain⟨u,hu,ru⟩:=rx.get g1;obtain⟨v,hv,rv⟩:=ry.get g2;have e1:us.toArray[j]=u:=by
  rw[List.getElem_toArray];rw[Op h1] at hu;exact Pa hu
 have e2:vs.toArray[j]=v:=by
  rw[List.getElem_toArray];rw[Op h2] at hv;exact Pa hv
 rw[e1,e2];have d1:xs.getD j .non=xs[j]'(by omega):=by simp[List.getD,g1]
 have d2:ys.getD j .non=ys[j]'(by omega):=by simp[List.getD,g2]
 rw[d1,d2];exact Xa6 ru rv (fx _ (Pn _)) (fy _ (Pn _))
theorem Xid(hu:X.A.units<cLine):OpR X (compareOp .NotEq) (rEqL X.K not):=by
 intro pins s σ H x y v u Q I rx ry h;obtain⟨a,b,xs,ys,rfl,rfl,hx,hy,fx,fy,q⟩:=h;cases rx;cases ry;obtain⟨us,r1,p1,z1⟩:=I.list hx;obtain⟨vs,r2,p2,z2⟩:=I.list hy;have l1:=r1.length;have l2:=r2.length;by_cases hl:xs.length=ys.length
 ·refine SeqAt.RcNeAt.lists (e:=λj=>eqV (xs.getD j .non) (ys.getD j .non)) p1.isList p2.isList (by rw[Ox,Ox];omega) hu (λj h1 h2=>Xic r1 r2 fx fy j h1 h2) _ _ _ _ ?_;refine⟨.bl (!Dt xs ys),H,I,?_,q⟩;show Value.bool _=Value.bool (!Dt xs ys);unfold Dt;rw[Ox,<-l1,hl,beq_self_eq_true,Qx]
 ·refine SeqAt.RcNeAt.lists_lengths p1.isList p2.isList (by rw[Ox,Ox];simpa using (by omega:us.length≠vs.length)) hu _ _ _ _ ?_;refine⟨.bl (!Dt xs ys),H,I,?_,q⟩;show Value.bool _=Value.bool (!Dt xs ys);unfold Dt;have:(xs.length==ys.length)=false:=by simpa using hl
  rw[this,Qv,Bool.not_false]
def Xie (K:PySem.W.Frag) (n:Nat) (t:TGs):TG:=λv σ H Q=>∃a xs,v = .ref a/\SqL K H a xs/\xs.length=n/\t xs σ H Q
theorem Xif{es:List Expr}{k:Nat}{t:TGs}{n:Nat}(hc:X.calm=true)(h:PGs X es t)
  (hn:(assignEach es X.env).length=n:=by rfl) (hst:(assignEach es X.env).findIdx? (·.1)=none:=by rfl):PG X (.Tuple es k pos) (Xie X.K n t):=by
 intro pins s σ H v u Q I r hw;obtain⟨a,xs,e1,hq,hl,hw⟩:=hw;subst e1;cases r;obtain⟨its,rv,ht,hz⟩:=I.list hq;rw[assign_Tuple];refine Te (wpAny_standAt ?_);unfold unpack;have hlen:(assignEach es X.env).length=its.toArray.size:=by rw[hn,<-hl,Ox];exact rv.length
 rw[hlen,hst];refine Te (wpAny_holding (PySem.W.kun_itemsOf (I.ok.hd hc) ht.isList λh' hx=>?_));have I1:Inv X pins σ H {s with heap:=h'}:=I.kept (t':=s.toks) λb o e=>hx b o (O1 (Tq e)) e;exact h pins _ σ H xs _ Q I1 (by simpa using rv) hw
def repS (z:Str) (n:Nat):Str:=⟨(List.replicate n z.cps).foldl (· ++ ·) #[]⟩
theorem Xig(z:Str):repS z 1=z:=by
 obtain⟨c⟩:=z;show (⟨(#[]:Array Nat)++c⟩:Str)=⟨c⟩;rw[Array.empty_append]
theorem Xbw(z:Array Nat):∀(n:Nat) (a:Array Nat),((List.replicate n z).foldl (· ++ ·) a).size=a.size+n * z.size
 | 0,a=>by simp
 | n+1,a=>by
  rw[Qs,Rv,Xbw z n,Array.size_append,Nat.succ_mul];omega
theorem Lx(z:Str)(n:Nat):(repS z n).length=n * z.length:=by
 have e:=Xbw z.cps n #[];show ((List.replicate n z.cps).foldl (· ++ ·) #[]).size=n * z.cps.size;simpa using e
theorem Xih{z:Str}(h:z.length=0)(n:Nat):repS z n=z:=by
 have e:=Lx z n;rw[h,Nat.mul_zero] at e;generalize repS z n=y at e;obtain⟨c⟩:=z;obtain⟨d⟩:=y;have h':c.size=0:=h;have e':d.size=0:=e;rw[Array.size_eq_zero_iff] at h' e';rw[h',e']
theorem Xii:OpR X (binaryOp .Mult) (λx y H Q=>∃z n,x = .str z/\y = .int n/\0<=n/\n<=1000/\z.length<=1000/\Q (.str (repS z n.toNat)) H):=by
 intro pins s σ H x y v u Q I rx ry h;obtain⟨z,n,rfl,rfl,h0,h1,hz,q⟩:=h;obtain⟨t,rfl⟩:=rx;obtain⟨t',rfl⟩:=ry;have hle:z.length * n.toNat<=1000 * 1000:=Nat.mul_le_mul hz (by omega);refine PySem.P.mul_str ?_ (λhn hz1=>?_) (λhn hz1=>?_) ?_
 ·have h2:¬n < -(2 ^ 63:Int):=by omega
  have h3:¬n ≥ 2 ^ 63:=by omega
  rw[Tm h2,Tm h3];rfl
 ·have h4:(1000:Int)<=(2 ^ 63 - 1) / n:=by
   refine(Int.le_ediv_iff_mul_le (by omega)).mpr ?_;have:(1000:Int) * n<=1000 * 1000:=by omega
   omega
  omega
 ·show Builtin.Str.tooLong _=false;unfold Builtin.Str.tooLong
  first
   | (refine Tm ?_;have:=hle;rw[Ti];omega)
   | (simp;omega)
 ·by_cases hn:n<1
  ·rw[Tk hn];have:n=0:=by omega
   subst this;exact⟨by decide,.str Str.empty,H,I.tok _,⟨_,rfl⟩,q⟩
  ·rw[Tj hn];by_cases hc:(n==1||z.length==0)=true
   ·rw[Tk hc];have e:repS z n.toNat=z:=by
     rcases Sm.mp hc with e | e
     ·have e':n=1:=by simpa using e
      subst e';exact Xig z
     ·exact Xih (by simpa using e) _
    rw[e] at q;exact⟨.str z,H,I,⟨_,rfl⟩,q⟩
   ·rw[Tj hc];refine⟨?_,.str (repS z n.toNat),H,I.tok _,⟨_,rfl⟩,q⟩;show (repS z n.toNat).length<=sizeLine;rw[Lx,Nat.mul_comm,Ti];omega
theorem Xbx:X.calm=true->Br X (.builtin "all") (λxs H Q=>∃(a:Addr) (bs:List Bool),xs=[.ref a]/\H a=some (.lst (bs.map V.bl))/\Q (.bl (bs.all id)) H):=by
 intro hc pins s σ H xs us Q I r h;obtain⟨a,bs,rfl,ha,q⟩:=h;obtain⟨u,rfl,ru⟩:=B4 r;cases ru;obtain⟨its,rv,p,hz⟩:=I.list (SqL.of ha);have hl:=rv.length;rw[Oo] at hl;refine call_all_walk (wpAny_pyIter_list p.isList ?_);have hlt:a≠s.heap.objs.size:=by
  obtain⟨o,ho,_⟩:=p.isList;exact O1 (Tq ho)
 refine⟨s.heap.objs.size,_,_,_,_,_,λj=>bs.getD j false,rfl,Walks.list (A:=X.A.in1) (show X.A.in1.handled=none from I.ok.hd hc) s.heap.objs.size a hlt its.toArray,⟨⟨_,Heap.get?_push_size _ rfl,rfl,rfl⟩,p.isList.push _⟩,λi v s' Q' E' hP hQ=>?_,λh' tk k=>?_⟩
 ·have hv:its[i]? = some v:=by simpa using hP
  have hi:i<its.length:=(Pb.mp hv).1;have g:(bs.map V.bl)[i]? = some (.bl (bs[i]'(by omega))):=by
   rw[O2,Op (by omega)];rfl
  obtain⟨u,hu,ru⟩:=rv.get g;rw[hv] at hu;cases hu;cases ru;have e:bs.getD i false=bs[i]'(by omega):=by simp[List.getD,(by omega:i<bs.length)]
  have hQ':Q' (bs.getD i false) s':=hQ;rw[e] at hQ';exact wpAny_truthy_bool hQ'
 ·refine⟨.bl (bs.all id),H,I.kept (t':=tk) λb o e=>k b o (λz=>?_) (Tr _ e),?_,q⟩
  ·have z':b=s.heap.objs.size:=by simpa using z
   exact absurd (Tq e) (by rw[z'];exact P3 _)
  ·show Value.bool _=Value.bool _;congr 1;rw[Ox,<-hl];rw[Qo,Pl,Pl];constructor
   ·intro hx b hb;obtain⟨j,hj,rfl⟩:=Po.mp hb;have:=hx j (P6.mpr hj);simpa [List.getD,hj] using this
   ·intro hx j hj;have hj':=P6.mp hj;have:=hx _ (Pn hj');simpa [List.getD,hj'] using this
end
def Itd (d:Addr) (o:Obj) (kvs:List (Key×V)):It:=
 ⟨λi H=>H d=some (.frz o (.dK kvs))/\i<kvs.length,λi H x H'=>H'=H/\∃p,kvs[i]? = some p/\x=kV p.1,λi H=>H d=some (.frz o (.dK kvs))/\kvs.length<=i⟩
theorem Xij{P:Program}{w:World}{k:Key}{u:Value}(h:(Bi P w).is k u=true):Ah (kV k) u:=by
 rcases Dq (show D3 k u=true from h) with ⟨i,t,rfl,rfl⟩ | ⟨x,t,rfl,rfl⟩
 ·exact⟨t,rfl⟩
 ·exact⟨t,rfl⟩
theorem Xby:∀{kvs:List (Key×V)} {vs:List (Key×Value)} {i:Nat} {p:Key×V},KV kvs vs->kvs[i]? = some p->∃u,vs[i]? = some (p.1,u)
 | _,_,_,_,.nil,e=>by simp at e
 | _,_,0,p,.cons (b:=b) r _,e=>by
  simp at e;subst e;obtain⟨k,u⟩:=b;obtain⟨r1,r2⟩:=r;exact⟨u,by simp only[List.getElem?_cons_zero,Option.some.injEq,Prod.mk.injEq];exact⟨r1.symm,trivial⟩⟩
 | _,_,i+1,p,.cons _ t,e=>by
  obtain⟨u,h⟩:=Xby (i:=i) t (by simpa using e);exact⟨u,by simpa using h⟩
theorem Ly{P:Program}{w:World}{K:PySem.W.Frag}{tg:Expr}(d it:Addr)(o:Obj)(es:Array DictEntry)(ep:Nat)(hd:o.data = .dict es ep)(kvs:List (Key×V))(hne:d≠it):
  Turn P w K tg (Itd d o kvs) [it] it (λi h=>h.IsKeyIter it d i kvs.length ep) where
 mem:=by simp
 obj:=λi h st b hb=>by
  have e:b=it:=by simpa using hb
  subst e;obtain⟨o,e,c,d⟩:=st;exact⟨o,e,λv z=>by rw[d] at z;cases z⟩
 keep:=λi h h' st k=>by
  obtain⟨o,e,r⟩:=st;exact⟨o,k it (by simp) o e,r⟩
 item:=by
  intro X hP hw hK hc i pins s σ H E I hf st hg;subst hP hw hK;obtain⟨hH,hi⟩:=hg;obtain⟨ho,hz,hm,vs,rv,o',es',ep',ho',hex,hd',r'⟩:=I.hok d _ hH;rw[ho] at ho';cases ho';rw[hd] at hd';cases hd';have hlen:kvs.length=vs.length:=Paired.length rv;obtain⟨f0,f1,f2,f3,f4,f5⟩:=hf it (by simp);have hp:kvs[i]? = some (kvs[i]'hi):=Op hi;obtain⟨u,hu⟩:=Xby rv hp;rw[hlen] at st;refine wpAny_pyNext_dict_item (knd:=Bi X.prog X.w) st ⟨o,es,ho,hex,hd,r'⟩ hu λkey h' hk st' sb=>?_;have I1:Inv X pins σ H {s with heap:=h'}:=I.turned (t':=s.toks) (λb o hb e=>(sb.2 b hb).trans e) f0 f1 f3 f4 f5;obtain⟨o2,e2,c2,d2⟩:=id st';refine⟨key,rfl,Gr (s:={s with heap:=h'}) e2 c2 d2 (by decide) ⟨_,H,I1,Xij hk,⟨rfl,_,hp,rfl⟩,?_,λb hb=>(hf b hb).1⟩⟩;rw[hlen];exact st'
 done:=by
  intro X hP hw hK hc i pins s σ H E I hf st hg;subst hP hw hK;obtain⟨hH,hi⟩:=hg;obtain⟨ho,hz,hm,vs,rv,o',es',ep',ho',hex,hd',r'⟩:=I.hok d _ hH;rw[ho] at ho';cases ho';rw[hd] at hd';cases hd';have hlen:kvs.length=vs.length:=Paired.length rv;obtain⟨f0,f1,f2,f3,f4,f5⟩:=hf it (by simp);rw[hlen] at st;exact wpAny_pyNext_dict_end (knd:=Bi X.prog X.w) (I.ok.hd hc) st ⟨o,es,ho,hex,hd,r'⟩ (Rw (by omega)) λh' eb=>⟨rfl,I.turned (t':=s.toks) (λb o hb e=>eb b o hb e) f0 f1 f3 f4 f5⟩
 self:=λA i s Q E st h=>by
  refine wpAny_pyIter_slot st.typeIs PySem.F.slot_dict_keyiterator_iter (wpAny_call_entry PySem.F.slot_dict_keyiterator_iter st.typeIs PySem.F.entry_dict_keyiterator_iter ?_ (PySem.F.args_dict_keyiterator_iter_1 _));show wpAny _ _ (ret (.ref it)) _ _ s;exact Tf ⟨_,rfl, "dict_keyiterator",_,st.typeIs,PySem.F.slot_dict_keyiterator_next.lookup,h⟩
section
variable {X:Cx}{tg:Expr}
theorem Inv.freeze{pins:List (Addr×Obj)}{σ:St}{H:Hp}{s:Shared}{d:Addr}{kvs:List (Key×V)}{o:Obj}(I:Inv X pins σ H s)(hH:H d=some (.dK kvs))(ho:s.heap.get? d=some o):Inv X pins σ (upd H d (.frz o (.dK kvs))) s:=by
 have ne:∀{b:Addr} {u:HO},H b=some u->(HO.dK kvs≠u)->b≠d:=λ{b u} e n=>Il e hH (λz=>n z.symm);refine⟨I.ok,I.os,I.bare,⟨I.base.keep,I.base.slot,λb ob e n hx=>?_,I.base.there,λb xs e=>?_,λb ob u e=>?_,λb ps e=>?_⟩,I.loc,I.cell,?_,λx c e=>?_,λp hp'=>?_,λb ob e=>?_,I.len⟩
 ·have q:=I.base.free b ob e n hx;rw[Ad (λz=>by rw[z,hH] at q;cases q)];exact q
 ·have q:=I.base.tups b xs e;rw[Ad (ne q (by simp))];exact q
 ·have q:=I.base.frzs b ob u e;rw[Ad (ne q (by simp))];exact q
 ·obtain⟨more,q⟩:=I.base.tbls b ps e;exact⟨more,by rw[Ad (ne q (by simp))];exact q⟩
 ·rw[Ad (λz=>by have:=I.free;rw[z,hH] at this;cases this)];exact I.free
 ·have q:=I.freeC x c e;rw[Ad (λz=>by rw[z,hH] at q;cases q)];exact q
 ·obtain⟨e,n,r⟩:=I.pin p hp';exact⟨e,by rw[Ad (λz=>by rw[z,hH] at n;cases n)];exact n,r⟩
 ·by_cases hb:b=d
  ·subst hb;rw[Ac] at e;cases e;exact⟨ho,(I.hok b _ hH).stay (λ_ _ _ q=>q) (λc q=>by rw[Ad (ne q (by simp))];exact q) λc xs q=>by rw[Ad (ne q (by simp))];exact q⟩
  ·rw[Ad hb] at e;exact(I.hok b ob e).stay (λ_ _ _ q=>q) (λc q=>by rw[Ad (ne q (by simp))];exact q) λc xs q=>by rw[Ad (ne q (by simp))];exact q
def Xik (tl:TE):TI:=fun σ H R=>tl σ H λx H1=>∃d kvs,x = .ref d/\H1 d=some (.dK kvs)/\∀o,R (Itd d o kvs) (upd H1 d (.frz o (.dK kvs)))
theorem Xil{l:Expr}{tl:TE}(hl:PE X l tl):PI X tg l (Xik tl):=by
 intro pins s σ H R I h;refine thn (hl pins s σ H _ I h) λv s1 ⟨x,H1,I1,r1,q1⟩=>?_;obtain⟨d,kvs,e,hH,q⟩:=q1;subst e;cases r1;obtain⟨hz,hm,vs,rv,o,es,ep,ho,hex,hd,r⟩:=I1.hok d _ hH;have hlen:kvs.length=vs.length:=Paired.length rv;refine wpAny_pyIter_dict (knd:=Bi X.prog X.w) hm ⟨o,es,ho,hex,hd,r⟩ ?_;have I2:=I1.freeze hH ho;refine⟨s1.heap.objs.size,[s1.heap.objs.size],_,_,_,rfl,I2.kept (t':=s1.toks) λb o e=>Tr _ e,Ly d _ o es ep hd kvs (O1 (Tq ho)),⟨_,Heap.get?_push_size _ rfl,rfl,by rw[hlen];rfl⟩,λb hb=>?_,q o⟩;have e:b=s1.heap.objs.size:=by simpa using hb
 subst e;exact I2.fpOk (Oq _) (I2.hok.fresh (Oq _))
end
def PJ (X:Cx) (es:List Expr) (t:St->Hp->(Hp->Prop)->Prop):Prop:=
 ∀(out:Str) (pins:List (Addr×Obj)) (s:Shared) (σ:St) (H:Hp) (Q:Hp->Prop),Inv X pins σ H s->t σ H Q->out.length+5000 * es.length<=sizeLine ->
  wpAny (model X.prog X.w) X.A (joinParts out (evalEach es X.env)) (λu s'=>∃z tk H',u = .str z tk/\Inv X pins σ H' s'/\Q H') X.xe s
def Xim:St->Hp->(Hp->Prop)->Prop:=λ_ H Q=>Q H
def Xin (t:St->Hp->(Hp->Prop)->Prop):St->Hp->(Hp->Prop)->Prop:=t
section
variable {X:Cx}{es:List Expr}{t:St->Hp->(Hp->Prop)->Prop}{e:Expr}{te:TE}{pos:Pos}
theorem Xbz:PJ X [] Xim:=λout pins s σ H Q I h hz=>joinParts_nil ⟨out,_,H,rfl,I.tok _,h⟩ (by simpa using hz)
theorem Fc(a b:Str):(a++b).length=a.length+b.length:=strLen_append a b
theorem Ja{z:Str}{k:Nat}{p:Pos}(hz:z.length<=5000)(h:PJ X es t)(he:evalEach (.Constant (.str z) k p::es) X.env=eval (.Constant (.str z) k p) X.env::evalEach es X.env:=by rfl):PJ X (.Constant (.str z) k p::es) (Xin t):=by
 intro out pins s σ H Q I hw hl;rw[he];rw[Pc] at hl;refine joinParts_cons (Calls.Constant_str ⟨by rw[Fc];omega,?_⟩);exact h (out++z) pins _ σ H Q (I.tok _) hw (by rw[Fc];omega)
def Xio (t:St->Hp->(Hp->Prop)->Prop):TE:=fun σ H Q=>t σ H λH1=>∀z,Q (.str z) H1
theorem Xb0{a b:Expr}(h:PJ X (a::b::es) t)(hz:5000 * (a::b::es).length<=sizeLine:=by decide)(he:evalEach (a::b::es) X.env=eval a X.env::eval b X.env::evalEach es X.env:=by rfl):PE X (.JoinedStr (a::b::es) pos) (Xio t):=by
 intro pins s σ H Q I hw;refine JoinedStr_many ?_;rw[<-he];refine thn (h Str.empty pins s σ H _ I hw (by rw[show Str.empty.length=0 from rfl];omega)) λu s' ⟨z,tk,H',e,I',q⟩=>?_;subst e;exact⟨.str z,H',I',⟨tk,rfl⟩,q z⟩
end
end L2
namespace L2
open PySem PySem.Spec PyProof.Rows PySem.Calls Builtin Builtin.ObjectAttr Builtin.Getset_descriptor
structure ExcF (K:PySem.W.Frag) (C:Addr):Prop where
 ga:PySem.W.findIn K (.ref C) "__getattribute__" = some (some (.builtin "BaseException.__getattribute__"))
 gn:PySem.W.findIn K (.ref C) "__getattr__" = some none
 cl:PySem.W.findIn K (.ref C) "__class__" = some (some (.builtin "object.__class__"))
 sb:PySem.W.subIn K (.ref C) (.type "BaseException")=some true
 so:PySem.W.subIn K (.ref C) (.type "object")=some true
 ic:(PySem.W.clsIn K C).isSome=true
section
variable {prog:Program}{w:World}{A:Around}{E:Value->Shared->Prop}{K:PySem.W.Frag}{C a:Addr}{h:Heap}{g:Array GenState}{d:Drawn}{t:Nat}{os:OsState}
end
end L2
namespace L2
open PySem PySem.Spec PyProof.Rows
def Lz:V->Option Value
 | .ty n=>some (.type n)
 | .ref a=>some (.ref a)
 | _=>none
theorem Xip{c:V}{u v:Value}(r:Ah c u)(h:Lz c=some v):u=v:=by
 cases c with
 | ty n=>cases r;exact Pa h
 | ref a=>cases r;exact Pa h
 | _=>cases h
section
variable {X:Cx}
theorem L0:Br X (.builtin "isinstance") (λxs H Q=>∃x c t cv b,xs=[x,c]/\TyOf X.K H x t/\Lz c=some cv/\PySem.W.kitOne X.K t cv=some b/\Q (.bl b) H):=by
 intro pins s σ H xs us Q I r h;obtain⟨x,c,t,cv,b,rfl,ty,hc,e,q⟩:=h;obtain⟨u,v,rfl,ru,rv⟩:=r.two;have:=Xip rv hc;subst this;exact Xgy I ru ty e λtk=>⟨.bl b,H,I.tok _,rfl,q⟩
end
def wN (n:Nat) (Pv:Nat->St->Hp->Prop):Nat->Nat->St->Hp->Prop:=λi m σ H=>m=n - i/\i<=n/\Pv i σ H
theorem wput{n i:Nat}{Pv:Nat->St->Hp->Prop}{σ:St}{H:Hp}{D:Addr}{y:V}{ys:List V}(hi:i<n)(hD:H D=some (.lst ys))(hl:ys.length<sizeLine)(p:Pv (i+1) σ (upd H D (.lst (ys++[y])))):
  ∃ys,H D=some (.lst ys)/\ys.length<sizeLine/\∃m',m'<n - i/\wN n Pv (i+1) m' σ (upd H D (.lst (ys++[y]))):=⟨ys,hD,hl,n - (i+1),by omega,rfl,hi,p⟩
theorem wskip{n i:Nat}{Pv:Nat->St->Hp->Prop}{σ:St}{H:Hp}(hi:i<n)(p:Pv (i+1) σ H):∃m',m'<n - i/\wN n Pv (i+1) m' σ H:=⟨n - (i+1),by omega,rfl,hi,p⟩
theorem G3{cap:List (Option Nat)}{g:TG}{tt:TT}{te:TE}{J:It}{σ:St}{H1:Hp}{F:Addr->Hp->Prop}(n:Nat)(vs:Nat->V)(Pv:Addr->Nat->St->Hp->Prop)
  (h0:∀D,H1 D=none->Pv D 0 (B2 cap σ) (upd H1 D (.lst [])))
  (hgo:∀D i σ2 H2,H1 D=none->i<n->Pv D i σ2 H2->J.go i H2/\∀x H3,J.yld i H2 x H3->H3=H2/\x=vs i)
  (hst:∀D σ2 H2,H1 D=none->Pv D n σ2 H2->J.stop n H2)
  (step:∀D i σ1 H2,H1 D=none->i<n->Pv D i σ1 H2->g (vs i) σ1 H2 fun σ2 H4=>tt σ2 H4 λb H5=>
   if b=true then te σ2 H5 λy H6=>∃ys,H6 D=some (.lst ys)/\ys.length<sizeLine/\∃m',m'<n - i/\wN n (Pv D) (i+1) m' σ2 (upd H6 D (.lst (ys++[y])))
   else ∃m',m'<n - i/\wN n (Pv D) (i+1) m' σ2 H5)
  (hd:∀D σ2 H2,H1 D=none->Pv D n σ2 H2->F D H2):Ep cap g tt te J σ H1 F:=by
 intro D hD;refine⟨wN n (Pv D),⟨n,by simp,Pq _,h0 D hD⟩,?_⟩;rintro i m σ1 H2 ⟨rfl,hi,p⟩;by_cases hlt:i<n
 ·obtain⟨h1,h2⟩:=hgo D i σ1 H2 hD hlt p;refine .inr ⟨h1,λx H3 y=>?_⟩;obtain⟨e1,e2⟩:=h2 x H3 y;subst e1 e2;exact step D i σ1 _ hD hlt p
 ·have e:i=n:=by omega
  subst e;exact .inl ⟨hst D σ1 H2 hD p,hd D σ1 H2 hD p⟩
theorem C6{K:PySem.W.Frag}{a:Addr}{xs:List V}{H:Hp}{i:Nat}(h:SqL K H a xs)(hi:i<xs.length):(Itl K a).go i H/\∀x H3,(Itl K a).yld i H x H3->H3=H/\x=xs.getD i .non:=
 ⟨⟨xs,xs[i],h,by simp[hi]⟩,λx H3 ⟨e,y⟩=>⟨e,by have:=y xs h;simp[List.getD,this]⟩⟩
theorem C7{K:PySem.W.Frag}{a:Addr}{xs:List V}{H:Hp}(h:SqL K H a xs):(Itl K a).stop xs.length H:=⟨xs,h,Oq _⟩
theorem L1{K:PySem.W.Frag}{a:Addr}{xs:List V}{H:Hp}{i:Nat}(h:SqT K H a xs)(hi:i<xs.length):(Itt K a).go i H/\∀x H3,(Itt K a).yld i H x H3->H3=H/\x=xs.getD i .non:=
 ⟨⟨xs,xs[i],h,by simp[hi]⟩,λx H3 ⟨e,y⟩=>⟨e,by have:=y xs h;simp[List.getD,this]⟩⟩
theorem L3{K:PySem.W.Frag}{a:Addr}{xs:List V}{H:Hp}(h:SqT K H a xs):(Itt K a).stop xs.length H:=⟨xs,h,Oq _⟩
theorem G4{d:Addr}{o:Obj}{kvs:List (Key×V)}{H:Hp}{i:Nat}(h:H d=some (.frz o (.dK kvs)))(hi:i<kvs.length):(Itd d o kvs).go i H/\∀x H3,(Itd d o kvs).yld i H x H3->H3=H/\x=(kvs.map λp=>kV p.1).getD i .non:=
 ⟨⟨h,hi⟩,λx H3 ⟨e,p,hp,y⟩=>⟨e,by rw[y];simp[List.getD,hp]⟩⟩
theorem G5{d:Addr}{o:Obj}{kvs:List (Key×V)}{H:Hp}(h:H d=some (.frz o (.dK kvs))):(Itd d o kvs).stop kvs.length H:=⟨h,Oq _⟩
end L2
namespace L2
open PySem PySem.Spec PyProof.Rows PySem.Calls
theorem Xiq(t:SetTable)(n:Nat):(t.orStandIn n).led=t.led:=by
 unfold SetTable.orStandIn;split
 ·rfl
 ·rfl
theorem Xir(t:SetTable)(es:Array (Int×Value))(k:Int)(x:Value):(layNew t es k x).2.1.led=t.led:=by
 unfold layNew;split
 ·exact Xiq _ _
 ·rfl
theorem Xis{mask finger moves:Nat}{led plain:Bool}{hs:Array Int}{t:SetTable}{o:Array Nat}(h:SetTable.laid mask finger moves led plain hs=some (t,o)):t.led=led/\t.plain=plain:=by
 unfold SetTable.laid at h;cases q:SetTable.layClean mask hs with
 | none=>rw[q] at h;cases h
 | some ow=>
  rw[q] at h;cases h;exact⟨rfl,rfl⟩
theorem Xit(t:SetTable)(es:Array (Int×Value))(n:Nat)(hp:t.plain=false):(relayAll t es n).2.1.led=t.led/\(relayAll t es n).2.1.plain=false:=by
 unfold relayAll;split
 ·rename_i t' o e;obtain⟨e1,e2⟩:=Xis e;dsimp only;split
  ·exact⟨e1,e2.trans hp⟩
  ·exact⟨rfl,rfl⟩
 ·exact⟨rfl,rfl⟩
def Bd (w:World):Bool:=w.params.followText "set-order"
def SSet (P:Program) (w:World) (h:Heap) (a:Addr) (ks:List Str):Prop:=
 ∃o es ep t ls,h.get? a=some o/\o.ExactSet/\o.data = .set es ep t/\ElemsOf (PySem.strKind P w) es.toList/\StrsAre (es.toList.map (·.2)) ls/\ls.Perm ks/\es.size<scanBound/\t.fits es.size=true/\t.led = !Bd w/\(t.plain=true->es.size=0)
theorem Jb{l1 l2:List (Int×Value)}{ls:List Str}(p:l1.Perm l2)(h:StrsAre (l2.map (·.2)) ls):∃ls',StrsAre (l1.map (·.2)) ls'/\ls'.Perm ls:=by
 refine⟨(l1.map (·.2)).map strOf,strsAre_map _ (λv hv=>?_),?_⟩
 ·exact h.all v ((p.map (·.2)).mem_iff.mp hv)
 ·rw[<-h.strs];exact(p.map (·.2)).map strOf
theorem Xiu{vs:List Value}{ls:List Str}{x:Str}{t:Tok}(h:StrsAre vs ls):StrsAre (vs++[.str x t]) (ls++[x]):=by
 induction h with
 | nil=>exact .cons x t .nil
 | cons y u _ ih=>exact .cons y u ih
section
variable {P:Program}{w:World}{A:Around}{E:Value->Shared->Prop}{s:Shared}{a:Addr}{ks:List Str}
theorem SSet.stay{h h':Heap}(S:SSet P w h a ks)(k:∀o,h.get? a=some o->h'.get? a=some o):SSet P w h' a ks:=by
 obtain⟨o,es,ep,t,ls,ho,r⟩:=S;exact⟨o,es,ep,t,ls,k o ho,r⟩
theorem Xb1{vs:List (Int×Value)}{ls:List Str}(h:StrsAre (vs.map (·.2)) ls){x:Str}:x∈ls ↔ ∃e∈vs,(PySem.strKind P w).is x e.2=true:=by
 rw[<-h.strs];constructor
 ·intro hx;obtain⟨v,hv,rfl⟩:=Pe.mp hx;obtain⟨e,he,rfl⟩:=Pe.mp hv;obtain⟨y,t,q⟩:=h.all e.2 hv;refine⟨e,he,?_⟩;rw[q];exact strKind_is P w y t
 ·rintro ⟨e,he,q⟩;obtain⟨t,e2⟩:=Value.isStrOf_shape q;exact Pe.mpr ⟨e.2,Pe.mpr ⟨e,he,rfl⟩,by rw[e2];rfl⟩
theorem Xb2{o:Obj}{es:Array (Int×Value)}{ep:Nat}{t:SetTable}{h:Heap}(ho:h.get? a=some o)(hex:o.ExactSet)(hd:o.data = .set es ep t){es':Array (Int×Value)}{t':SetTable}{ls:List Str}
  (hel:ElemsOf (PySem.strKind P w) es'.toList) (hs:StrsAre (es'.toList.map (·.2)) ls) (hp:ls.Perm ks) (hb:es'.size<scanBound) (hf:t'.fits es'.size=true) (hl:t'.led = !Bd w) (hpl:t'.plain=false):
  (h.update a (Obj.putSet es' t')).get? a=some {o with data:=.set es' (ep+1) t'}/\SSet P w (h.update a (Obj.putSet es' t')) a ks:=by
 have g:=Heap.get?_update_self (Obj.putSet es' t') ho (by rw[putSet_of es' t' hd];rfl);rw[putSet_of es' t' hd] at g;exact⟨g,_,es',ep+1,t',ls,g,hex,rfl,hel,hs,hp,hb,hf,hl,λz=>by rw[hpl] at z;cases z⟩
theorem Xb3{g:Bool->Sem Unit}(hg:∀(b:Bool) (s1:Shared) (Q':Unit->Shared->Prop),Q' () s1->wpAny (model P w) A (g b) Q' E s1)
    {o:Obj} {es:Array (Int×Value)} {ep:Nat} {t:SetTable} (ho:s.heap.get? a=some o) (hex:o.ExactSet) (hd:o.data = .set es ep t) {es1:Array (Int×Value)} {t2:SetTable} {ls:List Str}
    (hel:ElemsOf (PySem.strKind P w) es1.toList) (hs:StrsAre (es1.toList.map (·.2)) ls) (hp:ls.Perm ks) (hb:es1.size<scanBound) (hf:t2.fits es1.size=true) (hl:t2.led = !Bd w) (hpl:t2.plain=false) {wd:Bool} {R:Option Bool->Shared->Prop}
    (h:∀h',Heap.SameBut a s.heap h'->SSet P w h' a ks->R (some true) {s with heap:=h'}):
    wpAny (model P w) A (do
        storeSet a es1 t2
        if (!wd && t2.tooFull) = true then do g (relayAll t2 es1 (SetTable.grown es1.size)).2.2
                                              storeSet a (relayAll t2 es1 (SetTable.grown es1.size)).1 (relayAll t2 es1 (SetTable.grown es1.size)).2.1
                                              pure (some true)
        else pure (some true)) R E s:=by
  refine Te (wpAny_storeSet_of ho hd ?_ (fits_of_scanBound hb));obtain⟨g1,S1⟩:=Xb2 (P:=P) (w:=w) ho hex hd hel hs hp hb hf hl hpl;have sb:=Tt s.heap a (Obj.putSet es1 t2);split
  . have pp:=relayAll_perm t2 es1 (SetTable.grown es1.size);have ff:=relayAll_fits t2 es1 (SetTable.grown es1.size);obtain⟨fl1,fl2⟩:=Xit t2 es1 (SetTable.grown es1.size) hpl;generalize relayAll t2 es1 (SetTable.grown es1.size)=R3 at pp ff fl1 fl2 ⊢;obtain⟨es3,t3,gv⟩:=R3;dsimp only at pp ff fl1 fl2 ⊢;obtain⟨ls3,s3,p3⟩:=Jb pp hs;have z:es3.size=es1.size:=by rw[<-Ov,pp.length_eq,Ov]
    refine Te (hg _ _ _ ?_);refine Te (wpAny_storeSet_of g1 rfl ?_ (fits_of_scanBound (by rw[z];exact hb)));obtain⟨_,S3⟩:=Xb2 (P:=P) (w:=w) (ks:=ks) g1 hex rfl (hel.perm pp) s3 (p3.trans hp) (by rw[z];exact hb) ff (fl1.trans hl) fl2;exact Tf (h _ (sb.trans (Tt _ a _)) S3)
  . exact Tf (h _ sb S1)
theorem sset_add{x:Str}{tk:Tok}{Q:Bool->Shared->Prop}(S:SSet P w s.heap a ks)(hr:ks.length+1<scanBound)
  (h:∀b h',Heap.SameBut a s.heap h'->SSet P w h' a (if x∈ks then ks else ks++[x])->Q b {s with heap:=h'}):
  wpAny (model P w) A (setAddHashed a (.str x tk) ((PySem.strKind P w).hash x)) Q E s:=by
 obtain⟨o,es,ep,t,ls,ho,hex,hd,hel,hs,hp,hb,hf,hl,hpl⟩:=S;have hlen:es.size=ks.length:=by
  have:=hs.length;rw[Oo,Ov] at this;rw[this,hp.length_eq]
 have hkey:(PySem.strKind P w).is x (.str x tk)=true:=strKind_is P w x tk;have hin:x∈ks ↔ ∃e∈es.toList,(PySem.strKind P w).is x e.2=true:=hp.mem_iff.symm.trans (Xb1 hs);unfold setAddHashed setAddHashedIn;refine wpAny_holding (Te (wpAny_setState_of ho hd hf ?_));dsimp only;rw[byScan_of (knd:=PySem.strKind P w) rfl hb hel];simp only[↓reduceIte];unfold setAddByScan;refine Te (Te (wpAny_rule (Te (wpAny_setScan_of hkey ho hd hf hel ?_))));cases hf1:List.findIdx? (λe=>(PySem.strKind P w).is x e.2) es.toList with
 | some j=>
  dsimp only;obtain⟨hj,hpj,_⟩:=R7.mp hf1;have hx:x∈ks:=hin.mpr ⟨es.toList[j],Pn hj,hpj⟩;refine Tf (Tf ?_);have:=h false s.heap (Heap.SameBut.refl a s.heap) (by rw[Tk hx];exact⟨o,es,ep,t,ls,ho,hex,hd,hel,hs,hp,hb,hf,hl,hpl⟩);exact this
 | none=>
  dsimp only;have hx:x∉ks:=λz=>by
   obtain⟨e,he,q⟩:=hin.mp z;have:=List.findIdx?_eq_none_iff.mp hf1 e he;rw[q] at this;cases this
  have gw:∀(b:Bool) (s1:Shared) (Q':Unit->Shared->Prop),Q' () s1->wpAny (model P w) A (match b with | true=>rule "set.scan.the-table-gave-way" | false=>pure ()) Q' E s1:=λb s1 Q' q=>by
   cases b with
   | true=>exact wpAny_rule q
   | false=>exact Tf q
  have pp:=layNew_perm t es ((PySem.strKind P w).hash x) (.str x tk);have ff:=layNew_fits t es ((PySem.strKind P w).hash x) (.str x tk);have fl:=Xir t es ((PySem.strKind P w).hash x) (.str x tk);generalize layNew t es ((PySem.strKind P w).hash x) (.str x tk)=R at pp ff fl ⊢;obtain⟨es1,t1,wd,gv⟩:=R;dsimp only at pp ff fl ⊢;rw[Array.toList_push] at pp;have el1:=(hel.push hkey rfl).perm pp;have st0:StrsAre ((es.toList++[((PySem.strKind P w).hash x,Value.str x tk)]).map (·.2)) (ls++[x]):=by
   rw[O5];exact Xiu hs
  obtain⟨ls1,st1,p1⟩:=Jb pp st0;have z1:es1.size=ks.length+1:=by
   rw[<-Ov,pp.length_eq,Oy,Ov,hlen];rfl
  have p2:ls1.Perm (ks++[x]):=p1.trans (hp.append_right _);rw[Tj hx] at h;refine Te (gw _ _ _ ?_);split
  ·refine Te ?_;rw[hashByValue_scannable 8 (x:=Value.str x tk) rfl];refine Tf ?_;refine Xb3 (ks:=ks++[x]) gw ho hex hd el1 st1 p2 (by rw[z1];exact hr) (SetTable.fits_plain_off ff) (fl.trans hl) rfl (λh' sb S'=>?_);dsimp only;exact Tf (h true h' sb S')
  ·rename_i np;refine Te (Tf ?_);simp only[↓reduceIte];refine Xb3 (ks:=ks++[x]) gw ho hex hd el1 st1 p2 (by rw[z1];exact hr) ff (fl.trans hl) (by cases q:t1.plain with | false=>rfl | true=>exact absurd q np) (λh' sb S'=>?_);dsimp only;exact Tf (h true h' sb S')
end
def dd1 (acc:List Str) (x:Str):List Str:=if x∈acc then acc else acc++[x]
def ddup (ss:List Str):List Str:=ss.foldl dd1 []
theorem Xb4(ss:List Str)(x:Str):ddup (ss++[x])=dd1 (ddup ss) x:=by
 unfold ddup;rw[List.foldl_append];rfl
theorem Ma{p:List Str->List Str->Prop}(h0:p [] [])(h1:∀ss x,p ss (ddup ss)->p (ss++[x]) (dd1 (ddup ss) x))(ss:List Str):p ss (ddup ss):=by
 have go:∀n ss,ss.length=n->p ss (ddup ss):=by
  intro n
  induction n with
  | zero=>
   intro ss e;rw[Py.mp e];exact h0
  | succ n ih=>
   intro ss e;have hne:ss≠[]:=λz=>by rw[z] at e;cases e
   have e2:=List.dropLast_concat_getLast hne;rw[<-e2,Xb4];exact h1 _ _ (ih _ (by rw[List.length_dropLast,e];rfl))
 exact go _ ss rfl
theorem Mb(ss:List Str):∀x,x∈ddup ss↔x∈ss:=by
 refine Ma (p:=λss d=>∀x,x∈d↔x∈ss) (λx=>Iff.rfl) (λss y ih x=>?_) ss;unfold dd1;split
 ·rename_i hy;rw[ih,Oz,Ot];constructor
  ·exact .inl
  ·rintro (z | z)
   ·exact z
   ·rw[z];exact(ih y).mp hy
 ·rw[Oz,Oz,ih]
theorem G6(ss:List Str):(ddup ss).Nodup:=by
 refine Ma (p:=λ_ d=>d.Nodup) List.nodup_nil (λss y ih=>?_) ss;unfold dd1;split
 ·exact ih
 ·rename_i hy;exact Qb.mpr ⟨ih,by simp,λa ha b hb=>by rw[Ot.mp hb];exact λz=>hy (z ▸ ha)⟩
theorem G7(ss:List Str):(ddup ss).length<=ss.length:=by
 refine Ma (p:=λss d=>d.length<=ss.length) (Oq _) (λss y ih=>?_) ss;unfold dd1;rw[Oy,Qd];split
 ·omega
 ·rw[Oy,Qd];omega
section
variable {P:Program}{w:World}{A:Around}{E:Value->Shared->Prop}{s:Shared}
theorem Xb5{R:Result->Shared->Prop}{I:Addr}{fp wr:List Addr}{G:Array GenState->Array GenState->Prop}{Pv:Nat->Value->Prop}{St:Nat->Shared->Prop}(ss:List Str)(W:WalksS P w A.in1 I fp wr G ss.length Pv St)(S:Addr)(nS:S∉fp)
  (hval:∀i v,Pv i v->∃t,v = .str (ss.getD i "") t) (hb:ss.length+1<scanBound):
  ∀(k i:Nat) (s:Shared),ss.length - i=k->i<=ss.length->St i s->SSet P w s.heap S (ddup (ss.take i))->(∀s',Moved (S::wr) G s s'->SSet P w s'.heap S (ddup ss)->R (.ok (.ret .none)) s') ->
   codeAny (model P w) A (.builtin "set.update.loop" ⟨[.ref S,.ref I],[]⟩) R s:=by
 have nw:S∉wr:=λz=>nS (W.sub _ z);have up:∀b∈wr,b∈S::wr:=λb z=>Ou _ z;intro k
 induction k with
 | zero=>
  intro i s e hi st hS hR;have:i=ss.length:=by omega
  subst this;rw[P9] at hS;refine codeAny_builtin F.entry_set_update_loop ?_;rw[Around.under_plainId F.plain_set_update_loop _];show wpAny _ A.in1 (pyNext (.ref I) >>= λ_=>_) _ _ s;refine Te (W.done s _ _ st λs' mv=>?_);show wpAny _ A.in1 (ret Value.none) _ _ s';exact Tf (hR s' (mv.mono up) (hS.stay λo z=>mv.heap S o nw z))
 | succ k ih=>
  intro i s e hi st hS hR;have lt:i<ss.length:=by omega
  refine codeAny_builtin F.entry_set_update_loop ?_;rw[Around.under_plainId F.plain_set_update_loop _];show wpAny _ A.in1 (pyNext (.ref I) >>= λ_=>_) _ _ s;refine Te (W.item i s _ _ lt st λv s' hP st' mv=>?_);obtain⟨t,rfl⟩:=hval i v hP;have hS':=hS.stay λo z=>mv.heap S o nw z;show wpAny _ A.in1 (holding [Value.str (ss.getD i "") t] (setAdd S (.str (ss.getD i "") t)) >>= λ_=>_) _ _ s';refine Te (wpAny_holding ?_);unfold setAdd;refine wpAny_holding (Te ((PySem.strKind P w).pyHash (k:=ss.getD i "") (strKind_is P w _ t) ?_));have hl1:(ddup (ss.take i)).length<=i:=Pr (G7 _) (by rw[O3];omega);refine sset_add (s:={s' with toks:=s'.toks+1}) hS' (by omega) λb h' sb S2=>?_;have e3:ddup (ss.take (i+1))=dd1 (ddup (ss.take i)) (ss.getD i ""):=by
   rw[O8 lt,Xb4];congr 1;simp[List.getD,lt]
  have S3:SSet P w h' S (ddup (ss.take (i+1))):=by rw[e3];exact S2
  refine Tf ⟨plainId_quiet F.plain_set_update_loop _,ih (i+1) _ (by omega) lt (W.frame _ s' _ _ st' (Qt _) λb hb o q=>?_) S3 λs'' mv2 S4=>?_⟩
  ·rw[sb.2 b (λz=>nS (z ▸ hb))];exact q
  ·refine hR s'' (Moved.trans W.gtrans ((mv.mono up).then_heap (Qt _) λb o hb q=>?_) mv2) S4;rw[sb.2 b (λz=>hb (z ▸ Ow))];exact q
inductive Src (h:Heap) (l:Addr) (items:Array Value):Prop
 | lst:h.IsList l items->Src h l items
 | tup:h.IsTuple l items->Src h l items
theorem Xiv(a:Value){Q:Value->Shared->Prop}(h:Q (.ref s.heap.objs.size) {s with heap:=s.heap.push {cls:=.type "set",dict:=none,data:=.set #[] 0 (.fresh 0 0 (!Bd w))} }):
    codeAny (model P w) A (.call (.builtin "set.__new__") ⟨[.type "set",a],[]⟩) (wants Q E) s:=by
  refine codeAny_of_tree ?_
  show wpAny _ A.in1 (do checkBuiltinCall "set.__new__" ⟨[.type "set",a],[]⟩
                         again (.builtin "set.__new__" ⟨[.type "set",a],[]⟩)) _ _ s
  refine Te (wpAny_of_eq (PySem.F.newCall_set_1 a) (Tf ⟨plainId_quiet PySem.F.plain_set_new _,codeAny_builtin PySem.F.entry_set_new ?_⟩));rw[Around.under_plainId PySem.F.plain_set_new _];unfold Builtin.«set.__new__» Builtin.Frozenset.newClass;have q:=sub_set_self;obtain⟨hp,g,d,tk,os⟩:=s;dsimp only
  wp_walk
  refine wpAny_askSetting (Tf ?_);dsimp only;simp only[newObj];exact Te (wpAny_alloc (Tf (Tf h)))
end
end L2
set_option maxHeartbeats 3200000
namespace L2
open PySem PySem.Spec PyProof.Rows PySem.Calls
section
variable {P:Program}{w:World}{A:Around}{E:Value->Shared->Prop}{s:Shared}
abbrev Er (w:World):Obj:={cls:=.type "set",dict:=none,data:=.set #[] 0 (.fresh 0 0 (!Bd w))}
theorem Xiw{h:Heap}{a:Addr}(g:h.get? a=some (Er w)):SSet P w h a []:=
 ⟨_, #[],0,_,[],g,⟨rfl,rfl,rfl⟩,rfl,λe he=>by simp at he,.nil,.nil,by decide,rfl,rfl,λ_=>rfl⟩
theorem Xix{l S:Addr}{items:Array Value}{ss:List Str}{R:Unit->Shared->Prop}(hh:A.handled=none)(src:Src s.heap l items)(hs:StrsAre items.toList ss)(hb:ss.length+1<scanBound)(hS:SSet P w s.heap S [])(hlS:l≠S)
  (hTS:∀(Q:Bool->Shared->Prop),Q false s->wpAny (model P w) A (Builtin.Frozenset.isAnySet (.ref l)) Q E s)
  (h:∀(h':Heap) (tk:Nat),SSet P w h' S (ddup ss)->(∀b o,b≠S->s.heap.get? b=some o->h'.get? b=some o)->R () {s with heap:=h',toks:=tk}):
  wpAny (model P w) A (Builtin.Frozenset.updateFrom "set.__init__" S (.ref l)) R E s:=by
 have hlen:items.size=ss.length:=by
  have:=hs.length
  rwa [Ov] at this
 have hval:∀(i:Nat) (v:Value),items[i]? = some v->∃t,v = .str (ss.getD i "") t:=λi v q=>by
  have q':items.toList[i]? = some v:=by rw[Rh];exact q
  obtain⟨x,t,rfl⟩:=hs.all v (Rm q');refine⟨t,?_⟩;congr 1;rw[<-hs.strs];simp[List.getD,O2,q,strOf]
 obtain⟨oS,_,_,_,_,gS,_⟩:=id hS;have ltS:=Tq gS;unfold Builtin.Frozenset.updateFrom;refine Te (hTS _ ?_);simp only[Pf,if_false];cases src with
 | lst hl=>
  have hll:l<s.heap.objs.size:=by obtain⟨o,g,_⟩:=hl;exact Tq g
  refine Te (wpAny_typeOf (T := "list") hl.typeIs ?_);have ne:(Value.type "list" == Value.type "dict")=false:=by decide
  simp only[ne,Pf,if_false];refine Te (wpAny_pyIter_list hl ?_);refine Te (wpAny_runValue ?_);have nI:S∉[s.heap.objs.size,l]:=by simp only[O6,List.not_mem_nil,or_false,not_or];exact⟨O1 ltS,hlS.symm⟩
  have W:=(Walks.list (prog:=P) (w:=w) (A:=A.in1) (by simp[hh]) s.heap.objs.size l (O1 hll) items).toS;rw[hlen] at W;refine Xb5 ss W S nI hval hb _ 0 _ rfl (Pq _) ⟨⟨_,Heap.get?_push_size _ rfl,rfl,rfl⟩,hl.push _⟩ (hS.stay λo q=>Tr _ q) λs' mv S'=>?_;rw[Moved.eq_with mv];refine Tf (h s'.heap s'.toks S' λb o nb q=>mv.heap b o (λz=>?_) (Tr _ q));rcases O6.mp z with z | z
  ·exact nb z
  ·exact absurd (Tq q) (by rw[Ot.mp z];exact P3 _)
 | tup hl=>
  have hll:l<s.heap.objs.size:=by obtain⟨o,g,_⟩:=hl;exact Tq g
  refine Te (wpAny_typeOf (T := "tuple") hl.typeIs ?_);have ne:(Value.type "tuple" == Value.type "dict")=false:=by decide
  simp only[ne,Pf,if_false];refine Te (wpAny_pyIter_tuple hl ?_);refine Te (wpAny_runValue ?_);have nI:S∉[s.heap.objs.size,l]:=by simp only[O6,List.not_mem_nil,or_false,not_or];exact⟨O1 ltS,hlS.symm⟩
  have W:=(Walks.tuple (prog:=P) (w:=w) (A:=A.in1) (by simp[hh]) s.heap.objs.size l (O1 hll) items).toS;rw[hlen] at W;refine Xb5 ss W S nI hval hb _ 0 _ rfl (Pq _) ⟨⟨_,Heap.get?_push_size _ rfl,rfl,rfl⟩,hl.push _⟩ (hS.stay λo q=>Tr _ q) λs' mv S'=>?_;rw[Moved.eq_with mv];refine Tf (h s'.heap s'.toks S' λb o nb q=>mv.heap b o (λz=>?_) (Tr _ q));rcases O6.mp z with z | z
  ·exact nb z
  ·exact absurd (Tq q) (by rw[Ot.mp z];exact P3 _)
theorem Src.push{h:Heap}{l:Addr}{items:Array Value}(x:Src h l items)(o:Obj):Src (h.push o) l items:=by
 cases x with
 | lst y=>exact .lst (y.push o)
 | tup y=>exact .tup (y.push o)
theorem Src.any{l:Addr}{items:Array Value}(x:Src s.heap l items){Q:Bool->Shared->Prop}(q:Q false s):wpAny (model P w) A (Builtin.Frozenset.isAnySet (.ref l)) Q E s:=by
 cases x with
 | lst y=>
  obtain⟨o,g,c,n,d⟩:=y;obtain⟨oc,od,odt,os⟩:=o;simp only at c d;subst c d;have h1:=PySem.F.sub_list_set;have h2:=PySem.F.sub_list_frozenset;unfold Builtin.Frozenset.isAnySet
  wp_walk
  exact q
 | tup y=>
  obtain⟨o,g,c,n,d⟩:=y;obtain⟨oc,od,odt,os⟩:=o;simp only at c d;subst c d;have h1:isSubtype (.type "tuple") (.type "set")=pure false:=by rw[isSubtype_type];kernel_rfl
  have h2:isSubtype (.type "tuple") (.type "frozenset")=pure false:=by rw[isSubtype_type];kernel_rfl
  unfold Builtin.Frozenset.isAnySet
  wp_walk
  exact q
theorem Src.lt{h:Heap}{l:Addr}{items:Array Value}(x:Src h l items):l<h.objs.size:=by
 cases x with
 | lst y=>obtain⟨o,g,_⟩:=y;exact Tq g
 | tup y=>obtain⟨o,g,_⟩:=y;exact Tq g
theorem Xiy{l:Addr}{items:Array Value}{ss:List Str}{Q:Value->Shared->Prop}(hh:A.handled=none)(src:Src s.heap l items)(hs:StrsAre items.toList ss)(hb:ss.length+1<scanBound)
  (h:∀(h':Heap) (tk:Nat),SSet P w h' s.heap.objs.size (ddup ss)->(∀b o,s.heap.get? b=some o->h'.get? b=some o)->Q (.ref s.heap.objs.size) {s with heap:=h',toks:=tk}):
  wpAny (model P w) A (call (.type "set") [.ref l]) Q E s:=by
 obtain⟨c,tl,hmro⟩:=PySem.F.called_set.mro;have hmade:=PySem.F.called_set.made;have hsub:=PySem.F.called_set.sub;refine wpAny_call (codeAny_of_tree ?_);show wpAny _ _ (callAny (.type "set") _) _ _ s;refine Tf ⟨Code.quiet_builtin _ (by decide +kernel),codeAny_builtin PySem.F.entry_type_call ?_⟩;rw[Around.under_plain (weight_type_call_type "set" [.ref l] []) rfl];have f1:=PySem.F.called_set.notType;have f2:=PySem.F.called_set.canCreate;have f3:=PySem.F.typeCall_set_1 (.ref l)
 repeat (any_goals (first | assumption | wp_step))
 refine codeAny_mono (Xiv (.ref l) (E:=E) (Q:=λobj s1=>obj = .ref s.heap.objs.size/\s1 = {s with heap:=s.heap.push (Er w)}) ⟨rfl,rfl⟩) λr s1 hr=>?_;cases r with
 | error e=>exact hr
 | ok fl=>
  cases fl with
  | ret obj=>
   obtain⟨rfl,rfl⟩:=hr;have gS:(s.heap.push (Er w)).get? s.heap.objs.size=some (Er w):=Heap.get?_push_size _ rfl;have hT:Shared.TypeIs {s with heap:=s.heap.push (Er w)} (.ref s.heap.objs.size) "set" := ⟨_,gS,rfl⟩;have f4:=PySem.F.called_set.init.lookup;have f5:=PySem.F.called_set.init.bind (.ref s.heap.objs.size)
   repeat (any_goals (first | assumption | wp_step))
   refine codeAny_mono (codeAny_call_builtin (R:=wants (λr s2=>r = .none/\∃h' tk,s2 = {s with heap:=h',toks:=tk}/\SSet P w h' s.heap.objs.size (ddup ss)/\∀b o,s.heap.get? b=some o->h'.get? b=some o) E)
    PySem.F.called_set.init.plain PySem.F.entry_set_init (check_set_init_1 hT ?_)) λr2 s2 hr2=>?_
   ·have src':=src.push (Er w);have lt:=src.lt;unfold Builtin.«set.__init__» noKeywords;generalize hU:Builtin.Frozenset.updateFrom=U
    wp_walk
    subst hU;refine Xix (s:={s with heap:=s.heap.push (Er w)}) (by simp[hh]) src' hs hb (Xiw gS) (O1 lt) (λQ q=>Src.any (s:={s with heap:=s.heap.push (Er w)}) src' q) λh' tk S' kk=>?_;exact Tf ⟨rfl,h',tk,rfl,S',λb o q=>kk b o (O1 (Tq q)) (Tr _ q)⟩
   ·cases r2 with
    | error e=>exact hr2
    | ok fl2=>
     cases fl2 with
     | ret r=>
      obtain⟨rfl,h',tk,rfl,S',kk⟩:=hr2
      repeat (any_goals (first | assumption | wp_step))
      exact h _ _ S' kk
     | _=>exact hr2.elim
  | _=>exact hr.elim
end
namespace SF
theorem sIter:Slot "set" "__iter__" "set.__iter__" := PySem.F.slot_set_iter
theorem eIter:entryFor table "set.__iter__" = some Builtin.«frozenset.__iter__»:=entryFor_alias (id' := "frozenset.__iter__") (by kernel_rfl) rfl (by decide +kernel) (by kernel_rfl)
theorem sNext:Slot "set_iterator" "__next__" "set_iterator.__next__" := .of (owner := "set_iterator") (n := "__next__") (by rw[typeLookup_type,builtinLookup_eq_fast];kernel_rfl) (by decide +kernel) (by decide +kernel) (by decide +kernel) (by first | exact .inl (by decide +kernel) | exact .inr (by decide +kernel)) (by rw[isSubtype_type];kernel_rfl)
theorem eNext:entryFor table "set_iterator.__next__" = some Builtin.«set_iterator.__next__»:=entryFor_of_tree (by kernel_rfl)
theorem aNext(a:Value):argsOk "set_iterator.__next__" ⟨[a],[]⟩:=by unfold argsOk;kernel_rfl
end SF
theorem Mc{α : Type}:∀(xs:List α) (i:Nat) (hi:i<xs.length),(xs[i]::xs.eraseIdx i).Perm xs
 | x::xs,0,_=>Qn _
 | x::xs,i+1,hi=>by
  have ih:=Mc xs i (by simpa using hi);rw[List.eraseIdx_cons_succ,List.getElem_cons_succ];exact(List.Perm.swap x _ _).trans (ih.cons x)
theorem Xiz{α : Type}(next:Nat->Nat):∀(n k:Nat) (left:List α) (out:Array α),left.length=n->(pickOrder.go next n k left out).toList.Perm (out.toList++left):=by
 intro n
 induction n with
 | zero=>
  intro k left out e;rw[Py.mp e,Qa];exact Qn _
 | succ n ih=>
  intro k left out e;have hlt:next k % left.length<left.length:=S5 _ (by omega);unfold pickOrder.go;rw[Op hlt];dsimp only;refine(ih _ _ _ (by rw[Rf hlt,e];rfl)).trans ?_;rw[Array.toList_push,Pj];exact(Mc left _ hlt).append_left _
theorem Xb6{α : Type}(next:Nat->Nat)(xs:Array α):(pickOrder next xs).toList.Perm xs.toList:=by
 have:=Xiz next xs.size 0 xs.toList #[] (by simp);simpa [pickOrder] using this
section
variable {P:Program}{w:World}{A:Around}{E:Value->Shared->Prop}{s:Shared}
theorem Xi0{src:Source}{n:Nat}{Q:Nat->Shared->Prop}(hn:n≠0)(h:∀i d,i<n->Q i {s with drawn:=d}):wpAny (model P w) A (choose src n) Q E s:=by
 intro Γ p hΓ;exact⟨hn,h _ _ (S5 _ (Nat.pos_of_ne_zero hn))⟩
theorem Xb7{α : Type}:∀(n:Nat) (xs:List α) (s:Shared) (Q:List α->Shared->Prop),xs.length=n->(∀os d,os.Perm xs->Q os {s with drawn:=d})->wpAny (model P w) A (drawOrder n xs) Q E s:=by
 intro n
 induction n with
 | zero=>
  intro xs s Q e h;rw[Py.mp e] at h ⊢;unfold drawOrder;exact Tf (h [] s.drawn (Qn _))
 | succ n ih=>
  intro xs s Q e h;cases xs with
  | nil=>cases e
  | cons y ys=>
   unfold drawOrder;refine Te (Xi0 (by simp) λi d hi=>?_);rw[Op hi];dsimp only;refine Te (ih _ _ _ (by rw[Rf hi,e];rfl) λos d' hp=>?_);exact Tf (h _ d' ((hp.cons _).trans (Mc _ i hi)))
def SAt (h:Heap) (a:Addr) (es:Array (Int×Value)) (ep:Nat) (t:SetTable):Prop:=∃o,h.get? a=some o/\o.ExactSet/\o.data = .set es ep t/\t.fits es.size=true
theorem Xi1{a:Addr}{es:Array (Int×Value)}{ep:Nat}{t:SetTable}{Q:Bool->Shared->Prop}(hs:SAt s.heap a es ep t)(h:Q (!Bd w&&(!t.plain&&decide (es.size > 1))) s):wpAny (model P w) A (setDrawn a) Q E s:=by
 obtain⟨o,ho,hex,hd,hf⟩:=hs;unfold setDrawn setsByText;refine Te (wpAny_setState_of ho hd hf ?_);dsimp only;refine Te (Te (wpAny_askSetting (Tf ?_)));exact Tf h
abbrev itO (f0:Value) (i:Nat) (a:Addr) (n ep:Nat):Obj:={cls:=.type "set_iterator",data:=.fields #[f0,.int i 0,.ref a,.int n 0,.int ep 0]}
inductive Ord (w:World) (h:Heap) (a:Addr) (es:Array (Int×Value)) (ep:Nat) (t:SetTable) (f0:Value) (i:Nat):List Value->Prop
 | txt:Bd w=true->f0 = .int 0 0->Ord w h a es ep t f0 i ((pickOrder (w.params.setOrder a ep) es).toList.map (·.2))
 | drw (p:Addr) (os:List Nat):Bd w=false->os.Perm (List.range es.size)->f0 = .ref p->(∃n,h.get? p=some ⟨.type "tuple",none,.seq (os.map λj=>Value.int (j:Nat) 0).toArray n, #[]⟩)->Ord w h a es ep t f0 i (os.map λj=>((es[j]?).map (·.2)).getD .none)
 | one (sl:Nat):Bd w=false->t.led=true->es.size<=1->f0 = .int sl 0->(i=0->sl=0)->(∀j,i=1->t.place[0]? = some j->sl=j+1)->Ord w h a es ep t f0 i (es.toList.map (·.2))
theorem Xi2{a:Addr}{es:Array (Int×Value)}{ep:Nat}{t:SetTable}{Q:Value->Shared->Prop}(hs:SAt s.heap a es ep t)(hb:es.size<scanBound)(hl:t.led = !Bd w)(hp:t.plain=true->es.size=0)
    (h:∀(f0:Value) (vs:List Value) (h1:Heap) (d:Drawn),(∀b o,s.heap.get? b=some o->h1.get? b=some o)->h1.objs.size<=s.heap.objs.size+1->s.heap.objs.size<=h1.objs.size->(∀p,f0 = .ref p->p<h1.objs.size)->Ord w (h1.push (itO f0 0 a es.size ep)) a es ep t f0 0 vs ->
      vs.Perm (es.toList.map (·.2))->Q (.ref h1.objs.size) {s with heap:=h1.push (itO f0 0 a es.size ep),drawn:=d}):
    wpAny (model P w) A (pyIter (.ref a)) Q E s:=by
  obtain⟨o,ho,hex,hd,hf⟩:=id hs;have hT:s.TypeIs (.ref a) "set" := ⟨o,ho,hex.1⟩;refine wpAny_pyIter_slot hT SF.sIter (wpAny_call_entry SF.sIter hT SF.eIter ?_ (PySem.F.args_set_iter_1 _));unfold Builtin.«frozenset.__iter__» Builtin.Frozenset.slot0 slotArgs;simp only[List.isEmpty_nil,R8,Pf, ↓reduceIte,bind_assoc,Q7,bne_self_eq_false];unfold Builtin.Frozenset.addrOf Builtin.Frozenset.sizeOf;refine Te (Tf ?_);dsimp only;refine Te (Tf ?_);refine Te (Te (wpAny_setEntries_of ho hd hf (Tf ?_)));refine Te (Xi1 hs ?_);have fin:∀(f0:Value) (vs:List Value) (h1:Heap) (d:Drawn),(∀b o,s.heap.get? b=some o->h1.get? b=some o)->h1.objs.size<=s.heap.objs.size+1->s.heap.objs.size<=h1.objs.size->(∀p,f0 = .ref p->p<h1.objs.size)->Ord w (h1.push (itO f0 0 a es.size ep)) a es ep t f0 0 vs->vs.Perm (es.toList.map (·.2)) ->
      wpAny (model P w) A.in1 (do let r <-newFields "set_iterator" [f0,rawInt 0,.ref a,rawInt es.size,rawInt ep]
                                  ret r) (λfin s'=>∃r,fin = .done (.ret r)/\∃T v,s'.TypeIs r T/\typeLookup (.type T) (Str.ofString "__next__")=pure (some v)/\Q r s') E {s with heap:=h1,drawn:=d}:=λf0 vs h1 d k1 k2 k3 k4 k5 k6=>
    Te (wpAny_newObj_type (Tf ⟨_,rfl, "set_iterator",_,⟨_,Heap.get?_push_size _ rfl,rfl⟩,SF.sNext.lookup,h f0 vs h1 d k1 k2 k3 k4 k5 k6⟩))
  by_cases hc:(!Bd w&&(!t.plain&&decide (es.size > 1)))=true
  . rw[Tk hc];simp only[O9,S0,decide_eq_true_eq] at hc;obtain⟨c1,c2,c3⟩:=hc;refine Te (Xb7 _ _ _ _ P2 λos d po=>?_);have hol:os.length=es.size:=by rw[po.length_eq,P2]
    refine Te (wpAny_newTuple ?_ (by rw[Oo,hol];exact fits_of_scanBound hb));refine Te (wpAny_setEpoch_of (Tr _ ho) hd hf ?_);refine fin _ _ _ d (λb o q=>Tr _ q) (by rw[size_push'];exact Oq _) (by rw[size_push'];exact Qt _) (λp e=>by cases e;rw[size_push'];exact Nat.lt_succ_self _) (.drw s.heap.objs.size os c1 po rfl ⟨0,Tr _ (Heap.get?_push_size _ rfl)⟩) ?_;have e:(os.map λj=>((es[j]?).map (·.2)).getD Value.none).Perm ((List.range es.size).map λj=>((es[j]?).map (·.2)).getD Value.none):=po.map _;refine e.trans ?_;have e2:((List.range es.size).map λj=>((es[j]?).map (·.2)).getD Value.none)=es.toList.map (·.2):=by
      apply List.ext_getElem?;intro i;have q:es.toList[i]? = es[i]?:=Rh;rw[O2,O2,q];by_cases hi:i<es.size
      . rw[List.getElem?_range hi,Q6,getElem?_pos es i hi];rfl
      . rw[Rw (by simpa using hi),getElem?_neg es i hi];rfl
    rw[e2]
  . rw[Tj hc];refine Te (Tf ?_);refine Te (wpAny_setEpoch_of ho hd hf ?_);cases hw:Bd w with
    | true=>exact fin _ _ _ s.drawn (λb o q=>q) (Qt _) (Oq _) (λp e=>by cases e) (.txt hw rfl) ((Xb6 _ es).map _)
    | false=>
      have h1:es.size<=1:=by
        cases hpl:t.plain with
        | true=>rw[hp hpl];exact Pq _
        | false=>
          simp only[hw,hpl,Bool.not_false,Qx,decide_eq_true_eq] at hc;omega
      exact fin _ _ _ s.drawn (λb o q=>q) (Qt _) (Oq _) (λp e=>by cases e) (.one 0 hw (by rw[hl,hw];rfl) h1 rfl (λ_=>rfl) (λj e=>by cases e)) (Qn _)
end
end L2
namespace L2
open PySem PySem.Spec PyProof.Rows PySem.Calls
section
variable {P:Program}{w:World}{A:Around}{E:Value->Shared->Prop}{s:Shared}{I a:Addr}{es:Array (Int×Value)}{ep:Nat}{t:SetTable}
def ItS (w:World) (I a:Addr) (es:Array (Int×Value)) (ep:Nat) (t:SetTable) (vs:List Value) (fp:Option Addr) (i:Nat) (h:Heap):Prop:=
 ∃f0,h.get? I=some (itO f0 i a es.size ep)/\Ord w h a es ep t f0 i vs/\SAt h a es ep t/\(∀p,f0 = .ref p->fp=some p)
theorem Xb8{i:Nat}{f0:Value}{Q:Fin->Shared->Prop}(hI:s.heap.get? I=some (itO f0 i a es.size ep))(hS:SAt s.heap a es ep t)
  (h1:∀sl,f0 = .int sl 0->wpAny (model P w) A (do
   match <-setNext a sl.toNat i ep with
   | some (x,next)=>setField (.ref I) 0 (rawInt next);setField (.ref I) 1 (rawInt ((i:Int)+1));ret x
   | none=>setField (.ref I) 2 .none;raiseNew (<-newExc (.type "StopIteration") [])) Q E s)
  (h2:∀p,f0 = .ref p->wpAny (model P w) A (do
   let some places <-seqItems? (.ref p) | unsupported "internal:set_iterator"
   match places[i]? with
   | some (.int place _)=>let x <-setNextDrawn a place.toNat ep;setField (.ref I) 1 (rawInt ((i:Int)+1));ret x
   | some _=>unsupported "internal:set_iterator"
   | none=>setField (.ref I) 0 (rawInt 0);setField (.ref I) 2 .none;raiseNew (<-newExc (.type "StopIteration") [])) Q E s)
  (hf:(∃sl,f0 = .int sl 0) \/ ∃p,f0 = .ref p):wpAny (model P w) A (Builtin.«set_iterator.__next__» ⟨[.ref I],[]⟩) Q E s:=by
 obtain⟨o,ho,hex,hd,hft⟩:=id hS;unfold Builtin.«set_iterator.__next__» slotArgs;simp only[List.isEmpty_nil,R8,Pf, ↓reduceIte,bind_assoc,Q7,bne_self_eq_false];refine Te (Tf ?_);dsimp only;refine Te (wpAny_fieldsOf hI rfl ?_);dsimp only;refine Te (wpAny_setEntries_of ho hd hft ?_);rw[Tj (by simp)];rcases hf with ⟨sl,rfl⟩ | ⟨p,rfl⟩
 ·exact h1 sl rfl
 ·exact h2 p rfl
theorem Jc{h:Heap}{f0 x:Value}{i j n:Nat}(hI:h.get? I=some (itO f0 i a n ep))(k:Nat)(v:Value):
  (h.update I (Obj.mapFields (·.setIfInBounds k v))).get? I=some {cls:=.type "set_iterator",data:=.fields ((#[f0,.int i 0,.ref a,.int n 0,.int ep 0]:Array Value).setIfInBounds k v)}:=
 Heap.get?_update_self _ hI rfl
theorem SAt.at{h h':Heap}(x:SAt h a es ep t)(k:∀o,h.get? a=some o->h'.get? a=some o):SAt h' a es ep t:=by
 obtain⟨o,ho,r⟩:=x;exact⟨o,k o ho,r⟩
theorem Xb9{sl i:Nat}{Q:Option (Value×Nat)->Shared->Prop}(hw:Bd w=true)(hS:SAt s.heap a es ep t)(h:Q (((pickOrder (w.params.setOrder a ep) es)[i]?).map λe=>(e.2,sl)) s):wpAny (model P w) A (setNext a sl i ep) Q E s:=by
 obtain⟨o,ho,hex,hd,hf⟩:=id hS;unfold setNext setsByText;refine Te (wpAny_setState_of ho hd hf ?_);dsimp only;refine Te (Te (wpAny_askSetting (Tf ?_)));rw[Tk (show (model P w).w.params.followText "set-order" = true from hw),Tj (by simp)];unfold setWalk setsByText;refine Te (Te (wpAny_setState_of ho hd hf ?_));dsimp only;refine Te (Te (wpAny_askSetting (Tf ?_)));rw[Tk (show (model P w).w.params.followText "set-order" = true from hw)];exact Te (wpAny_askSetting (Tf (Tf h)))
theorem Xca{sl i:Nat}{Q:Option (Value×Nat)->Shared->Prop}(hw:Bd w=false)(hl:t.led=true)(h1:es.size<=1)(hS:SAt s.heap a es ep t)
  (h:Q (match es[SetTable.below t.place sl]?,t.place[SetTable.below t.place sl]? with | some (_,x),some j=>some (x,j+1) | _,_=>none) s):wpAny (model P w) A (setNext a sl i ep) Q E s:=by
 obtain⟨o,ho,hex,hd,hf⟩:=id hS;unfold setNext setsByText;refine Te (wpAny_setState_of ho hd hf ?_);dsimp only;refine Te (Te (wpAny_askSetting (Tf ?_)));rw[Tj (show ¬(model P w).w.params.followText "set-order" = true from by show ¬Bd w=true;rw[hw];decide)];have d1:(!t.plain&&decide (es.size > 1))=false:=by rw[Tm (by omega),Bool.and_false]
 refine wpAny_ite_split (λz=>?_) (λ_=>?_)
 ·have z':(!t.plain&&decide (es.size > 1))=true:=z;rw[d1] at z';cases z'
 refine Te ?_;have m1:(!t.led && !es.isEmpty)=false:=by rw[hl];rfl
 refine wpAny_ite_split (λz=>?_) (λ_=>Tf (Tf h));have z':(!t.led && !es.isEmpty)=true:=z;rw[m1] at z';cases z'
theorem Xi3{t:SetTable}(h:t.place.size<=1):SetTable.below t.place 0=0:=by
 generalize t.place=pl at *;obtain⟨l⟩:=pl
 match l,h with
 | [],_=>rfl
 | [x],_=>simp[SetTable.below,SetTable.below.go]
theorem Xi4{t:SetTable}{j:Nat}(h:t.place.size<=1)(hj:t.place[0]? = some j):SetTable.below t.place (j+1)=1:=by
 generalize t.place=pl at *;obtain⟨l⟩:=pl
 match l,h,hj with
 | [x],_,hj=>
  have:x=j:=by simpa using hj
  subst this;simp[SetTable.below,SetTable.below.go]
theorem Xcb{n:Nat}(h:t.fits n=true):t.place.size=n:=by
 unfold SetTable.fits at h;simp only[O9,beq_iff_eq] at h;exact h.1
end
section
variable {P:Program}{w:World}{A:Around}{E:Value->Shared->Prop}{s:Shared}{I a:Addr}{es:Array (Int×Value)}{ep:Nat}{t:SetTable}{vs:List Value}{fp:Option Addr}
theorem Ord.cases0{h:Heap}{f0:Value}{i:Nat}(x:Ord w h a es ep t f0 i vs):(∃sl:Int,f0 = .int sl 0) \/ ∃p,f0 = .ref p:=by
 cases x with
 | txt _ e=>exact .inl ⟨0,e⟩
 | drw p os _ _ e _=>exact .inr ⟨p,e⟩
 | one sl _ _ _ e _ _=>exact .inl ⟨sl,e⟩
theorem Xi5{i:Nat}{Q:Option Value->Shared->Prop}(st:ItS w I a es ep t vs fp i s.heap)(hi:i<vs.length)(hl:vs.length=es.size)(nIa:a≠I)(nIp:∀p,fp=some p->p≠I)
  (hQ:∀h',ItS w I a es ep t vs fp (i+1) h'->Heap.SameBut I s.heap h'->Q (some vs[i]) {s with heap:=h'}):wpAny (model P w) A (pyNext (.ref I)) Q E s:=by
 obtain⟨f0,hI,hO,hS,hp⟩:=st;have hT:s.TypeIs (.ref I) "set_iterator" := ⟨_,hI,rfl⟩;unfold pyNext;refine Te (wpAny_attempt (wpAny_callSpecial?_slot (name:=Str.ofString "__next__") hT SF.sNext (wpAny_call_entry SF.sNext hT SF.eNext ?_ (SF.aNext _))));have e1:((i:Int)+1)=((i+1:Nat):Int):=by omega
 have fin:∀(E':Value->Shared->Prop) (nx:Nat),Ord w ((s.heap.update I (Obj.mapFields (·.setIfInBounds 0 (rawInt nx)))).update I (Obj.mapFields (·.setIfInBounds 1 (rawInt ((i:Int)+1))))) a es ep t (.int nx 0) (i+1) vs ->
   wpAny (model P w) A.in1 (do
    setField (.ref I) 0 (rawInt nx)
    setField (.ref I) 1 (rawInt ((i:Int)+1))
    ret vs[i]) (λfin s'=>∃r,fin = .done (.ret r)/\wpAny (model P w) A (pure (some r)) Q E s') E' s:=λE' nx O=>by
  refine Te (wpAny_setField hI rfl (by simp) ?_);refine Te (wpAny_setField (Jc (x:=.none) (j:=0) hI 0 (rawInt nx)) rfl (by simp) ?_);have g:=Heap.get?_update_self (Obj.mapFields (·.setIfInBounds 1 (rawInt ((i:Int)+1)))) (Jc (x:=.none) (j:=0) hI 0 (rawInt nx)) rfl;refine Tf ⟨_,rfl,Tf (hQ _ ⟨_,g.trans ?_,O,hS.at λo q=>?_,λp z=>by cases z⟩ ((Tt ..).trans (Tt ..)))⟩
  ·rw[e1];rfl
  ·rw[((Tt s.heap I _).trans (Tt _ I _)).2 a nIa];exact q
 refine Xb8 hI hS (λsl e=>?_) (λp e=>?_) hO.cases0
 ·subst e;cases hO with
  | txt hw e=>
   cases e;have hi2:i<(pickOrder (w.params.setOrder a ep) es).size:=by simpa using hi
   refine Te (Xb9 hw hS ?_);rw[getElem?_pos _ i hi2];have ev:((pickOrder (w.params.setOrder a ep) es).toList.map (·.2))[i]=((pickOrder (w.params.setOrder a ep) es)[i]).2:=by simp
   have f:=λE'=>fin E' 0 (.txt hw rfl);rw[ev] at f;exact f _
  | drw p os _ _ e _=>cases e
  | one sl' hw hld h1 e hz ho=>
   cases e;obtain⟨_,_,_,_,hft⟩:=id hS;have hps:=Xcb hft;have i0:i=0:=by
    have:i<es.size:=by rw[<-hl];exact hi
    omega
   subst i0;have z0:=hz rfl;subst z0;have he:0<es.size:=by rw[<-hl];exact hi
   have hpl:0<t.place.size:=by rw[hps];exact he
   refine Te (Xca hw hld h1 hS ?_);have b0:SetTable.below t.place ((0:Nat):Int).toNat=0:=Xi3 (by rw[hps];exact h1);rw[b0,getElem?_pos es 0 he,getElem?_pos t.place 0 hpl];have ev:(es.toList.map (·.2))[0]=(es[0]).2:=by simp
   have f:=λE'=>fin E' (t.place[0]+1) (.one (t.place[0]+1) hw hld h1 rfl (λz=>by cases z) (λj _ q=>by rw[getElem?_pos t.place 0 hpl] at q;cases q;rfl));rw[ev] at f;exact f _
 ·subst e;cases hO with
  | txt hw e=>cases e
  | one sl' hw hld h1 e hz ho=>cases e
  | drw p' os hw hp2 e htp=>
   cases e;obtain⟨n,htp⟩:=htp;have hil:i<os.length:=by simpa using hi
   have hos:os[i]<es.size:=P6.mp (hp2.mem_iff.mp (Pn hil));refine Te (wpAny_seqItems htp rfl ?_);have g:((os.map λj=>Value.int (j:Nat) 0).toArray)[i]? = some (.int ((os[i]:Nat):Int) 0):=by simp[hil]
   dsimp only;rw[g];dsimp only;obtain⟨o,ho,hex,hd,hft⟩:=id hS;unfold setNextDrawn;refine Te (Te (wpAny_setState_of ho hd hft ?_));dsimp only;rw[Tj (by simp),show ((os[i]:Nat):Int).toNat=os[i] from Qh _,getElem?_pos es _ hos];refine Tf ?_;refine Te (wpAny_setField hI rfl (by simp) ?_);have ev:(os.map λj=>((es[j]?).map (·.2)).getD Value.none)[i]=(es[os[i]]).2:=by simp[hos]
   have g2:=Jc (x:=.none) (j:=0) hI 1 (rawInt ((i:Int)+1));have nI2:p≠I:=nIp p (hp p rfl);have q:=hQ (s.heap.update I (Obj.mapFields (·.setIfInBounds 1 (rawInt ((i:Int)+1))))) ⟨_,g2.trans (by rw[e1];rfl),.drw p os hw hp2 rfl ⟨n,?_⟩,hS.at λo q=>?_,λp' z=>hp p' z⟩ (Tt ..)
   ·rw[ev] at q;exact Tf ⟨_,rfl,Tf q⟩
   ·rw[(Tt s.heap I _).2 p nI2];exact htp
   ·rw[(Tt s.heap I _).2 a nIa];exact q
end
section
variable {P:Program}{w:World}{A:Around}{E:Value->Shared->Prop}{s:Shared}{I a:Addr}{es:Array (Int×Value)}{ep:Nat}{t:SetTable}{vs:List Value}{fp:Option Addr}
theorem Xcc{α : Type}{h0:Heap}{Q : α->Shared->Prop}{E':Value->Shared->Prop}(hh:A.handled=none)
  (k:∀e h',(∀b o,s.heap.get? b=some o->h'.get? b=some o)->Shared.TypeIs {s with heap:=h'} e "StopIteration" -> E' e {s with heap:=h'}):
  wpAny (model P w) A (do raiseNew (<-newExc (.type "StopIteration") []):Sem α) Q E' s:=by
 refine Te ?_;simp only[newExc,newTuple];refine Te (wpAny_newObj_type ?_ (by size_fits));refine Te (m:=firstArgMember _ _) (wpAny_of_eq (a:=Value.none) (by first | rfl | (simp only[firstArgMember];rfl)) ?_);refine wpAny_newObj_type ?_ (by size_fits);simp only[raiseNew];refine Te (wpAny_handled ?_);rw[hh];refine Te (Tf (wpAny_throw ?_));exact k _ _ (λb o q=>Tr _ (Tr _ q)) ⟨_,Heap.get?_push_size _ rfl,rfl⟩
theorem Xi6{Q:Option Value->Shared->Prop}(hh:A.handled=none)(st:ItS w I a es ep t vs fp vs.length s.heap)(hl:vs.length=es.size)
    (hQ:∀h',(∀b o,b≠I->s.heap.get? b=some o->h'.get? b=some o)->Q none {s with heap:=h'}):wpAny (model P w) A (pyNext (.ref I)) Q E s:=by
  obtain⟨f0,hI,hO,hS,hp⟩:=st;have hT:s.TypeIs (.ref I) "set_iterator" := ⟨_,hI,rfl⟩;unfold pyNext;refine Te (wpAny_attempt (wpAny_callSpecial?_slot (name:=Str.ofString "__next__") hT SF.sNext (wpAny_call_entry SF.sNext hT SF.eNext ?_ (SF.aNext _))));have hh1:A.in1.handled=none:=hh;have stp:∀(e:Value) (h':Heap),(∀b o,b≠I->s.heap.get? b=some o->h'.get? b=some o)->Shared.TypeIs {s with heap:=h'} e "StopIteration" ->
      wpAny (model P w) A (do if <-isInstance e (.type "StopIteration") then pure none else throw e) Q E {s with heap:=h'}:=λe h' k ty=>
    Te (wpAny_isInstance (T := "StopIteration") (b:=true) ty isSubtype_stop (Tf (hQ h' k)))
  have keep1:∀(f:Obj->Obj) b o,b≠I->s.heap.get? b=some o->(s.heap.update I f).get? b=some o:=λf b o nb q=>by
    rw[(Tt s.heap I f).2 b nb];exact q
  have fin:∀(Q':PySem.Fin->Shared->Prop),wpAny (model P w) A.in1 (do
        setField (.ref I) 2 .none
        raiseNew (<-newExc (.type "StopIteration") [])) Q' (λe s'=>wpAny (model P w) A (do if <-isInstance e (.type "StopIteration") then pure none else throw e) Q E s') s:=λQ'=>by
    refine Te (wpAny_setField hI rfl (by simp) ?_);refine Xcc (h0:=s.heap) (s:={s with heap:=s.heap.update I (Obj.mapFields (·.setIfInBounds 2 Value.none))}) hh1 λe h' k ty=>?_;exact stp e h' (λb o nb q=>k b o (keep1 _ b o nb q)) ty
  refine Xb8 hI hS (λsl e=>?_) (λp e=>?_) hO.cases0
  . subst e;cases hO with
    | txt hw e=>
      cases e;refine Te (Xb9 hw hS ?_);rw[getElem?_neg _ _ (by simp)];exact fin _
    | drw p os _ _ e _=>cases e
    | one sl' hw hld h1 e hz ho=>
      cases e;obtain⟨_,_,_,_,hft⟩:=id hS;have hps:=Xcb hft;refine Te (Xca hw hld h1 hS ?_);have hn:es[SetTable.below t.place ((sl':Nat):Int).toNat]? = none:=by
        rw[Qh];by_cases h0:es.size=0
        . exact getElem?_neg _ _ (by omega)
        . have e1:es.size=1:=by omega
          have hpl:0<t.place.size:=by rw[hps,e1];decide
          have:=ho t.place[0] (by rw[hl,e1]) (getElem?_pos t.place 0 hpl);rw[this,Xi4 (by rw[hps];exact h1) (getElem?_pos t.place 0 hpl)];exact getElem?_neg _ _ (by omega)
      rw[hn];exact fin _
  . subst e;cases hO with
    | txt hw e=>cases e
    | one sl' hw hld h1 e hz ho=>cases e
    | drw p' os hw hp2 e htp=>
      cases e;obtain⟨n,htp⟩:=htp;refine Te (wpAny_seqItems htp rfl ?_);dsimp only;rw[getElem?_neg _ _ (by simp)];dsimp only;refine Te (wpAny_setField hI rfl (by simp) ?_);refine Te (wpAny_setField (Jc (x:=.none) (j:=0) hI 0 (rawInt 0)) rfl (by simp) ?_);refine Xcc (h0:=s.heap) (s:={s with heap:=(s.heap.update I (Obj.mapFields (·.setIfInBounds 0 (rawInt 0)))).update I (Obj.mapFields (·.setIfInBounds 2 Value.none))}) hh1 λe h' k ty=>?_;refine stp e h' (λb o nb q=>k b o ?_) ty;show ((s.heap.update I _).update I _).get? b=some o;rw[(Tt _ I _).2 b nb];exact keep1 _ b o nb q
end
namespace SF
theorem sSelf:Slot "set_iterator" "__iter__" "set_iterator.__iter__" := .of (owner := "set_iterator") (n := "__iter__") (by rw[typeLookup_type,builtinLookup_eq_fast];kernel_rfl) (by decide +kernel) (by decide +kernel) (by decide +kernel) (by first | exact .inl (by decide +kernel) | exact .inr (by decide +kernel)) (by rw[isSubtype_type];kernel_rfl)
theorem eSelf:entryFor table "set_iterator.__iter__" = some Builtin.«dict_keyiterator.__iter__»:=entryFor_alias (id' := "dict_keyiterator.__iter__") (by kernel_rfl) rfl (by decide +kernel) (by kernel_rfl)
theorem aSelf(a:Value):argsOk "set_iterator.__iter__" ⟨[a],[]⟩:=by unfold argsOk;kernel_rfl
end SF
section
variable {P:Program}{w:World}{A:Around}{E:Value->Shared->Prop}{s:Shared}{I a:Addr}{es:Array (Int×Value)}{ep:Nat}{t:SetTable}{vs:List Value}{fp:Option Addr}{ks:List Str}
theorem ItS.at{i:Nat}{h h':Heap}(x:ItS w I a es ep t vs fp i h)(k:∀b∈I::a::fp.toList,∀o,h.get? b=some o->h'.get? b=some o):ItS w I a es ep t vs fp i h':=by
 obtain⟨f0,h1,h2,h3,h4⟩:=x;refine⟨f0,k I (by simp) _ h1,?_,h3.at λo q=>k a (by simp) o q,h4⟩;cases h2 with
 | txt e1 e2=>exact .txt e1 e2
 | drw p os e1 e2 e3 e4=>
  obtain⟨n,e4⟩:=e4;exact .drw p os e1 e2 e3 ⟨n,k p (by rw[h4 p e3];simp) _ e4⟩
 | one sl e1 e2 e3 e4 e5 e6=>exact .one sl e1 e2 e3 e4 e5 e6
theorem Xi7(hh:A.handled=none)(hl:vs.length=es.size)(nIa:a≠I)(nIp:∀p,fp=some p->p≠I):Walks P w A I (I::a::fp.toList) [I] vs.length (λi v=>vs[i]? = some v) (ItS w I a es ep t vs fp) where
 sub:=λb hb=>by simp at hb;simp[hb]
 frame:=λ_ _ _ st hk=>st.at hk
 item:=λi s Q E hi st hQ=>by
  refine Xi5 st hi hl nIa nIp λh' st' sb=>?_;exact hQ vs[i] h' s.toks (by simp[hi]) st' λb o hb e=>by rw[sb.2 b (λz=>hb (by simp[z]))];exact e
 done:=λs Q E st hQ=>Xi6 hh st hl λh' k=>hQ h' s.toks λb o hb e=>k b o (λz=>hb (by simp[z])) e
 self:=λi s Q E st hQ=>by
  obtain⟨f0,h1,_⟩:=st;have hT:s.TypeIs (.ref I) "set_iterator" := ⟨_,h1,rfl⟩;refine wpAny_pyIter_slot hT SF.sSelf (wpAny_call_entry SF.sSelf hT SF.eSelf ?_ (SF.aSelf _));show wpAny _ _ (ret (.ref I)) _ _ s;exact Tf ⟨_,rfl, "set_iterator",_,hT,SF.sNext.lookup,hQ⟩
theorem Xi8{r:Addr}{Q:Bool->Shared->Prop}(hT:s.TypeIs (.ref r) "set")(h:Q false s):wpAny (model P w) A (Builtin.List.listLengthHint (.ref r)) Q E s:=by
 unfold Builtin.List.listLengthHint;refine Te (wpAny_specialOf hT PySem.F.slot_set_len.lookup ?_);generalize hid:("set.__len__" : String)=id0
 wp_delta
 rw[show splitId id0=some ("set", "__len__") from by subst hid;decide +kernel];subst hid;refine Te (wpAny_isInstance (T := "set") (b:=true) hT (by rw[isSubtype_type];kernel_rfl) ?_);refine wpAny_ite_split (λz=>absurd z (by decide)) (λ_=>?_);refine wpAny_ite_split (λ_=>?_) (λz=>absurd (by decide +kernel) z);exact Te (wpAny_typeOf hT (Tf h))
end
end L2
namespace L2
open PySem PySem.Spec PyProof.Rows PySem.Calls
section
variable {P:Program}{w:World}{A:Around}{E:Value->Shared->Prop}{s:Shared}{a:Addr}{ks:List Str}
theorem Xi9{R:Result->Shared->Prop}{S:Addr}{res:Value}{c0:Nat}(hh:A.handled=none)(hs:SSet P w s.heap a ks)(nS:S≠a)(gS:s.heap.get? S=some {cls:=.type "list",data:=.seq #[] c0})
  (hR:∀s' acc c vs ls,(∀b o,b≠S->s.heap.get? b=some o->s'.heap.get? b=some o)->s'.os=s.os->s'.gens=s.gens->s'.heap.get? S=some {cls:=.type "list",dict:=none,data:=.seq acc c,slots := #[]}->acc.toList=vs->StrsAre vs ls->ls.Perm ks->R (.ok (.ret res)) s'):
  wpAny (model P w) A.in1 (Builtin.List.listExtendWith (.ref S) (.ref a) res)
   (λfin s'=>match fin with | .done f=>R (.ok f) s' | .again c'=>c'.quiet=true/\codeAny (model P w) A c' R s') (λe s'=>R (.error e) s') s:=by
 obtain⟨o,es,ep,t,ls0,ho,hex,hd,hel,hst,hpm,hb,hf,hl,hpl⟩:=id hs;have hT:s.TypeIs (.ref a) "set" := ⟨o,ho,hex.1⟩;have la:=Tq ho;have lS:=Tq gS;unfold Builtin.List.listExtendWith;refine Te (wpAny_typeOf (T := "set") hT ?_);have n1:Builtin.List.listSameRef (.ref S) (.ref a)=false:=by simp[Builtin.List.listSameRef,nS]
 have n2:(Value.type "set" == Value.type "list")=false:=by decide
 have n3:(Value.type "set" == Value.type "tuple")=false:=by decide
 simp only[n1,n2,n3,S8,Pf,if_false];refine Te (Xi2 ⟨o,ho,hex,hd,hf⟩ hb hl hpl λf0 vs h1 d k1 z1 z2 kp O pv=>?_);have hvl:vs.length=es.size:=by rw[pv.length_eq,Oo,Ov]
 have nI:∀b,b<h1.objs.size->b≠h1.objs.size:=λb q=>O1 q;have kI:∀b o,s.heap.get? b=some o->(h1.push (itO f0 0 a es.size ep)).get? b=some o:=λb o q=>Tr _ (k1 b o q);obtain⟨fp,hfp⟩:∃fp:Option Addr,(∀p,f0 = .ref p->fp=some p)/\∀p,fp=some p->p≠h1.objs.size/\p≠S:=by
  cases f0 with
  | ref p=>
   refine⟨some p,⟨λq e=>(by cases e;rfl),λq e=>?_⟩⟩;cases e;refine⟨O1 (kp p rfl),λz=>?_⟩;subst z;cases O with
   | drw p' os _ _ e ht=>
    cases e;obtain⟨n,ht⟩:=ht;rw[kI _ _ gS] at ht;have hc:=congrArg Obj.cls (Pa ht);exact absurd hc (by simp)
   | txt _ e=>cases e
   | one _ _ _ _ e _ _=>cases e
  | _=>exact⟨none,⟨λq e=>(by cases e),λq e=>(by cases e)⟩⟩
 have st0:ItS w h1.objs.size a es ep t vs fp 0 (h1.push (itO f0 0 a es.size ep)):=⟨f0,Heap.get?_push_size _ rfl,O,⟨o,kI _ _ ho,hex,hd,hf⟩,hfp.1⟩;have W:=Xi7 (P:=P) (w:=w) (A:=A.in1) (I:=h1.objs.size) (a:=a) (es:=es) (ep:=ep) (t:=t) (vs:=vs) (fp:=fp) hh hvl (O1 (Pd la z2)) (λp e=>(hfp.2 p e).1);have nSf:S∉h1.objs.size::a::fp.toList:=by
  simp only[O6,not_or];refine⟨O1 (Pd lS z2),nS,λz=>?_⟩;cases hfq:fp with
  | none=>rw[hfq] at z;simp at z
  | some p=>
   rw[hfq] at z;have:S=p:=by simpa using z
   exact(hfp.2 p hfq).2 this.symm
 have key:∀(h:Heap) (c1:Nat),ItS w h1.objs.size a es ep t vs fp 0 h->(∀b o,b≠S->s.heap.get? b=some o->h.get? b=some o)->h.get? S=some {cls:=.type "list",data:=.seq #[] c1} ->
   codeAny (model P w) A (.builtin "list.extend.loop" ⟨[.ref S,.ref h1.objs.size,res],[]⟩) R {s with heap:=h,drawn:=d}:=by
  intro h c1 hst1 hk gS1;refine codeAny_extend_loopS W.toS (by rw[hvl];exact fits_of_scanBound hb) S nSf res vs.length 0 _ #[] c1 rfl (Pq _) hst1 gS1 (ItemsOf.nil _) λs' acc c hm gS' hacc=>?_;have hav:acc.toList=vs:=by
   apply List.ext_getElem?;intro i;by_cases hi:i<vs.length
   ·have hi2:i<acc.size:=by rw[hacc.1];exact hi
    have:=hacc.2 i acc[i] (getElem?_pos acc i hi2);rw[this];simp[hi2]
   ·rw[Rw (by rw[Ov,hacc.1];omega),Rw (by omega)]
  have hls:StrsAre vs (vs.map strOf):=strsAre_map vs λv hv=>hst.all v (pv.mem_iff.mp hv);refine hR s' acc c vs (vs.map strOf) (λb o nb q=>hm.heap b o (λz=>?_) (hk b o nb q)) hm.os hm.gens gS' hav hls ?_
  ·rcases O6.mp z with z | z
   ·exact nb z
   ·exact absurd (Pd (Tq q) z2) (by rw[Ot.mp z];exact P3 _)
  ·have:=pv.map strOf;rw[hst.strs] at this;exact this.trans hpm
 have gS1:=kI _ _ gS;have hT1:Shared.TypeIs {s with heap:=h1.push (itO f0 0 a es.size ep),drawn:=d} (.ref a) "set" := ⟨o,kI _ _ ho,hex.1⟩;refine Te (wpAny_holding (Xi8 hT1 ?_));refine wpAny_ite_split (λ_=>?_) (λ_=>Tf ⟨plainId_quiet PySem.F.plain_extend_loop _,key _ c0 st0 (λb o _ q=>kI b o q) gS1⟩);refine Te (wpAny_rule (Te ?_));show wpAny _ _ (updateSeq S (·.push .none) >>= λ_=>updateSeq S (·.pop)) _ _ _;refine Te (wpAny_updateSeq gS1 rfl ?_);have gS2:=Heap.get?_update_self (Obj.mapSeq (·.push Value.none)) gS1 rfl;refine wpAny_updateSeq (hz:=by seq_fits) gS2 rfl ?_;have gS3:=Heap.get?_update_self (Obj.mapSeq (·.pop)) gS2 rfl;have other:∀b,b≠S->(((h1.push (itO f0 0 a es.size ep)).update S (Obj.mapSeq (·.push Value.none))).update S (Obj.mapSeq (·.pop))).get? b=(h1.push (itO f0 0 a es.size ep)).get? b:=λb nb=>
  (Heap.get?_update_other _ _ (Ne.symm nb)).trans (Heap.get?_update_other _ _ (Ne.symm nb))
 refine Tf ⟨plainId_quiet PySem.F.plain_extend_loop _,key _ _ (st0.at λb hb2 o q=>?_) (λb o nb q=>?_) gS3⟩
 ·rw[other b (λz=>nSf (z ▸ hb2))];exact q
 ·rw[other b nb];exact kI b o q
theorem Xja{R:List Value->Shared->Prop}(hh:A.handled=none)(hs:SSet P w s.heap a ks)
    (h:∀s' vs ls,(∀b o,s.heap.get? b=some o->s'.heap.get? b=some o)->s'.os=s.os->s'.gens=s.gens->StrsAre vs ls->ls.Perm ks->R vs s'):wpAny (model P w) A (collect (.ref a)) R E s:=by
  have la:a<s.heap.objs.size:=by obtain⟨o,_,_,_,_,g,_⟩:=hs;exact Tq g
  unfold collect;refine Te (wpAny_runValue (codeAny_builtin entry_proto_collect' ?_));rw[Around.under_plainId PySem.F.plain_proto_collect _];show wpAny _ A.in1 (newList [] >>= λl=>again (.builtin "list.__iadd__" ⟨[l,Value.ref a],[]⟩)) _ _ s;refine Te (wpAny_newObj_type ?_);refine Tf ⟨plainId_quiet PySem.F.plain_list_iadd _,codeAny_builtin entry_list_iadd' ?_⟩;rw[Around.under_plainId PySem.F.plain_list_iadd _];have gS:(s.heap.push {cls:=.type "list",data:=.seq ([]:List Value).toArray}).get? s.heap.objs.size=some {cls:=.type "list",data:=.seq #[] 0}:=Heap.get?_push_size _ rfl;show wpAny _ A.in1 (Builtin.List.listExtendWith (.ref s.heap.objs.size) (.ref a) (.ref s.heap.objs.size)) _ _ _;have key:=Xi9 (A:=A) (s:={s with heap:=s.heap.push {cls:=.type "list",data:=.seq ([]:List Value).toArray} }) (S:=s.heap.objs.size) (res:=.ref s.heap.objs.size)
    (R:=λq s'=>∃acc c vs ls,q = .ok (.ret (.ref s.heap.objs.size))/\(∀b o,s.heap.get? b=some o->s'.heap.get? b=some o)/\s'.os=s.os/\s'.gens=s.gens/\s'.heap.get? s.heap.objs.size=some {cls:=.type "list",dict:=none,data:=.seq acc c,slots := #[]}/\acc.toList=vs/\StrsAre vs ls/\ls.Perm ks)
    hh (hs.stay λo q=>Tr _ q) (Ta la) gS (λs' acc c vs ls k e1 e2 g e3 e4 e5=>⟨acc,c,vs,ls,rfl,λb o q=>k b o (O1 (Tq q)) (Tr _ q),e1,e2,g,e3,e4,e5⟩)
  have done:∀(q:Result) (s':Shared),(∃acc c vs ls,q = .ok (.ret (.ref s.heap.objs.size))/\(∀b o,s.heap.get? b=some o->s'.heap.get? b=some o)/\s'.os=s.os/\s'.gens=s.gens/\s'.heap.get? s.heap.objs.size=some {cls:=.type "list",dict:=none,data:=.seq acc c,slots := #[]}/\acc.toList=vs/\StrsAre vs ls/\ls.Perm ks) ->
      wants (λv s2=>wpAny (model P w) A (match v with
        | .ref l=>(do match (<-load l).data with
                        | .seq xs _=>pure xs.toList
                        | _=>unsupported "internal:collect")
        | _=>unsupported "internal:collect") R E s2) E q s':=λq s' ⟨acc,c,vs,ls,e0,k,e1,e2,g,e3,e4,e5⟩=>by
    subst e0;show wpAny _ A (load s.heap.objs.size >>= _) _ _ s';refine Te (wpAny_load g ?_);refine Tf ?_;rw[e3];exact h s' vs ls k e1 e2 e4 e5
  refine wpAny_mono key (λfin s' x=>?_) λe s' x=>?_
  . cases fin with
    | done f=>exact done _ _ x
    | again c1=>exact⟨x.1,codeAny_mono x.2 λq s2 y=>done q s2 y⟩
  . obtain⟨_,_,_,_,e',_⟩:=x;cases e'
end
section
variable {X:Cx}{pins:List (Addr×Obj)}{σ:St}{H:Hp}{s s':Shared}
theorem Inv.moved(I:Inv X pins σ H s)(k:∀b u,s.heap.get? b=some u->s'.heap.get? b=some u)(ho:s'.os=s.os)(hg:s'.gens=s.gens):Inv X pins σ H s':=by
 have J:=I.kept (h':=s'.heap) (t':=s'.toks) k;exact⟨J.ok,ho.trans I.os,by rw[hg];exact I.bare,J.base,J.loc,J.cell,J.free,J.freeC,J.pin,J.hok,J.len⟩
theorem Inv.laidM{a:Addr}{o:HO}(I:Inv X pins σ H s)(k:∀b u,s.heap.get? b=some u->s'.heap.get? b=some u)(ho:s'.os=s.os)(hg:s'.gens=s.gens)(hp:s.heap.objs.size<=a)(new:A0 X.prog X.w (upd H a o) s'.heap a o):Inv X pins σ (upd H a o) s':=by
 have J:=I.laid (h':=s'.heap) (t':=s'.toks) k hp new;exact⟨J.ok,ho.trans I.os,by rw[hg];exact I.bare,J.base,J.loc,J.cell,J.free,J.freeC,J.pin,J.hok,J.len⟩
end
section
variable {P:Program}{w:World}{A:Around}{E:Value->Shared->Prop}{s:Shared}{ks:List Str}
theorem Md{r:Addr}{Q:Value->Shared->Prop}(h64:ks.length<64)
  (hc:∀(R:List Value->Shared->Prop),(∀s' vs ls,(∀b o,s.heap.get? b=some o->s'.heap.get? b=some o)->s'.os=s.os->s'.gens=s.gens->StrsAre vs ls->ls.Perm ks->R vs s')->wpAny (model P w) A.in1 (collect (.ref r)) R E s)
  (h:∀(s1 s':Shared) (vs:List Value) (ls:List Str) (e:Nat),(∀b o,s.heap.get? b=some o->s1.heap.get? b=some o)->s1.os=s.os->s1.gens=s.gens->(∀b o,s1.heap.get? b=some o->s'.heap.get? b=some o)->s'.os=s1.os->s'.gens=s1.gens->s'.heap.get? s1.heap.objs.size=some (seqObj "list" vs.toArray e)->StrsAre vs ls->ls.Perm ks->sortedS ls=true->Q (.ref s1.heap.objs.size) s'):
  wpAny (model P w) A (call (.builtin "sorted") [.ref r]) Q E s:=by
 refine Calls.call_function_entry kind_sorted plain_sorted entry_sorted (args_sorted1 _) ?_;unfold Builtin.«sorted»;refine Te (m:=checkCount "sorted" 1 1 _) (Tf ?_);refine Te (hc _ λs1 vs ls k1 o1 g1 st p=>?_);have hl:vs.length<64:=by rw[st.length,p.length_eq];exact h64
 refine Te (wpAny_newList ?_ (by rw[Ti];omega));have gL:(s1.heap.push (seqObj "list" vs.toArray 0)).get? s1.heap.objs.size=some (seqObj "list" vs.toArray 0):=Heap.get?_push_size _ rfl;refine Te (wpAny_holding (wpAny_call_entry (s:={s1 with heap:=s1.heap.push (seqObj "list" vs.toArray 0)}) slot_list_sort ⟨_,gL,rfl⟩ entry_list_sort (list_sort_treeK strKind_oneLt gL st.keysOf (λa b rest e=>keyKind_strs (by rw[<-e];exact st)) hl λst' pp so=>⟨_,rfl,?_⟩) (args_list_sort _)));obtain⟨ls',a1,a2,a3⟩:=sorted_out_str st pp so;obtain⟨e,he⟩:=sortedHeap_at (out:=(arrOf st').map (·.2)) gL;refine Tf ⟨_,rfl,h s1 _ ((arrOf st').map (·.2)).toList ls' e k1 o1 g1 (λb o q=>?_) rfl rfl he a1 (a2.trans p) a3⟩;have lt:=Tq q;show (sortedHeap (s1.heap.push (seqObj "list" vs.toArray 0)) s1.heap.objs.size vs ((arrOf st').map (·.2))).get? b=some o;rw[sortedHeap_old (O1 lt) (by rw[size_push'];exact Qk lt)];exact Tr _ q
end
def Et (P:Program) (w:World) (a:Addr) (ks:List Str):HO:=.ext λh=>SSet P w h a ks
theorem Xcd{ss:List Str}{vs:List Value}(h:StrsAre vs ss):Vals (ss.map V.str) vs:=by
 induction h with
 | nil=>exact .nil
 | cons x t _ ih=>exact .cons ⟨t,rfl⟩ ih
theorem Fz:∀{ss:List Str} {vs:List Value},Vals (ss.map V.str) vs->StrsAre vs ss
 | [],_,r=>by cases r;exact .nil
 | x::ss,_,r=>by
  cases r with
  | cons r1 r2=>
   obtain⟨t,rfl⟩:=r1;exact .cons x t (Fz r2)
section
variable {X:Cx}
theorem G8:X.calm=true->Br X (.type "set") (λxs H Q=>∃p ss,xs=[.ref p]/\(SqL X.K H p (ss.map V.str)\/SqT X.K H p (ss.map V.str))/\ss.length+1<scanBound/\∀a,H a=none->Q (.ref a) (upd H a (Et X.prog X.w a (ddup ss)))):=by
 intro hcalm pins s σ H xs us Q I r h;obtain⟨p,ss,rfl,hq,hb,q⟩:=h;obtain⟨u,rfl,rx⟩:=B4 r;cases rx;obtain⟨its,r',src⟩:∃its:List Value,Vals (ss.map V.str) its/\Src s.heap p its.toArray:=by
  rcases hq with hq | hq
  ·obtain⟨its,r',pl,_⟩:=I.list hq;exact⟨its,r',.lst pl.isList⟩
  ·obtain⟨its,r',pl,_⟩:=I.tuple hq;exact⟨its,r',.tup pl⟩
 refine Xiy (I.ok.hd hcalm) src (Fz r') hb λh' tk S k=>?_;refine⟨.ref s.heap.objs.size,_,I.laidM (s':={s with heap:=h',toks:=tk}) k rfl rfl (Oq _) ?_,rfl,q _ (I.hok.fresh (Oq _))⟩;exact⟨S,by obtain⟨o,_,_,_,_,g,_⟩:=S;exact⟨o,g⟩,λh1 h2 S1 kk=>S1.stay kk⟩
theorem Me{pins:List (Addr×Obj)}{σ:St}{H:Hp}{s s1 s':Shared}{Q:VK}{vs:List Value}{ls ks:List Str}{e:Nat}(I:Inv X pins σ H s)(h64:ks.length<64)(k1:∀b o,s.heap.get? b=some o->s1.heap.get? b=some o)(o1:s1.os=s.os)(g1:s1.gens=s.gens)
  (k2:∀b o,s1.heap.get? b=some o->s'.heap.get? b=some o) (o2:s'.os=s1.os) (g2:s'.gens=s1.gens) (he:s'.heap.get? s1.heap.objs.size=some (seqObj "list" vs.toArray e)) (st:StrsAre vs ls) (p:ls.Perm ks)
  (q:∀l,H l=none->Q (.ref l) (upd H l (.lst (ls.map V.str)))):EP X pins σ Q (.ref s1.heap.objs.size) s':=by
 have I1:=I.moved k1 o1 g1;refine⟨.ref s1.heap.objs.size,_,I1.laidM k2 o2 g2 (Oq _) (show A0 X.prog X.w _ s'.heap _ (.lst (ls.map V.str)) from ⟨?_,vs,e,Xcd st,he⟩),rfl,q _ (I1.hok.fresh (Oq _))⟩;rw[Oo,p.length_eq,Ti];omega
theorem Jd:X.calm=true->Br X (.builtin "sorted") (λxs H Q=>∃a ks,xs=[.ref a]/\H a=some (Et X.prog X.w a ks)/\ks.length<64/\∀l ls,H l=none->ls.Perm ks->sortedS ls=true->Q (.ref l) (upd H l (.lst (ls.map V.str)))):=by
 intro hcalm pins s σ H xs us Q I r h;obtain⟨a,ks,rfl,ha,h64,q⟩:=h;obtain⟨u,rfl,rx⟩:=B4 r;cases rx;obtain⟨S,_⟩:=(show A0 X.prog X.w H s.heap a (.ext λh=>SSet X.prog X.w h a ks) from I.hok a _ ha);refine Md h64 (λR k=>Xja (by show X.A.in1.handled=none;simp[I.ok.hd hcalm]) S k) λs1 s' vs ls e k1 o1 g1 k2 o2 g2 he st p so=>?_;exact Me I h64 k1 o1 g1 k2 o2 g2 he st p λl hl=>q l ls hl p so
end
theorem Inv.turned2{X:Cx}{pins:List (Addr×Obj)}{σ:St}{H:Hp}{s:Shared}{h':Heap}{t':Nat}{e1 e2:Addr}(I:Inv X pins σ H s)(k:∀b o,b≠e1->b≠e2->s.heap.get? b=some o->h'.get? b=some o)(f1:FpOk X pins H e1)(f2:FpOk X pins H e2):Inv X pins σ H {s with heap:=h',toks:=t'}:=by
 have no:∀b u,H b=some u->b≠e1/\b≠e2:=λb u q=>⟨λz=>(by rw[z,f1.1] at q;cases q),λz=>(by rw[z,f2.1] at q;cases q)⟩;have nn:∀b,b∉[e1,e2]->b≠e1/\b≠e2:=λb hb=>by simpa using hb
 refine I.step (g':=s.gens) (d':=s.drawn) (ch:=[e1,e2]) (λb hb=>?_) (λb o _ _ hc q _=>k b o (nn b hc).1 (nn b hc).2 q) (λb o _ _ hc q _=>⟨o.slots,k b o (nn b hc).1 (nn b hc).2 q⟩) (λ_ _ _ _ n=>n) (λb o hc q=>⟨o,k b o (nn b hc).1 (nn b hc).2 q⟩) (λ_ _ q=>q) (λ_ _ _ q=>q) (λb ps q=>⟨#[],by rw[q];simp⟩) (λm hm=>?_) (λb u q=>?_) I.bare
 ·have hb':b=e1\/b=e2:=by simpa using hb
  rcases hb' with z | z
  ·subst z;exact⟨f1.2.2.2.1,f1.2.1,f1.2.2.2.2.1,f1.2.2.2.2.2⟩
  ·subst z;exact⟨f2.2.2.2.1,f2.2.1,f2.2.2.2.2.1,f2.2.2.2.2.2⟩
 ·obtain⟨o,es,ep,ho,r⟩:=hm;exact⟨o,es,ep,k _ o (Ne.symm f1.2.1) (Ne.symm f2.2.1) ho,r⟩
 ·refine(I.hok b u q).stay (λc v hc z=>k c v ?_ ?_ z) (λ_ z=>z) λ_ _ z=>z
  ·rcases hc with y | y
   ·rw[y];exact(no b u q).1
   ·exact(no c _ y).1
  ·rcases hc with y | y
   ·rw[y];exact(no b u q).2
   ·exact(no c _ y).2
def Ite (K:PySem.W.Frag) (a:Addr):It:=
 ⟨λi H=>∃xs x,SqL K H a xs/\xs[i]? = some x,λi H x H'=>∃tp,x = .ref tp/\H tp=none/\∀xs,SqL K H a xs->∃y,xs[i]? = some y/\H'=upd H tp (.tup [.int i,y]),λi H=>∃xs,SqL K H a xs/\xs.length<=i⟩
theorem Xjb{P:Program}{w:World}{K:PySem.W.Frag}{es:List Expr}{k:Nat}{p:Pos}(a e it:Addr)(ne:e≠it):Turn P w K (.Tuple es k p) (Ite K a) [e,it] e (λi h=>(∃old,IsEnum h e it i old)/\h.IsListIter it a i) where
 mem:=by simp
 obj:=λi h st b hb=>by
  have hb':b=e\/b=it:=by simpa using hb
  rcases hb' with z | z
  ·subst z;obtain⟨⟨old,q⟩,_⟩:=st;exact⟨_,q,λv z=>by
    have z':Data.fields _=Data.cell v:=z;cases z'⟩
  ·subst z;obtain⟨o,q,c,d⟩:=st.2;exact⟨o,q,λv z=>by rw[d] at z;cases z⟩
 keep:=λi h h' st k=>by
  obtain⟨⟨old,q⟩,l⟩:=st;exact⟨⟨old,k e (by simp) _ q⟩,l.at λo z=>k it (by simp) o z⟩
 item:=by
  intro X hP hw hK hc i pins s σ H E I hf st hg;subst hP hw hK;obtain⟨xs,x,hq,hx⟩:=hg;obtain⟨its,rv,pl,hz⟩:=I.list hq;obtain⟨u,hu,ru⟩:=rv.get hx;have f1:=hf e (by simp);have f2:=hf it (by simp);obtain⟨⟨old,q⟩,l⟩:=st;refine wpAny_pyNext_enum_item q l pl.isList (x:=u) (by simpa using hu) ne λh' qo l' tp sz kk=>?_;have I1:Inv X pins σ H {s with heap:=h',toks:=s.toks+1}:=I.turned2 kk f1 f2;refine⟨_,rfl,?_⟩;have le:e<s.heap.objs.size:=Tq q;obtain⟨ol,hol,_⟩:=id l;have lit:it<s.heap.objs.size:=Tq hol;unfold letOwnedTupleGo;refine Te (wpAny_load qo ?_);dsimp only;rw[Tk (by simp[rawInt])];refine Te (wpAny_rule ?_);show wpAny _ _ (setField (.ref e) 0 .none) _ _ _;refine wpAny_setField qo rfl (by simp) ?_;have g:=Heap.get?_update_self (Obj.mapFields (·.setIfInBounds 0 Value.none)) qo rfl;have sb:=Tt h' e (Obj.mapFields (·.setIfInBounds 0 Value.none));have I2:Inv X pins σ (upd H s.heap.objs.size (.tup [.int i,x])) {s with heap:=h'.update e (Obj.mapFields (·.setIfInBounds 0 Value.none)),toks:=s.toks+1}:=by
   have J:=I.laid (a:=s.heap.objs.size) (o:=.tup [.int i,x]) (h':=s.heap.push {cls:=.type "tuple",data:=.seq #[.int i s.toks,u]}) (t':=s.toks+1) (λb o z=>Tr _ z) (Oq _) (show A0 X.prog X.w _ _ _ (.tup [.int i,x]) from ⟨by show 2<=sizeLine;decide,[.int i s.toks,u],.cons ⟨_,rfl⟩ (.cons ru .nil),IsTup.new _ _⟩);have g1:FpOk X pins (upd H s.heap.objs.size (.tup [.int i,x])) e:=⟨by rw[Ad (O1 le)];exact f1.1,f1.2⟩;have g2:FpOk X pins (upd H s.heap.objs.size (.tup [.int i,x])) it:=⟨by rw[Ad (O1 lit)];exact f2.1,f2.2⟩;refine J.turned2 (λb o n1 n2 z=>?_) g1 g2;show (h'.update e _).get? b=some o;rw[sb.2 b n1];by_cases hb:b=s.heap.objs.size
   ·subst hb;have z':(s.heap.push {cls:=.type "tuple",data:=.seq #[.int i s.toks,u]}).get? s.heap.objs.size=some o:=z;rw[Heap.get?_push_size _ rfl] at z';cases z';exact tp
   ·have z':(s.heap.push {cls:=.type "tuple",data:=.seq #[.int i s.toks,u]}).get? b=some o:=z;rw[Heap.get?_push_ne _ _ _ hb] at z';exact kk b o n1 n2 z'
  refine⟨.ref s.heap.objs.size,_,I2,rfl,⟨_,rfl,I.hok.fresh (Oq _),λys hy=>⟨x,by rw[I.list_inj hy hq];exact hx,rfl⟩⟩,⟨⟨u,g.trans ?_⟩,l'.at λo z=>?_⟩,λb hb=>?_⟩
  ·rfl
  ·rw[sb.2 it (Ne.symm ne)];exact z
  ·have hb':b=e\/b=it:=by simpa using hb
   rcases hb' with z | z
   ·subst z;rw[Ad (O1 le)];exact f1.1
   ·subst z;rw[Ad (O1 lit)];exact f2.1
 done:=by
  intro X hP hw hK hc i pins s σ H E I hf st hg;subst hP hw hK;obtain⟨xs,hq,hx⟩:=hg;obtain⟨its,rv,pl,hz⟩:=I.list hq;have hl:=rv.length;have f2:=hf it (by simp);obtain⟨⟨old,q⟩,l⟩:=st;exact wpAny_pyNext_enum_end (I.ok.hd hc) q l pl.isList (by simp;omega) λh' eb=>⟨rfl,I.turned (t':=s.toks) (λb o hb z=>eb b o hb z) f2.1 f2.2.1 f2.2.2.2.1 f2.2.2.2.2.1 f2.2.2.2.2.2⟩
 self:=λ_ _ _ _ _ st h=>by
  obtain⟨⟨old,q⟩,_⟩:=st;exact wpAny_pyIter_enum q h
def Xjc (K:PySem.W.Frag) (ta:TA):TI:=fun σ H R=>ta σ H λvs H1=>∃a,vs=[.ref a]/\(∃xs,SqL K H1 a xs)/\R (Ite K a) H1
theorem Xjd{X:Cx}{es:List Expr}{k:Nat}{p2:Pos}{l:Expr}{ta:TA}{p pos:Pos}(hg:Gl X "enumerate")(hm:X.mg "enumerate" = none)(ha:PA X [l] ta)(hs:starEach [l] X.env=[(false,eval l X.env)]:=by rfl):PI X (.Tuple es k p2) (.Call (.Name "enumerate" p) [l] [] pos) (Xjc X.K ta):=by
 intro pins s σ H R I h;refine Call_ (Fr I hg hm (show bootBuiltins "enumerate" = some (.type "enumerate") by decide +kernel) (PyProof.Rows.callWith_type1 (thn (ha pos pins s σ H _ I h) λus s1 ⟨vs,H1,I1,r1,q1⟩=>?_) hs rfl));obtain⟨a,e,⟨xs,hq⟩,q⟩:=q1;subst e;cases r1 with
 | cons r rr=>
  cases rr;cases r;obtain⟨its,rv,pl,hz⟩:=I1.list hq;refine call_enumerate_list pl.isList λh' qe ql sz kk=>?_;refine wpAny_pyIter_enum qe ?_;have I2:Inv X pins σ H1 {s1 with heap:=h'}:=I1.kept (t':=s1.toks) kk;refine⟨_,[s1.heap.objs.size+1,s1.heap.objs.size],_,_,H1,rfl,I2,Xjb a _ _ (Nat.succ_ne_self _),⟨⟨_,qe⟩,ql⟩,λb hb=>?_,q⟩;have hb':b=s1.heap.objs.size+1\/b=s1.heap.objs.size:=by simpa using hb
  rcases hb' with z | z
  ·subst z;exact I1.fpOk (Qt _) (I1.hok.fresh (Qt _))
  ·subst z;exact I1.fpOk (Oq _) (I1.hok.fresh (Oq _))
section
variable {X:Cx}{es:List Expr}{t:St->Hp->(Hp->Prop)->Prop}{e:Expr}{te:TE}{pos:Pos}
def Xje (te:TE) (t:St->Hp->(Hp->Prop)->Prop):St->Hp->(Hp->Prop)->Prop:=fun σ H Q=>te σ H λx H1=>∃z,x = .str z/\z.length<=400/\(∀c∈z.cps.toList,c<16 ^ 8)/\t σ H1 Q
theorem Xjf{p:Pos}(ha:PE X e te)(h:PJ X es t)(he:evalEach (.FormattedValue e 114 none p::es) X.env=eval (.FormattedValue e 114 none p) X.env::evalEach es X.env:=by rfl):PJ X (.FormattedValue e 114 none p::es) (Xje te t):=by
 intro out pins s σ H Q I hw hl;rw[he];rw[Pc] at hl;refine joinParts_cons (wpAny_FormattedValue_repr (thn (ha pins s σ H _ I hw) λv s1 ⟨x,H1,I1,r1,q1⟩=>?_));obtain⟨z,ez,h1,h2,q⟩:=q1;subst ez;obtain⟨tk,rfl⟩:=r1;have hz:=StrLaws.reprText_len z h2;have hz2:(reprText z).length<=sizeLine:=by rw[Ti];omega
 refine wpAny_pyReprObj_str ?_ hz2;refine formatField_str (λt' k=>⟨by rw[Fc];omega,?_⟩) hz2;exact h _ pins _ σ H1 Q ((I1.tok _).tok _) q (by rw[Fc];omega)
theorem Xce:∀(ss:List Str) (l:List Value),l.length=ss.length->(∀i (hi:i<ss.length),∃t,l[i]? = some (.str ss[i] t))->StrsAre l ss
 | [],l,e,_=>by rw[Py.mp e];exact .nil
 | y::ys,[],e,_=>by cases e
 | y::ys,v::vs,e,each=>by
  obtain⟨t,q⟩:=each 0 (by simp);have:v = .str y t:=by simpa using q
  subst this;refine .cons y t (Xce ys vs (by simpa using e) λi hi=>?_);obtain⟨t',e'⟩:=each (i+1) (by simpa using hi);exact⟨t',by simpa using e'⟩
theorem Xcf:X.calm=true->Br X (.builtin "sorted") (λxs H Q=>∃d kvs ss,xs=[.ref d]/\Rd H d (.dK kvs)/\kvs.map (·.1)=ss.map (λx=>(Sum.inr x:Key))/\ss.length<64/\∀l ls,H l=none->ls.Perm ss->sortedS ls=true->Q (.ref l) (upd H l (.lst (ls.map V.str)))):=by
 intro hcalm pins s σ H xs us Q I r h;obtain⟨d,kvs,ss,rfl,hd,hk,h64,q⟩:=h;obtain⟨u,rfl,rx⟩:=B4 r;cases rx;obtain⟨hz,hm,vs,rv,o,es,ep,ho,hex,hdd,hr⟩:=Fy I.hok hd;have hkl:kvs.length=ss.length:=by have:=congrArg List.length hk;simpa using this
 have hvl:vs.length=ss.length:=by rw[<-hkl];exact(Paired.length rv).symm
 have hvk:vs.map (·.1)=ss.map (λx=>(Sum.inr x:Key)):=by rw[<-hk];exact rv.keys.symm
 have each:∀acc:Array Value,ItemsOf (λi v=>∃k x,vs[i]? = some (k,x)/\(Bi X.prog X.w).is k v=true) acc vs.length->StrsAre acc.toList ss:=λacc hacc=>by
  refine Xce ss _ (by rw[Ov,hacc.1,hvl]) λi hi=>?_;have hi2:i<acc.size:=by rw[hacc.1,hvl];exact hi
  obtain⟨k',x,hx,his⟩:=hacc.2 i acc[i] (getElem?_pos acc i hi2);have hk':k'=Sum.inr ss[i]:=by
   have:=congrArg (λl=>l[i]?) hvk;simp only[O2,hx,Q6,Op hi] at this;exact Pa this
  subst hk';obtain⟨t,e⟩:=Value.isStrOf_shape his;exact⟨t,by rw[Rh,getElem?_pos acc i hi2,e]⟩
 refine Md h64 (λR kR=>PySem.W.kdu_collect (PySem.W.kdl_dict (knd:=Bi X.prog X.w) (kvs:=vs) (ep:=ep) hm) (by show X.A.in1.handled=none;simp[I.ok.hd hcalm]) ⟨o,es,ho,hex,hdd,hr⟩ (by rw[hvl,Ti];omega) (λh' tk acc kk hacc=>kR {s with heap:=h',toks:=tk} acc.toList ss kk rfl rfl (each acc hacc) (Qn _)))
  λs1 s' vs ls e k1 o1 g1 k2 o2 g2 he st p so=>Me I h64 k1 o1 g1 k2 o2 g2 he st p λl hl=>q l ls hl p so
def rSlS:V->Option Int->Option Int->Hp->VK->Prop:=λx lo hi H Q=>∃z,x = .str z/\lo=none/\(∃j,hi=some j)/\z.length<=1000/\Q (.str (Txt.slice z lo hi)) H
theorem Xjg:SlR X rSlS:=by
 intro pins s σ H x v vl vu lo hi sl Q I rx hs pl pu h;obtain⟨z,rfl,rfl,⟨j,rfl⟩,hz,q⟩:=h;obtain⟨tz,rfl⟩:=rx;cases pl;cases pu;rename_i tu;refine⟨"str",_,PySem.F.slot_str_getitem.lookup,typeIs_str _ _ _,wpAny_getItem_str_slice (l:=none) (u:=some (j,tu)) (st:=none) hs rfl (post_val_or_str ⟨?_,λt' k=>?_⟩)⟩
 ·exact Pr (Txt.slice_le z none (some j)) (by rw[Ti];omega)
 ·exact⟨.str (Txt.slice z none (some j)),H,I.tok _,⟨t',rfl⟩,q⟩
end
end L2
set_option maxHeartbeats 4000000
namespace L2
open PySem PySem.Spec PyProof.Rows
def leS (x y:Str):Prop:=x.cps.toList<=y.cps.toList
theorem Xjh{x y:Str}(h:x.cps.toList=y.cps.toList):x=y:=by
 obtain⟨⟨a⟩⟩:=x;obtain⟨⟨b⟩⟩:=y;have:a=b:=h;rw[this]
theorem Xcg{x y:Str}(h:leS x y)(g:leS y x):x=y:=Xjh (List.le_antisymm h g)
theorem Xch{x y z:Str}(h:leS x y)(g:leS y z):leS x z:=List.le_trans h g
theorem Mf(x y:Str):leS x y\/leS y x:=List.le_total _ _
def ltS (x y:Str):Prop:=x.cps.toList<y.cps.toList
instance (x y:Str):Decidable (ltS x y):=inferInstanceAs (Decidable (x.cps.toList<y.cps.toList))
instance (x y:Str):Decidable (leS x y):=inferInstanceAs (Decidable (x.cps.toList<=y.cps.toList))
theorem Je(x:Str):¬ltS x x:=List.lt_irrefl _
theorem Jf{x y z:Str}(h:ltS x y)(g:ltS y z):ltS x z:=List.lt_trans h g
theorem Mg{x y:Str}:¬ltS x y↔leS y x:=List.not_lt
theorem ltS_of{x y:Str}(h:leS x y)(n:x≠y):ltS x y:=by
 by_cases q:ltS x y
 ·exact q
 ·exact absurd (Xcg h (Mg.mp q)) n
theorem Xji{x y:Str}(h:ltS x y):leS x y:=List.le_of_lt h
theorem G9{x y:Str}(h:ltS x y):x≠y:=λe=>Je y (e ▸ h)
theorem Xci:∀(l:List Str) (p:Str),risingS p l=true->(p::l).Pairwise leS
 | [],p,_=>by simp
 | x::r,p,h=>by
  have h':(!ltCps x.cps.toList p.cps.toList&&risingS x r)=true:=h;rw[O9,ltCps_eq] at h';have ih:=Xci r x h'.2;have hpx:leS p x:=by
   have:=h'.1;simp only[S0,decide_eq_false_iff_not] at this;exact this
  refine Ri.mpr ⟨λy hy=>?_,ih⟩;rcases O6.mp hy with e | e
  ·rw[e];exact hpx
  ·exact Xch hpx ((Ri.mp ih).1 y e)
theorem Xcj:∀(l:List Str),sortedS l=true->l.Pairwise leS
 | [],_=>by simp
 | x::r,h=>Xci r x h
theorem Eu:∀{a b:List Str},a.Perm b->a.Pairwise leS->b.Pairwise leS->a=b
 | [],b,p,_,_=>by rw[List.nil_perm.mp p]
 | x::a,[],p,_,_=>by have:=p.length_eq;simp at this
 | x::a,y::b,p,ha,hb=>by
  obtain⟨a1,a2⟩:=Ri.mp ha;obtain⟨b1,b2⟩:=Ri.mp hb;have e:x=y:=by
   have hx:x∈y::b:=p.mem_iff.mp Ow;have hy:y∈x::a:=p.mem_iff.mpr Ow;rcases O6.mp hx with e | hx
   ·exact e
   ·rcases O6.mp hy with e | hy
    ·exact e.symm
    ·exact Xcg (a1 y hy) (b1 x hx)
  subst e;rw[Eu (List.Perm.cons_inv p) a2 b2]
def srt (l:List Str):List Str:=l.mergeSort λx y=>decide (leS x y)
theorem Cg(l:List Str):(srt l).Perm l:=List.mergeSort_perm ..
theorem Du(l:List Str):(srt l).Pairwise leS:=by
 have h:=List.pairwise_mergeSort (le:=λx y=>decide (leS x y)) (λa b c h1 h2=>Tl (Xch (Tn h1) (Tn h2)))
  (λa b=>by rcases Mf a b with h | h<;>simp[h]) l
 exact h.imp λh=>Tn h
theorem F0{ls ks:List Str}(p:ls.Perm ks)(h:sortedS ls=true):ls=srt ks:=Eu (p.trans (Cg ks).symm) (Xcj _ h) (Du _)
theorem Xck{a b:List Str}(p:a.Perm b):srt a=srt b:=Eu ((Cg a).trans (p.trans (Cg b).symm)) (Du _) (Du _)
theorem He{l:List Str}{x:Str}:x∈srt l↔x∈l:=(Cg l).mem_iff
def dit (row:List Str):List Str:=srt (ddup row)
theorem Ao{row:List Str}{x:Str}:x∈dit row↔x∈row:=He.trans (Mb row x)
theorem F2(row:List Str):(dit row).Nodup:=(Cg _).nodup_iff.mpr (G6 row)
theorem Dv(row:List Str):(dit row).Pairwise ltS:=by
 have h1:=Du (ddup row);have h2:(dit row).Pairwise (· ≠ ·):=F2 row;exact(h1.and h2).imp λh=>ltS_of h.1 h.2
theorem F3(row:List Str):(dit row).length<=row.length:=by
 have:=(Cg (ddup row)).length_eq;have h:=G7 row;unfold dit;omega
theorem F4{a b:List Str}(ha:a.Nodup)(hb:b.Nodup)(h:∀x,x∈a↔x∈b):a.Perm b:=(List.perm_ext_iff_of_nodup ha hb).mpr h
theorem Xcl{ls row ks:List Str}(p:ls.Perm ks)(h:sortedS ls=true)(nd:ks.Nodup)(m:∀x,x∈ks↔x∈row):ls=dit row:=
 Eu (p.trans ((F4 nd (G6 row) λx=>(m x).trans (Mb row x).symm).trans (Cg _).symm)) (Xcj _ h) (Du _)
structure Fn (P:Program) (w:World) (K:PySem.W.Frag) (mg:Str->Option Value) (base:Heap) (CX:CXT) (k:Nat) (x:Str) (ps:List Str) (sp:Sp):Prop where
 ex:∃f fd,mg x=some (.ref f)/\PySem.W.keepIn K (.ref f)=true/\Binds K fd ps []/\FnOk P w K mg base CX k f fd ps sp
section
variable {X:Cx}{CX:CXT}{k:Nat}{ps:List Str}{sp:Sp}{E:XK}{x:Str}{p pos:Pos}{e:Expr}{es:List Expr}{t:TA}
theorem Aj(F:Fn X.prog X.w X.K X.mg X.base CX k x ps sp)(hr:Room k X.A)(hg:Gl X x)(hx:Passes CX X E)
  (ha:PA X (e::es) t) (hdb:(x==("__debug__" : Str))=false:=by decide) (he:starEach (e::es) X.env=(false,eval e X.env)::starEach es X.env:=by rfl) (hpl:(backTo pos (starEach es X.env)).any (·.1)=false:=by rfl):
  PE X (.Call (.Name x p) (e::es) [] pos) (Xax sp [] E t):=by
 obtain⟨f,fd,hm,hk,hb,hF⟩:=F.ex;exact Xg0 hF hr hg hm hk hb .nil hx ha hdb he hpl
theorem Xjj{st:Stmt}{rest:List Stmt}{D:Ends}{σ:St}{H:Hp}(P:St->Hp->Prop)(h2:∃u,PSs X rest u/\∀σ' H',P σ' H'->u D σ' H')
  (h1:∀nx,(∀σ' H',P σ' H'->nx σ' H')->∃t,PS X st t/\t {D with nx:=nx} σ H):∃t,PSs X (st::rest) t/\t D σ H:=by
 obtain⟨u,hu,ru⟩:=h2;obtain⟨t,ht,rt⟩:=h1 (u D) ru;exact⟨K4 t u,Ag ht hu,rt⟩
end
theorem Be{c:Bool}{A B:Prop}(h1:c=true->A)(h2:c=false->B):if c=true then A else B:=by
 cases c with
 | true=>exact Fb (h1 rfl)
 | false=>exact Cd (h2 rfl)
theorem Same.upd{H H':Hp}{a:Addr}{o:HO}(s:Same H H')(h:H a=none):Same H (upd H' a o):=λb u e=>by
 rw[Ad (Aw e h)];exact s b u e
theorem Same.upd0{H:Hp}{a:Addr}{o:HO}(h:H a=none):Same H (L2.upd H a o):=(Same.refl H).upd h
theorem ku{H:Hp}{b p:Addr}{o u:HO}(h:H b=some o)(hp:H p=none):upd H p u b=some o:=by
 rw[Ad (Aw h hp)];exact h
theorem Same.step{H H1:Hp}{p:Addr}{o:HO}(s:Same H H1)(hp:H1 p=none):Same H (L2.upd H1 p o):=s.upd (s.free hp)
theorem Same.go{H H1:Hp}{p q:Addr}{o:HO}(s:Same H H1)(hp:H1 p=none)(hq:L2.upd H1 p o q=none):Same H (L2.upd H1 p o):=s.step hp
theorem Jg{α : Type}(f : α->V)(xs:List α)(b:Nat)(hb:b<=xs.length):B5 (xs.map f) none (some (b:Int))=(xs.take b).map f:=by
 unfold B5;rw[HT.sIx_none,R0,HT.sIx_nat,Oo,List.map_take,Tb,Q8 hb]
theorem Jh{α : Type}(f : α->V)(xs:List α)(a:Nat)(ha:a<=xs.length):B5 (xs.map f) (some (a:Int)) none=(xs.drop a).map f:=by
 unfold B5;rw[HT.sIx_none,HT.sIx_nat,Oo,Q8 ha,List.map_drop];exact Pu (by rw[P8,Oo];omega)
theorem Xjk{α : Type}(f : α->V)(xs:List α)(a b:Nat)(hab:a<=b)(hb:b<=xs.length):B5 (xs.map f) (some (a:Int)) (some (b:Int))=((xs.drop a).take (b - a)).map f:=by
 unfold B5;rw[HT.sIx_nat,HT.sIx_nat,Oo,Q8 hb,Q8 (Pr hab hb),List.map_take,List.map_drop]
def Xcm (fsc:Scope) (fN N:List Str) (cap:List (Option Nat)) (scope:Scope):Bool:=
 (scope.names.all λy=>decide (scope.names.lookup y.1=some y.2)) &&
 (scope.names.all λy=>decide (y.2 ≠ .free)||decide (fsc.names.lookup y.1=some .cell)||decide (fsc.names.lookup y.1=some .free))&&decide (cap.length=N.length) &&
 ((List.range N.length).all λi=>match cap[i]?,N[i]? with
  | some (some j),some x=>decide (fN[j]? = some x)&&decide (scope.names.lookup x=some .free)
  | _,_=>true)
theorem CompScope.of{X:Cx}{N:List Str}{cap:List (Option Nat)}{scope:Scope}(fsc:Scope)(fN:List Str)(h1:X.env.scope=fsc)(h2:X.N=fN)(hk:scope.kind = .function)(h:Xcm fsc fN N cap scope=true):CompScope X N cap scope:=by
 unfold Xcm at h;simp only[O9,Pl,Rx,decide_eq_true_eq] at h;obtain⟨⟨⟨a1,a3⟩,a4⟩,a5⟩:=h;refine⟨hk,a1,λy hy e=>?_,a4,λi x j hN hc=>?_⟩
 ·show X.env.scope.names.lookup y.1=some .cell\/X.env.scope.names.lookup y.1=some .free;rw[h1];rcases a3 y hy with (z | z) | z
  ·exact absurd e z
  ·exact .inl z
  ·exact .inr z
 ·have hi:i<N.length:=(Pb.mp hN).1;have q:=a5 i (P6.mpr hi);rw[hc,hN] at q;simp only[O9,decide_eq_true_eq] at q;rw[h2];exact q
section
variable {X:Cx}
theorem Xjl(K:PySem.W.Frag)(h:X.K=K):Br X (.builtin "isinstance") (λxs H Q=>∃x c t cv b,xs=[x,c]/\TyOf K H x t/\Lz c=some cv/\PySem.W.kitOne K t cv=some b/\Q (.bl b) H):=by subst h;exact L0
theorem Xcn(K:PySem.W.Frag)(h:X.K=K):IxR X (Lk K):=by subst h;exact Bj
theorem D8(K:PySem.W.Frag)(h:X.K=K):IxR X (Ll K):=by subst h;exact Fw
theorem Ji(K:PySem.W.Frag)(h:X.K=K):Br X (.builtin "len") (λxs H Q=>∃p ys,xs=[.ref p]/\(SqL K H p ys\/SqT K H p ys)/\Q (.int ys.length) H):=by subst h;exact Cv
theorem Xco(K:PySem.W.Frag)(h:X.K=K):OpR X (compareOp .In) (rIn K false):=by subst h;exact Lm
theorem Xcp(K:PySem.W.Frag)(h:X.K=K):OpR X (compareOp .NotIn) (rIn K true):=by subst h;exact Ln
end
theorem Fd{cap:List (Option Nat)}{tt:TT}{te:TE}{J:It}{σ:St}{H1:Hp}{F:Addr->Hp->Prop}{j:Nat}(n:Nat)(hn:n<sizeLine)(vs:Nat->V)(ok:Nat->Bool)(ys:Nat->V)
  (hgo:∀i H2,i<n->Same H1 H2->J.go i H2/\∀x H3,J.yld i H2 x H3->H3=H2/\x=vs i)
  (hst:∀H2,Same H1 H2->J.stop n H2)
  (tst:∀i H2 Q,i<n->Same H1 H2->(∀H',Same H2 H'->Q (ok i) H')->tt ((B2 cap σ).set j (some (vs i))) H2 Q)
  (step:∀i H2 Q,i<n->ok i=true->Same H1 H2->(∀H',Same H2 H'->Q (ys i) H')->te ((B2 cap σ).set j (some (vs i))) H2 Q)
  (hd:∀D H2,H1 D=none->Same H1 H2->H2 D=some (.lst (((List.range n).filter ok).map ys))->F D H2):Ep cap (Bp j) tt te J σ H1 F:=by
 refine G3 n vs (λD i σ2 H2=>(∀v, σ2.set j v=(B2 cap σ).set j v)/\Same H1 H2/\H2 D=some (.lst (((List.range i).filter ok).map ys))) ?_ ?_ ?_ ?_ ?_
 ·intro D hD;exact⟨λ_=>rfl,(Same.refl H1).step hD,Ac⟩
 ·rintro D i σ2 H2 hD hi ⟨_,s2,_⟩;exact hgo i H2 hi s2
 ·rintro D σ2 H2 hD ⟨_,s2,_⟩;exact hst H2 s2
 ·rintro D i σ2 H2 hD hi ⟨e,s2,hb⟩;show tt (σ2.set j (some (vs i))) H2 _;rw[e];refine tst i H2 _ hi s2 λH3 s3=>?_;have s13:=s2.trans s3;have hb3:=s3 _ _ hb;have hss:∀v,((B2 cap σ).set j (some (vs i))).set j v=(B2 cap σ).set j v:=λv=>by rw[Tc]
  have hl:(((List.range i).filter ok).map ys).length<=i:=by
   rw[Oo];exact Pr (Pt ..) (by rw[P2];omega)
  refine Be (λhk=>?_) (λhk=>?_)
  ·refine step i H3 _ hi hk s13 λH4 s4=>?_;refine wput hi (s4 _ _ hb3) (by omega) ⟨hss,λb u e'=>?_,?_⟩
   ·rw[Ad (Aw e' hD)];exact s4 _ _ (s13 b u e')
   ·rw[Ac,Qc,Pk,O5];simp[hk]
  ·refine wskip hi ⟨hss,s13,?_⟩;rw[hb3,Qc,Pk,O5];simp[hk]
 ·rintro D σ2 H2 hD ⟨_,s2,hb⟩;exact hd D H2 hD s2 hb
theorem Jj{cap:List (Option Nat)}{te:TE}{J:It}{σ:St}{H1:Hp}{F:Addr->Hp->Prop}{j:Nat}(n:Nat)(hn:n<sizeLine)(vs:Nat->V)(ys:Nat->V)
  (hgo:∀i H2,i<n->Same H1 H2->J.go i H2/\∀x H3,J.yld i H2 x H3->H3=H2/\x=vs i)
  (hst:∀H2,Same H1 H2->J.stop n H2)
  (step:∀i H2 Q,i<n->Same H1 H2->(∀H',Same H2 H'->Q (ys i) H')->te ((B2 cap σ).set j (some (vs i))) H2 Q)
  (hd:∀D H2,H1 D=none->Same H1 H2->H2 D=some (.lst ((List.range n).map ys))->F D H2):Ep cap (Bp j) Eo te J σ H1 F:=
 Fd n hn vs (λ_=>true) ys hgo hst (λi H2 Q _ _ k=>k H2 (Same.refl _)) (λi H2 Q hi _ s k=>step i H2 Q hi s k) λD H2 hD s e=>hd D H2 hD s (by rw[e,Ps.mpr (λ_ _=>rfl)])
theorem Hf{X:Cx}:Passes (CX1 X.prog X.w) X E0:=λ_ _ _ _ _ _ _ h=>by
 obtain⟨_,_,_,_,_,_,_,_,_,h⟩:=h;exact h.elim
structure DefAt (K:PySem.W.Frag) (x:Str) (st:Stmt):Prop where
 ex:∃f fd,PySem.W.nsIn K mainGlobals x=some (some (.ref f))/\PySem.W.keepIn K (.ref f)=true/\Fun K x x st f fd
theorem DefAt.of{K:PySem.W.Frag}{x:Str}{st:Stmt}{f:Addr}{oc:Value}{od an:Option Addr}{osl:Array (Option Value)}{kV doc pm cdv ct:Value}(a:PySem.W.nsIn K mainGlobals x=some (some (.ref f)))
  (l:K.lookup f=some ⟨oc,od,.func (PySem.W.fnOf x x (D7 st) (Cw st) (defScope st) .none kV doc pm an cdv ct),osl⟩) (c:PySem.W.codeIn K cdv x=true) (k:PySem.W.keepIn K (.ref f)=true):DefAt K x st:=
 ⟨⟨f,_,a,k,Xbo l c k⟩⟩
theorem Fn.of{P:Program}{w:World}{K:PySem.W.Frag}{h:Heap}{mg:Str->Option Value}{base:Heap}{CX:CXT}{k:Nat}{x:Str}{st:Stmt}{ps:List Str}{sp:Sp}(X:K.In h)(G:h.Ns mainGlobals mg)(D:DefAt K x st)
  (hb:∀(kV doc pm:Value) (an:Option Addr) (cdv ct:Value) (us:List Value),us.length=ps.length->bindArgs (PySem.W.fnOf x x (D7 st) (Cw st) (defScope st) .none kV doc pm an cdv ct) ⟨us,[]⟩=pure (ps.zip us))
  (ok:∀f fd,Fun K x x st f fd->FnOk P w K mg base CX k f fd ps sp):Fn P w K mg base CX k x ps sp:=by
 obtain⟨f,fd,a,hk,F⟩:=D.ex;exact⟨⟨f,fd,PySem.W.mg_of X G a,hk,F.binds hb,ok f fd F⟩⟩
structure ExcAt (K:PySem.W.Frag) (x:Str) (C:Addr):Prop where
 a:PySem.W.nsIn K mainGlobals x=some (some (.ref C))
 e:PySem.W.excIn K C bmV "ValueError.__new__" = true
 ga:PySem.W.findIn K (.ref C) "__getattribute__" = some (some (.builtin "BaseException.__getattribute__"))
 gn:PySem.W.findIn K (.ref C) "__getattr__" = some none
 cl:PySem.W.findIn K (.ref C) "__class__" = some (some (.builtin "object.__class__"))
 sb:PySem.W.subIn K (.ref C) (.type "BaseException")=some true
 so:PySem.W.subIn K (.ref C) (.type "object")=some true
 sv:PySem.W.subIn K (.ref C) (.type "ValueError")=some true
 ss:PySem.W.subIn K (.ref C) (.ref C)=some true
 ic:PySem.W.isClsIn K C=true
 ty:PySem.W.typeIn K (.ref C)=some (.type "type")
section
variable {K:PySem.W.Frag}{x:Str}{C:Addr}
theorem Xjm{t:Value}{S:Addr}{b:Bool}(ic:PySem.W.isClsIn K S=true)(ty:PySem.W.typeIn K (.ref S)=some (.type "type"))(h:PySem.W.subIn K t (.ref S)=some b):PySem.W.kitCls K t (.ref S)=some b:=by
 unfold PySem.W.kitCls;have ic':(PySem.W.clsIn K S).isSome=true:=ic;simp only[ic',ty];exact h
theorem ExcAt.self(E:ExcAt K x C):PySem.W.exmOne K (.ref C) (.ref C)=some true:=by
 unfold PySem.W.exmOne;rw[E.sb,Tk (by decide)];exact Xjm E.ic E.ty E.ss
end
structure ClsAt (K:PySem.W.Frag) (x:Str) (C:Addr):Prop where
 a:PySem.W.nsIn K mainGlobals x=some (some (.ref C))
 ic:PySem.W.isClsIn K C=true
 ty:PySem.W.typeIn K (.ref C)=some (.type "type")
theorem Ev(x:Str)(row:List Str):inV (.str x) (row.map V.str)=decide (x∈row):=by
 unfold inV;rw[Qo,Rr,decide_eq_true_eq];constructor
 ·rintro ⟨y,hy,e⟩;obtain⟨z,hz,rfl⟩:=Pe.mp hy;have:z=x:=by simpa [eqV] using e
  rw[<-this];exact hz
 ·intro hx;exact⟨.str x,Pe.mpr ⟨x,hx,rfl⟩,by simp[eqV]⟩
theorem Ew(row:List Str):(row.map V.str).all Ck=true:=by
 rw[Pl];intro v h;obtain⟨x,_,rfl⟩:=Pe.mp h;rfl
theorem Xjn{K:PySem.W.Frag}{cap:List (Option Nat)}{tt:TT}{te:TE}{a:Addr}{xs:List V}{σ:St}{H1:Hp}{F:Addr->Hp->Prop}{p q:Nat}(hpq:p≠q)(hS:SqL K H1 a xs)(hn:xs.length<sizeLine)(ok:Nat->Bool)(ys:Nat->V)
  (tst:∀(i:Nat) x H2 Q,xs[i]? = some x->Same H1 H2->(∀H',Same H2 H'->Q (ok i) H')->tt (((B2 cap σ).set p (some (.int i))).set q (some x)) H2 Q)
  (step:∀(i:Nat) x H2 Q,xs[i]? = some x->ok i=true->Same H1 H2->(∀H',Same H2 H'->Q (ys i) H')->te (((B2 cap σ).set p (some (.int i))).set q (some x)) H2 Q)
  (hd:∀D H2,H1 D=none->Same H1 H2->H2 D=some (.lst (((List.range xs.length).filter ok).map ys))->F D H2):Ep cap (K6 K 2 (K5 (Bp p) (K5 (Bp q) Xah))) tt te (Ite K a) σ H1 F:=by
 intro D hD;refine⟨wN xs.length λi σ2 H2=>(∀u v,(σ2.set p u).set q v=((B2 cap σ).set p u).set q v)/\Same H1 H2/\H2 D=some (.lst (((List.range i).filter ok).map ys)),⟨xs.length,by simp,Pq _,λ_ _=>rfl,(Same.refl H1).step hD,Ac⟩,?_⟩;rintro i m σ1 H2 ⟨rfl,hi,e,s2,hb⟩;have hS2:SqL K H2 a xs:=s2.seq hS;by_cases hlt:i<xs.length
 ·have hx:xs[i]? = some xs[i]:=Op hlt;refine .inr ⟨⟨xs,xs[i],hS2,hx⟩,?_⟩;rintro x H3 ⟨tp,rfl,ht,hy⟩;obtain⟨y,hy1,rfl⟩:=hy xs hS2;rw[hx] at hy1;cases hy1;refine⟨tp,_,rfl,SqT.of Ac,rfl,_,_,rfl,_,_,rfl,rfl,?_⟩;have s3:Same H1 (upd H2 tp (.tup [.int i,xs[i]])):=s2.step ht;have hb3:upd H2 tp (.tup [.int i,xs[i]]) D=some (.lst (((List.range i).filter ok).map ys)):=ku hb ht;rw[e];refine tst i _ _ _ hx s3 λH4 s4=>?_;have s14:=s3.trans s4;have hb4:=s4 _ _ hb3;have hss:∀u v,(((((B2 cap σ).set p (some (.int i))).set q (some xs[i])).set p u).set q v)=((B2 cap σ).set p u).set q v:=λu v=>by
   rw[List.set_comm _ _ (Ne.symm hpq),Tc,Tc]
  have hl:(((List.range i).filter ok).map ys).length<=i:=by
   rw[Oo];exact Pr (Pt ..) (by rw[P2];omega)
  refine Be (λhk=>?_) (λhk=>?_)
  ·refine step i _ H4 _ hx hk s14 λH5 s5=>?_;refine wput hlt (s5 _ _ hb4) (by omega) ⟨hss,λb u e'=>?_,?_⟩
   ·rw[Ad (Aw e' hD)];exact s5 _ _ (s14 b u e')
   ·rw[Ac,Qc,Pk,O5];simp[hk]
  ·refine wskip hlt ⟨hss,s14,?_⟩;rw[hb4,Qc,Pk,O5];simp[hk]
 ·have ei:i=xs.length:=by omega
  subst ei;exact .inl ⟨⟨xs,hS2,Oq _⟩,hd D H2 hD s2 hb⟩
theorem Jk{X:Cx}{pos:Pos}{es:List Expr}{k:Nat}{t:TGs}(K:PySem.W.Frag)(n:Nat)(hK:X.K=K)(hc:X.calm=true)(h:PGs X es t)
  (hn:(assignEach es X.env).length=n:=by rfl) (hst:(assignEach es X.env).findIdx? (·.1)=none:=by rfl):PG X (.Tuple es k pos) (K6 K n t):=by
 subst hK;exact Xai hc h hn hst
theorem Cy{α : Type}(d : α)(p : α->Bool):∀(xs:List α),((List.range xs.length).filter λi=>p (xs.getD i d)).map (λi=>xs.getD i d)=xs.filter p:=by
 intro xs;have go:∀n,n<=xs.length->((List.range n).filter λi=>p (xs.getD i d)).map (λi=>xs.getD i d)=(xs.take n).filter p:=by
  intro n
  induction n with
  | zero=>intro _;rfl
  | succ n ih=>
   intro h;have hn:n<xs.length:=by omega
   have e:xs.getD n d=xs[n]:=by simp[List.getD,hn]
   rw[Qc,Pk,O5,ih (by omega),O8 hn,Pk,Pw,Pw,e];split
   ·simp[hn]
   ·simp
 rw[go _ (Oq _),P9]
abbrev TM:=St->Hp->(St->Hp->Prop)->Prop
def PM (X:Cx) (m:Sem Unit) (t:TM):Prop:=∀(pins:List (Addr×Obj)) (s:Shared) (σ:St) (H:Hp) (Q:St->Hp->Prop),Inv X pins σ H s->t σ H Q ->
 wpAny (model X.prog X.w) X.A m (λ_ s'=>∃σ' H',Inv X pins σ' H' s'/\Q σ' H') X.xe s
def D9 (e:Expr) (d:Nat) (tg iter:Expr) (ifs:List Expr) (act:Sem Unit) (it acc:Value) (env:Env):Sem Fin:=do
 standAt iter.pos
 match <-pyNext it with
 | none=>pure (.done .next)
 | some v=>
  letOwnedTupleGo tg it v
  assign tg env v
  let mut ok:=true
  for c in ifs do
   if ok then ok <-isTrue c env (eval c env)
  if ok then act
  again (.compLoop e d it acc env)
structure Cm (e:Expr):Prop where
 den1 : ∀ (P : Program) (w : World) (d : Nat) (it acc : Value) (env : Env), (model P w).den (.compLoop e d it acc env) = (compTurn e d it acc env).onRaise (fun x => do noteFrame x env; theTreesLotGoes x)
 den2 : ∀ (P : Program) (w : World) (d : Nat) (it acc : Value) (env : Env), (model P w).den (.compStart e d it acc env) = (compStart e d it acc env).onRaise (fun x => do noteFrame x env; standAt theWindowsPlace)
 und1:∀(A:Around) (d:Nat) (it acc:Value) (env:Env),A.under (.compLoop e d it acc env)=A
 und2:∀(A:Around) (d:Nat) (it acc:Value) (env:Env),A.under (.compStart e d it acc env)=A
theorem Hg{elt:Expr}{gs:List Comprehension}{sc:Scope}{p:Pos}:Cm (.ListComp elt gs sc p):=⟨λ_ _ _ _ _ _=>rfl,λ_ _ _ _ _ _=>rfl,λ_ _ _ _ _=>rfl,λ_ _ _ _ _=>rfl⟩
theorem Xcq{k v:Expr}{gs:List Comprehension}{sc:Scope}{p:Pos}:Cm (.DictComp k v gs sc p):=⟨λ_ _ _ _ _ _=>rfl,λ_ _ _ _ _ _=>rfl,λ_ _ _ _ _=>rfl,λ_ _ _ _ _=>rfl⟩
def tLp (g:TG) (tt:TT) (tm:TM) (J:It) (σ:St) (H1:Hp) (F:St->Hp->Prop):Prop:=
 ∃W:Nat->Nat->St->Hp->Prop,(∃m,W 0 m σ H1)/\∀i m σ1 H2,W i m σ1 H2 ->
  (J.stop i H2/\F σ1 H2)\/(J.go i H2/\∀x H3,J.yld i H2 x H3->g x σ1 H3 fun σ2 H4=>tt σ2 H4 λb H5=>
   if b=true then tm σ2 H5 fun σ3 H6=>∃m',m'<m/\W (i+1) m' σ3 H6 else ∃m',m'<m/\W (i+1) m' σ2 H5)
section
variable {Y:Cx}{e tg iter:Expr}{d:Nat}{ifs:List Expr}{act:Sem Unit}{acc:Value}{g:TG}{tt:TT}{tm:TM}{pins:List (Addr×Obj)}{σ:St}{H:Hp}{s:Shared}{J:It}{fp:List Addr}{it:Addr}{tn:Nat->Heap->Prop}{F:St->Hp->Prop}{R:Result->Shared->Prop}
theorem Xcr(cm:Cm e)(hx:Y.xe=λ_ _=>False)(hc:Y.calm=true)(eq:compTurn e d (.ref it) acc Y.env=D9 e d tg iter ifs act (.ref it) acc Y.env)(hg:PG Y tg g)(ht:PIfs Y ifs tt)(hm:PM Y act tm)
  (I:Inv Y pins σ H s) (T:Turn Y.prog Y.w Y.K tg J fp it tn) (h0:tn 0 s.heap) (hf:∀b∈fp,FpOk Y pins H b) (hb:tLp g tt tm J σ H F) (fin:∀σ' H' s',Inv Y pins σ' H' s'->F σ' H'->R (.ok .next) s'):
  codeAny (model Y.prog Y.w) Y.A (.compLoop e d (.ref it) acc Y.env) R s:=by
 obtain⟨W,⟨m0,w0⟩,turn⟩:=hb;have stat:∀{H':Hp},(∀b∈fp,H' b=none)->∀b∈fp,FpOk Y pins H' b:=λhn b hb=>⟨hn b hb,(hf b hb).2⟩;refine codeAny_loop rfl (λn s'=>∃i σ1 H2,Inv Y pins σ1 H2 s'/\tn i s'.heap/\(∀b∈fp,H2 b=none)/\W i n σ1 H2) (λn s' hI=>?_) m0 ⟨0, σ,H,I,h0,λb hb=>(hf b hb).1,w0⟩;obtain⟨i, σ1,H2,I',st',fr',w'⟩:=hI;rw[cm.den1,cm.und1];refine wpAny_noted ?_;rw[eq];have no:∀{α : Type} {t:Sem α} {Q : α->Shared->Prop} {E':Value->Shared->Prop} {s₁ : Shared},wpAny (model Y.prog Y.w) Y.A t Q Y.xe s₁->wpAny (model Y.prog Y.w) Y.A t Q E' s₁:=λh=>wpAny_mono h (λ_ _ q=>q) λ_ _ z=>by rw[hx] at z;exact z.elim
 unfold D9;rcases turn i n σ1 H2 w' with ⟨stop,q⟩ | ⟨go,step⟩
 ·refine Te (wpAny_standAt (Te (thn (T.done Y rfl rfl rfl hc i pins s' σ1 H2 _ I' (stat fr') st' stop) λr s1 ⟨hr,I1⟩=>?_)));subst hr;exact Tf (fin σ1 H2 s1 I1 q)
 ·refine Te (wpAny_standAt (Te (thn (T.item Y rfl rfl rfl hc i pins s' σ1 H2 _ I' (stat fr') st' go) λr s1 ⟨u,hr,h4⟩=>?_)));subst hr;refine Te (thn h4 λ_ s5 ⟨x,H5,I5,r5,y5,st5,fr5⟩=>?_);have I5':=I5.pinned (stat fr5) (T.obj _ _ st5);refine Te (thn (no (hg _ s5 σ1 H5 x u _ I5' r5 (step x H5 y5))) λ_ s6 ⟨σ6,H6,I6,q6⟩=>?_);refine Te (thn (no (ht _ s6 σ6 H6 _ I6 q6)) λb s7 ⟨H7,I7,q7⟩=>?_);have again:∀{s8:Shared} {σ8:St} {H8:Hp},Inv Y (pins++Gs fp s5.heap) σ8 H8 s8->(∃m',m'<n/\W (i+1) m' σ8 H8)->∃m,m<n/\∃i σ1 H2,Inv Y pins σ1 H2 s8/\tn i s8.heap/\(∀b∈fp,H2 b=none)/\W i m σ1 H2:=λ{s8 σ8 H8} I8 ⟨m',hm,w8⟩=>by
   refine⟨m',hm,i+1, σ8,H8,I8.unpinned,T.keep _ _ _ st5 λb hb o e=>(I8.pin (b,o) (Pm _ (Pm _ (Ip hb e)))).1,λb hb=>?_,w8⟩;obtain⟨o,e,d⟩:=T.obj _ _ st5 b hb;exact(I8.pin (b,o) (Pm _ (Pm _ (Ip hb e)))).2.1
  cases b with
  | false=>
   rw[Tj O4] at q7;exact Tf ⟨rfl,again I7 q7⟩
  | true=>
   rw[Tk rfl] at q7;exact Te (thn (no (hm _ s7 σ6 H7 _ I7 q7)) λ_ s8 ⟨σ8,H8,I8,q8⟩=>Tf ⟨rfl,again I8 q8⟩)
theorem Xcs{prog:Program}{w:World}{A:Around}{env:Env}{itv:Value}{cl:Comprehension}(cm:Cm e)(hcl:(clausesOf e)[d]? = some cl)(has:cl.is_async=0)
  (h0:codeAny (model prog w) A (.compLoop e d itv acc env) R s)
  (h:wpAny (model prog w) A (pyIter itv) (λit' s'=>codeAny (model prog w) A (.compLoop e d it' acc env) R s') (notedBy (model prog w) A env λx s'=>R (.error x) s') s):
  codeAny (model prog w) A (.compStart e d itv acc env) R s:=by
 refine codeAny_of_tree ?_;rw[cm.den2,cm.und2];refine wpAny_notedAt ?_;unfold compStart;rw[hcl];have e1:(Option.elim (some cl) false λx=>x.is_async != 0)=false:=by
  show (cl.is_async != 0)=false;rw[has];rfl
 rw[e1,Tj O4];show wpAny _ A (ask >>= _) _ _ s;refine Te (wpAny_askSetting (wpAny_ite ?_));split
 ·first
   | exact Te (Tf (Tf (And.intro rfl h0)))
   | exact Tf (And.intro rfl h0)
 ·first
   | exact Te (wpAny_rule (Te (wpAny_standAt (Te (wpAny_mono h (λit' s' h'=>Tf (And.intro rfl h')) λ_ _ x=>x)))))
   | (refine Te (wpAny_rule ?_);show wpAny _ _ (standAt cl.iter.pos >>= _) _ _ s;exact Te (wpAny_standAt (Te (wpAny_mono h (λit' s' h'=>Tf (And.intro rfl h')) λ_ _ x=>x))))
end
def Jl (te:TE) (D:Addr):TM:=fun σ H Q=>te σ H λy H6=>∃ys,H6 D=some (.lst ys)/\ys.length<sizeLine/\Q σ (upd H6 D (.lst (ys++[y])))
theorem Jm{Y:Cx}{elt:Expr}{te:TE}{D:Addr}(he:PE Y elt te):PM Y (do let _ <-call (.builtin "list.append") [.ref D,<-eval elt Y.env]) (Jl te D):=by
 intro pins s σ H Q I h;refine Te (thn (he pins s σ H _ I h) λyv s8 ⟨y,H8,I8,r8,ys,hD,hlt,q8⟩=>?_);exact Te (thn (Gx (X:=Y) _ s8 σ H8 (.ref D) [y] (.ref D) [yv] (λ_ H9=>Q σ H9) I8 rfl (.cons r8 .nil) ⟨_,ys,y,rfl,rfl,hD,hlt,q8⟩) λ_ s9 ⟨_,H9,I9,_,q9⟩=>Tf ⟨σ,H9,I9,q9⟩)
def Xct (tk tv:TE) (D:Addr):TM:=fun σ H Q=>tk σ H λk H1=>tv σ H1 λv H2=>∃kvs ky,k=kV ky/\H2 D=some (.dK kvs)/\kvs.length<sizeLine/\Q σ (upd H2 D (.dK (Bk kvs ky v)))
theorem Xjo{Y:Cx}{kx vx:Expr}{tk tv:TE}{D:Addr}(hk:PE Y kx tk)(hv:PE Y vx tv):PM Y (do
  let kv <-eval kx Y.env
  let vv <-holding [kv] (eval vx Y.env)
  standAt {kx.pos with endLine:=vx.pos.endLine,endCol:=vx.pos.endCol}
  holding [kv,vv] (dictSet D kv vv)) (Xct tk tv D):=by
 intro pins s σ H Q I h;refine Te (thn (hk pins s σ H _ I h) λkv s1 ⟨k,H1,I1,rk,q1⟩=>Te (wpAny_holding (thn (hv pins s1 σ H1 _ I1 q1) λvv s2 ⟨v,H2,I2,rv,kvs,ky,ek,hD,hl,q⟩=>Te (wpAny_standAt (wpAny_holding ?_)))));subst ek;obtain⟨z,hd,vs,rel,dd⟩:=Xbh I2.hok hD;have hz:vs.length<=sizeLine:=by rw[<-rel.length];exact z
 have hl':(Bk kvs ky v).length<=sizeLine:=by have:=Gy kvs ky v;omega
 refine wpAny_dictSet_pairs (knd:=Bi Y.prog Y.w) (hsz:=hz) (Gz rk) dd λh' dd' hs=>⟨σ,_,?_,q⟩;have he:∃q,h'.get? D=some q:=let ⟨q,_,_,hq,_⟩:=dd'; ⟨q,hq⟩;exact Ix I2 (by rw[hD];exact True.intro) hs he (Xbj hl' hd (rel.put ky rv) dd')
def Xcu (wi:TI) (g:TG) (tt:TT) (tm:TM):TM:=fun σ H Q=>wi σ H λJ H1=>tLp g tt tm J σ H1 Q
theorem Xjp{Y:Cx}{e tg iter:Expr}{ifs:List Expr}{d:Nat}{D:Addr}{wi:TI}{g:TG}{tt:TT}{tm:TM}{act:Sem Unit}(cm:Cm e)(hx:Y.xe=λ_ _=>False)(hc:Y.calm=true)(hcl:(clausesOf e)[d]? = some ⟨tg,iter,ifs,0⟩)
  (eq:∀it,compTurn e d it (.ref D) Y.env=D9 e d tg iter ifs act it (.ref D) Y.env) (hi:PI Y tg iter wi) (hg:PG Y tg g) (ht:PIfs Y ifs tt) (hm:PM Y act tm)
  (hs:∀x,foldedSetIterable iter Y.env x=pure x:=by intro _;rfl):PM Y (do
   let x <-eval iter Y.env
   standAt iter.pos
   let x <-foldedSetIterable iter Y.env x
   let _ <-runOwn (.compStart e d (<-holding [x] (pyIter x)) (.ref D) Y.env) Y.env) (Xcu wi g tt tm):=by
 intro pins s σ H Q I h;refine Te (thn (hi pins s σ H _ I h) λv s1 h1=>Te (wpAny_standAt (Te (wpAny_of_eq (hs v) (Te (wpAny_holding (thn h1 λitv s2 h2=>?_)))))));obtain⟨it,fp,tn,J,H2,ei,I2,T,st2,f2,lp⟩:=h2;subst ei;refine Te (wpAny_runOwn ?_);have go:∀s3,s3=s2->codeAny (model Y.prog Y.w) Y.A (.compLoop e d (.ref it) (.ref D) Y.env) (λr s'=>match r with | .ok _=>∃σ' H',Inv Y pins σ' H' s'/\Q σ' H' | .error e=>False) s3:=by
  rintro s3 rfl;exact Xcr cm hx hc (eq _) hg ht hm I2 T st2 f2 lp fun σ' H' s' I' q=>⟨σ',H',I',q⟩
 have st:=Xcs (s:=s2) (R:=λr s'=>match r with | .ok _=>∃σ' H',Inv Y pins σ' H' s'/\Q σ' H' | .error e=>False) cm hcl rfl (go s2 rfl) (T.self Y.A 0 s2 _ _ st2 (go s2 rfl));refine codeAny_mono st λr s' hr=>?_;cases r with
 | ok f=>exact Tf hr
 | error e=>exact hr.elim
def Xcv (cap:List (Option Nat)) (o0:Addr->HO) (g:TG) (tt:TT) (tm:Addr->TM) (J:It) (σ:St) (H1:Hp) (F:Addr->Hp->Prop):Prop:=
 ∀D,H1 D=none->tLp g tt (tm D) J (B2 cap σ) (upd H1 D (o0 D)) λ_ H2=>F D H2
def Xcw (cap:List (Option Nat)) (o0:HO) (g:TG) (tt:TT) (tm:Addr->TM) (J:It) (σ:St) (H1:Hp) (F:Addr->Hp->Prop):Prop:=
 ∀D,H1 D=none->tLp g tt (tm D) J (B2 cap σ) (upd H1 D o0) λ_ H2=>F D H2
section
variable {X:Cx}{N:List Str}{cap:List (Option Nat)}{scope:Scope}{e tg iter:Expr}{ifs:List Expr}{g:TG}{tt:TT}{tm:Addr->TM}{E:Value->Shared->Prop}{newAcc:Sem Value}{ob:Obj}{o0:HO}{o1:Addr->HO}{act:Addr->Env->Sem Unit}
theorem Xcx(C:CompScope X N cap scope)(hcalm:X.calm=true)(cm:Cm e)(hcl:(clausesOf e)[0]? = some ⟨tg,iter,ifs,0⟩)
  (hnew:∀(s:Shared) (Q:Value->Shared->Prop) (E':Value->Shared->Prop),Q (.ref s.heap.objs.size) {s with heap:=s.heap.push ob}->wpAny (model X.prog X.w) X.A newAcc Q E' s)
  (hlay:∀pins σ H s,Inv X pins σ H s->Inv X pins σ (upd H s.heap.objs.size (o1 s.heap.objs.size)) {s with heap:=s.heap.push ob})
  (heq:∀it D env,compTurn e 0 it (.ref D) env=D9 e 0 tg iter ifs (act D env) it (.ref D) env)
  (hg:∀s0 H0 ex,PG (X.comp N scope s0 H0 ex) tg g) (ht:∀s0 H0 ex,PIfs (X.comp N scope s0 H0 ex) ifs tt) (hm:∀D s0 H0 ex,PM (X.comp N scope s0 H0 ex) (act D (X.comp N scope s0 H0 ex).env) (tm D))
  {pins:List (Addr×Obj)} {σ:St} {H:Hp} {s:Shared} {J:It} {fp:List Addr} {it:Addr} {tn:Nat->Heap->Prop} {F:Addr->Hp->Prop} {RR:Value->Addr->Result->Shared->Prop}
  (I:Inv X pins σ H s) (T:Turn X.prog X.w X.K tg J fp it tn) (h0:tn 0 s.heap) (hf:∀b∈fp,FpOk X pins H b) (hb:Xcv cap o1 g tt tm J σ H F)
  (fin:∀D L H' s' m,Inv X pins σ H' s'->FpOk X pins H' L->s'.heap.Ns L m->F D H'->RR (.ref D) L (.ok .next) s'):
  wpAny (model X.prog X.w) X.A newAcc (λacc s₃=>wpAny (model X.prog X.w) X.A (newFunctionEnv scope X.env.globals (Ce X.env scope.names []) [] X.env.qual none .none (some X.env)) (λcenv s₄=>
   codeAny (model X.prog X.w) X.A (.compStart e 0 (.ref it) acc {cenv with scope:=relabel scope X.env}) (RR acc cenv.locals) s₄) E s₃) E s:=by
 have hDn:H s.heap.objs.size=none:=I.hok.fresh (Oq _);have lp:=hb s.heap.objs.size hDn;have flt:∀b∈fp,b<s.heap.objs.size:=λb hb=>by
  obtain⟨o,e,_⟩:=T.obj _ _ h0 b hb;exact Tq e
 refine hnew s _ _ (Xh3 ?_);have I3:Inv X pins σ (upd H s.heap.objs.size (o1 s.heap.objs.size)) {s with heap:=s.heap.push ob}:=hlay pins σ H s I;generalize e3:({s with heap:=s.heap.push ob}:Shared)=s3 at I3;have es3:s3.heap=s.heap.push ob:=by rw[<-e3]
 have hsz:s3.heap.objs.size=s.heap.objs.size+1:=by rw[es3,Heap.size_push]
 have hf3:∀b∈fp,FpOk X pins (upd H s.heap.objs.size (o1 s.heap.objs.size)) b:=λb hb=>by
  obtain⟨f0,f⟩:=hf b hb;exact⟨by rw[Ad (O1 (flt b hb))];exact f0,f⟩
 have flt3:∀b∈fp,b<s3.heap.objs.size:=λb hb=>by rw[hsz];exact Qk (flt b hb)
 have hk:∀b o,s3.heap.get? b=some o->(pushCells (s3.heap.push {cls:=.type "dict",data:=.dict #[]}) scope.names).get? b=some o:=λb o e=>pushCells_keeps _ _ b o (Tr _ e);have IY:=Xh4 (tk:=s3.toks) C I3 hf3 flt3;generalize eY:X.comp N scope s3 (upd H s.heap.objs.size (o1 s.heap.objs.size)) fp=Y at IY;have hz3:(s3.heap.push {cls:=.type "dict",data:=.dict #[]}).objs.size=s3.heap.objs.size+1:=Heap.size_push ..;have hst1:tn 0 (pushCells (s3.heap.push {cls:=.type "dict",data:=.dict #[]}) scope.names):=T.keep _ _ _ h0 λb hb o e=>hk b o (by rw[es3];exact Tr _ e);have fY:∀{H':Hp},(∀b∈fp,H' b=none)->∀b∈fp,FpOk Y [] H' b:=λ{H'} hn b hb=>by
  subst eY;obtain⟨_,f1,f2,_,f4,_⟩:=hf3 b hb;refine⟨hn b hb,O1 (flt3 b hb),λz=>?_,.inl hb,λx c h=>?_,λp hp=>absurd (show p∈([]:List (Addr×Obj)) from hp) (by simp)⟩
  ·rcases O6.mp (I3.stkSub b z) with e | e
   ·exact f1 e
   ·exact f2 e
  ·rcases Xbt (s:=s3) C I3.ok hz3 h with ⟨a,_⟩ | ⟨_,a⟩
   ·exact λz=>P3 _ (Rq a (by rw[z];exact flt3 b hb))
   ·exact f4 x c a
 have loop:∀s4:Shared,s4 = {s3 with heap:=pushCells (s3.heap.push {cls:=.type "dict",data:=.dict #[]}) scope.names} ->
   codeAny (model X.prog X.w) X.A (.compLoop e 0 (.ref it) (.ref s.heap.objs.size) (compEnvC scope (G2 X scope s3) s3.heap.objs.size X.env))
    (RR (.ref s.heap.objs.size) s3.heap.objs.size) s4:=by
  rintro s4 rfl;have pP:Y.prog=X.prog:=by subst eY;rfl
  have pW:Y.w=X.w:=by subst eY;rfl
  have pK:Y.K=X.K:=by subst eY;rfl
  have pC:Y.calm=true:=by subst eY;exact hcalm
  have pA:Y.A=X.A:=by subst eY;rfl
  have pE:Y.env=compEnvC scope (G2 X scope s3) s3.heap.objs.size X.env:=by subst eY;rfl
  have pX:Y.xe=λ_ _=>False:=by subst eY;rfl
  have T':Turn Y.prog Y.w Y.K tg J fp it tn:=by rw[pP,pW,pK];exact T
  have go:=Xcr (Y:=Y) (acc:=.ref s.heap.objs.size) (pins:=[]) (R:=RR (.ref s.heap.objs.size) s3.heap.objs.size) cm pX pC (heq _ _ _) (by subst eY;exact hg _ _ _) (by subst eY;exact ht _ _ _) (show PM Y (act s.heap.objs.size Y.env) (tm s.heap.objs.size) by subst eY;exact hm _ _ _ _)
   IY T' hst1 (fY λb hb=>(hf3 b hb).1) lp ?_
  ·rw[pP,pW,pA,pE] at go;exact go
  ·intro σ' H2 s1 I1 q;have IX:Inv X pins σ H2 s1:=by
    subst eY;refine I3.call' (ch:=fp) I1.os I1.base I1.hok I1.bare λb hb=>?_;obtain⟨_,f1,_,f3,f4,f5⟩:=hf3 b hb;exact⟨f3,f1,f4,f5⟩
   have hL:H2 s3.heap.objs.size=none:=by
    have z:=I1.free;rw[pE] at z;exact z
   obtain⟨m,hm,_⟩:=I1.loc;rw[pE] at hm;exact fin s.heap.objs.size s3.heap.objs.size H2 s1 m IX (I3.fpOk (Oq _) hL) hm q
 have lp:=loop _ rfl;have T1:=T.self;subst e3;exact Xcs cm hcl rfl lp (T1 X.A 0 _ _ _ hst1 lp)
structure AccA (X:Cx) (newAcc:Sem Value) (ob:Obj) (o1:Addr->HO):Prop where
 new:∀(s:Shared) (Q:Value->Shared->Prop) (E':Value->Shared->Prop),Q (.ref s.heap.objs.size) {s with heap:=s.heap.push ob}->wpAny (model X.prog X.w) X.A newAcc Q E' s
 lay:∀pins σ H s,Inv X pins σ H s->Inv X pins σ (upd H s.heap.objs.size (o1 s.heap.objs.size)) {s with heap:=s.heap.push ob}
structure Acc (X:Cx) (newAcc:Sem Value) (ob:Obj) (o0:HO):Prop where
 new:∀(s:Shared) (Q:Value->Shared->Prop) (E':Value->Shared->Prop),Q (.ref s.heap.objs.size) {s with heap:=s.heap.push ob}->wpAny (model X.prog X.w) X.A newAcc Q E' s
 lay:∀pins σ H s,Inv X pins σ H s->Inv X pins σ (upd H s.heap.objs.size o0) {s with heap:=s.heap.push ob}
theorem Jn:Acc X (newList []) {cls:=.type "list",data:=.seq ([]:List Value).toArray} (.lst []):=⟨λs Q E' h=>wpAny_newObj_type h,λpins σ H s I=>I.lnew (t':=s.toks) .nil (Pq _)⟩
theorem Xjq:Acc X newDict {cls:=.type "dict",data:=.dict #[]} (.dK []):=⟨λs Q E' h=>wpAny_newObj_type h,λpins σ H s I=>I.laid (a:=s.heap.objs.size) (o:=.dK []) (t':=s.toks) (λ_ _ q=>Tr _ q) (Oq _) (Xbl s.heap I.big)⟩
def Xjr (cap:List (Option Nat)) (o0:Addr->HO) (wi:TI) (g:TG) (tt:TT) (tm:Addr->TM):TE:=fun σ H Q=>wi σ H λJ H1=>Xcv cap o0 g tt tm J σ H1 λD H2=>Q (.ref D) H2
theorem Xjs{wi:TI}{pos:Pos}{gens:List Comprehension}(ac:AccA X newAcc ob o1)(he:eval e X.env=comprehension e scope X.env pos newAcc false (eval iter X.env))(hcls:clausesOf e=⟨tg,iter,ifs,0⟩::gens)
  (C:CompScope X N cap scope) (hcalm:X.calm=true) (cm:Cm e) (hi:PI X tg iter wi)
  (heq:∀it D env,compTurn e 0 it (.ref D) env=D9 e 0 tg iter ifs (act D env) it (.ref D) env)
  (hg:∀s0 H0 ex,PG (X.comp N scope s0 H0 ex) tg g) (ht:∀s0 H0 ex,PIfs (X.comp N scope s0 H0 ex) ifs tt) (hm:∀D s0 H0 ex,PM (X.comp N scope s0 H0 ex) (act D (X.comp N scope s0 H0 ex).env) (tm D))
  (hs:∀x,foldedSetIterable iter X.env x=pure x):PE X e (Xjr cap o1 wi g tt tm):=by
 intro pins s σ H Q I h;rw[he];refine wpAny_comprehension_free (use:=none) hcls hs (Xbp (Lw C I.ok)) C.kind (λx hx hl=>by rw[C.uniq x hx,hl]) (thn (hi pins s σ H _ I h) λv s1 h1=>thn h1 λitv s2 h2=>?_);obtain⟨it,fp,tn,J,H2,ei,I2,T,st2,f2,R⟩:=h2;subst ei;refine Xcx (RR:=λacc L=>compPost (model X.prog X.w) X.A X.xe none (EP X pins σ Q) acc L) C hcalm cm (by rw[hcls];rfl) ac.new ac.lay heq hg ht hm I2 T st2 f2 R ?_;intro D L H' s' m I' fL hm q;refine⟨m,hm,λh' hs'=>?_⟩;obtain⟨f0,f1,_,f3,f4,f5⟩:=fL;exact⟨.ref D,H',I'.turned (t':=s'.toks) (λb o hb e=>(hs'.2 b hb).trans e) f0 f1 f3 f4 f5,rfl,q⟩
def Jo (cap:List (Option Nat)) (o0:HO) (wi:TI) (g:TG) (tt:TT) (tm:Addr->TM):TE:=fun σ H Q=>wi σ H λJ H1=>Xcw cap o0 g tt tm J σ H1 λD H2=>Q (.ref D) H2
theorem Jp{wi:TI}{pos:Pos}{gens:List Comprehension}(ac:Acc X newAcc ob o0)(he:eval e X.env=comprehension e scope X.env pos newAcc false (eval iter X.env))(hcls:clausesOf e=⟨tg,iter,ifs,0⟩::gens)
  (C:CompScope X N cap scope) (hcalm:X.calm=true) (cm:Cm e) (hi:PI X tg iter wi)
  (heq:∀it D env,compTurn e 0 it (.ref D) env=D9 e 0 tg iter ifs (act D env) it (.ref D) env)
  (hg:∀s0 H0 ex,PG (X.comp N scope s0 H0 ex) tg g) (ht:∀s0 H0 ex,PIfs (X.comp N scope s0 H0 ex) ifs tt) (hm:∀D s0 H0 ex,PM (X.comp N scope s0 H0 ex) (act D (X.comp N scope s0 H0 ex).env) (tm D))
  (hs:∀x,foldedSetIterable iter X.env x=pure x):PE X e (Jo cap o0 wi g tt tm):=
 Xjs (o1:=λ_=>o0) ⟨ac.new,ac.lay⟩ he hcls C hcalm cm hi heq hg ht hm hs
def Xcy (i:Nat) (cap:List (Option Nat)) (o0:HO) (wi:TI) (g:TG) (tt:TT) (tm:Addr->TM):TS:=λD σ H=>wi σ H λJ H1=>Xcw cap o0 g tt tm J σ H1 λl H2=>D.nx (σ.set i (some (.ref l))) H2
theorem Xcz{wi:TI}{i:Nat}{y:Str}{py spos cpos:Pos}{gens:List Comprehension}(ac:Acc X newAcc ob o0)(he:∀use,evalThenUse e X.env use=(do let _ <-comprehension e scope X.env cpos newAcc false (eval iter X.env) (some use)))(hcls:clausesOf e=⟨tg,iter,ifs,0⟩::gens)
  (C:CompScope X N cap scope) (hcalm:X.calm=true) (cm:Cm e) (hN:X.N.Nodup) (hiN:X.N[i]? = some y) (hy:X.env.scope.names.lookup y=some .local) (hi:PI X tg iter wi)
  (heq:∀it D env,compTurn e 0 it (.ref D) env=D9 e 0 tg iter ifs (act D env) it (.ref D) env)
  (hg:∀s0 H0 ex,PG (X.comp N scope s0 H0 ex) tg g) (ht:∀s0 H0 ex,PIfs (X.comp N scope s0 H0 ex) ifs tt) (hm:∀D s0 H0 ex,PM (X.comp N scope s0 H0 ex) (act D (X.comp N scope s0 H0 ex).env) (tm D))
  (hsw:swapsWith e (some (.Name y py)) spos.line X.env=pure true) (hs:∀x,foldedSetIterable iter X.env x=pure x):PS X (.Assign [.Name y py] e spos) (Xcy i cap o0 wi g tt tm):=by
 intro pins s σ H D I h;rw[exec_Assign_Name_used _ _ _ _ hsw];refine Te (wpAny_standAt (Te ?_));rw[he];refine Te (thn (wpAny_comprehension_free (use:=some (assign (.Name y py) X.env)) (Q:=λ_ s'=>SP X pins D .next s') hcls hs (Xbp (Lw C I.ok)) C.kind (λx hx hl=>by rw[C.uniq x hx,hl])
  (thn (hi pins s σ H _ I h) λv s1 h1=>thn h1 λitv s2 h2=>?_)) (λ_ s' hq=>Tf (Tf hq)))
 obtain⟨it,fp,tn,J,H2,ei,I2,T,st2,f2,R⟩:=h2;subst ei;refine Xcx (o1:=λ_=>o0) (RR:=λacc L=>compPost (model X.prog X.w) X.A X.xe (some (assign (.Name y py) X.env)) (λ_ s'=>SP X pins D .next s') acc L) C hcalm cm (by rw[hcls];rfl) ac.new ac.lay heq hg ht hm I2 T st2 f2 R ?_;intro l L H' s' m I' fL hm q;obtain⟨f0,f1,_,f3,f4,f5⟩:=fL;show wpAny _ X.A (assign (.Name y py) X.env (.ref l)) _ _ s';refine wpAny_assign_Name (Xab I' hN hiN (.inl hy) (show Ah (.ref l) (.ref l) from rfl) (λs3 I3 ⟨a,sb,ha⟩=>?_) (.inr hy));have hLa:L≠a:=by
  rcases ha with rfl | ha
  ·exact f1
  ·exact λz=>f4 y a ha z.symm
 refine⟨m,hm.sameBut sb hLa,λh' hs'=>?_⟩;exact⟨_,H',I3.turned (t':=s3.toks) (λb o hb e=>(hs'.2 b hb).trans e) f0 f1 f3 f4 f5,q⟩
end
def act2 (elt tg iter tg2 iter2:Expr) (ifs ifs2:List Expr) (scope:Scope) (pos:Pos) (D:Addr) (env:Env):Sem Unit:=do
      let x <-eval iter2 env
      standAt iter2.pos
      let x <-foldedSetIterable iter2 env x
      let _ <-runOwn (.compStart (.ListComp elt [⟨tg,iter,ifs,0⟩,⟨tg2,iter2,ifs2,0⟩] scope pos) 1 (<-holding [x] (pyIter x)) (.ref D) env) env
theorem Xjt(elt tg iter tg2 iter2:Expr)(ifs ifs2:List Expr)(scope:Scope)(pos:Pos)(it:Value)(D:Addr)(env:Env):
  compTurn (.ListComp elt [⟨tg,iter,ifs,0⟩,⟨tg2,iter2,ifs2,0⟩] scope pos) 0 it (.ref D) env=D9 (.ListComp elt [⟨tg,iter,ifs,0⟩,⟨tg2,iter2,ifs2,0⟩] scope pos) 0 tg iter ifs (act2 elt tg iter tg2 iter2 ifs ifs2 scope pos D env) it (.ref D) env:=by
 unfold compTurn D9 act2;dsimp only;simp only[List.getElem?_cons_zero,List.getElem?_cons_succ,bind_assoc,pure_bind];simp;rfl
section
variable {X:Cx}{N:List Str}{cap:List (Option Nat)}{scope:Scope}{tg iter tg2 iter2 elt kx vx:Expr}{ifs ifs2:List Expr}{g g2:TG}{tt tt2:TT}{te tk tv:TE}{wi wi2:TI}{pos:Pos}
theorem Cz(C:CompScope X N cap scope)(hcalm:X.calm=true)(hi:PI X tg iter wi)
  (hg:∀s0 H0 ex,PG (X.comp N scope s0 H0 ex) tg g) (ht:∀s0 H0 ex,PIfs (X.comp N scope s0 H0 ex) ifs tt) (he:∀s0 H0 ex,PE (X.comp N scope s0 H0 ex) elt te)
  (hs:∀x,foldedSetIterable iter X.env x=pure x:=by intro _;rfl):PE X (.ListComp elt [⟨tg,iter,ifs,0⟩] scope pos) (Xh5 cap wi g tt te):=
 Jp (act := fun D env => do let _ <- call (.builtin "list.append") [.ref D, <- eval elt env]) Jn rfl rfl C hcalm Hg hi (fun it D env => rfl) hg ht (fun D s0 H0 ex => Jm (he s0 H0 ex)) hs
theorem Jq{i:Nat}{y:Str}{py spos:Pos}(C:CompScope X N cap scope)(hcalm:X.calm=true)(hN:X.N.Nodup)(hiN:X.N[i]? = some y)(hy:X.env.scope.names.lookup y=some .local)(hi:PI X tg iter wi)
  (hg:∀s0 H0 ex,PG (X.comp N scope s0 H0 ex) tg g) (ht:∀s0 H0 ex,PIfs (X.comp N scope s0 H0 ex) ifs tt) (he:∀s0 H0 ex,PE (X.comp N scope s0 H0 ex) elt te)
  (hsw:swapsWith (.ListComp elt [⟨tg,iter,ifs,0⟩] scope pos) (some (.Name y py)) spos.line X.env=pure true:=by rfl)
  (hs:∀x,foldedSetIterable iter X.env x=pure x:=by intro _;rfl):PS X (.Assign [.Name y py] (.ListComp elt [⟨tg,iter,ifs,0⟩] scope pos) spos) (Xh6 i cap wi g tt te):=
 Xcz (act := fun D env => do let _ <- call (.builtin "list.append") [.ref D, <- eval elt env]) Jn (fun use => rfl) rfl C hcalm Hg hN hiN hy hi (fun it D env => rfl) hg ht (fun D s0 H0 ex => Jm (he s0 H0 ex)) hsw hs
theorem Mh(C:CompScope X N cap scope)(hcalm:X.calm=true)(hi:PI X tg iter wi)
  (hg:∀s0 H0 ex,PG (X.comp N scope s0 H0 ex) tg g) (ht:∀s0 H0 ex,PIfs (X.comp N scope s0 H0 ex) ifs tt) (hk:∀s0 H0 ex,PE (X.comp N scope s0 H0 ex) kx tk) (hv:∀s0 H0 ex,PE (X.comp N scope s0 H0 ex) vx tv)
  (hs:∀x,foldedSetIterable iter X.env x=pure x:=by intro _;rfl):PE X (.DictComp kx vx [⟨tg,iter,ifs,0⟩] scope pos) (Jo cap (.dK []) wi g tt (Xct tk tv)):=
 Jp Xjq rfl rfl C hcalm Xcq hi (λit D env=>compTurn_dict kx vx tg iter ifs scope pos it D env) hg ht (λD s0 H0 ex=>Xjo (hk s0 H0 ex) (hv s0 H0 ex)) hs
theorem Xju(C:CompScope X N cap scope)(hcalm:X.calm=true)(hi:PI X tg iter wi)
  (hg:∀s0 H0 ex,PG (X.comp N scope s0 H0 ex) tg g) (ht:∀s0 H0 ex,PIfs (X.comp N scope s0 H0 ex) ifs tt)
  (hi2:∀s0 H0 ex,PI (X.comp N scope s0 H0 ex) tg2 iter2 wi2) (hg2:∀s0 H0 ex,PG (X.comp N scope s0 H0 ex) tg2 g2) (ht2:∀s0 H0 ex,PIfs (X.comp N scope s0 H0 ex) ifs2 tt2) (he:∀s0 H0 ex,PE (X.comp N scope s0 H0 ex) elt te)
  (hs:∀x,foldedSetIterable iter X.env x=pure x:=by intro _;rfl) (hs2:∀s0 H0 ex x,foldedSetIterable iter2 (X.comp N scope s0 H0 ex).env x=pure x:=by intro _ _ _ _;rfl):
  PE X (.ListComp elt [⟨tg,iter,ifs,0⟩,⟨tg2,iter2,ifs2,0⟩] scope pos) (Jo cap (.lst []) wi g tt λD=>Xcu wi2 g2 tt2 (Jl te D)):=
 Jp (act:=λD env=>act2 elt tg iter tg2 iter2 ifs ifs2 scope pos D env) Jn rfl rfl C hcalm Hg hi (λit D env=>Xjt ..) hg ht (λD s0 H0 ex=>Xjp (Y:=X.comp N scope s0 H0 ex) (e:=.ListComp elt [⟨tg,iter,ifs,0⟩,⟨tg2,iter2,ifs2,0⟩] scope pos) (d:=1) Hg rfl hcalm rfl (λit=>rfl) (hi2 s0 H0 ex) (hg2 s0 H0 ex) (ht2 s0 H0 ex) (Jm (he s0 H0 ex)) (hs2 s0 H0 ex)) hs
end
mutual
def DAt (H:Hp):PyData->V->Prop
 | .none,v=>v = .non
 | .bool b,v=>v = .bl b
 | .int i,v=>v = .int i
 | .str x,v=>v = .str x
 | .list ds,v=>∃p xs,v = .ref p/\H p=some (.lst xs)/\DAll H ds xs
 | .tuple ds,v=>∃p xs,v = .ref p/\H p=some (.tup xs)/\DAll H ds xs
 | .dict _,_=>False
def DAll (H:Hp):List PyData->List V->Prop
 | [],vs=>vs=[]
 | d::ds,vs=>∃v r,vs=v::r/\DAt H d v/\DAll H ds r
end
mutual
theorem DAt.same{H H':Hp}(s:Same H H'):∀(d:PyData) (v:V),DAt H d v->DAt H' d v
 | .none,v,h=>by unfold DAt at h ⊢; exact h
 | .bool b,v,h=>by unfold DAt at h ⊢; exact h
 | .int i,v,h=>by unfold DAt at h ⊢; exact h
 | .str x,v,h=>by unfold DAt at h ⊢; exact h
 | .list ds,v,h=>by
  unfold DAt at h ⊢;obtain⟨p,xs,h1,h2,h3⟩:=h;exact⟨p,xs,h1,s _ _ h2,DAll.same s ds xs h3⟩
 | .tuple ds,v,h=>by
  unfold DAt at h ⊢;obtain⟨p,xs,h1,h2,h3⟩:=h;exact⟨p,xs,h1,s _ _ h2,DAll.same s ds xs h3⟩
 | .dict _,v,h=>by unfold DAt at h;exact h.elim
theorem DAll.same{H H':Hp}(s:Same H H'):∀(ds:List PyData) (vs:List V),DAll H ds vs->DAll H' ds vs
 | [],vs,h=>by unfold DAll at h ⊢; exact h
 | d::ds,vs,h=>by
  unfold DAll at h ⊢;obtain⟨v,r,h1,h2,h3⟩:=h;exact⟨v,r,h1,DAt.same s d v h2,DAll.same s ds r h3⟩
end
theorem F5{H:Hp}:DAll H [] []:=by unfold DAll;rfl
theorem Jr{H:Hp}{d:PyData}{ds:List PyData}{v:V}{vs:List V}(h:DAt H d v)(hs:DAll H ds vs):DAll H (d::ds) (v::vs):=by unfold DAll;exact⟨v,vs,rfl,h,hs⟩
theorem Js{H:Hp}{d:PyData}{v:V}:∀{ds:List PyData} {vs:List V},DAll H ds vs->DAt H d v->DAll H (ds++[d]) (vs++[v])
 | [],vs,h,hd=>by
  unfold DAll at h;subst h;exact Jr hd F5
 | e::ds,vs,h,hd=>by
  unfold DAll at h;obtain⟨u,r,rfl,h2,h3⟩:=h;exact Jr h2 (Js h3 hd)
theorem F6{H:Hp}:∀{ds:List PyData} {vs:List V},DAll H ds vs->vs.length=ds.length
 | [],vs,h=>by unfold DAll at h;subst h;rfl
 | e::ds,vs,h=>by
  unfold DAll at h;obtain⟨u,r,rfl,h2,h3⟩:=h;rw[Pc,Pc,F6 h3]
theorem Mi{H:Hp}:∀{ds:List PyData} {vs:List V} {i:Nat} {d:PyData},DAll H ds vs->ds[i]? = some d->∃v,vs[i]? = some v/\DAt H d v
 | [],vs,i,d,h,e=>by simp at e
 | c::ds,vs,0,d,h,e=>by
  unfold DAll at h;obtain⟨u,r,rfl,h2,h3⟩:=h;simp at e;subst e;exact⟨u,rfl,h2⟩
 | c::ds,vs,i+1,d,h,e=>by
  unfold DAll at h;obtain⟨u,r,rfl,h2,h3⟩:=h;simpa using Mi h3 (by simpa using e)
theorem Mj{H:Hp}(row:List Str):DAll H (row.map PyData.str) (row.map V.str):=by
 induction row with
 | nil=>exact F5
 | cons x r ih=>exact Jr (by unfold DAt;rfl) ih
theorem Xjv{H:Hp}(row:List Int):DAll H (row.map PyData.int) (row.map V.int):=by
 induction row with
 | nil=>exact F5
 | cons x r ih=>exact Jr (by unfold DAt;rfl) ih
theorem Ml{H:Hp}{ds:List PyData}{p:Addr}{xs:List V}(h:H p=some (.tup xs))(hs:DAll H ds xs):DAt H (.tuple ds) (.ref p):=by unfold DAt;exact⟨p,xs,rfl,h,hs⟩
theorem Xc0{H:Hp}{ds:List PyData}{p:Addr}{xs:List V}(h:H p=some (.lst xs))(hs:DAll H ds xs):DAt H (.list ds) (.ref p):=by unfold DAt;exact⟨p,xs,rfl,h,hs⟩
theorem Mm{H:Hp}{ds:List PyData}{v:V}(h:DAt H (.tuple ds) v):∃p xs,v = .ref p/\H p=some (.tup xs)/\DAll H ds xs:=by unfold DAt at h;exact h
section
variable {X:Cx}{pins:List (Addr×Obj)}{σ:St}{H:Hp}{s:Shared}
mutual
theorem Fe(I:Inv X pins σ H s):∀(d:PyData) (v:V) (u:Value),DAt H d v->Ah v u->∃as,Reads s.heap u d as
 | .none,v,u,h,r=>by unfold DAt at h;subst h;cases r;exact⟨_,.none⟩
 | .bool b,v,u,h,r=>by unfold DAt at h;subst h;cases r;exact⟨_,.bool b⟩
 | .int i,v,u,h,r=>by unfold DAt at h;subst h;obtain⟨t,rfl⟩:=r;exact⟨_,.int i t⟩
 | .str x,v,u,h,r=>by unfold DAt at h;subst h;obtain⟨t,rfl⟩:=r;exact⟨_,.str x t⟩
 | .list ds,v,u,h,r=>by
  unfold DAt at h;obtain⟨p,xs,rfl,hp,hs⟩:=h;cases r;obtain⟨its,rv,pl,hz⟩:=I.list (SqL.of (K:=X.K) hp);obtain⟨as,ra⟩:=Mn I ds xs its hs rv;obtain⟨o,ho,hc,n,hd⟩:=pl.isList;exact⟨_,.list ho hc hd (by simpa using ra)⟩
 | .tuple ds,v,u,h,r=>by
  unfold DAt at h;obtain⟨p,xs,rfl,hp,hs⟩:=h;cases r;obtain⟨its,rv,pl,hz⟩:=I.tuple (SqT.of (K:=X.K) hp);obtain⟨as,ra⟩:=Mn I ds xs its hs rv;obtain⟨o,ho,hc,n,hd⟩:=pl;exact⟨_,.tuple ho hc hd (by simpa using ra)⟩
 | .dict _,v,u,h,r=>by unfold DAt at h;exact h.elim
theorem Mn(I:Inv X pins σ H s):∀(ds:List PyData) (vs:List V) (us:List Value),DAll H ds vs->Vals vs us->∃as,ReadsAll s.heap us ds as
 | [],vs,us,h,r=>by unfold DAll at h;subst h;cases r;exact⟨_,.nil⟩
 | d::ds,vs,us,h,r=>by
  unfold DAll at h;obtain⟨v,vr,rfl,h1,h2⟩:=h;cases r with
  | cons r1 r2=>
   obtain⟨a1,q1⟩:=Fe I d v _ h1 r1;obtain⟨a2,q2⟩:=Mn I ds vr _ h2 r2;exact⟨_,.cons q1 q2⟩
end
theorem Xc1(hu:X.A.units+3<cLine):OpR X (compareOp .Eq) (λx y H Q=>∃d d',DAt H d x/\DAt H d' y/\d.canLay0=true/\d'.canLay0=true/\min d.depth d'.depth<=3/\Q (.bl (PyData.eqv d d')) H):=by
 intro pins s σ H x y v u Q I rx ry h;obtain⟨d,d',h1,h2,c1,c2,hd,q⟩:=h;obtain⟨as,ra⟩:=Fe I d x v h1 rx;obtain⟨bs,rb⟩:=Fe I d' y u h2 ry;exact SeqAt.compareEq_reads ra rb c1 c2 (by omega) ⟨.bl _,H,I,rfl,q⟩
theorem Jt(hu:X.A.units+3<cLine):OpR X (compareOp .NotEq) (λx y H Q=>∃d d',DAt H d x/\DAt H d' y/\d.canLay0=true/\d'.canLay0=true/\min d.depth d'.depth<=3/\Q (.bl (!PyData.eqv d d')) H):=by
 intro pins s σ H x y v u Q I rx ry h;obtain⟨d,d',h1,h2,c1,c2,hd,q⟩:=h;obtain⟨as,ra⟩:=Fe I d x v h1 rx;obtain⟨bs,rb⟩:=Fe I d' y u h2 ry;exact SeqAt.compareNe_reads ra rb c1 c2 (by omega) ⟨.bl _,H,I,rfl,q⟩
end
mutual
def B9:PyData->Bool
 | .none | .int _=>true
 | .str x=>PyData.strOk x
 | .list xs | .tuple xs=>C8 xs
 | .bool _ | .dict _=>false
def C8:List PyData->Bool
 | []=>true
 | x::xs=>B9 x&&C8 xs
end
mutual
theorem C0:∀d:PyData,B9 d=true->d.canLay0=true
 | .none,_=>rfl
 | .int _,_=>rfl
 | .str x,h=>h
 | .list xs,h=>Hh xs h
 | .tuple xs,h=>Hh xs h
 | .bool _,h=>nomatch h
 | .dict _,h=>nomatch h
theorem Hh:∀ds:List PyData,C8 ds=true->PyData.canLayAll0 ds=true
 | [],_=>rfl
 | d::ds,h=>by
  have h':(B9 d&&C8 ds)=true:=h;rw[O9] at h';show (d.canLay0&&PyData.canLayAll0 ds)=true;rw[C0 d h'.1,Hh ds h'.2];rfl
end
mutual
theorem Mo:∀(d d':PyData),B9 d=true->B9 d'=true->(PyData.eqv d d'=true↔d=d')
 | .none,d',_,h=>by cases d'<;>simp[PyData.eqv]
 | .int i,d',_,h=>by cases d'<;>simp_all [PyData.eqv,B9]
 | .str x,d',_,h=>by cases d'<;>simp_all [PyData.eqv,B9]
 | .list xs,d',g,h=>by
  cases d' with
  | list ys=>
   have:=Mp xs ys g h;simp only[PyData.eqv,this,PyData.list.injEq]
  | _=>simp[PyData.eqv]
 | .tuple xs,d',g,h=>by
  cases d' with
  | tuple ys=>
   have:=Mp xs ys g h;simp only[PyData.eqv,this,PyData.tuple.injEq]
  | _=>simp[PyData.eqv]
 | .bool _,_,g,_=>nomatch g
 | .dict _,_,g,_=>nomatch g
theorem Mp:∀(xs ys:List PyData),C8 xs=true->C8 ys=true->(PyData.eqvAll xs ys=true↔xs=ys)
 | [],[],_,_=>by simp[PyData.eqvAll]
 | [],_::_,_,_=>by simp[PyData.eqvAll]
 | _::_,[],_,_=>by simp[PyData.eqvAll]
 | x::xs,y::ys,g,h=>by
  have g':(B9 x&&C8 xs)=true:=g;have h':(B9 y&&C8 ys)=true:=h;rw[O9] at g' h';have e1:=Mo x y g'.1 h'.1;have e2:=Mp xs ys g'.2 h'.2;simp only[PyData.eqvAll,O9,e1,e2,List.cons.injEq]
end
theorem Xc2{α : Type}[DecidableEq α](f : α->PyData)(inj:∀a b,f a=f b->a=b)(a b : α)(ha:B9 (f a)=true)(hb:B9 (f b)=true):PyData.eqv (f a) (f b)=decide (a=b):=by
 rw[Qo,Mo _ _ ha hb,decide_eq_true_eq];exact⟨inj a b,λe=>by rw[e]⟩
theorem plainAll_map{α : Type}(f : α->PyData):∀(xs:List α),(∀x∈xs,B9 (f x)=true)->C8 (xs.map f)=true
 | [],_=>rfl
 | x::xs,h=>by
  show (B9 (f x)&&C8 (xs.map f))=true;rw[h x Ow,plainAll_map f xs λy hy=>h y (Ou _ hy)];rfl
section
variable {X:Cx}{tg:Expr}
def Xjw (tl:TE):TI:=fun σ H R=>tl σ H λx H1=>∃d kvs,x = .ref d/\((H1 d=some (.dK kvs)/\∀o,R (Itd d o kvs) (upd H1 d (.frz o (.dK kvs)))) \/ ∃o,H1 d=some (.frz o (.dK kvs))/\R (Itd d o kvs) H1)
theorem F7{l:Expr}{tl:TE}(hl:PE X l tl):PI X tg l (Xjw tl):=by
 intro pins s σ H R I h;refine thn (hl pins s σ H _ I h) λv s1 ⟨x,H1,I1,r1,q1⟩=>?_;obtain⟨d,kvs,e,q⟩:=q1;subst e;cases r1;rcases q with ⟨hH,q⟩ | ⟨o,hH,q⟩
 ·obtain⟨hz,hm,vs,rv,o,es,ep,ho,hex,hd,r⟩:=I1.hok d _ hH;have hlen:kvs.length=vs.length:=Paired.length rv;refine wpAny_pyIter_dict (knd:=Bi X.prog X.w) hm ⟨o,es,ho,hex,hd,r⟩ ?_;have I2:=I1.freeze hH ho;refine⟨s1.heap.objs.size,[s1.heap.objs.size],_,_,_,rfl,I2.kept (t':=s1.toks) λb o e=>Tr _ e,Ly d _ o es ep hd kvs (O1 (Tq ho)),⟨_,Heap.get?_push_size _ rfl,rfl,by rw[hlen];rfl⟩,λb hb=>?_,q o⟩;have e:b=s1.heap.objs.size:=by simpa using hb
  subst e;exact I2.fpOk (Oq _) (I2.hok.fresh (Oq _))
 ·obtain⟨ho',hok⟩:=(show A0 X.prog X.w H1 s1.heap d (.frz o (.dK kvs)) from I1.hok d _ hH);obtain⟨hz,hm,vs,rv,o',es,ep,ho,hex,hd,r⟩:=hok;have eo:o'=o:=by rw[ho'] at ho;exact(Pa ho).symm
  subst eo;have hlen:kvs.length=vs.length:=Paired.length rv;refine wpAny_pyIter_dict (knd:=Bi X.prog X.w) hm ⟨o',es,ho,hex,hd,r⟩ ?_;refine⟨s1.heap.objs.size,[s1.heap.objs.size],_,_,_,rfl,I1.kept (t':=s1.toks) λb o e=>Tr _ e,Ly d _ o' es ep hd kvs (O1 (Tq ho)),⟨_,Heap.get?_push_size _ rfl,rfl,by rw[hlen];rfl⟩,λb hb=>?_,q⟩;have e:b=s1.heap.objs.size:=by simpa using hb
  subst e;exact I1.fpOk (Oq _) (I1.hok.fresh (Oq _))
end
def hid (D:Addr) (H:Hp):Hp:=λb=>if b=D then none else H b
theorem Hi(D:Addr)(H:Hp):Same (hid D H) H:=λb o e=>by
 unfold hid at e;split at e
 ·cases e
 ·exact e
theorem Xc3(D:Addr)(H:Hp)(o:HO):hid D (upd H D o)=hid D H:=by
 funext b;unfold hid;split
 ·rfl
 ·rename_i h;rw[Ad h]
theorem Hj{D:Addr}{H H':Hp}(s:Same H H'):Same (hid D H) (hid D H'):=λb o e=>by
 unfold hid at e ⊢;split at e
 ·cases e
 ·rename_i h;rw[Tj h];exact s b o e
theorem F8{D b:Addr}{H:Hp}{o:HO}(h:H b=some o)(n:b≠D):hid D H b=some o:=by
 unfold hid;rw[Tj n];exact h
theorem Xc4{D p:Addr}{H:Hp}{o:HO}{ds:List PyData}{xs:List V}(hD:H D=some o)(np:H p=none)(h:DAll (hid D (upd H p (.tup xs))) ds xs):DAt (hid D (upd H p (.tup xs))) (.tuple ds) (.ref p):=
 Ml (F8 Ac (Aw hD np).symm) h
section
variable {tt:TT}{te:TE}{J:It}{σ:St}{H0 H1:Hp}{D:Addr}{F:St->Hp->Prop}{j:Nat}{xs0:List V}
theorem Xc5(n:Nat)(vs:Nat->V)(ok:Nat->Bool)(dat:Nat->PyData)(acc:List PyData)(hH:H0 D=none)(s0:Same H0 H1)(hxs:H1 D=some (.lst xs0))(hall:DAll (hid D H1) acc xs0)(hbd:acc.length+n<sizeLine)
  (hgo:∀i H2,i<n->Same H0 H2->J.go i H2/\∀x H3,J.yld i H2 x H3->H3=H2/\x=vs i)
  (hst:∀H2,Same H0 H2->J.stop n H2)
  (tst:∀(i:Nat) H2 Q,i<n->Same H0 H2->(∀H',Same H2 H'->Q (ok i) H')->tt (σ.set j (some (vs i))) H2 Q)
  (step:∀(i:Nat) xs H2 Q,i<n->ok i=true->Same H0 H2->H2 D=some (.lst xs)->(∀v H',Same H2 H'->DAt (hid D H') (dat i) v->Q v H')->te (σ.set j (some (vs i))) H2 Q)
  (fin:∀σ' H2 xs,(∀v, σ'.set j v = σ.set j v)->Same H0 H2->H2 D=some (.lst xs)->DAll (hid D H2) (acc++((List.range n).filter ok).map dat) xs->F σ' H2):
  tLp (Bp j) tt (Jl te D) J σ H1 F:=by
 refine⟨wN n λi σ2 H2=>(∀v, σ2.set j v = σ.set j v)/\Same H0 H2/\∃xs,H2 D=some (.lst xs)/\DAll (hid D H2) (acc++((List.range i).filter ok).map dat) xs,⟨n,by simp,Pq _,λ_=>rfl,s0,xs0,hxs,by simpa using hall⟩,?_⟩;rintro i m σ1 H2 ⟨rfl,hi,e,s2,xs,hD,hal⟩;by_cases hlt:i<n
 ·obtain⟨h1,h2⟩:=hgo i H2 hlt s2;refine .inr ⟨h1,λx H3 y=>?_⟩;obtain⟨e1,e2⟩:=h2 x H3 y;subst e1 e2;show tt (σ1.set j (some (vs i))) H3 _;rw[e];refine tst i H3 _ hlt s2 λH4 s4=>?_;have s04:=s2.trans s4;have hD4:=s4 _ _ hD;have hal4:=DAll.same (Hj (D:=D) s4) _ _ hal;have hss:∀v,(σ.set j (some (vs i))).set j v = σ.set j v:=λv=>by rw[Tc]
  have hl:xs.length<=acc.length+i:=by
   rw[F6 hal,Oy,Oo];have:((List.range i).filter ok).length<=i:=Pr (Pt ..) (by rw[P2];omega);omega
  refine Be (λhk=>?_) (λhk=>?_)
  ·show te (σ.set j (some (vs i))) H4 _;refine step i xs H4 _ hlt hk s04 hD4 λv H5 s5 hv=>?_;refine⟨xs,s5 _ _ hD4,by omega,?_⟩;refine wskip hlt ⟨hss,λb u e'=>?_,xs++[v],Ac,?_⟩
   ·rw[Ad (Aw e' hH)];exact s5 _ _ (s04 b u e')
   ·rw[Xc3,Qc,Pk,O5,<-Pj];simp only[Pw,hk,if_true,List.filter_nil,Pg,List.map_nil];exact Js (DAll.same (Hj (D:=D) s5) _ _ hal4) hv
  ·refine wskip hlt ⟨hss,s04,xs,hD4,?_⟩;rw[Qc,Pk];simpa [hk] using hal4
 ·have ei:i=n:=by omega
  subst ei;exact .inl ⟨hst H2 s2,fin σ1 H2 xs e s2 hD hal⟩
theorem Xjx{tm:TM}(n:Nat)(vs:Nat->V)(acc:Nat->List PyData)(hH:H0 D=none)(s0:Same H0 H1)(hxs:H1 D=some (.lst xs0))(hall:DAll (hid D H1) (acc 0) xs0)(Eσ:St->Prop)(hE:Eσ σ)
  (hgo:∀i H2,i<n->Same H0 H2->J.go i H2/\∀x H3,J.yld i H2 x H3->H3=H2/\x=vs i)
  (hst:∀H2,Same H0 H2->J.stop n H2)
  (step:∀(i:Nat) σ1 xs H2 (Q:St->Hp->Prop),i<n->Eσ σ1->Same H0 H2->H2 D=some (.lst xs)->DAll (hid D H2) (acc i) xs->(∀σ' H' xs',Eσ σ'->Same H0 H'->H' D=some (.lst xs')->DAll (hid D H') (acc (i+1)) xs'->Q σ' H')->tm (σ1.set j (some (vs i))) H2 Q)
  (fin:∀σ' H2 xs,Same H0 H2->H2 D=some (.lst xs)->DAll (hid D H2) (acc n) xs->F σ' H2):
  tLp (Bp j) Eo tm J σ H1 F:=by
 refine⟨wN n λi σ2 H2=>Eσ σ2/\Same H0 H2/\∃xs,H2 D=some (.lst xs)/\DAll (hid D H2) (acc i) xs,⟨n,by simp,Pq _,hE,s0,xs0,hxs,hall⟩,?_⟩;rintro i m σ1 H2 ⟨rfl,hi,e,s2,xs,hD,hal⟩;by_cases hlt:i<n
 ·obtain⟨h1,h2⟩:=hgo i H2 hlt s2;refine .inr ⟨h1,λx H3 y=>?_⟩;obtain⟨e1,e2⟩:=h2 x H3 y;subst e1 e2;unfold Bp Eo;dsimp only;rw[Tk rfl];exact step i σ1 xs H3 _ hlt e s2 hD hal fun σ' H' xs' e' s' hD' hal'=>wskip hlt ⟨e',s',xs',hD',hal'⟩
 ·have ei:i=n:=by omega
  subst ei;exact .inl ⟨hst H2 s2,fin σ1 H2 xs s2 hD hal⟩
end
section
variable {X:Cx}{pos np hpos:Pos}{body:List Stmt}{b0:Stmt}{suite:List Stmt}{x:Str}{Cc:Addr}{tb:(Addr->St->Hp->Prop)->TS}{th:TS}
def Xjy (K:PySem.W.Frag) (Cc:Addr) (tb:(Addr->St->Hp->Prop)->TS) (th:TS):TS:=λD σ H=>∃R:Addr->St->Hp->Prop,tb R D σ H/\∀C σ1 H1,R C σ1 H1->PySem.W.exmOne K (.ref C) (.ref Cc)=some true/\th D σ1 H1
theorem Xjz(hst:X.stack=X.env::X.outer)(hfr:X.env.frame=some X.env.locals)(hg:Gl X x)(hm:X.mg x=some (.ref Cc))
  (hb:∀pn R,PSs (X.tryC pn R) body (tb R)) (hh:∀pn ex,PSs (X.suite pn ex) (b0::suite) th) (hdb:(x==("__debug__" : Str))=false:=by decide):
  PS X (.Try body [.ExceptHandler (some (.Name x np)) none (b0::suite) hpos] [] [] pos) (Xjy X.K Cc tb th):=by
 intro pins s σ H D I h;obtain⟨R,hbd,hcx⟩:=h;have hsubs:∀p∈X.pn++pins++[],p∈X.pn++pins:=λp hp=>by simpa using hp
 have hsubs':∀p∈X.pn++pins,p∈X.pn++pins++[]:=λp hp=>by simpa using hp
 have I0:Inv (X.tryC (X.pn++pins) R) [] σ H s:=I.as I.ok.hd I.ok.frames hsubs;refine wpAny_Try_except (wpAny_mono (hb (X.pn++pins) R [] s σ H D I0 hbd) (λfl s1 q=>?_) λe s1 q=>?_)
 ·have toX:∀{σ':St} {H':Hp},Inv (X.tryC (X.pn++pins) R) [] σ' H' s1->Inv X pins σ' H' s1:=λJ=>J.back I.ok hsubs';cases fl with
  | next=>
   obtain⟨σ',H',J,q⟩:=q;exact wpAny_execs_nil ⟨σ',H',toX J,q⟩
  | brk=>
   obtain⟨σ',H',J,q⟩:=q;exact⟨σ',H',toX J,q⟩
  | cont=>
   obtain⟨σ',H',J,q⟩:=q;exact⟨σ',H',toX J,q⟩
  | ret u=>
   obtain⟨v, σ',H',J,r,q⟩:=q;exact⟨v, σ',H',toX J,r,q⟩
 ·obtain⟨σ1,Hc,sc,Ic,ex,c,H1,B,a0,rfl,hos,hbare,F,C,hC,hR⟩:=q;cases hC;obtain⟨hx,hth⟩:=hcx c σ1 H1 hR;have F':Flown X.prog X.w (X.env::X.outer) Hc sc.heap H1 ex c B a0 s1.heap:=by rw[<-hst];exact F
  have hfrm:X.A.frames=some (X.env::X.outer):=by rw[<-hst];exact I.ok.frames
  have step:∀(h5:Heap) (tk:Nat),B.StaysIn h5->s1.heap.UpToSlots h5->Inv (X.re (X.pn++pins) X.A X.calm λ_ _=>True) [] σ1 H1 {s1 with heap:=h5,toks:=tk}:=λh5 tk st up=>by
   obtain⟨un,hok,_⟩:=F'.move st up;refine Ic.call' (ch:=[]) hos ?_ hok hbare (λb z=>absurd z (by simp));show Un (frs X.stack) [] Hc H1 sc.heap h5;rw[hst];exact un
  refine wpAny_looks_onW (L:=X.env.locals) hfrm hfr F'.fly λh4 held up4=>?_;refine wpAny_landsW held λh5 fl5 up5=>?_;have I5:=step h5 s1.toks fl5.1 (up4.trans up5);have I5S:Inv (X.suite (X.pn++pins) ex) [] σ1 H1 {s1 with heap:=h5}:=Inv.as (X:=X.re (X.pn++pins) X.A X.calm λ_ _=>True) I5 (λz=>absurd z (by decide)) I.ok.frames (λp hp=>hp);have LT:PySem.W.Looks (model X.prog X.w) h5 (typeOf (.ref ex)) (.ref c):=by
   obtain⟨ob,hob,hobc⟩:=fl5.there;rw[<-hobc];exact(PySem.W.Looks.ld hob).andThen .now
  refine wpAny_handleBy_cons (codeAny_handlers_test ?_) (by intro q;cases q);refine Im (X:=X.suite (X.pn++pins) ex) I5S (show Gl (X.suite (X.pn++pins) ex) x from hg) hm ?_ hdb;refine(PySem.W.exm_one (I5S.kIn) LT hx).here ?_;refine codeAny_handlers_suite (lands_againW fl5 λh6 fl6 up6=>?_);have up16:=(up4.trans up5).trans up6;have I6:=step h6 s1.toks fl6.1 up16;have I6S:Inv (X.suite (X.pn++pins) ex) [] σ1 H1 {s1 with heap:=h6}:=Inv.as (X:=X.re (X.pn++pins) X.A X.calm λ_ _=>True) I6 (λz=>absurd z (by decide)) I.ok.frames (λp hp=>hp);refine wpAny_mono (hh (X.pn++pins) ex [] _ _ _ _ I6S hth) (λfl s9 q9=>?_) λ_ _ z=>z.elim;have goes:∀{σ':St} {H':Hp},Inv (X.suite (X.pn++pins) ex) [] σ' H' s9->Inv X pins σ' H' s9:=λJ=>J.back I.ok hsubs';cases fl with
  | next=>
   obtain⟨σ',H',J,q⟩:=q9;exact⟨σ',H',goes J,q⟩
  | brk=>
   obtain⟨σ',H',J,q⟩:=q9;exact⟨σ',H',goes J,q⟩
  | cont=>
   obtain⟨σ',H',J,q⟩:=q9;exact⟨σ',H',goes J,q⟩
  | ret u=>
   obtain⟨v, σ',H',J,r,q⟩:=q9;exact⟨v, σ',H',goes J,r,q⟩
end
section
variable {X:Cx}
theorem Xj0:Br X (.builtin "sorted") (λxs H Q=>∃a ks,xs=[.ref a]/\H a=some (.lst (ks.map V.str))/\ks.length<64/\∀l,H l=none->Q (.ref l) (upd H l (.lst ((srt ks).map V.str)))):=by
 intro pins s σ H xs us Q I r h;obtain⟨a,ks,rfl,ha,h64,q⟩:=h;obtain⟨u,rfl,rx⟩:=B4 r;cases rx;obtain⟨its,rv,pl,hz⟩:=I.list (SqL.of ha);have hl:=rv.length;rw[Oo] at hl;refine sorted_strs pl.isList (Fz rv) (by omega) λout ss' h1 h2 h3=>?_;obtain⟨e,he⟩:=sortedAll_at s.heap its out;have es:ss'=srt ks:=F0 h2 h3;subst es;have hf:H (s.heap.objs.size+1)=none:=I.hok.fresh (Qt _);refine⟨.ref (s.heap.objs.size+1),_,I.laid (t':=s.toks) (h':=sortedAll s.heap its out) (o:=.lst ((srt ks).map V.str)) (λb ob q=>sortedAll_old q) (Qt _) ?_,rfl,q _ hf⟩;refine⟨by rw[Oo,h2.length_eq,Ti];omega,out.toList,e,Xcd h1,?_⟩;rw[he]
def Xj1:R2:=λx y H Q=>∃a b xs ys,x = .ref a/\y = .ref b/\H a=some (.tup xs)/\H b=some (.tup ys)/\xs.length+ys.length<=sizeLine/\∀p H',Same H H'->H' p=some (.tup (xs++ys))->Q (.ref p) H'
theorem Xj2:OpR X (binaryOp .Add) Xj1:=by
 intro pins s σ H x y v u Q I rx ry h;obtain⟨a,b,xs,ys,rfl,rfl,ha,hb,hz,q⟩:=h;by_cases hx:xs=[]
 ·subst hx;cases rx;cases ry;obtain⟨its,r1,p1,_⟩:=I.tuple (SqT.of (K:=X.K) ha);obtain⟨its2,r2,p2,_⟩:=I.tuple (SqT.of (K:=X.K) hb);cases r1;obtain⟨⟨cls,dd,data,sl⟩,ho,hc,n,hd⟩:=id p1;obtain⟨⟨cls2,dd2,data2,sl2⟩,ho2,hc2,n2,hd2⟩:=id p2;simp only at hc hd hc2 hd2;subst hc hd hc2 hd2;exact concat_meets ⟨_,ho,rfl⟩ ⟨_,ho2,rfl⟩ noFill_tuple_add seq_tuple_add PySem.F.slot_tuple_add PySem.F.entry_tuple_add (PySem.F.args_tuple_add_2 _ _)
   (tuple_addW0 a b _ _ n n2 dd dd2 sl sl2 (by simp)) ⟨ho,ho2,⟨.ref b,H,I,rfl,q b H (Same.refl H) hb⟩⟩
 ·refine Xg8 pins s σ H (.ref a) (.ref b) v u Q I rx ry ⟨a,b,xs,ys,rfl,rfl,SqT.of ha,SqT.of hb,hx,hz,λhy=>?_,λhy p np=>?_⟩
  ·subst hy;exact q a H (Same.refl H) (by rw[Qa];exact ha)
  ·exact q p _ ((Same.refl H).step np) Ac
end
end L2
namespace HT
open PySem PySem.Spec PyProof.Rows PySem.Calls L2
section
variable {prog:Program}{w:World}{A:Around}{E:Value->Shared->Prop}{s:Shared}
end
end HT
namespace L2
open PySem PySem.Spec PyProof.Rows
section
variable {X:Cx}{pos p2:Pos}{e:Expr}{te:TE}
def tRevT (te:TE):TE:=fun σ H Q=>te σ H λx H1=>∃a xs,x = .ref a/\H1 a=some (.tup xs)/\∀p,H1 p=none->Q (.ref p) (upd H1 p (.tup xs.reverse))
end
section
variable {X:Cx}{es:List Expr}{t:L2.St->Hp->(Hp->Prop)->Prop}{e:Expr}{te:TE}{pos:Pos}
def Xj3 (te:TE) (t:L2.St->Hp->(Hp->Prop)->Prop):L2.St->Hp->(Hp->Prop)->Prop:=fun σ H Q=>te σ H λx H1=>∃(a:Addr) (ss:List Str),x = .ref a/\H1 a=some (.tup (ss.map V.str))/\ss.length<=24/\(∀z∈ss,z.length<=20/\∀c∈z.cps.toList,c<16 ^ 8)/\t σ H1 Q
theorem Xc6:∀(ss:List Str),(∀z∈ss,z.length<=20/\∀c∈z.cps.toList,c<16 ^ 8)->piled (ss.map reprText)<=204 * ss.length
 | [],_=>by simp[piled]
 | z::ss,h=>by
  obtain⟨h1,h2⟩:=h z Ow;have:=StrLaws.reprText_len z h2;have ih:=Xc6 ss λy hy=>h y (Ou _ hy);rw[Pg,piled_cons,Pc];omega
theorem Xj4(ts:List Str):(tupleText ts).length<=piled ts+3:=by
 unfold tupleText;rw[strLen_append,strLen_append];have e1:((("(" : String):Str)).length=1:=rfl;have e3:(((if ts.length==1 then ",)" else ")" : String):Str)).length<=2:=by split<;>decide
 rw[e1];by_cases h:ts=[]
 ·subst h;have:(Str.join ", " []).length=0:=rfl;omega
 ·have:=join_length_add ts h;omega
theorem Xc7{P:Program}{w:World}:∀{ss:List Str} {us:List Value},(∀z∈ss,z.length<=20/\∀c∈z.cps.toList,c<16 ^ 8)->Vals (ss.map V.str) us->ReprAll P w us (ss.map reprText)
 | [],_,_,r=>by cases r;exact .nil
 | z::ss,_,h,r=>by
  cases r with
  | cons r1 r2=>
   obtain⟨tk,rfl⟩:=r1;obtain⟨h1,h2⟩:=h z Ow;have:=StrLaws.reprText_len z h2;exact .cons (ReprIs.str z tk (by rw[Ti];omega)) (Xc7 (λy hy=>h y (Ou _ hy)) r2)
theorem Xj5{k:Nat}{p:Pos}(hr:Room k X.A)(ha:PE X e te)(h:PJ X es t)(he:evalEach (.FormattedValue e 114 none p::es) X.env=eval (.FormattedValue e 114 none p) X.env::evalEach es X.env:=by rfl):PJ X (.FormattedValue e 114 none p::es) (Xj3 te t):=by
 intro out pins s σ H Q I hw hl;rw[he];rw[Pc] at hl;refine joinParts_cons (wpAny_FormattedValue_repr (thn (ha pins s σ H _ I hw) λv s1 ⟨x,H1,I1,r1,q1⟩=>?_));obtain⟨a,ss,ez,hp,h1,h2,q⟩:=q1;subst ez;cases r1;obtain⟨its,rv,pl,hz⟩:=I1.tuple (SqT.of (K:=X.K) hp);obtain⟨o,ho,hc,n,hd⟩:=pl;have hz1:=Xj4 (ss.map reprText);have hz2:=Xc6 ss h2;have hz3:(tupleText (ss.map reprText)).length<=5000:=by omega
 have hz4:(tupleText (ss.map reprText)).length<=sizeLine:=by rw[Ti];omega
 refine wpAny_pyReprObj_tuple (g:=[]) ⟨o,ho,hc⟩ hr.gd (by simp) hr.units0 ho hd (Xc7 h2 (by simpa using rv)) (λu tk=>?_) hz4;refine formatField_str (λt' k=>⟨by rw[Fc];omega,?_⟩) hz4;exact h _ pins _ σ H1 Q ((I1.tok _).tok _) q (by rw[Fc];omega)
end
def Ex (c:Addr) (q:Str):Heap->Prop:=λh=>h.CodeRec (.ref c) q
def Ey (f:Addr) (fd:FuncData):Heap->Prop:=λh=>∃o,h.get? f=some o/\o.data = .func fd
theorem Xj6{c:Addr}{q:Str}:∀h1 h2:Heap,Ex c q h1->(∀o,h1.get? c=some o->h2.get? c=some o)->Ex c q h2:=by
 rintro h1 h2 ⟨c1,o,vs,t,e,ho,r⟩ k;cases e;exact⟨c,o,vs,t,rfl,k _ ho,r⟩
theorem Xc8{f:Addr}{fd:FuncData}:∀h1 h2:Heap,Ey f fd h1->(∀o,h1.get? f=some o->h2.get? f=some o)->Ey f fd h2:=by
 rintro h1 h2 ⟨o,ho,r⟩ k;exact⟨o,k _ ho,r⟩
theorem Xj7{CX:CXT}{P:Program}{w:World}{K:PySem.W.Frag}{mg:Str->Option Value}{base:Heap}{A:Around}{outer:List Env}{s:Shared}{H:Hp}{k:Nat}{f c:Addr}{name qual:Str}{params:Arguments}{body:Expr}{scope:Scope}{pm ctv:Value}
  {N ps:List Str} {us:List Value} {vs:List V} {Q:VK} {E:XK} {t:TE}
  (hf:H f=some (.ext (Ey f (PySem.W.kla_fn name qual params body scope [] pm (.ref c) ctv)))) (hc:H c=some (.ext (Ex c qual))) (S:FnScope N ps scope) (hr:Room (k+1) A) (e0:Env0 P w K mg base A outer s H)
  (hl:vs.length=ps.length) (r:Vals vs us) (hb:bindArgs (PySem.W.kla_fn name qual params body scope [] pm (.ref c) ctv) ⟨us,[]⟩=pure (ps.zip us))
  (ht:PE (Cj CX P w K mg base N qual scope f (.ref c) A outer s H E) body t) (hq:t (start N vs) H Q):
  codeAny (model P w) A (.call (.ref f) ⟨us,[]⟩) (CR CX outer P w H s Q E) s:=by
 obtain⟨⟨of,hof,hod⟩,_⟩:=e0.hok f _ hf;obtain⟨hcod,_⟩:=e0.hok c _ hc;have lim:s.heap.NoLimit:=e0.mod.nolimit.keeps λb o e=>(e0.bs b o e).1;have hkind:∀y∈ps.zip us,scope.names.lookup y.1=some .local\/(scope.names.lookup y.1=some .cell/\((cellsFrom (s.heap.objs.size+1) scope.names []).lookup y.1).isSome=true):=λ⟨n,v⟩ hy=>by
  rcases S.par n (Sk hy).1 with q | q
  ·exact .inl q
  ·exact .inr ⟨q,PySem.W.cellsFrom_some _ _ _ (.inl q)⟩
 refine PySem.W.kla_callFunE hr.depth hof hod S.co S.gen rfl hcod ?_;rw[hb];refine Tf ?_;refine wpAny_newFunctionEnv_cells S.kind hkind λenv he s1 x=>?_;subst he;refine⟨lim.keeps x.toInCall.keep,PySem.W.kla_codeExpr ?_⟩;have I:Inv (Cj CX P w K mg base N qual scope f (.ref c) A outer s H E) [] (start N vs) H s1:=Xa3 S hr.hd e0 hl r x;refine wpAny_mono (ht [] s1 (start N vs) H _ I hq) (λu s' hs=>?_) λe s' hs=>hs;obtain⟨v,H',J,rv,q⟩:=hs;exact⟨v,H',J.os,J.bare,J.base,J.hok,rv,q⟩
def BmOk (mg:Str->Option Value) (base:Heap):Prop:=∃bm ob,mg "__builtins__" = some (.ref bm)/\bm≠builtinsNs/\base.get? bm=some ob/\ob.cls = .type "module" /\ ob.dict=some builtinsNs/\ob.data = .plain
def Am (T:Addr) (pos:Pos) (q:Str) (H:Hp):Prop:=H T=some (.tbl #[]) \/ ∃c,H T=some (.tbl #[rawInt pos.line,rawInt pos.col,.ref c])/\H c=some (.ext (Ex c q))
def tLam (T:Addr) (q:Str) (params:Arguments) (body:Expr) (scope:Scope) (pos:Pos):TE:=λ_ H Q=>Am T pos q H /\
 ∀(f c:Addr) (pm ctv:Value) (H':Hp),H f=none->H' f=some (.ext (Ey f (PySem.W.kla_fn "<lambda>" q params body scope [] pm (.ref c) ctv)))->H' c=some (.ext (Ex c q))->Am T pos q H'->(∀b o,H b=some o->b≠T->H' b=some o)->Q (.ref f) H'
section
variable {X:Cx}{T c0:Addr}{params:Arguments}{body:Expr}{scope:Scope}{pos:Pos}{q:Str}
theorem Xj8{pins:List (Addr×Obj)}{σ:St}{H:Hp}{s:Shared}{h':Heap}{tk:Nat}{fd:FuncData}{o:Obj}(I:Inv X pins σ H s)(k:∀b o,s.heap.get? b=some o->h'.get? b=some o)(hsz:s.heap.objs.size<=h'.objs.size)(ho:o.data = .func fd)(hfr:o.isFreed=false):
  Inv X pins σ (upd H h'.objs.size (.ext (Ey h'.objs.size fd))) {s with heap:=h'.push o,toks:=tk}:=by
 refine I.laid (t':=tk) (h':=h'.push o) (λb ob e=>Tr _ (k b ob e)) hsz ?_;exact⟨⟨o,Heap.get?_push_size _ hfr,ho⟩,⟨o,Heap.get?_push_size _ hfr⟩,Xc8⟩
theorem Xj9{pins:List (Addr×Obj)}{σ:St}{H:Hp}{s:Shared}{h':Heap}{tk:Nat}{fd:FuncData}{o:Obj}{c:Addr}{ps:Array Value}(I:Inv X pins σ H s)(hT:H T=some (.tbl #[]))(hx:Heap.ExtBut T s.heap h')(hge:s.heap.objs.size<=c)(hlt:c<h'.objs.size)
  (hrec:h'.CodeRec (.ref c) q) (htb:h'.get? T=some (PySem.W.tabObj (#[]++ps))) (ho:o.data = .func fd) (hfr:o.isFreed=false):
  Inv X pins σ (upd (upd (upd H T (.tbl ps)) c (.ext (Ex c q))) h'.objs.size (.ext (Ey h'.objs.size fd))) {s with heap:=h'.push o,toks:=tk}:=by
 have htb':h'.get? T=some {cls:=.none,data:=.fields ps}:=by simpa using htb
 have nf:∀b u,s.heap.get? b=some u->b≠c/\b≠h'.objs.size:=λb u e=>by
  have z:=Pd (Tq e) hge;exact⟨O1 z,O1 (Rq z hlt)⟩
 have nH:∀b u,H b=some u->b≠c/\b≠h'.objs.size:=λb u e=>by
  have z:=Pd (I.hok.lt e) hge;exact⟨O1 z,O1 (Rq z hlt)⟩
 have nT:∀b,H b=none->b≠T:=λb n z=>by rw[z,hT] at n;cases n
 have kp:∀b u,b≠T->s.heap.get? b=some u->(h'.push o).get? b=some u:=λb u n e=>Tr _ (hx b u n e);have up:∀b u,H b=some u->b≠T->(upd (upd (upd H T (.tbl ps)) c (.ext (Ex c q))) h'.objs.size (.ext (Ey h'.objs.size fd))) b=some u:=λb u e n=>by
  rw[Ad (nH b u e).2,Ad (nH b u e).1,Ad n];exact e
 refine I.step (g':=s.gens) (d':=s.drawn) (t':=tk) (h':=h'.push o) (ch:=[]) (λ_ z=>nomatch z) (λb u _ _ _ e n=>kp b u (nT b n) e) (λb u _ _ _ e n=>⟨u.slots,kp b u (nT b n) e⟩) (λb u _ e n=>?_) (λb u _ e=>?_)
  (λb xs e=>up b _ e λz=>by rw[z,hT] at e;cases e) (λb u v e=>up b _ e λz=>by rw[z,hT] at e;cases e) (λb pz e=>?_) (λm hn=>(hn.extBut hx (nT _ I.free)).push _) ?_ I.bare
 ·rw[Ad (nf b u e).2,Ad (nf b u e).1,Ad (nT b n)];exact n
 ·by_cases z:b=T
  ·exact⟨_,z ▸ Tr _ htb'⟩
  ·exact⟨u,kp b u z e⟩
 ·by_cases z:b=T
  ·subst z;rw[hT] at e;cases e;refine⟨ps,?_⟩;rw[Ad (nH b _ hT).2,Ad (nH b _ hT).1,Ac];simp
  ·exact⟨#[],by rw[up b _ e z];simp⟩
 ·intro b u e;by_cases z1:b=h'.objs.size
  ·subst z1;rw[Ac] at e;cases e;exact⟨⟨o,Heap.get?_push_size _ hfr,ho⟩,⟨o,Heap.get?_push_size _ hfr⟩,Xc8⟩
  ·rw[Ad z1] at e;by_cases z2:b=c
   ·subst z2;rw[Ac] at e;cases e;obtain⟨c1,oc,vs,t,e1,hoc,r⟩:=hrec;cases e1;exact⟨⟨b,oc,vs,t,rfl,Tr _ hoc,r⟩,⟨oc,Tr _ hoc⟩,Xj6⟩
   ·rw[Ad z2] at e;by_cases z3:b=T
    ·subst z3;rw[Ac] at e;cases e;exact Tr _ htb'
    ·rw[Ad z3] at e;refine(I.hok b u e).stay (λd v hd g=>kp d v ?_ g) (λd g=>up d _ g λz=>by rw[z,hT] at g;cases g) λd xs g=>up d _ g λz=>by rw[z,hT] at g;cases g
     rcases hd with rfl | hd
     ·exact z3
     ·intro z;rw[z,hT] at hd;cases hd
theorem Xka(hbm:BmOk X.mg X.base)(hdef:defaultsOf params X.env=([],[]))(hcl:closureFor scope X.env=pure [])(hcode:X.env.code = .ref c0)(hhd:PySem.W.codeHdIn X.K c0 T=true)(hq:X.env.qual ++ "<lambda>" = q):
  PE X (.Lambda params body scope pos) (tLam T q params body scope pos):=by
 intro pins s σ H Q I h;obtain⟨tab,k⟩:=h;obtain⟨bm,ob,b1,b2,b3,b4,b5,b6⟩:=hbm;have hg:s.heap.Ns mainGlobals X.mg:=I.mod.glob.keeps I.bk;have C:PySem.W.CodeHd s.heap c0 T:=PySem.W.codeHd_of_K I.kIn hhd;have nb:bm≠T:=λz=>by
  have n:=(I.bs bm ob b3).2;rw[z] at n;rcases tab with e | ⟨c,e,_⟩<;>(rw[e] at n;cases n)
 have hbG:bm≠mainGlobals:=λz=>by
  obtain⟨o,es,ep,e,hd,_⟩:=I.mod.glob;rw[z,e] at b3;cases b3;rw[hd] at b6;cases b6
 have hB:s.heap.BuiltinsAt X.mg T:=⟨bm,ob,b1,b2,hbG,nb,I.bk _ _ b3,b4,b5,b6⟩;refine PySem.W.kla_eval hdef ?_;rw[hq];rcases tab with e | ⟨c,e,ec⟩
 ·have hP:s.heap.get? T=some (PySem.W.tabObj #[]):=I.hok T _ e;have hgT:mainGlobals≠T:=λz=>by
   obtain⟨o,es,ep,e2,hd,_⟩:=hg;rw[z,hP] at e2;cases e2;cases hd
  refine PySem.W.kla_makeFunction (mg:=X.mg) (clos:=[]) hcl I.ok.glob hg hcode C hP trivial rfl hgT hB λc' ctv h' tk hx hge hlt hrec htb=>?_;have J:=Xj9 (tk:=tk) (o:=PySem.W.kla_obj "<lambda>" q params body scope [] ((X.mg "__name__").getD .none) c' ctv) I e hx hge hlt hrec htb rfl rfl;have ltf:∀b o,H b=some o->b<c':=λb o eb=>Pd (I.hok.lt eb) hge;have ncT:c'≠T:=(O1 (ltf _ _ e)).symm;have nfc:c'≠h'.objs.size:=O1 hlt;have nTf:T≠h'.objs.size:=O1 (Rq (ltf _ _ e) hlt);refine⟨.ref h'.objs.size,_,J,rfl,k _ c' _ ctv _ (I.hok.fresh (R5 (Ss hge hlt))) Ac (by rw[Ad nfc,Ac]) (.inr ⟨c',by rw[Ad nTf,Ad ncT.symm,Ac],by rw[Ad nfc,Ac]⟩) λb o eb nb=>?_⟩;rw[Ad (O1 (Rq (ltf _ _ eb) hlt)),Ad (O1 (ltf _ _ eb)),Ad nb];exact eb
 ·have hP:s.heap.get? T=some (PySem.W.tabObj #[rawInt pos.line,rawInt pos.col,.ref c]):=I.hok T _ e;refine PySem.W.kla_makeFunctionHit (mg:=X.mg) (clos:=[]) (cv:=.ref c) hcl I.ok.glob hg hcode C hP trivial (by simp[codeAmong,rawInt]) hB λctv h' tk hk hsz=>?_;have J:=Xj8 (tk:=tk) (fd:=PySem.W.kla_fn "<lambda>" q params body scope [] ((X.mg "__name__").getD .none) (.ref c) ctv) (o:={cls:=.type "function",data:=.func (PySem.W.kla_fn "<lambda>" q params body scope [] ((X.mg "__name__").getD .none) (.ref c) ctv)}) I hk hsz rfl rfl;have nf:∀b o,H b=some o->b≠h'.objs.size:=λb o eb=>O1 (Pd (I.hok.lt eb) hsz);refine⟨.ref h'.objs.size,_,J,rfl,k _ c _ ctv _ (I.hok.fresh hsz) Ac (by rw[Ad (nf _ _ ec)];exact ec) (.inr ⟨c,by rw[Ad (nf _ _ e)];exact e,by rw[Ad (nf _ _ ec)];exact ec⟩) λb o eb _=>?_⟩;rw[Ad (nf b o eb)];exact eb
end
end L2
namespace SH
open PySem PySem.Spec PyProof.Rows L2
structure Bl (mg:Str->Option Value):Prop where
 len:mg "len" = none
 range:mg "range" = none
 list:mg "list" = none
 min:mg "min" = none
 isi:mg "isinstance" = none
 all:mg "all" = none
 str:mg "str" = none
 val:mg "ValueError" = none
 sorted:mg "sorted" = none
 set:mg "set" = none
 enum:mg "enumerate" = none
 int:mg "int" = none
 bool:mg "bool" = none
 tuple:mg "tuple" = none
 any:mg "any" = none
 dict:mg "dict" = none
 sum:mg "sum" = none
 max:mg "max" = none
structure DrawOk (H:Hp) (dr sc:Addr):Prop where
 ex:∃(ns:List Int) (p:Nat) (c m k:Int),H dr=some (.lst [.ref sc,.int p,.int c,.int m,.int k])/\H sc=some (.lst (ns.map V.int))/\p<=ns.length/\ns.length<=63/\0<=m/\m<1000000007
def Mq (K:PySem.W.Frag):Sp:=λvs H Q _=>∃(a:Addr) (ns:List Int),vs=[.ref a]/\SqL K H a (ns.map V.int)/\ns.length<=63/\∀dr sc H',H dr=none->H sc=none->DrawOk H' dr sc->Same H H'->Q (.ref dr) H'
def Xc9:Sp:=λvs H Q _=>∃(dr sc:Addr) (n:Int),vs=[.ref dr,.int n]/\0<n/\n<=1000/\DrawOk H dr sc /\
 ∀r H',0<=r->r<n->DrawOk H' dr sc->(∀b o,H b=some o->b≠dr->H' b=some o)->Q (.int r) H'
abbrev NP:List Str:=["_law_draw", "_law_many", "_law_cell", "_law_got"]
def D5 (H:Hp) (dr sc:Addr) (ns:List Int) (p:Nat) (c m k:Int):Prop:=H dr=some (.lst [.ref sc,.int p,.int c,.int m,.int k])/\H sc=some (.lst (ns.map V.int))
theorem cpow3{m:Int}(h0:0<=m)(h1:m<1000000007):CPow m 3:=⟨by decide,by decide,by omega⟩
def Ez (row:List Str) (x:Str) (a b:Nat):List Str:=row.take a++[x]++(row.drop a).take (b - a)++[x]++row.drop b
theorem Xda(row:List Str)(x:Str)(a b:Nat)(hab:a<=b):(Ez row x a b).Perm (x::x::row):=by
 unfold Ez;have e:row=row.take a++((row.drop a).take (b - a)++row.drop b):=by
  have e1:row.drop b=(row.drop a).drop (b - a):=by rw[List.drop_drop];congr 1;omega
  rw[e1,Pi,Pi]
 generalize hA:row.take a=A at *;generalize hB:(row.drop a).take (b - a)=B at *;generalize hC:row.drop b=C at *;rw[e];have p1:(A++[x]++B++[x]++C).Perm (x::(A++B++[x]++C)):=by
  have:A++[x]++B++[x]++C=A++x::(B++[x]++C):=by simp
  rw[this];refine Rs.trans ?_;simp
 refine p1.trans (List.Perm.cons x ?_);have:A++B++[x]++C=(A++B)++x::C:=by simp
 rw[this];refine Rs.trans ?_;simp
def Mr:Sp:=λvs H Q _=>∃(r:Addr) (row:List Str) (x:Str) (a b:Nat),vs=[.ref r,.str x,.int a,.int b]/\H r=some (.lst (row.map V.str))/\row.length<=1000/\a<=b/\b<=row.length /\
 ∀l H',H l=none->H' l=some (.lst ((Ez row x a b).map V.str))->Same H H'->Q (.ref l) H'
abbrev NPut:List Str:=["_law_row_here", "_law_name", "_law_at", "_law_to", "_law_told"]
def Bb (x:Str):Nat->List Str->List Int
 | _,[]=>[]
 | n,y::r=>if y=x then (n:Int)::Bb x (n+1) r else Bb x (n+1) r
def plc (row:List Str) (x:Str):List Int:=Bb x 0 row
theorem Xdb(x y:Str):∀(n:Nat) (r:List Str),Bb x n (r++[y])=Bb x n r++(if y=x then [((n+r.length:Nat):Int)] else [])
 | n,[]=>by
  show (if y=x then ((n:Nat):Int)::Bb x (n+1) [] else Bb x (n+1) [])=_;split<;>simp[Bb]
 | n,z::r=>by
  have ih:=Xdb x y (n+1) r;show (if z=x then (n:Int)::Bb x (n+1) (r++[y]) else Bb x (n+1) (r++[y]))=(if z=x then (n:Int)::Bb x (n+1) r else Bb x (n+1) r)++_;rw[ih,Pc,show n+1+r.length=n+(r.length+1) by omega];split<;>simp
theorem Ju(x:Str):∀(n:Nat) (r:List Str),(Bb x n r).length=r.count x
 | _,[]=>rfl
 | n,z::r=>by
  show (if z=x then (n:Int)::Bb x (n+1) r else Bb x (n+1) r).length=_;rw[List.count_cons];split
  ·rename_i e;rw[Pc,Ju,Tk (by simpa using e)]
  ·rename_i e;rw[Ju,Tj (by simpa using e)];rfl
theorem Ms(row:List Str)(x:Str):(plc row x).length=row.count x:=Ju x 0 row
theorem Mt(r:List Str)(x y:Str):plc (r++[y]) x=plc r x++(if y=x then [(r.length:Int)] else []):=by
 have e:=Xdb x y 0 r;rw[Ql] at e;exact e
structure Wh (H:Hp) (kvs:List (Key×V)) (row:List Str):Prop where
 keys:∀k∈kvs.map (·.1),∃x,k=Sum.inr x/\x∈row
 val:∀x∈row,∃l,Av kvs (Sum.inr x:Key)=some (.ref l)/\H l=some (.lst ((plc row x).map V.int))
 none:∀x,x∉row->Av kvs (Sum.inr x:Key)=none
 nd:(kvs.map (·.1)).Nodup
 len:kvs.length<=row.length
theorem Xdc{kvs:List (Key×V)}{k:Key}{v:V}{l:V}(h:Av kvs k=some l):(Bk kvs k v).map (·.1)=kvs.map (·.1):=by
 unfold Bk;rw[Em,h,Tk Sr,Pp];refine P0 λp _=>?_;show (if p.1=k then (p.1,v) else p).1=p.1;split<;>rfl
theorem Wh.snoc{H H':Hp}{kvs:List (Key×V)}{row:List Str}(w:Wh H kvs row)(y:Str)(l:Addr)(hl:H' l=some (.lst ((plc (row++[y]) y).map V.int)))
  (s:∀b xs,H b=some (.lst xs)->H' b=some (.lst xs)):Wh H' (Bk kvs (Sum.inr y) (.ref l)) (row++[y]):=by
 refine⟨λk hk=>?_,λx hx=>?_,λx hx=>?_,?_,?_⟩
 ·by_cases hy:y∈row
  ·obtain⟨l0,e,_⟩:=w.val y hy;rw[Xdc e] at hk;obtain⟨x,e1,e2⟩:=w.keys k hk;exact⟨x,e1,P4 _ e2⟩
  ·rw[Fx _ (w.none y hy),O5] at hk;rcases Oz.mp hk with hk | hk
   ·obtain⟨x,e1,e2⟩:=w.keys k hk;exact⟨x,e1,P4 _ e2⟩
   ·exact⟨y,by simpa using hk,by simp⟩
 ·rw[Iw];by_cases e:x=y
  ·subst e;exact⟨l,Tk rfl,hl⟩
  ·have hx':x∈row:=by
    rcases Oz.mp hx with z | z
    ·exact z
    ·exact absurd (Ot.mp z) e
   obtain⟨l0,e1,e2⟩:=w.val x hx';refine⟨l0,by rw[Tj (λz=>e (Q4 z))];exact e1,?_⟩;rw[Mt,Tj (λz=>e z.symm),Qa];exact s _ _ e2
 ·rw[Iw];have h1:x∉row:=λz=>hx (P4 _ z);have h2:x≠y:=λz=>hx (by rw[z];simp);rw[Tj (λz=>h2 (Q4 z))];exact w.none x h1
 ·by_cases hy:y∈row
  ·obtain⟨l0,e,_⟩:=w.val y hy;rw[Xdc e];exact w.nd
  ·exact Xh2 _ w.nd (w.none y hy)
 ·have:=Gy kvs (Sum.inr y:Key) (.ref l);have:=w.len;rw[Oy,Qd];omega
def Jv:Sp:=λvs H Q _=>∃(r:Addr) (row:List Str),vs=[.ref r]/\H r=some (.lst (row.map V.str))/\row.length<=1000 /\
 ∀d kvs H',H d=none->H' d=some (.dK kvs)->Wh H' kvs row->Same H H'->Q (.ref d) H'
abbrev NWh:List Str:=["_law_row_here", "_law_told", "_law_at"]
def inn (a b:Int) (ys:List Int):List Int:=ys.filter λt=>decide (a<t)&&decide (t<b)
theorem Mu(a b:Int)(ys:List Int):(inn a b ys).length<=ys.length:=Pt ..
def words3:List Str:=["same", "cross", "around"]
def Dw (a b c e:Int) (same:Bool):Str:=
 if (same||decide (0<(inn a b [c,e]).length))=true then words3.getD (inn a b [c,e]).length "apart" else if c<a/\b<e then "within" else "apart"
def spWord:Sp:=λvs H Q _=>∃(d l1 l2:Addr) (kvs:List (Key×V)) (x y:Str) (a b c e:Int),vs=[.ref d,.str x,.str y]/\Rd H d (.dK kvs)/\Av kvs (Sum.inr x:Key)=some (.ref l1)/\Av kvs (Sum.inr y:Key)=some (.ref l2) /\
 H l1=some (.lst [.int a,.int b])/\H l2=some (.lst [.int c,.int e])/\∀H',Same H H'->Q (.str (Dw a b c e (decide (x=y)))) H'
abbrev NWo:List Str:=["_law_where_here", "_law_one", "_law_other", "_law_low", "_law_high", "_law_inner"]
theorem Rd.same{H H':Hp}{d:Addr}{o:HO}(r:Rd H d o)(s:Same H H'):Rd H' d o:=by
 rcases r with r | ⟨u,r⟩
 ·exact .inl (s _ _ r)
 ·exact .inr ⟨u,s _ _ r⟩
theorem DGet.rd{H:Hp}{a:Addr}{kvs:List (Key×V)}{x:Str}{v:V}(e:Rd H a (.dK kvs))(h:Av kvs (Sum.inr x:Key)=some v):DGet H a (.str x) (some v):=.inl ⟨kvs,Sum.inr x,e,rfl,h.symm⟩
theorem Xkb{row:List Str}{x:Str}(h:row.count x=2):∃a b,plc row x=[a,b]:=by
 have e:=Ms row x;rw[h] at e
 match q:plc row x,e with
 | [a,b],_=>exact⟨a,b,rfl⟩
abbrev NBa:List Str:=["_law_row_here", "_law_name", "_law_where_here", "_law_met", "_law_at", "_law_other"]
abbrev NBc:List Str:=["_law_one", "_law_name", "_law_where_here"]
abbrev Ff:Str := "kqvzbdgmprtxhnjfwlycsaeiou"
def signOf (i:Nat):Str:=⟨#[(Ff.cps.toList).getD i 0]⟩
def Hk (st:Nat) (late:Bool) (k:Nat):Str:=
 if late=true then (repS "m" ((st+k * k) % 7)++signOf ((st+k) % 26)) ++ "y" else signOf ((st+k) % 26)++repS "m" ((st+k * k) % 7)
def Bh (st:Nat) (late:Bool) (n:Nat):List Str:=(List.range n).map (Hk st late)
theorem Xkc:∀st<26,∀late:Bool,(Bh st late 14).Nodup:=by decide +kernel
theorem Mv{st:Nat}{late:Bool}{n:Nat}(hs:st<26)(hn:n<=14):(Bh st late n).Nodup:=by
 refine(Xkc st hs late).sublist ?_;unfold Bh;refine List.Sublist.map _ ?_;have e:List.range 14=List.range n++(List.range (14 - n)).map (n + ·):=by
  rw[<-List.range_add];congr 1;omega
 rw[e];exact List.sublist_append_left ..
def But (dr:Addr) (H H':Hp):Prop:=∀b o,H b=some o->b≠dr->H' b=some o
theorem But.refl(dr:Addr)(H:Hp):But dr H H:=λ_ _ e _=>e
theorem But.trans{dr:Addr}{H H1 H2:Hp}(a:But dr H H1)(b:But dr H1 H2):But dr H H2:=λc o e h=>b c o (a c o e h) h
theorem But.same{dr:Addr}{H H1 H2:Hp}(a:But dr H H1)(b:Same H1 H2):But dr H H2:=λc o e h=>b c o (a c o e h)
theorem But.free{dr b:Addr}{H H':Hp}{o:HO}(a:But dr H H')(hd:H' dr=some o)(h:H' b=none):H b=none:=by
 cases q:H b with
 | none=>rfl
 | some u=>
  by_cases e:b=dr
  ·rw[e,hd] at h;cases h
  ·rw[a b u q e] at h;cases h
theorem But.upd{dr a:Addr}{H H':Hp}{o:HO}(x:But dr H H')(h:H a=none):But dr H (L2.upd H' a o):=λb u e hb=>by
 rw[Ad (Aw e h)];exact x b u e hb
theorem DrawOk.at{H:Hp}{dr sc:Addr}(d:DrawOk H dr sc):∃xs,H dr=some (.lst xs):=let ⟨_,_,_,_,_,h,_⟩:=d.ex; ⟨_,h⟩
theorem DrawOk.same{H H':Hp}{dr sc:Addr}(d:DrawOk H dr sc)(s:Same H H'):DrawOk H' dr sc:=
 let ⟨ns,p,c,m,k,h1,h2,r⟩:=d.ex; ⟨ns,p,c,m,k,s _ _ h1,s _ _ h2,r⟩
theorem DrawOk.upd{H:Hp}{dr sc a:Addr}{o:HO}(d:DrawOk H dr sc)(h1:a≠dr)(h2:a≠sc):DrawOk (L2.upd H a o) dr sc:=
 let ⟨ns,p,c,m,k,e1,e2,r⟩:=d.ex; ⟨ns,p,c,m,k,by rw[Ad h1.symm];exact e1,by rw[Ad h2.symm];exact e2,r⟩
theorem DrawOk.ne{H:Hp}{dr sc a:Addr}(d:DrawOk H dr sc)(h:H a=none):a≠dr/\a≠sc:=by
 obtain⟨ns,p,c,m,k,e1,e2,r⟩:=d.ex;exact⟨(Aw e1 h).symm,(Aw e2 h).symm⟩
def Mw:Sp:=λvs H Q _=>∃(dr sc:Addr) (n:Nat),vs=[.ref dr,.int n]/\n<=14/\DrawOk H dr sc /\
 ∀l st late H',H l=none->st<26->H' l=some (.lst ((Bh st late n).map V.str))->l≠sc->DrawOk H' dr sc->But dr H H'->Q (.ref l) H'
abbrev FnPick (P:Program) (w:World) (K:PySem.W.Frag) (mg:Str->Option Value) (base:Heap):Prop:=Fn P w K mg base CX0 1 "_law_pick" ["_law_draw", "_law_many"] Xc9
abbrev NNa:List Str:=["_law_draw", "_law_many", "_law_base", "_law_start", "_law_late", "_law_told", "_law_k", "_law_sign", "_law_hum"]
theorem Xkd{i:Nat}(h:i<26):atI Ff.cps.toList (i:Int)=some ((Ff.cps.toList).getD i 0):=by
 have hl:i<Ff.cps.toList.length:=h;refine D6 ?_;rw[Op hl];simp[List.getD,Op hl]
theorem F9{l:List Str}(h:l.Nodup){row:List Str}(p:row.Perm (l++l)):∀y∈row,row.count y=2:=λy hy=>by
 rw[p.count_eq,Rp];have hy':y∈l:=by
  rcases Oz.mp (p.mem_iff.mp hy) with z | z
  ·exact z
  ·exact z
 have e1:l.count y<=1:=List.nodup_iff_count.mp h y;have e2:0<l.count y:=Su.mpr hy';omega
theorem Xdd{A row more:List Str}{x:Str}(p:row.Perm (A++A))(q:more.Perm (x::x::row)):more.Perm ((A++[x])++(A++[x])):=by
 refine q.trans (((p.cons x).cons x).trans ?_);have e:(A++[x])++(A++[x])=A++x::(A++x::[]):=by simp
 rw[e];refine List.Perm.trans ?_ Rs.symm;refine List.Perm.cons x ?_;have e2:A++(A++x::[])=(A++A)++x::[]:=by simp
 rw[e2];refine List.Perm.trans ?_ Rs.symm;simp
abbrev NRo:List Str:=["_law_draw", "_law_names_here", "_law_cut", "_law_row_here", "_law_name", "_law_at", "_law_to", "_law_more"]
def Xqp:Sp:=λvs H Q _=>∃(dr sc:Addr) (m:Nat),vs=[.ref dr,.int m]/\m<=14/\DrawOk H dr sc /\
 ∀(l:Addr) (row:List Str) (n st:Nat) (late:Bool) (H':Hp),H l=none->n<=m->st<26->H' l=some (.lst (row.map V.str))->row.Perm (Bh st late n++Bh st late n)->DrawOk H' dr sc->But dr H H'->Q (.ref l) H'
abbrev NIs:List Str:=["_law_draw", "_law_most", "_law_few", "_law_many"]
theorem Mx(K:PySem.W.Frag)(T:String):PySem.W.kitOne K (.type T) (.type T)=some true:=by
 unfold PySem.W.kitOne;rw[Tk (beq_self_eq_true _)]
theorem My(row:List Str)(x:Str):((List.range row.length).filter λi=>decide (row.getD i Str.empty=x)).map (λi:Nat=>(i:Int))=plc row x:=by
 have go:∀n,n<=row.length->((List.range n).filter λi=>decide (row.getD i Str.empty=x)).map (λi:Nat=>(i:Int))=plc (row.take n) x:=by
  intro n
  induction n with
  | zero=>intro _;rfl
  | succ n ih=>
   intro h;have hn:n<row.length:=by omega
   have e:row.getD n Str.empty=row[n]:=by simp[List.getD,hn]
   rw[Qc,Pk,O5,ih (by omega),O8 hn,Mt,Pw,e,O3,Q8 (by omega)];by_cases q:row[n]=x
   ·rw[Tk q,Tk (Tl q)];rfl
   ·rw[Tj q,Tj (by simpa using q)];rfl
 rw[go _ (Oq _),P9]
def okN (x:Str):Prop:=x.length<=20/\∀c∈x.cps.toList,c<0x110000
def Mz (C:Addr):Sp:=λvs H Q E=>∃(r:Addr) (row:List Str) (x:Str),vs=[.ref r,.str x]/\H r=some (.lst (row.map V.str))/\okN x /\
 (x∈row->∀H',Same H H'->Q .non H')/\(x∉row->∀H',Same H H'->E (.ref C) none H')
def spDitches:Sp:=λvs H Q _=>∃(r:Addr) (row:List Str),vs=[.ref r]/\H r=some (.lst (row.map V.str))/\row.length<=60 /\
 ∀l H',H l=none->H' l=some (.lst ((dit row).map V.str))->Same H H'->Q (.ref l) H'
def M0 (C:Addr):Sp:=λvs H Q E=>∃(r:Addr) (row:List Str) (x:Str),vs=[.ref r,.str x]/\H r=some (.lst (row.map V.str))/\okN x/\row.length<=1000 /\
 (x∈row->∃a b,plc row x=[a,b]/\∀l H',H l=none->H' l=some (.tup [.int a,.int b])->Same H H'->Q (.ref l) H')/\(x∉row->∀H',Same H H'->E (.ref C) none H')
abbrev NEn:List Str:=["row", "name", "found"]
abbrev NEc:List Str:=["at", "end", "name"]
end SH
namespace L2
open PySem PySem.Spec PyProof.Rows
theorem Jw(x y:Str):decide (V.str x=V.str y)=decide (x=y):=by
 by_cases z:x=y
 ·rw[z];simp
 ·rw[Tm z,Tm (λq=>z (by injection q))]
theorem Xke(row:List Str):∀v∈row.map V.str,Ck v=true:=λv h=>by
 obtain⟨x,_,rfl⟩:=Pe.mp h;rfl
theorem Bs{α : Type}(f : α->V)(d : α)(xs:List α){i:Nat}(hi:i<xs.length):(xs.map f).getD i .non=f (xs.getD i d):=by simp[List.getD,hi]
end L2
namespace SH
open PySem PySem.Spec PyProof.Rows L2
theorem Wh.names{H:Hp}{kvs:List (Key×V)}{row:List Str}(w:Wh H kvs row):∃ss:List Str,kvs.map (·.1)=ss.map (λx=>(Sum.inr x:Key))/\ss.Nodup/\∀x,x∈ss↔x∈row:=by
 have e:∀ks:List Key,(∀k∈ks,∃x,k=Sum.inr x)->∃ss:List Str,ks=ss.map (λx=>(Sum.inr x:Key)):=by
  intro ks
  induction ks with
  | nil=>intro _;exact⟨[],rfl⟩
  | cons k r ih=>
   intro h;obtain⟨x,rfl⟩:=h k Ow;obtain⟨ss,rfl⟩:=ih λk hk=>h k (Ou _ hk);exact⟨x::ss,rfl⟩
 obtain⟨ss,hs⟩:=e (kvs.map (·.1)) λk hk=>let ⟨x,h,_⟩:=w.keys k hk; ⟨x,h⟩;have inj:∀x,x∈ss↔(Sum.inr x:Key)∈kvs.map (·.1):=λx=>by
  rw[hs,Pe];constructor
  ·exact λh=>⟨x,h,rfl⟩
  ·rintro ⟨y,hy,e⟩;rw[<-Q4 e];exact hy
 refine⟨ss,hs,?_,λx=>?_⟩
 ·have:=w.nd;rw[hs] at this;exact List.Pairwise.of_map _ (λa b hab e=>hab (congrArg _ e)) this
 ·rw[inj];constructor
  ·intro h;obtain⟨y,e,hy⟩:=w.keys _ h;rw[Q4 e];exact hy
  ·intro h;obtain⟨l,e,_⟩:=w.val x h;exact Iy e
structure Isl (row:List Str):Prop where
 ex:∃n st late,n<=14/\st<26/\row.Perm (Bh st late n++Bh st late n)
theorem Xde{st n:Nat}{late:Bool}(hn:n<=14){x:Str}(h:x∈Bh st late n):x∈Bh st late 14:=by
 unfold Bh at h ⊢;obtain⟨i,hi,rfl⟩:=Pe.mp h;exact Pe.mpr ⟨i,P6.mpr (by have:=P6.mp hi;omega),rfl⟩
instance (x:Str):Decidable (okN x):=inferInstanceAs (Decidable (_/\_))
theorem Xkf:∀st<26,∀late:Bool,∀x∈Bh st late 14,okN x:=by decide +kernel
theorem Isl.two{row:List Str}(h:Isl row):∀y∈row,row.count y=2:=by
 obtain⟨n,st,late,hn,hs,p⟩:=h.ex;exact F9 (Mv hs hn) p
theorem Isl.len{row:List Str}(h:Isl row):row.length<=28:=by
 obtain⟨n,st,late,hn,hs,p⟩:=h.ex;have:=p.length_eq;unfold Bh at this;simp at this;omega
theorem Isl.ok{row:List Str}(h:Isl row):∀y∈row,okN y:=λy hy=>by
 obtain⟨n,st,late,hn,hs,p⟩:=h.ex;refine Xkf st hs late y (Xde hn ?_);rcases Oz.mp (p.mem_iff.mp hy) with z | z<;>exact z
def Dk:List Str->Str
 | [] => "noneatal"
 | y::_=>Txt.slice y none (some 7)++Str.ofString "q"
theorem stranger14:∀st<26,∀late:Bool,∀y∈Bh st late 14,okN (Txt.slice y none (some 7)++Str.ofString "q")/\Txt.slice y none (some 7)++Str.ofString "q" ∉ Bh st late 14:=by decide +kernel
theorem Isl.stranger{row:List Str}(h:Isl row):okN (Dk row)/\Dk row∉row:=by
 cases row with
 | nil=>exact⟨by decide +kernel,by simp⟩
 | cons y r=>
  obtain⟨n,st,late,hn,hs,p⟩:=h.ex;have sub:∀z∈y::r,z∈Bh st late 14:=λz hz=>Xde hn (by rcases Oz.mp (p.mem_iff.mp hz) with q | q<;>exact q);obtain⟨h1,h2⟩:=stranger14 st hs late y (sub y Ow);exact⟨h1,λz=>h2 (sub _ z)⟩
theorem Xkg{x:Str}(h:okN x):B9 (.str x)=true:=by
 show PyData.strOk x=true;unfold PyData.strOk;rw[<-Array.all_toList,Pl];intro c hc;exact Tl (h.2 c hc)
theorem Xdf{row:List Str}{x:Str}{i:Int}:i∈plc row x ↔ ∃k:Nat,i=k/\row[k]? = some x:=by
 rw[<-My,Pe];constructor
 ·rintro ⟨k,hk,rfl⟩;obtain⟨h1,h2⟩:=O0.mp hk;have hk':=P6.mp h1;refine⟨k,rfl,?_⟩;have:=Tn h2;rw[Op hk'];simpa [List.getD,hk'] using this
 ·rintro ⟨k,rfl,hk⟩;have hk':k<row.length:=(Pb.mp hk).1;refine⟨k,O0.mpr ⟨P6.mpr hk',Tl ?_⟩,rfl⟩;simp[List.getD,hk]
theorem Xkh(row:List Str)(x:Str):(plc row x).Pairwise (· < ·):=by
 rw[<-My,Sg];refine List.Pairwise.imp ?_ (List.Pairwise.filter _ (List.pairwise_lt_range (n:=row.length)));intro a b h;omega
def pl (row:List Str) (x:Str):Int×Int:=((plc row x).getD 0 0,(plc row x).getD 1 0)
theorem Xdg{row:List Str}{x:Str}{a b:Int}(h:plc row x=[a,b]):pl row x=(a,b):=by
 unfold pl;rw[h];rfl
theorem Fg{row:List Str}{x:Str}(h:row.count x=2):plc row x=[(pl row x).1,(pl row x).2]:=by
 obtain⟨a,b,e⟩:=Xkb h;rw[Xdg e,e]
theorem Ca{row:List Str}{x:Str}(h:row.count x=2):(pl row x).1<(pl row x).2:=by
 have h1:=Xkh row x;rw[Fg h] at h1;simpa using h1
theorem Fh{row:List Str}{x y:Str}(hx:row.count x=2)(hy:row.count y=2)(n:x≠y):(pl row x).1≠(pl row y).1/\(pl row x).1≠(pl row y).2/\(pl row x).2≠(pl row y).1/\(pl row x).2≠(pl row y).2:=by
 have key:∀i,i∈plc row x->i∈plc row y->False:=λi h1 h2=>by
  obtain⟨k,e1,g1⟩:=Xdf.mp h1;obtain⟨m,e2,g2⟩:=Xdf.mp h2;have:k=m:=by omega
  subst this;rw[g1] at g2;exact n (Pa g2)
 rw[Fg hx,Fg hy] at key;refine⟨λe=>key (pl row x).1 (by simp) (by rw[e];simp),λe=>key (pl row x).1 (by simp) (by rw[e];simp),λe=>key (pl row x).2 (by simp) (by rw[e];simp),λe=>key (pl row x).2 (by simp) (by rw[e];simp)⟩
def nIn (a b:Int) (ys:List Int):Nat:=(inn a b ys).length
theorem Cb(a b c e:Int):nIn a b [c,e]=(if a<c/\c<b then 1 else 0)+(if a<e/\e<b then 1 else 0):=by
 unfold nIn inn;simp only[Pw,List.filter_nil,O9,decide_eq_true_eq];split<;>split<;>rfl
def lieT (a b c e:Int):Str:=if a=c/\b=e then "same" else if nIn c e [a,b]=1 then "cross" else if nIn c e [a,b]=2 then "within" else if nIn a b [c,e]=2 then "around" else "apart"
theorem Xki{a b c e:Int}(h1:a<b)(h2:c<e)(n1:a≠c)(n2:a≠e)(n3:b≠c)(n4:b≠e):lieT a b c e=Dw a b c e false:=by
  unfold lieT Dw;rw[Tj (λz=>n1 z.1)];have e1:=Cb a b c e;have e2:=Cb c e a b;have e3:(inn a b [c,e]).length=nIn a b [c,e]:=rfl;rw[e3];generalize nIn a b [c,e]=p at *;generalize nIn c e [a,b]=q at *;by_cases p1:a<c/\c<b<;>by_cases p2:a<e/\e<b<;>by_cases q1:c<a/\a<e<;>by_cases q2:c<b/\b<e <;>
    (first | rw[Tk p1] at e1 | rw[Tj p1] at e1)<;>(first | rw[Tk p2] at e1 | rw[Tj p2] at e1) <;>
    (first | rw[Tk q1] at e2 | rw[Tj q1] at e2)<;>(first | rw[Tk q2] at e2 | rw[Tj q2] at e2)<;>subst e1 e2<;>first
    | (exfalso;omega)
    | rfl
    | (have hw:(c<a/\b<e):=by omega
       rw[Tk hw];rfl)
    | (have hw:¬(c<a/\b<e):=by omega
       rw[Tj hw];rfl)
theorem Xkj{a b:Int}:lieT a b a b=Dw a b a b true:=by
 unfold lieT Dw;rw[Tk ⟨rfl,rfl⟩,Bool.true_or,Tk rfl];have e1:=Cb a b a b;have e3:(inn a b [a,b]).length=nIn a b [a,b]:=rfl;rw[e3,e1,Tj (by omega),Tj (by omega)];rfl
def lieR (row:List Str) (x y:Str):Str:=lieT (pl row x).1 (pl row x).2 (pl row y).1 (pl row y).2
theorem Ga{row:List Str}{x y:Str}(hx:row.count x=2)(hy:row.count y=2):lieR row x y=Dw (pl row x).1 (pl row x).2 (pl row y).1 (pl row y).2 (decide (x=y)):=by
 unfold lieR;by_cases n:x=y
 ·subst n;rw[Tl rfl];exact Xkj
 ·rw[Tm n];obtain⟨n1,n2,n3,n4⟩:=Fh hx hy n;exact Xki (Ca hx) (Ca hy) n1 n2 n3 n4
def crs (row:List Str):List (Str×Str):=(dit row).flatMap λx=>((dit row).filter λy=>decide (ltS x y)&&decide (lieR row x y = "cross")).map λy=>(x,y)
def prD (p:Str×Str):PyData:=.tuple [.str p.1,.str p.2]
structure Spn (H:Hp) (kvs:List (Key×V)) (row:List Str) (ns:List Str):Prop where
 keys:kvs.map (·.1)=ns.map (λx=>(Sum.inr x:Key))
 val:∀x∈ns,∃l,Av kvs (Sum.inr x:Key)=some (.ref l)/\H l=some (.tup [.int (pl row x).1,.int (pl row x).2])
theorem Spn.mono{H H':Hp}{kvs:List (Key×V)}{row ns:List Str}(s:Spn H kvs row ns)(h:Same H H'):Spn H' kvs row ns:=⟨s.keys,λx hx=>let ⟨l,h1,h2⟩:=s.val x hx; ⟨l,h1,h _ _ h2⟩⟩
end SH
namespace L2
open PySem
theorem hu3{A:Around}{k:Nat}(hr:Room k A):A.units+3<cLine:=by have:=hr.units;omega
theorem hu4{A:Around}{k:Nat}(hr:Room k A):A.units+4<cLine:=by have:=hr.units;omega
end L2
namespace SH
open PySem PySem.Spec PyProof.Rows L2
structure Row2 (row:List Str):Prop where
 two:∀y∈row,row.count y=2
 ok:∀y∈row,okN y
 len:row.length<=60
theorem Isl.row2{row:List Str}(h:Isl row):Row2 row:=⟨h.two,h.ok,by have:=h.len;omega⟩
def spSpans:Sp:=λvs H Q _=>∃(r:Addr) (row:List Str),vs=[.ref r]/\H r=some (.lst (row.map V.str))/\Row2 row /\
 ∀d kvs H',H d=none->H' d=some (.dK kvs)->Spn H' kvs row (dit row)->Same H H'->Q (.ref d) H'
def Lie4 (a b c e:Int):Prop:=c<=e/\(b=e->a=c)
theorem lie4{row:List Str}{x y:Str}(hx:row.count x=2)(hy:row.count y=2):Lie4 (pl row x).1 (pl row x).2 (pl row y).1 (pl row y).2:=
 ⟨Int.le_of_lt (Ca hy),λe=>by
  by_cases n:x=y
  ·rw[n]
  ·exact absurd e (Fh hx hy n).2.2.2⟩
theorem Xkk{a b c e:Int}(n:¬(a=c/\b=e))(h:((decide (c<a)&&decide (a<e))==(decide (c<b)&&decide (b<e)))=false):lieT a b c e = "cross" := by
 unfold lieT;rw[Tj n,Tk];rw[Cb];rw[<-Bool.decide_and,<-Bool.decide_and] at h;by_cases q1:c<a/\a<e<;>by_cases q2:c<b/\b<e<;>simp[q1,q2] at h ⊢
theorem Xkl{a b c e:Int}(n:¬(a=c/\b=e))(h:((decide (c<a)&&decide (a<e))==(decide (c<b)&&decide (b<e)))=true)(h2:(decide (c<a)&&decide (a<e))=true):lieT a b c e = "within" := by
 unfold lieT;rw[h2,beq_iff_eq] at h;simp only[O9,decide_eq_true_eq] at h2;have h3:c<b/\b<e:=by simpa using h.symm
 rw[Tj n,Cb,Tk h2,Tk h3,Tj (by decide),Tk rfl]
theorem Xkm{a b c e:Int}(l:Lie4 a b c e)(n:¬(a=c/\b=e))(h:((decide (c<a)&&decide (a<e))==(decide (c<b)&&decide (b<e)))=true)(h2:(decide (c<a)&&decide (a<e))=false):lieT a b c e=if (decide (a<c)&&decide (c<b))=true then "around" else "apart" := by
 unfold lieT;rw[h2,beq_iff_eq] at h;have h2:¬(c<a/\a<e):=λz=>by rw[Tl z.1,Tl z.2] at h2;cases h2
 have h3:¬(c<b/\b<e):=λz=>by rw[Tl z.1,Tl z.2] at h;cases h
 rw[Tj n,Cb,Tj h2,Tj h3,Tj (by decide),Tj (by decide),Cb];obtain⟨l1,l2⟩:=l;have key:a<c/\c<b->a<e/\e<b:=λz=>by
  have:b≠e:=λq=>n ⟨l2 q,q⟩;omega
 by_cases q:a<c/\c<b
 ·rw[Tk q,Tk (key q),Tk rfl,Tk (by simp[q])]
 ·rw[Tj q,Tj (by split<;>decide),Tj (by simpa using q)]
def spLieOf:Sp:=λvs H Q _=>∃(p q:Addr) (a b c e:Int),vs=[.ref p,.ref q]/\H p=some (.tup [.int a,.int b])/\H q=some (.tup [.int c,.int e])/\Lie4 a b c e/\∀H',Same H H'->Q (.str (lieT a b c e)) H'
theorem M3{ta tb tc:TE}{σ:L2.St}{H:Hp}{Q:VK}{x y z:Int}(ha:∀Q':VK,Q' (.int x) H->ta σ H Q')(hb:∀Q':VK,Q' (.int y) H->tb σ H Q')(hc:∀Q':VK,Q' (.int z) H->tc σ H Q')(h:Q (.bl (decide (x<y)&&decide (y<z))) H):
  Ld (rI0 λi j=>.bl (decide (i<j))) (rI0 λi j=>.bl (decide (i<j))) ta tb tc σ H Q:=by
 refine ha _ (hb _ ⟨x,y,rfl,rfl,_,rfl,?_⟩);refine Be (λq=>hc _ ⟨y,z,rfl,rfl,?_⟩) (λq=>?_)
 ·rw[q,Qx] at h;exact h
 ·rw[q,Qv] at h;exact h
def M4:Sp:=λvs H Q _=>∃(r:Addr) (row:List Str),vs=[.ref r]/\H r=some (.lst (row.map V.str))/\Row2 row /\
 ∀l xs H',H l=none->H' l=some (.lst xs)->DAll (hid l H') ((crs row).map prD) xs->Same H H'->Q (.ref l) H'
abbrev NSp:List Str:=["name", "row"]
abbrev NLo:List Str:=["here", "there", "first", "last"]
abbrev NCr:List Str:=["row", "span"]
abbrev NCc:List Str:=["one", "other", "span"]
theorem Spn.snoc{H H':Hp}{kvs:List (Key×V)}{row ns:List Str}{x:Str}{l:Addr}(s:Spn H kvs row ns)(nx:x∉ns)(h:H' l=some (.tup [.int (pl row x).1,.int (pl row x).2]))(k:∀b xs,H b=some (.tup xs)->H' b=some (.tup xs)):
  Spn H' (Bk kvs (Sum.inr x) (.ref l)) row (ns++[x]):=by
 have hn:Av kvs (Sum.inr x:Key)=none:=by
  cases e:Av kvs (Sum.inr x:Key) with
  | none=>rfl
  | some v=>
   exfalso;have:=Iy e;rw[s.keys] at this;obtain⟨y,hy,e2⟩:=Pe.mp this;rw[Q4 e2] at hy;exact nx hy
 refine⟨by rw[Fx _ hn,O5,O5,s.keys];rfl,λy hy=>?_⟩;rw[Iw];by_cases e:y=x
 ·subst e;exact⟨l,Tk rfl,h⟩
 ·have hy':y∈ns:=by
   rcases Oz.mp hy with z | z
   ·exact z
   ·exact absurd (Ot.mp z) e
  obtain⟨l0,h1,h2⟩:=s.val y hy';exact⟨l0,by rw[Tj (λz=>e (Q4 z))];exact h1,k _ _ h2⟩
theorem Spn.get{H:Hp}{kvs:List (Key×V)}{row ns:List Str}{d:Addr}{x:Str}(s:Spn H kvs row ns)(hd:Rd H d (.dK kvs))(hx:x∈ns):∃l,DGet H d (.str x) (some (.ref l))/\H l=some (.tup [.int (pl row x).1,.int (pl row x).2]):=by
 obtain⟨l,h1,h2⟩:=s.val x hx;exact⟨l,DGet.rd hd h1,h2⟩
theorem Spn.at{H:Hp}{kvs:List (Key×V)}{row ns:List Str}(s:Spn H kvs row ns)(i:Nat)(hi:i<ns.length):(kvs.map λp=>kV p.1).getD i .non = .str (ns.getD i Str.empty):=by
 have e:(kvs.map λp=>kV p.1)=ns.map V.str:=by
  have:(kvs.map λp=>kV p.1)=(kvs.map (·.1)).map kV:=by rw[Pp];rfl
  rw[this,s.keys,Pp];rfl
 rw[e];exact Bs V.str Str.empty ns hi
theorem Spn.len{H:Hp}{kvs:List (Key×V)}{row ns:List Str}(s:Spn H kvs row ns):kvs.length=ns.length:=by
 have:=congrArg List.length s.keys;simpa using this
theorem Ea{ns:List Str}{i:Nat}(hi:i<ns.length):ns.getD i Str.empty∈ns:=by
 have:ns.getD i Str.empty=ns[i]:=by simp[List.getD,hi]
 rw[this];exact Pn hi
theorem Wh.two'{H:Hp}{kvs:List (Key×V)}{row:List Str}{x:Str}(w:Wh H kvs row)(hx:x∈row)(h:row.count x=2):∃l,Av kvs (Sum.inr x:Key)=some (.ref l)/\H l=some (.lst [.int (pl row x).1,.int (pl row x).2]):=by
 obtain⟨l,h1,h2⟩:=w.val x hx;rw[Fg h] at h2;exact⟨l,h1,h2⟩
theorem Hl{H:Hp}:∀{ss:List Str} {xs:List V},DAll H (ss.map PyData.str) xs->xs=ss.map V.str
 | [],xs,h=>by unfold List.map DAll at h;exact h
 | s::ss,xs,h=>by
  rw[Pg] at h;unfold DAll at h;obtain⟨v,r,rfl,h1,h2⟩:=h;unfold DAt at h1;rw[h1,Hl h2];rfl
def M5:Sp:=λvs H Q _=>∃(r:Addr) (row:List Str),vs=[.ref r]/\H r=some (.lst (row.map V.str))/\(∀y∈row,y.length<=20)/\∀H',Same H H'->Q (.str (Dk row)) H'
def spTuple:Sp:=λvs H Q _=>∃(v:V) (ss:List Str),vs=[v]/\DAt H (.tuple (ss.map PyData.str)) v/\ss.length<=1000/\∀H',Same H H'->Q (.bl true) H'
def Eb (how:Str) (off:Bool):Bool:=if how = "within" then off else (!decide (how = "apart") || !off)
def told (ss:List Str):List Str:=srt (ddup ss)
def Ae (row plot:List Str):Bool:=decide (plot=told plot)&&plot.all (λx=>decide (x∈row))&&plot.all λx=>(dit row).all λy=>Eb (lieR row x y) (decide (y∈plot))
def trD (t:Str×Str×Str):PyData:=.tuple [.str t.1,.str t.2.1,.str t.2.2]
def Cn (row:List Str) (x y:Str):Bool:=decide (lieR row x y = "within")||(decide (lieR row x y = "apart")&&decide (ltS x y))
def bars (row:List Str):List (Str×Str×Str):=(dit row).flatMap λx=>((dit row).filter (Cn row x)).map λy=>(x,y,lieR row x y)
def C2 (bs:List (Str×Str×Str)) (plot:List Str):Bool:=bs.all λt => !(decide (t.1∈plot) && !decide (decide (t.2.1∈plot)=decide (t.2.2 = "within")))
def Hm (row plot:List Str):Bool:=decide (plot=(dit row).filter λy=>decide (y∈plot))&&C2 (bars row) plot
theorem Xkn{a b c e:Int}(h1:a<b)(h2:c<e)(n1:a≠c)(n2:a≠e)(n3:b≠c)(n4:b≠e)(h:lieT a b c e = "apart"):lieT c e a b = "apart" := by
 unfold lieT at h ⊢;rw[Tj (λz=>n1 z.1)] at h;rw[Tj (λz=>n1 z.1.symm)];have e1:=Cb a b c e;have e2:=Cb c e a b;generalize nIn a b [c,e]=p at *;generalize nIn c e [a,b]=q at *;by_cases p1:a<c/\c<b<;>by_cases p2:a<e/\e<b<;>by_cases q1:c<a/\a<e<;>by_cases q2:c<b/\b<e <;>
  (first | rw[Tk p1] at e1 | rw[Tj p1] at e1)<;>(first | rw[Tk p2] at e1 | rw[Tj p2] at e1) <;>
  (first | rw[Tk q1] at e2 | rw[Tj q1] at e2)<;>(first | rw[Tk q2] at e2 | rw[Tj q2] at e2)<;>subst e1 e2<;>first
  | (exfalso;omega)
  | rfl
  | (exfalso;revert h;decide +kernel)
theorem Xko{row:List Str}{x y:Str}(hx:row.count x=2)(hy:row.count y=2)(h:lieR row x y = "apart"):lieR row y x = "apart" := by
 by_cases n:x=y
 ·subst n;exact h
 ·obtain⟨n1,n2,n3,n4⟩:=Fh hx hy n;exact Xkn (Ca hx) (Ca hy) n1 n2 n3 n4 h
theorem Jx(row:List Str)(x:Str):lieR row x x = "same" := by
 unfold lieR lieT;rw[Tk ⟨rfl,rfl⟩]
theorem Jy{l:List Str}(h:l.Pairwise ltS):l.Pairwise leS:=h.imp λh=>Xji h
theorem Ec{l:List Str}(h:l.Pairwise ltS):l.Nodup:=h.imp λh=>G9 h
theorem Jz{l:List Str}(h:l.Nodup):(ddup l).Perm l:=F4 (G6 l) h (Mb l)
theorem J3{l:List Str}(h:l.Pairwise ltS):told l=l:=Eu ((Cg _).trans (Jz (Ec h))) (Du _) (Jy h)
theorem M6(l:List Str):(told l).Pairwise ltS:=Dv l
theorem Xkp{l:List Str}{x:Str}:x∈told l↔x∈l:=Ao
theorem M7{row plot:List Str}:(plot=(dit row).filter λy=>decide (y∈plot))↔(plot=told plot/\∀x∈plot,x∈row):=by
 constructor
 ·intro h;have hp:plot.Pairwise ltS:=by
   rw[h];exact(Dv row).filter _
  refine⟨(J3 hp).symm,λx hx=>?_⟩;rw[h] at hx;exact Ao.mp (O0.mp hx).1
 ·rintro ⟨h1,h2⟩;have hp:plot.Pairwise ltS:=by rw[h1];exact M6 plot
  have hq:((dit row).filter λy=>decide (y∈plot)).Pairwise ltS:=(Dv row).filter _;refine Eu (F4 (Ec hp) (Ec hq) λx=>?_) (Jy hp) (Jy hq);rw[O0,decide_eq_true_eq,Ao];exact⟨λh=>⟨h2 x h,h⟩,λh=>h.2⟩
theorem J4{row:List Str}{t:Str×Str×Str}:t∈bars row↔t.1∈row/\t.2.1∈row/\Cn row t.1 t.2.1=true/\t.2.2=lieR row t.1 t.2.1:=by
 unfold bars;rw[List.mem_flatMap];constructor
 ·rintro ⟨x,hx,h⟩;obtain⟨y,hy,rfl⟩:=Pe.mp h;obtain⟨h1,h2⟩:=O0.mp hy;exact⟨Ao.mp hx,Ao.mp h1,h2,rfl⟩
 ·rintro ⟨h1,h2,h3,h4⟩;refine⟨t.1,Ao.mpr h1,Pe.mpr ⟨t.2.1,O0.mpr ⟨Ao.mpr h2,h3⟩,?_⟩⟩;rw[<-h4]
theorem M8{row plot:List Str}(h:∀y∈row,row.count y=2):Hm row plot=Ae row plot:=by
 unfold Hm Ae;by_cases hp:plot=(dit row).filter λy=>decide (y∈plot)
 ·obtain⟨p1,p2⟩:=M7.mp hp;have e1:plot.all (λx=>decide (x∈row))=true:=Pl.mpr λx hx=>Tl (p2 x hx);rw[Tl hp,Tl p1,e1,Qx,Qx];show C2 (bars row) plot=(true&&_);rw[Qx,Qo];unfold C2;rw[Pl,Pl];constructor
  ·intro hf x hx;rw[Pl];intro y hy;have hyr:=Ao.mp hy;unfold Eb;by_cases hw:lieR row x y = "within"
   ·rw[Tk hw];have:=hf (x,y,lieR row x y) (J4.mpr ⟨p2 x hx,hyr,by unfold Cn;rw[Tl hw];rfl,rfl⟩);simpa [hx,hw] using this
   ·rw[Tj hw];by_cases ha:lieR row x y = "apart"
    ·have hne:x≠y:=λz=>by
      rw[z,Jx] at ha
      revert ha
      decide
     have ha2:=Xko (h x (p2 x hx)) (h y hyr) ha;have key:y∉plot:=λhy2=>by
      rcases Mf x y with hle | hle
      ·have hlt:=ltS_of hle hne;have:=hf (x,y,lieR row x y) (J4.mpr ⟨p2 x hx,hyr,by unfold Cn;rw[Tl ha,Tl hlt,R9,Td],rfl⟩);rw[ha] at this;simp[hx,hy2] at this
       revert this
       decide
      ·have hlt:=ltS_of hle (λz=>hne z.symm);have:=hf (y,x,lieR row y x) (J4.mpr ⟨hyr,p2 x hx,by unfold Cn;rw[Tl ha2,Tl hlt,R9,Td],rfl⟩);rw[ha2] at this;simp[hx,hy2] at this
       revert this
       decide
     rw[Tm key];simp
    ·rw[Tm ha];rfl
  ·intro hf t ht;obtain⟨h1,h2,h3,h4⟩:=J4.mp ht;by_cases hx:t.1∈plot
   ·have:=hf t.1 hx;rw[Pl] at this;have:=this t.2.1 (Ao.mpr h2);rw[h4];unfold Eb at this;by_cases hw:lieR row t.1 t.2.1 = "within"
    ·rw[Tk hw] at this;simp[hw,Tn this]
    ·rw[Tj hw] at this;have ha:lieR row t.1 t.2.1 = "apart" := by
      unfold Cn at h3;rw[Tm hw,Bool.false_or,O9] at h3;exact Tn h3.1
     rw[ha] at this;have hn:t.2.1∉plot:=by simpa using this
     have hne:¬(("apart" : Str) = "within"):=by decide
     simp[hn,ha,hne]
   ·simp[hx]
 ·rw[Tm hp,Qv];by_cases p1:plot=told plot
  ·have:¬ ∀x∈plot,x∈row:=λp2=>hp (M7.mpr ⟨p1,p2⟩);have e1:plot.all (λx=>decide (x∈row))=false:=by
    rw[Ry];intro z;rw[Pl] at z;exact this λx hx=>Tn (z x hx)
   rw[e1,Bool.and_false,Qv]
  ·rw[Tm p1,Qv,Qv]
theorem Xdh(a b:List Str)(h:PyData.tuple (a.map PyData.str)=PyData.tuple (b.map PyData.str)):a=b:=by
 injection h with h
 exact(Sa (λx y e=>by injection e)).mp h
theorem Xkq{ss:List Str}(h:∀y∈ss,okN y):C8 (ss.map PyData.str)=true:=plainAll_map PyData.str ss λx hx=>Xkg (h x hx)
theorem Gb{ss:List Str}(h:∀y∈ss,okN y):B9 (.tuple (ss.map PyData.str))=true:=Xkq h
theorem J5:∀(ss:List Str),PyData.depthAll (ss.map PyData.str)=0
 | []=>rfl
 | s::ss=>by
  rw[Pg];unfold PyData.depthAll;rw[J5 ss];rfl
theorem Xkr(a b:List Str):min (PyData.depth (.tuple (a.map PyData.str))) (PyData.depth (.tuple (b.map PyData.str)))<=3:=by
 have e:PyData.depth (.tuple (a.map PyData.str))=PyData.depthAll (a.map PyData.str)+1:=rfl;rw[e,J5];omega
theorem J6{a b:List Str}(ha:∀y∈a,okN y)(hb:∀y∈b,okN y):PyData.eqv (.tuple (a.map PyData.str)) (.tuple (b.map PyData.str))=decide (a=b):=
 Xc2 (λl:List Str=>PyData.tuple (l.map PyData.str)) Xdh a b (Gb ha) (Gb hb)
theorem Gc{H:Hp}{p:Addr}{ss:List Str}(h:H p=some (.tup (ss.map V.str))):DAt H (.tuple (ss.map PyData.str)) (.ref p):=Ml h (Mj ss)
def spTold (K:PySem.W.Frag):Sp:=λvs H Q _=>∃(p:Addr) (ss:List Str),vs=[.ref p]/\(SqL K H p (ss.map V.str)\/SqT K H p (ss.map V.str))/\ss.length<=60 /\
 ∀l H',H l=none->H' l=some (.tup ((told ss).map V.str))->Same H H'->Q (.ref l) H'
end SH
namespace L2
open PySem PySem.Spec PyProof.Rows
def Xks (K:PySem.W.Frag) (i:Nat):TE:=fun σ H Q=>∃v, σ[i]? = some (some v)/\∃p ss,v = .ref p/\(SqL K H p (ss.map V.str)\/SqT K H p (ss.map V.str))/\ss.length<=60/\∀l H',H l=none->H' l=some (.lst ((dit ss).map V.str))->Same H H'->Q (.ref l) H'
theorem Xkt{X:Cx}{i:Nat}{x:Str}{pos p1 p2 q1 q2:Pos}(hc:X.calm=true)(hg1:Gl X "sorted")(hm1:X.mg "sorted" = none)(hg2:Gl X "set")(hm2:X.mg "set" = none)(hv:PE X (.Name x pos) (Eh i))
  (h1:starEach [.Call (.Name "set" p2) [.Name x pos] [] q2] X.env=[(false,eval (.Call (.Name "set" p2) [.Name x pos] [] q2) X.env)]:=by rfl) (h2:starEach [.Name x pos] X.env=[(false,eval (.Name x pos) X.env)]:=by rfl):
  PE X (.Call (.Name "sorted" p1) [.Call (.Name "set" p2) [.Name x pos] [] q2] [] q1) (Xks X.K i):=by
 intro pins s σ H Q I h;obtain⟨v,hv1,p,ss,ev,hq,hl,k⟩:=h;refine(Ba (Jd hc) hg1 hm1 (by rfl) (Aa (Df (G8 hc) hg2 hm2 (by rfl) (Aa hv Ab) (by decide) (by decide) h2) Ab) (by decide) (by decide) h1) pins s σ H Q I ?_;refine⟨v,hv1,p,ss,by rw[ev],hq,by unfold scanBound;omega,λa na=>?_⟩;have hdl:=G7 ss;refine⟨a,ddup ss,rfl,Ac,by omega,λl ls nl hp hs=>?_⟩;rw[F0 hp hs];have s1:Same H (upd H a (Et X.prog X.w a (ddup ss))):=(Same.refl H).step na;exact k l _ (s1.free nl) Ac (s1.step nl)
end L2
namespace SH
open PySem PySem.Spec PyProof.Rows L2
theorem Isl.dlen{row:List Str}(h:Isl row):(dit row).length<=14:=by
 obtain⟨n,st,late,hn,hs,p⟩:=h.ex;have hp:(dit row).Perm (Bh st late n):=F4 (F2 row) (Mv hs hn) λx=>by
  rw[Ao,p.mem_iff,Oz,or_self]
 rw[hp.length_eq];unfold Bh;rw[Oo,P2];exact hn
def M9:Sp:=λvs H Q _=>∃(b p:Addr) (xs:List V) (bs:List (Str×Str×Str)) (ss:List Str),vs=[.ref b,.ref p]/\H b=some (.lst xs)/\DAll H (bs.map trD) xs/\H p=some (.tup (ss.map V.str)) /\
 ∀H',Same H H'->Q (.bl (C2 bs ss)) H'
def spBars:Sp:=λvs H Q _=>∃(r:Addr) (row:List Str),vs=[.ref r]/\H r=some (.lst (row.map V.str))/\Row2 row /\
 ∀l xs H',H l=none->H' l=some (.lst xs)->DAll H' ((bars row).map trD) xs->Same H H'->Q (.ref l) H'
theorem Xku{H:Hp}{t:Str×Str×Str}{v:V}(h:DAt H (trD t) v):∃p,v = .ref p/\H p=some (.tup [.str t.1,.str t.2.1,.str t.2.2]):=by
 obtain⟨p,xs,rfl,hp,hs⟩:=Mm h;have:=Hl (ss:=[t.1,t.2.1,t.2.2]) hs;rw[this] at hp;exact⟨p,rfl,hp⟩
def C3 (row:List Str) (x:Str) (ys:List Str):List (Str×Str×Str):=(ys.filter (Cn row x)).map λy=>(x,y,lieR row x y)
def C9 (row:List Str) (i:Nat):List (Str×Str×Str):=((dit row).take i).flatMap λx=>C3 row x (dit row)
theorem Xkv(row:List Str):C9 row (dit row).length=bars row:=by
 unfold C9;rw[P9];rfl
theorem Xkw(row:List Str){i:Nat}(hi:i<(dit row).length):C9 row (i+1)=C9 row i++C3 row ((dit row).getD i Str.empty) (dit row):=by
 unfold C9;rw[O8 hi,Sn,S6,List.flatMap_nil,Qa];simp[List.getD,hi]
theorem Xkx(row:List Str)(x:Str){j:Nat}(hj:j<(dit row).length):C3 row x ((dit row).take (j+1))=C3 row x ((dit row).take j)++(if Cn row x ((dit row).getD j Str.empty)=true then [(x,(dit row).getD j Str.empty,lieR row x ((dit row).getD j Str.empty))] else []):=by
 unfold C3;have e:(dit row).getD j Str.empty=(dit row)[j]:=by simp[List.getD,hj]
 rw[O8 hj,Pk,O5,e,Pw];split<;>rfl
theorem Xdi(row:List Str)(x:Str)(ys:List Str):(C3 row x ys).length<=ys.length:=by
 unfold C3;rw[Oo];exact Pt ..
theorem Xky(row:List Str)(i:Nat):(C9 row i).length<=i * (dit row).length:=by
 unfold C9;rw[List.length_flatMap];have h:∀l:List Str,(l.map λx=>(C3 row x (dit row)).length).sum<=l.length * (dit row).length:=by
  intro l
  induction l with
  | nil=>simp
  | cons x l ih=>
   rw[Pg,Qi,Pc,Nat.succ_mul];have:=Xdi row x (dit row);omega
 refine Pr (h _) (Nat.mul_le_mul_right _ ?_);rw[O3];omega
abbrev NFl1:List Str:=["_law_one", "_law_name"]
abbrev NFi:List Str:=["_law_bars_here", "_law_plot", "_law_one", "_law_other", "_law_word_here"]
abbrev NBr:List Str:=["_law_row_here", "_law_where_here", "_law_told", "_law_one", "_law_other", "_law_word_here"]
theorem Xdj{α : Type}(f : α->V)(xs:List α)(b:Nat):B5 (xs.map f) none (some (b:Int))=(xs.take b).map f:=by
 by_cases hb:b<=xs.length
 ·exact Jg f xs b hb
 ·unfold B5;rw[HT.sIx_none,R0,HT.sIx_nat,Oo,Nat.min_eq_right (by omega),Tb,Pu (by rw[Oo];omega),Pu (by omega)]
theorem Xkz{ss:List Str}(h:∀y∈ss,okN y):∀z∈ss,z.length<=20/\∀c∈z.cps.toList,c<16 ^ 8:=λz hz=>⟨(h z hz).1,λc hc=>Rq ((h z hz).2 c hc) (by decide)⟩
theorem DrawOk.ntup{H:Hp}{dr sc:Addr}(d:DrawOk H dr sc):∀q ys,H q=some (.tup ys)->q≠dr:=λq ys e z=>by
 obtain⟨xs,h⟩:=d.at;rw[z,h] at e;cases e
def mid (row:List Str) (x:Str):List Str:=((row.dropWhile λy=>decide (y≠x)).tail).takeWhile λy=>decide (y≠x)
theorem Xdk{x y:Str}{r:List Str}(h:x∉y::r):decide (y≠x)=true:=by
 have:y≠x:=λe=>h (by rw[e];exact Ow);simpa using this
theorem drop_split{A R:List Str}{x:Str}(h:x∉A):(A++x::R).dropWhile (λy=>decide (y≠x))=x::R:=by
 induction A with
 | nil=>rw[Ro,Q9,Tj (by simp)]
 | cons y r ih=>
  rw[List.cons_append,Q9,Tk (Xdk h)];exact ih λz=>h (Ou _ z)
theorem take_split{A R:List Str}{x:Str}(h:x∉A):(A++x::R).takeWhile (λy=>decide (y≠x))=A:=by
 induction A with
 | nil=>rw[Ro,Ra,Tj (by simp)]
 | cons y r ih=>
  rw[List.cons_append,Ra,Tk (Xdk h)];rw[ih λz=>h (Ou _ z)]
theorem Na{A B C:List Str}{x:Str}(hA:x∉A)(hB:x∉B):mid (A++x::(B++x::C)) x=B:=by
 unfold mid;rw[drop_split hA,List.tail_cons,take_split hB]
theorem split1{x:Str}:∀{row:List Str},x∈row->∃A R,row=A++x::R/\x∉A:=by
 intro row
 induction row with
 | nil=>intro h;cases h
 | cons y r ih=>
  intro h;by_cases e:x=y
  ·exact⟨[],r,by rw[e];rfl,by simp⟩
  ·obtain⟨A,R,h1,h2⟩:=ih ((O6.mp h).resolve_left e);exact⟨y::A,R,by rw[h1];rfl,λz=>(O6.mp z).elim e h2⟩
theorem split2{row:List Str}{x:Str}(h:row.count x=2):∃A B C,row=A++x::(B++x::C)/\x∉A/\x∉B/\x∉C:=by
 obtain⟨A,R,h1,h2⟩:=split1 (Su.mp (by omega:0<row.count x));rw[h1,Rp,Rt.mpr h2,Rz] at h;have hR:R.count x=1:=by omega
 obtain⟨B,C,h3,h4⟩:=split1 (Su.mp (by omega:0<R.count x));rw[h3,Rp,Rt.mpr h4,Rz] at hR;exact⟨A,B,C,by rw[h1,h3],h2,h4,Rt.mp (by omega)⟩
theorem Hn(x:Str):∀(n:Nat) (l r:List Str),Bb x n (l++r)=Bb x n l++Bb x (n+l.length) r
 | n,[],r=>rfl
 | n,y::l,r=>by
  have ih:=Hn x (n+1) l r;have e:n+(y::l).length=n+1+l.length:=by rw[Pc];omega
  rw[e];show (if y=x then (n:Int)::Bb x (n+1) (l++r) else Bb x (n+1) (l++r))=(if y=x then (n:Int)::Bb x (n+1) l else Bb x (n+1) l)++_;rw[ih];split<;>rfl
theorem J7(x:Str):∀(n:Nat) (l:List Str),∀i∈Bb x n l,(n:Int)<=i/\i<n+l.length
 | n,[]=>λi h=>by cases h
 | n,y::l=>λi h=>by
  have ih:=J7 x (n+1) l;have h':i=n\/i∈Bb x (n+1) l:=by
   change i∈(if y=x then (n:Int)::Bb x (n+1) l else Bb x (n+1) l) at h;split at h
   ·exact O6.mp h
   ·exact .inr h
  rw[Pc];rcases h' with rfl | h'
  ·omega
  ·have:=ih i h';omega
theorem J8{x:Str}:∀(n:Nat) (l:List Str),x∉l->Bb x n l=[]
 | _,[],_=>rfl
 | n,y::l,h=>by
  show (if y=x then (n:Int)::Bb x (n+1) l else Bb x (n+1) l)=[];rw[Tj (λe=>h (by rw[e];exact Ow))];exact J8 _ _ λz=>h (Ou _ z)
theorem Xk0{row:List Str}{x y:Str}(hx:row.count x=2)(n:x≠y):nIn (pl row x).1 (pl row x).2 (plc row y)=(mid row x).count y:=by
 obtain⟨A,B,C,e,hA,hB,hC⟩:=split2 hx;have ex:plc row x=[(A.length:Int),((A.length+1+B.length:Nat):Int)]:=by
  unfold plc;rw[e,Hn,J8 _ _ hA];show []++(if x=x then _ else _)=_;rw[Tk rfl,Hn,J8 _ _ hB];show []++(_::([]++(if x=x then _ else _)))=_;rw[Tk rfl,J8 _ _ hC];simp
 have ey:plc row y=Bb y 0 A++(Bb y (A.length+1) B++Bb y (A.length+1+B.length+1) C):=by
  unfold plc;rw[e,Hn];show _++(if x=y then _ else _)=_;rw[Tj n,Hn];show _++(_++(if x=y then _ else _))=_;rw[Tj n];simp
 rw[Xdg ex,ey];unfold nIn inn;rw[Pk,Pk];have e1:(Bb y 0 A).filter (λt=>decide ((A.length:Int)<t)&&decide (t<((A.length+1+B.length:Nat):Int)))=[]:=by
  rw[Rb];intro i hi;have:=J7 y 0 A i hi;simp;intro;omega
 have e2:(Bb y (A.length+1) B).filter (λt=>decide ((A.length:Int)<t)&&decide (t<((A.length+1+B.length:Nat):Int)))=Bb y (A.length+1) B:=by
  rw[Ps];intro i hi;have:=J7 y (A.length+1) B i hi;simp;omega
 have e3:(Bb y (A.length+1+B.length+1) C).filter (λt=>decide ((A.length:Int)<t)&&decide (t<((A.length+1+B.length:Nat):Int)))=[]:=by
  rw[Rb];intro i hi;have:=J7 y _ C i hi;simp;intro;omega
 rw[e1,e2,e3,Ro,Qa,Ju];rw[e,Na hA hB]
def Az (row:List Str) (x y:Str):Prop:=lieR row x y = "cross"
instance (row:List Str) (x y:Str):Decidable (Az row x y):=inferInstanceAs (Decidable (_=_))
theorem Nb{a b c e:Int}:Dw a b c e false = "cross" ↔ nIn a b [c,e]=1:=by
 unfold Dw;have e3:(inn a b [c,e]).length=nIn a b [c,e]:=rfl;have h2:(inn a b [c,e]).length<=2:=Mu a b [c,e];rw[e3] at *;generalize nIn a b [c,e]=q at *
 match q,h2 with
 | 0,_=>
  rw[Tj (by decide)];split<;>decide
 | 1,_=>rw[Tk (by decide)];decide
 | 2,_=>rw[Tk (by decide)];decide
theorem J9{row:List Str}{x y:Str}(hx:row.count x=2)(hy:row.count y=2)(n:x≠y):Az row x y↔(mid row x).count y=1:=by
 unfold Az;rw[Ga hx hy,Tm n,Nb,<-Fg hy,Xk0 hx n]
theorem E1{row:List Str}{x:Str}(hx:row.count x=2):¬Az row x x:=by
 unfold Az lieR lieT;rw[Tk ⟨rfl,rfl⟩];decide
theorem Dx{row:List Str}{x y:Str}(hx:row.count x=2)(hy:row.count y=2)(h:Az row x y):Az row y x:=by
 by_cases n:x=y
 ·subst n;exact h
 ·obtain⟨n1,n2,n3,n4⟩:=Fh hx hy n;unfold Az at *;rw[Ga hx hy,Tm n,Nb,Cb] at h;rw[Ga hy hx,Tm (λe=>n e.symm),Nb,Cb];have l1:=Ca hx;have l2:=Ca hy;generalize (pl row x).1=a at *;generalize (pl row x).2=b at *;generalize (pl row y).1=c at *;generalize (pl row y).2=e at *;by_cases p1:a<c/\c<b<;>by_cases p2:a<e/\e<b<;>by_cases q1:c<a/\a<e<;>by_cases q2:c<b/\b<e <;>
  (first | rw[Tk p1] at h | rw[Tj p1] at h)<;>(first | rw[Tk p2] at h | rw[Tj p2] at h) <;>
  (first | rw[Tk q1] | rw[Tj q1])<;>(first | rw[Tk q2] | rw[Tj q2])<;>omega
theorem Xdl{x:Str}{p:Str->Bool}(h:p x=true):∀row:List Str,mid (row.filter p) x=(mid row x).filter p:=by
 have tk:∀l:List Str,(l.filter p).takeWhile (λy=>decide (y≠x))=(l.takeWhile λy=>decide (y≠x)).filter p:=by
  intro l
  induction l with
  | nil=>rfl
  | cons y r ih=>
   by_cases e:y=x
   ·subst e;rw[Pw,Tk h,Ra,Tj (by simp),Ra,Tj (by simp)];rfl
   ·rw[Ra,Tk (Tl e),Pw,Pw];by_cases q:p y=true
    ·rw[Tk q,Tk q,Ra,Tk (Tl e),ih]
    ·rw[Tj q,Tj q,ih]
 intro row;unfold mid;rw[<-tk];congr 1
 induction row with
 | nil=>rfl
 | cons y r ih=>
  by_cases e:y=x
  ·subst e;rw[Pw,Tk h,Q9,Tj (by simp),Q9,Tj (by simp)];rfl
  ·rw[Q9,Tk (Tl e),<-ih,Pw];by_cases q:p y=true
   ·rw[Tk q,Q9,Tk (Tl e)]
   ·rw[Tj q]
theorem Xk1{row row':List Str}{x y:Str}(hx:row.count x=2)(hy:row.count y=2)(hx':row'.count x=2)(hy':row'.count y=2)
  (e:row.filter (λz=>decide (z=x\/z=y))=row'.filter (λz=>decide (z=x\/z=y))):Az row x y↔Az row' x y:=by
 by_cases n:x=y
 ·subst n;exact⟨λh=>absurd h (E1 hx),λh=>absurd h (E1 hx')⟩
 ·rw[J9 hx hy n,J9 hx' hy' n];have h1:∀r:List Str,(mid r x).count y=(mid (r.filter λz=>decide (z=x\/z=y)) x).count y:=λr=>by
   rw[Xdl (by simp),List.count_filter (by simp)]
  rw[h1 row,h1 row',e]
def Bt (row:List Str):Prop:=∀x∈row,∀y∈row,∀z∈row,Az row x y->Az row x z->¬Az row y z
theorem Xk2:Bt []:=λx h=>by cases h
theorem Xdm{row more:List Str}{x:Str}(h:Bt row)(h2:∀y∈row,row.count y=2)(h2':∀y∈more,more.count y=2)(hin:∀y∈more,y=x\/y∈row)
  (hf:∀p:Str->Bool,p x=false->more.filter p=row.filter p) (hb:∀y∈more,∀z∈more,Az more x y->Az more x z->¬Az more y z):Bt more:=by
 intro a ha b hb' c hc k1 k2 k3;have s12:=Dx (h2' a ha) (h2' b hb') k1;have s13:=Dx (h2' a ha) (h2' c hc) k2;have s23:=Dx (h2' b hb') (h2' c hc) k3;by_cases ea:a=x
 ·subst ea;exact hb b hb' c hc k1 k2 k3
 by_cases eb:b=x
 ·subst eb;exact hb a ha c hc s12 k3 k2
 by_cases ec:c=x
 ·subst ec;exact hb a ha b hb' s13 s23 k1
 have ra:=(hin a ha).resolve_left ea;have rb:=(hin b hb').resolve_left eb;have rc:=(hin c hc).resolve_left ec;have go:∀u v:Str,u≠x->v≠x->u∈row->v∈row->u∈more->v∈more->Az more u v->Az row u v:=λu v nu nv hu hv mu mv k=>
  (Xk1 (h2' u mu) (h2' v mv) (h2 u hu) (h2 v hv) (hf _ (by
   rw[decide_eq_false_iff_not];rintro (e | e)
   ·exact nu e.symm
   ·exact nv e.symm))).mp k
 exact h a ra b rb c rc (go a b ea eb ra rb ha hb' k1) (go a c ea ec ra rc ha hc k2) (go b c eb ec rb rc hb' hc k3)
theorem Xk3{row:List Str}{x:Str}{a b:Nat}(hab:a<=b){p:Str->Bool}(h:p x=false):(Ez row x a b).filter p=row.filter p:=by
 unfold Ez;have e:row=row.take a++((row.drop a).take (b - a)++row.drop b):=by
  have e1:row.drop b=(row.drop a).drop (b - a):=by rw[List.drop_drop];congr 1;omega
  rw[e1,Pi,Pi]
 conv=>rhs;rw[e]
 simp[Pk,Pw,h]
theorem Xk4{A C:List Str}{x y:Str}(hx:(A++[x,x]++C).count x=2)(hy:(A++[x,x]++C).count y=2):¬Az (A++[x,x]++C) x y:=by
 by_cases n:x=y
 ·subst n;exact E1 hx
 ·rw[J9 hx hy n];have hA:x∉A:=by
   rw[<-Rt];rw[Rp,Rp,Rz,Rz] at hx;omega
  have e:A++[x,x]++C=A++x::([]++x::C):=by simp
  rw[e,Na hA (by simp)];simp
theorem Xk5{row:List Str}{x:Str}{a:Nat}{p:Str->Bool}(h:p x=false):(row.take a++[x,x]++row.drop a).filter p=row.filter p:=by
 simp[Pk,Pw,h];rw[<-Pk,Pi]
theorem Xdn{F:List Str}{x y:Str}(hF:F.Nodup)(hx:x∈F)(n:x≠y):(mid (F++F.reverse) x).count y≠1:=by
 obtain⟨A,B,rfl,hA⟩:=split1 hx;have hB:x∉B:=by
  have h1:=(Qb.mp hF).2.1;exact(Qf.mp h1).1
 have e:(A++x::B)++(A++x::B).reverse=A++x::((B++B.reverse)++x::A.reverse):=by simp
 rw[e,Na hA (by simp[hB]),Rp,List.count_reverse];omega
theorem E2{ns:List Str}(hn:ns.Nodup)(c:Nat){x y:Str}(h2:∀z∈ns,(ns++(ns.take c).reverse++(ns.drop c).reverse).count z=2)
  (h:(x∈ns.take c/\y∈ns.take c)\/(x∈ns.drop c/\y∈ns.drop c)):¬Az (ns++(ns.take c).reverse++(ns.drop c).reverse) x y:=by
 have sub:(∀z,z∈ns.take c->z∈ns)/\∀z,z∈ns.drop c->z∈ns:=⟨λz=>Px,λz=>P7⟩;have hx:x∈ns:=h.elim (λz=>sub.1 _ z.1) λz=>sub.2 _ z.1;have hy:y∈ns:=h.elim (λz=>sub.1 _ z.2) λz=>sub.2 _ z.2;by_cases n:x=y
 ·subst n;exact E1 (h2 x hx)
 rw[J9 (h2 x hx) (h2 y hy) n];have key:(mid (ns++(ns.take c).reverse++(ns.drop c).reverse) x).count y=(mid ((ns++(ns.take c).reverse++(ns.drop c).reverse).filter λz=>decide (z=x\/z=y)) x).count y:=by
  rw[Xdl (by simp),List.count_filter (by simp)]
 rw[key];have dj:∀z,z∈ns.take c->z∈ns.drop c->False:=by
  have:=hn;rw[<-Pi c ns] at this;intro z h1 h2;exact(Qb.mp this).2.2 z h1 z h2 rfl
 have e0:ns.filter (λz=>decide (z=x\/z=y))=(ns.take c).filter (λz=>decide (z=x\/z=y))++(ns.drop c).filter (λz=>decide (z=x\/z=y)):=by
  rw[<-Pk,Pi]
 rw[Pk,Pk,e0,List.filter_reverse,List.filter_reverse];rcases h with ⟨h1,h2⟩ | ⟨h1,h2⟩
 ·have e:(ns.drop c).filter (λz=>decide (z=x\/z=y))=[]:=by
   rw[Rb];intro z hz q;rcases Tn q with q | q
   ·exact dj x h1 (q ▸ hz)
   ·exact dj y h2 (q ▸ hz)
  rw[e,Qa,List.reverse_nil,Qa];exact Xdn ((hn.sublist (P1 ..)).filter _) (O0.mpr ⟨h1,by simp⟩) n
 ·have e:(ns.take c).filter (λz=>decide (z=x\/z=y))=[]:=by
   rw[Rb];intro z hz q;rcases Tn q with q | q
   ·exact dj x (q ▸ hz) h1
   ·exact dj y (q ▸ hz) h2
  rw[e,Ro,List.reverse_nil,Qa];exact Xdn ((hn.sublist (Qu ..)).filter _) (O0.mpr ⟨h1,by simp⟩) n
theorem noThree_grid{ns:List Str}(hn:ns.Nodup)(c:Nat)(h2:∀z∈ns,(ns++(ns.take c).reverse++(ns.drop c).reverse).count z=2):Bt (ns++(ns.take c).reverse++(ns.drop c).reverse):=by
 have mem:∀z,z∈ns++(ns.take c).reverse++(ns.drop c).reverse->z∈ns.take c\/z∈ns.drop c:=by
  intro z hz;rw[<-Oz,Pi];simp only[Oz,List.mem_reverse] at hz;rcases hz with (h | h) | h
  ·exact h
  ·exact Px h
  ·exact P7 h
 intro x hx y hy z hz k1 k2 k3;rcases mem x hx with a | a<;>rcases mem y hy with b | b<;>rcases mem z hz with d | d
 ·exact E2 hn c h2 (.inl ⟨a,b⟩) k1
 ·exact E2 hn c h2 (.inl ⟨a,b⟩) k1
 ·exact E2 hn c h2 (.inl ⟨a,d⟩) k2
 ·exact E2 hn c h2 (.inr ⟨b,d⟩) k3
 ·exact E2 hn c h2 (.inl ⟨b,d⟩) k3
 ·exact E2 hn c h2 (.inr ⟨a,d⟩) k2
 ·exact E2 hn c h2 (.inr ⟨a,b⟩) k1
 ·exact E2 hn c h2 (.inr ⟨a,b⟩) k1
def spBarredN:Sp:=λvs H Q _=>∃(r:Addr) (row:List Str) (x:Str),vs=[.ref r,.str x]/\H r=some (.lst (row.map V.str))/\row.length<=1000/\(∀y∈row,row.count y=2)/\x∈row /\
 ∀b H',(b=false->∀y∈row,∀z∈row,Az row x y->Az row x z->¬Az row y z)->Same H H'->Q (.bl b) H'
def spRowN:Sp:=λvs H Q _=>∃(dr sc nl:Addr) (ns:List Str),vs=[.ref dr,.ref nl]/\DrawOk H dr sc/\H nl=some (.lst (ns.map V.str))/\nl≠dr/\ns.Nodup/\ns.length<=14 /\
 ∀(l:Addr) (row:List Str) (H':Hp),H l=none->H' l=some (.lst (row.map V.str))->row.Perm (ns++ns)->Bt row->DrawOk H' dr sc->But dr H H'->Q (.ref l) H'
def spIslandN:Sp:=λvs H Q _=>∃(dr sc:Addr) (m:Nat),vs=[.ref dr,.int m]/\m<=14/\DrawOk H dr sc /\
 ∀(l:Addr) (row:List Str) (n st:Nat) (late:Bool) (H':Hp),H l=none->n<=m->st<26->H' l=some (.lst (row.map V.str))->row.Perm (Bh st late n++Bh st late n)->Bt row->DrawOk H' dr sc->But dr H H'->Q (.ref l) H'
theorem Xdo{p:Prop}{_:Decidable p}(h:decide p=false):¬p:=Tp h
theorem Wh.pl{H:Hp}{kvs:List (Key×V)}{row:List Str}{x:Str}(w:Wh H kvs row)(hx:x∈row)(h:row.count x=2):∃l,Av kvs (Sum.inr x:Key)=some (.ref l)/\H l=some (.lst [.int (pl row x).1,.int (pl row x).2]):=by
 obtain⟨l,h1,h2⟩:=w.val x hx;rw[Fg h] at h2;exact⟨l,h1,h2⟩
def deg2 {α : Type} (R : α -> α->Bool) (l:List α):Nat:=(l.map λx=>l.countP (R x)).sum
theorem Xk6{a b:List Nat}(p:a.Perm b):a.sum=b.sum:=by
 induction p with
 | nil=>rfl
 | cons x _ ih=>simp[ih]
 | swap x y l=>simp;omega
 | trans _ _ h1 h2=>exact h1.trans h2
theorem Xk7{α : Type}{R : α -> α->Bool}{a b:List α}(p:a.Perm b):deg2 R a=deg2 R b:=by
 unfold deg2;have e:(a.map λx=>a.countP (R x))=a.map λx=>b.countP (R x):=P0 λx _=>p.countP_eq _;rw[e];exact Xk6 (p.map _)
theorem Fi{α : Type}(f g : α->Nat):∀l:List α,(l.map λx=>f x+g x).sum=(l.map f).sum+(l.map g).sum
 | []=>rfl
 | x::r=>by simp[Fi f g r];omega
theorem Ed{α : Type}(p : α->Bool):∀l:List α,(l.map λx=>if p x=true then 1 else 0).sum=l.countP p
 | []=>rfl
 | x::r=>by
  rw[Pg,Qi,Ed p r,Qq];omega
theorem Xdp{α : Type}:∀l:List α,(l.map λ_=>0).sum=0
 | []=>rfl
 | _::r=>by rw[Pg,Qi,Xdp r]
theorem mantel{α : Type}[DecidableEq α]{R : α -> α->Bool}:∀(n:Nat) (l:List α),l.length=n->l.Nodup->(∀x∈l,R x x=false)->(∀x∈l,∀y∈l,R x y=R y x) ->
  (∀x∈l,∀y∈l,∀z∈l,R x y=true->R x z=true->R y z=false)->2 * deg2 R l<=n * n:=by
 intro n
 induction n using Nat.strongRecOn with
 | ind n ih=>
  intro l hl nd irr sy tri;by_cases h:∃u∈l,∃v∈l,R u v=true
  ·obtain⟨u,hu,v,hv,huv⟩:=h;have nuv:u≠v:=λe=>by subst e;rw[irr u hu] at huv;cases huv
   have p1:l.Perm (u::l.erase u):=List.perm_cons_erase hu;have hv':v∈l.erase u:=(List.mem_erase_of_ne nuv.symm).mpr hv;have p2:l.Perm (u::v::(l.erase u).erase v):=p1.trans (List.Perm.cons u (List.perm_cons_erase hv'));generalize (l.erase u).erase v=r at p2;have hlen:=p2.length_eq;simp only[Pc] at hlen;have nd':=p2.nodup_iff.mp nd;have mr:∀x∈r,x∈l:=λx hx=>p2.mem_iff.mpr (Ou _ (Ou _ hx));have ndr:r.Nodup:=(Qf.mp (Qf.mp nd').2).2;have ihr:=ih r.length (by omega) r rfl ndr (λx hx=>irr x (mr x hx)) (λx hx y hy=>sy x (mr x hx) y (mr y hy)) (λx hx y hy z hz=>tri x (mr x hx) y (mr y hy) z (mr z hz));have e:deg2 R l=2+2 * (r.countP (R u)+r.countP (R v))+deg2 R r:=by
    rw[Xk7 p2];unfold deg2;rw[Pg,Pg,Qi,Qi];have ef:(r.map λx=>(u::v::r).countP (R x))=r.map λx=>((if R u x=true then 1 else 0)+(if R v x=true then 1 else 0))+r.countP (R x):=by
     refine P0 λx hx=>?_;rw[Qq,Qq,sy x (mr x hx) u hu,sy x (mr x hx) v hv];omega
    rw[ef,Fi,Fi,Ed,Ed,Qq,Qq,Qq,Qq,irr u hu,irr v hv,huv,sy v hv u hu,huv];simp;omega
   have le:r.countP (R u)+r.countP (R v)<=r.length:=by
    rw[<-Ed (R u),<-Ed (R v),<-Fi];have:∀m:List α,(∀x∈m,x∈l)->(m.map λx=>(if R u x=true then 1 else 0)+(if R v x=true then 1 else 0)).sum<=m.length:=by
     intro m
     induction m with
     | nil=>intro _;exact Oq _
     | cons x t iht=>
      intro hm;have h1:=iht λy hy=>hm y (Ou _ hy);have hx:=hm x Ow;have h2:(if R u x=true then 1 else 0)+(if R v x=true then 1 else 0)<=1:=by
       by_cases a:R u x=true
       ·have:=tri u hu v hv x hx huv a;rw[this,Tk a];decide
       ·rw[Tj a];split<;>decide
      rw[Pg,Qi,Pc];omega
    exact this r mr
   have hn:n=r.length+2:=by omega
   rw[e,hn];have:(r.length+2) * (r.length+2)=r.length * r.length+4 * r.length+4:=by
    rw[Nat.add_mul,Nat.mul_add];omega
   rw[this];omega
  ·have z:deg2 R l=0:=by
    unfold deg2;have:(l.map λx=>l.countP (R x))=l.map λ_=>0:=by
     refine P0 λx hx=>?_;rw[List.countP_eq_zero];intro y hy q;exact h ⟨x,hx,y,hy,q⟩
    rw[this];exact Xdp l
   rw[z];exact Pq _
theorem Xdq{α β : Type}(p : α -> β->Bool)(m:List β):∀l:List α,(l.map λx=>m.countP (p x)).sum=(m.map λy=>l.countP λx=>p x y).sum
 | []=>by
  show 0=_
  induction m with
  | nil=>rfl
  | cons y r ih=>rw[Pg,Qi,<-ih];rfl
 | x::l=>by
  rw[Pg,Qi,Xdq p m l];have e:(m.map λy=>(x::l).countP λx=>p x y)=m.map λy=>(if p x y=true then 1 else 0)+l.countP λx=>p x y:=by
   refine P0 λy _=>?_;rw[Qq];omega
  rw[e,Fi,Ed]
theorem Xk8{row:List Str}(h2:∀y∈row,row.count y=2):2 * (crs row).length=deg2 (λx y=>decide (Az row x y)) (dit row):=by
 have e:(crs row).length=((dit row).map λx=>(dit row).countP λy=>decide (ltS x y)&&decide (Az row x y)).sum:=by
  unfold crs;rw[List.length_flatMap];congr 1;refine P0 λx _=>?_;rw[Oo,Q3];rfl
 have e2:=Xdq (λx y=>decide (ltS x y)&&decide (Az row x y)) (dit row) (dit row);have e3:2 * (crs row).length=((dit row).map λx=>(dit row).countP λy=>decide (ltS x y)&&decide (Az row x y)).sum+((dit row).map λy=>(dit row).countP λx=>decide (ltS x y)&&decide (Az row x y)).sum:=by
  rw[<-e2,e];omega
 rw[e3,<-Fi];unfold deg2;congr 1;refine P0 λx hx=>?_;rw[<-Ed,<-Ed,<-Ed,<-Fi];congr 1;refine P0 λy hy=>?_;have hx':=Ao.mp hx;have hy':=Ao.mp hy;by_cases c:Az row x y
 ·have c':=Dx (h2 x hx') (h2 y hy') c;have n:x≠y:=λe=>by subst e;exact E1 (h2 x hx') c
  by_cases l:ltS x y
  ·have l':¬ltS y x:=λq=>Je x (Jf l q);simp[c,c',l,l']
  ·have l':ltS y x:=ltS_of (Mg.mp l) n.symm;simp[c,c',l,l']
 ·have c':¬Az row y x:=λq=>c (Dx (h2 y hy') (h2 x hx') q);simp[c,c']
theorem Xdr{row:List Str}(h2:∀y∈row,row.count y=2)(h3:Bt row)(hl:(dit row).length<=14):(crs row).length<=49:=by
 have m:=mantel (R:=λx y=>decide (Az row x y)) (dit row).length (dit row) rfl (F2 row) (λx hx=>Tm (E1 (h2 x (Ao.mp hx))))
  (λx hx y hy=>by
   by_cases c:Az row x y
   ·rw[Tl c,Tl (Dx (h2 x (Ao.mp hx)) (h2 y (Ao.mp hy)) c)]
   ·rw[Tm c,Tm λq=>c (Dx (h2 y (Ao.mp hy)) (h2 x (Ao.mp hx)) q)])
  (λx hx y hy z hz a b=>Tm (h3 x (Ao.mp hx) y (Ao.mp hy) z (Ao.mp hz) (Tn a) (Tn b)))
 rw[<-Xk8 h2] at m;have:(dit row).length * (dit row).length<=14 * 14:=Nat.mul_le_mul hl hl;omega
def upB (row:List Str) (x y:Str):Bool:=decide (y=x)||decide (lieR row x y = "within")
def span (row:List Str) (x:Str):Nat:=((pl row x).2 - (pl row x).1).toNat
theorem Xk9(a b c e:Int):lieT a b c e = "same" \/ lieT a b c e = "cross" \/ lieT a b c e = "within" \/ lieT a b c e = "around" \/ lieT a b c e = "apart" := by
 unfold lieT;split
 ·exact .inl rfl
 ·split
  ·exact .inr (.inl rfl)
  ·split
   ·exact .inr (.inr (.inl rfl))
   ·split
    ·exact .inr (.inr (.inr (.inl rfl)))
    ·exact .inr (.inr (.inr (.inr rfl)))
theorem Xla{row:List Str}{x y:Str}(hx:row.count x=2)(hy:row.count y=2)(n:x≠y)(h:lieR row x y = "around"):span row y<span row x:=by
 obtain⟨n1,n2,n3,n4⟩:=Fh hx hy n;have l1:=Ca hx;have l2:=Ca hy;unfold span;unfold lieR lieT at h;rw[Tj (λz=>n1 z.1)] at h;split at h
 ·exact absurd h (by decide)
 ·split at h
  ·exact absurd h (by decide)
  ·split at h
   ·rename_i q;rw[Cb] at q;generalize (pl row x).1=a at *;generalize (pl row x).2=b at *;generalize (pl row y).1=c at *;generalize (pl row y).2=e at *;by_cases p1:a<c/\c<b
    ·by_cases p2:a<e/\e<b
     ·omega
     ·rw[Tk p1,Tj p2] at q;omega
    ·rw[Tj p1] at q;split at q<;>omega
   ·exact absurd h (by decide)
theorem Xds{row:List Str}{x y:Str}(hx:row.count x=2)(hy:row.count y=2)(h:lieR row x y = "same"):x=y:=by
 refine Classical.byContradiction λn=>?_;obtain⟨n1,n2,n3,n4⟩:=Fh hx hy n;unfold lieR lieT at h;rw[Tj (λz=>n1 z.1)] at h;split at h
 ·exact absurd h (by decide)
 ·split at h
  ·exact absurd h (by decide)
  ·split at h
   ·exact absurd h (by decide)
   ·exact absurd h (by decide)
theorem least{α : Type}(f : α->Nat):∀l:List α,l≠[]->∃a∈l,∀b∈l,f a<=f b
 | [],h=>absurd rfl h
 | [a],_=>⟨a,Ow,λb hb=>by rw[Ot.mp hb];exact Oq _⟩
 | a::c::r,_=>by
  obtain⟨m,hm,hl⟩:=least f (c::r) (by simp);by_cases q:f a<=f m
  ·exact⟨a,Ow,λb hb=>by
    rcases O6.mp hb with e | e
    ·rw[e];exact Oq _
    ·exact Pr q (hl b e)⟩
  ·exact⟨m,Ou _ hm,λb hb=>by
    rcases O6.mp hb with e | e
    ·rw[e];omega
    ·exact hl b e⟩
def cands (row:List Str):List (List Str):=(dit row).map (λa=>(dit row).filter (upB row a))++(crs row).map λp=>(dit row).filter λy=>upB row p.1 y||upB row p.2 y
theorem Xdt{row S:List Str}(h2:∀y∈row,row.count y=2)(h3:Bt row)(hne:S≠[])(hg:Ae row S=true):S∈cands row:=by
 have hg':=hg;rw[<-M8 h2] at hg';unfold Hm at hg';rw[O9] at hg';have hS:=Tn hg'.1;unfold Ae at hg;rw[O9,O9] at hg;obtain⟨⟨_,hrow⟩,hal⟩:=hg;have inr:∀x∈S,x∈row:=λx hx=>Tn (Pl.mp hrow x hx);have al:∀x∈S,∀y∈row,Eb (lieR row x y) (decide (y∈S))=true:=λx hx y hy=>Pl.mp (Pl.mp hal x hx) y (Ao.mpr hy);have within:∀x∈S,∀y∈row,lieR row x y = "within" -> y∈S:=λx hx y hy e=>by
  have:=al x hx y hy;unfold Eb at this;rw[Tk e] at this;exact Tn this
 have apart:∀x∈S,∀y∈S,lieR row x y ≠ "apart" := λx hx y hy e=>by
  have:=al x hx y (inr y hy);unfold Eb at this;rw[Tj (by rw[e];decide),e,Tl hy] at this;exact absurd this (by decide)
 have how:∀a∈S,∀c∈S,upB row a c=false->¬span row c<span row a->Az row a c:=λa ha c hc hu hs=>by
  have hu':=Bool.or_eq_false_iff.mp hu;have n1:c≠a:=Tp hu'.1;have n2:=Tp hu'.2;rcases Xk9 (pl row a).1 (pl row a).2 (pl row c).1 (pl row c).2 with q | q | q | q | q
  ·exact absurd (Xds (h2 a (inr a ha)) (h2 c (inr c hc)) q).symm n1
  ·exact q
  ·exact absurd q n2
  ·exact absurd (Xla (h2 a (inr a ha)) (h2 c (inr c hc)) (λe=>n1 e.symm) q) hs
  ·exact absurd q (apart a ha c hc)
 have upin:∀a∈S,∀y∈row,upB row a y=true->y∈S:=λa ha y hy q=>by
  rcases Sm.mp q with q | q
  ·rw[Tn q];exact ha
  ·exact within a ha y hy (Tn q)
 obtain⟨a,ha,la⟩:=least (span row) S hne;unfold cands;rw[Oz];by_cases hall:∀c∈S,upB row a c=true
 ·left;rw[Pe];refine⟨a,Ao.mpr (inr a ha),?_⟩;rw[hS];refine List.filter_congr λy hy=>?_;by_cases q:y∈S
  ·rw[hall y q,Tl q]
  ·rw[Tm q,Ry];exact λz=>q (upin a ha y (Ao.mp hy) z)
 ·right;have hne2:S.filter (λc => !upB row a c)≠[]:=λe=>hall λc hc=>by
   rw[Rb] at e;have:=e c hc;simpa using this
  obtain⟨b,hb,lb⟩:=least (span row) _ hne2;obtain⟨hbS,hbu⟩:=O0.mp hb;have hbu:upB row a b=false:=by simpa using hbu
  have cab:=how a ha b hbS hbu (by have:=la b hbS;omega);have all2:∀c∈S,upB row a c=true\/upB row b c=true:=λc hc=>by
   refine Classical.byContradiction λz=>?_;have z1:upB row a c=false:=by
    cases q:upB row a c with
    | false=>rfl
    | true=>exact absurd (.inl q) z
   have z2:upB row b c=false:=by
    cases q:upB row b c with
    | false=>rfl
    | true=>exact absurd (.inr q) z
   have k1:=how a ha c hc z1 (by have:=la c hc;omega);have k2:=how b hbS c hc z2 (by have:=lb c (O0.mpr ⟨hc,by simp[z1]⟩);omega);exact h3 a (inr a ha) b (inr b hbS) c (inr c hc) cab k1 k2
  have key:∀p q:Str,p∈S->q∈S->(∀c∈S,upB row p c=true\/upB row q c=true)->(dit row).filter (λy=>upB row p y||upB row q y)=S:=λp q hp hq h=>by
   conv=>rhs;rw[hS]
   refine List.filter_congr λy hy=>?_;by_cases m:y∈S
   ·rw[Tl m,Sm];exact h y m
   ·rw[Tm m,Bool.or_eq_false_iff];exact⟨Ry.mpr λz=>m (upin p hp y (Ao.mp hy) z),Ry.mpr λz=>m (upin q hq y (Ao.mp hy) z)⟩
  have nab:a≠b:=λe=>by subst e;exact E1 (h2 a (inr a ha)) cab
  have mk:∀p q:Str,p∈S->q∈S->ltS p q->Az row p q->(p,q)∈crs row:=λp q hp hq l c=>by
   unfold crs;rw[List.mem_flatMap];refine⟨p,Ao.mpr (inr p hp),Pe.mpr ⟨q,O0.mpr ⟨Ao.mpr (inr q hq),?_⟩,rfl⟩⟩;rw[O9];exact⟨Tl l,Tl c⟩
  rw[Pe];by_cases l:ltS a b
  ·exact⟨(a,b),mk a b ha hbS l cab,key a b ha hbS all2⟩
  ·have l':=ltS_of (Mg.mp l) nab.symm;exact⟨(b,a),mk b a hbS ha l' (Dx (h2 a (inr a ha)) (h2 b (inr b hbS)) cab),key b a hbS ha λc hc=>(all2 c hc).symm⟩
theorem Ka{α : Type}[DecidableEq α]:∀{a b:List α},a.Nodup->(∀x∈a,x∈b)->a.length<=b.length
 | [],_,_,_=>Pq _
 | x::r,b,h,s=>by
  obtain⟨h1,h2⟩:=Qf.mp h;have hx:=s x Ow;have:=Ka (a:=r) (b:=b.erase x) h2 λy hy=>(List.mem_erase_of_ne (show y≠x from λe=>h1 (e ▸ hy))).mpr (s y (Ou _ hy));rw[List.length_erase_of_mem hx] at this;have:0<b.length:=Se hx;rw[Pc];omega
theorem Nc{row:List Str}{L:List (List Str)}(h2:∀y∈row,row.count y=2)(h3:Bt row)(hl:(dit row).length<=14)(nd:L.Nodup)(h:∀S∈L,S≠[]/\Ae row S=true):L.length<64:=by
 have l1:=Ka nd λS hS=>Xdt h2 h3 (h S hS).1 (h S hS).2;have l2:=Xdr h2 h3 hl;unfold cands at l1;rw[Oy,Oo,Oo] at l1;omega
end SH
namespace L2
open PySem PySem.Spec PyProof.Rows
open PySem.W (KasT kas_asc kas_desc kas_rev kas_tail3 kas_descPart kas_count kas_place kas_bin kas_sort kas_ask kas_item kat_run kat_snds kat_kind kat_lt KatLex kat_cons kat_go kat_yes kat_no kat_one kat_nil KatTups)
def KAll {α : Type} (n:Nat) (P : α->Prop):KasT α->Prop
 | .ret a=>P a
 | .ask i j k=>i<n/\j<n/\∀b,KAll n P (k b)
theorem KAll.bind{α β : Type}{n:Nat}{P : α->Prop}{Q : β->Prop}{f : α->KasT β}(hf:∀a,P a->KAll n Q (f a)):∀{t:KasT α},KAll n P t->KAll n Q (t.bind f)
 | .ret a,h=>hf a h
 | .ask i j k,h=>⟨h.1,h.2.1,λb=>KAll.bind hf (h.2.2 b)⟩
def Gd (n:Nat) (p:Array Nat):Prop:=p.Perm (List.toArray (List.range n))
theorem Gd.lt{n:Nat}{p:Array Nat}(h:Gd n p)(hn:0<n)(i:Nat):p.getD i 0<n:=by
 by_cases hi:i<p.size
 ·have e:p.getD i 0=p[i]:=by simp[Array.getD,hi]
  rw[e];have:p[i]∈p:=Array.getElem_mem hi;have:=h.mem_iff.mp this;simpa using this
 ·have e:p.getD i 0=0:=by simp[Array.getD,hi]
  rw[e];exact hn
theorem Gd.rev{n:Nat}{p:Array Nat}(h:Gd n p)(i j:Nat):Gd n (kas_rev p i j):=(mirror_perm p i j _).trans h
theorem Nd{n:Nat}(hn:0<n){p:Array Nat}(h:Gd n p):∀f m,KAll n (λ_=>True) (kas_asc p f m)
 | 0,_=>trivial
 | f+1,m=>⟨h.lt hn _,h.lt hn _,λb=>by
  cases b with
  | true=>exact trivial
  | false=>exact Nd hn h f (m+1)⟩
theorem Kb{n:Nat}(hn:0<n):∀f (p:Array Nat) m q,Gd n p->KAll n (λr=>Gd n r.1) (kas_desc f p m q)
 | 0,p,m,q,h=>h
 | f+1,p,m,q,h=>⟨h.lt hn _,h.lt hn _,λb=>by
  cases b with
  | true=>
   show KAll n _ (if q > 0 then kas_desc f (kas_rev p (m - (q+1)) m) (m+1) 0 else kas_desc f p (m+1) 0);split
   ·exact Kb hn f _ _ _ (h.rev _ _)
   ·exact Kb hn f _ _ _ h
  | false=>
   refine⟨h.lt hn _,h.lt hn _,λd=>?_⟩;cases d with
   | true=>exact h
   | false=>exact Kb hn f _ _ _ h⟩
theorem Xdu{n:Nat}(hn:0<n){p:Array Nat}(h:Gd n p)(m r:Nat):KAll n (λr=>Gd n r.2) (kas_tail3 m r p):=by
 unfold kas_tail3;refine KAll.bind (P:=λ_=>True) (Q:=λ(r:Nat×Array Nat)=>Gd n r.2) (λa _=>?_) (Nd hn (h.rev 0 m) _ _);exact h.rev 0 m
theorem Xdv{n:Nat}(hn:0<n){p:Array Nat}(h:Gd n p)(m r:Nat):KAll n (λr=>Gd n r.2) (kas_descPart m r p):=by
 refine KAll.bind (P:=λr=>Gd n r.1) (λa ha=>?_) (Kb hn _ _ _ _ h);split
 ·exact Xdu hn (ha.rev _ _) _ _
 ·exact Xdu hn ha _ _
theorem Xlb{n:Nat}(hn:0<n){p:Array Nat}(h:Gd n p)(r:Nat):KAll n (λr=>Gd n r.2) (kas_count r p):=by
 refine KAll.bind (P:=λ_=>True) (λa _=>?_) (Nd hn h _ _);split
 ·exact h
 ·split
  ·refine⟨h.lt hn _,h.lt hn _,λb=>?_⟩;cases b with
   | true=>exact h
   | false=>exact Xdv hn (h.rev _ _) _ _
  ·exact Xdv hn h _ _
theorem Nf{n:Nat}(hn:0<n){p:Array Nat}(h:Gd n p)(k:Nat):∀f l r,KAll n (λ_=>True) (kas_place p k f l r)
 | 0,_,_=>trivial
 | f+1,l,r=>by
  show KAll n _ (if l ≥ r then _ else _);split
  ·exact trivial
  ·refine⟨h.lt hn _,h.lt hn _,λb=>?_⟩;cases b with
   | true=>exact Nf hn h k f _ _
   | false=>exact Nf hn h k f _ _
theorem Xdw{n:Nat}(hn:0<n):∀f (p:Array Nat) k,Gd n p->KAll n (Gd n) (kas_bin f p k)
 | 0,p,_,h=>h
 | f+1,p,k,h=>KAll.bind (P:=λ_=>True) (λl _=>Xdw hn f _ _ ((bubble_perm p k _).trans h)) (Nf hn h k _ _ _)
theorem Kc{n:Nat}(hn:0<n):KAll n (Gd n) (kas_sort n):=by
 refine KAll.bind (P:=λr=>Gd n r.2) (λa ha=>?_) (Xlb hn (So _) n);split
 ·exact Xdw hn _ _ _ ha
 ·exact ha
section
variable {prog:Program}{w:World}{A:Around}{E:Value->Shared->Prop}{s:Shared}
def Xdx (h:Heap) (v:Value):Prop:=∃a o xs n ss,v = .ref a/\h.get? a=some o/\o.cls = .type "tuple" /\ o.data = .seq xs n/\StrsAre xs.toList ss/\ss≠[]
theorem Xdy:∀{vs:List Value},(∀v∈vs,Xdx s.heap v)->∃fs,KatTups s.heap vs fs/\fs.length=vs.length/\∀f∈fs,∃x t,f = .str x t
 | [],_=>⟨[],KatTups.nil,rfl,λ_ h=>by cases h⟩
 | v::vs,h=>by
  obtain⟨fs,h1,h2,h3⟩:=Xdy (vs:=vs) λu hu=>h u (Ou _ hu);obtain⟨a,o,xs,n,ss,rfl,g1,g2,g3,g4,g5⟩:=h v Ow;obtain⟨f,x,t,hf,rfl⟩:∃f x t,xs[0]? = some f/\f = .str x t:=by
   have e:xs[0]? = xs.toList[0]?:=by simp
   rw[e];generalize xs.toList=l at g4;cases g4 with
   | nil=>exact absurd rfl g5
   | cons x t r=>exact⟨_,x,t,rfl,rfl⟩
  exact⟨_::fs,KatTups.cons g1 g2 g3 hf h1,by simp[h2],λf hf=>by
   rcases O6.mp hf with e | e
   ·exact⟨x,t,e⟩
   ·exact h3 f e⟩
end
section
variable {X:Cx}
end
section
variable {X:Cx}
theorem Xlc:Br X (.builtin "sorted") (λxs H Q=>∃(a:Addr) (ks:List Str),xs=[.ref a]/\H a=some (.tup (ks.map V.str))/\ks.length<64/\∀l,H l=none->Q (.ref l) (upd H l (.lst ((srt ks).map V.str)))):=by
 intro pins s σ H xs us Q I r h;obtain⟨a,ks,rfl,ha,h64,q⟩:=h;obtain⟨u,rfl,rx⟩:=B4 r;cases rx;obtain⟨its,r2,p2,_⟩:=I.tuple (SqT.of (K:=X.K) ha);obtain⟨o,ho,hc,n,hd⟩:=id p2;have hl:its.length=ks.length:=by
  have:=r2.length;rw[Oo] at this;exact this.symm
 refine Md h64 (λR k=>wpAny_collect_seq a (.inr rfl) ho hc hd (λh' kk=>k _ _ ks kk rfl rfl (by simpa using Fz r2) (Qn _)) (by rw[Ox,hl,Ti];omega)) λs1 s' vs ls e k1 o1 g1 k2 o2 g2 he st p so=>?_;refine Me I h64 k1 o1 g1 k2 o2 g2 he st p λl hl=>?_;rw[F0 p so];exact q l hl
theorem Xdz(hu:X.A.units+4<cLine):OpR X (compareOp .NotIn) (λx y H Q=>∃d ds,DAt H d x/\DAt H (.list ds) y/\d.canLay0=true/\PyData.canLayAll0 ds=true/\d.depth<=3/\Q (.bl (!ds.any λe=>PyData.eqv e d)) H):=by
 intro pins s σ H x y v u Q I rx ry h;obtain⟨d,ds,h1,h2,c1,c2,hd,q⟩:=h;obtain⟨as,ra⟩:=Fe I d x v h1 rx;obtain⟨bs,rb⟩:=Fe I (.list ds) y u h2 ry;exact SeqAt.notIn_list_reads rb ra c2 c1 (by omega) ⟨.bl _,H,I,rfl,q⟩
end
end L2
namespace SH
open PySem PySem.Spec PyProof.Rows L2
def tupD (ss:List Str):PyData:=.tuple (ss.map PyData.str)
def Plts (row:List Str) (H:Hp) (ps:List Addr):Prop:=∀p∈ps,∃ss:List Str,H p=some (.tup (ss.map V.str))/\Ae row ss=true
theorem Da{row ss:List Str}(h:Ae row ss=true):(∀x∈ss,x∈row)/\ss.Pairwise ltS:=by
 unfold Ae at h;rw[O9,O9] at h;refine⟨λx hx=>Tn (Pl.mp h.1.2 x hx),?_⟩;rw[Tn h.1.1];exact M6 ss
theorem Kd{row ss:List Str}(h:Ae row ss=true):ss.length<=(dit row).length:=
 Ka (Ec (Da h).2) λx hx=>Ao.mpr ((Da h).1 x hx)
theorem Ho(row:List Str):Ae row []=true:=by
 unfold Ae;rw[J3 .nil];rfl
theorem Xld{row ss:List Str}{x:Str}(h2:∀y∈row,row.count y=2)(h:Ae row ss=true)(hx:x∈row)(n:x∉ss)(hf:C2 (bars row) (srt (ss++[x]))=true):Ae row (srt (ss++[x]))=true:=by
 rw[<-M8 h2];unfold Hm;rw[hf,Bool.and_true];obtain⟨hr,hl⟩:=Da h;have nd:(ss++[x]).Nodup:=by
  rw[Qb];exact⟨Ec hl,by simp,λa ha b hb e=>n (by rw[Ot.mp hb] at e;exact e ▸ ha)⟩
 refine Tl (M7.mpr ⟨?_,λy hy=>?_⟩)
 ·unfold told;have e1:srt (ddup (srt (ss++[x])))=srt (srt (ss++[x])):=Xck (Jz ((Cg _).nodup_iff.mpr nd));have e2:srt (srt (ss++[x]))=srt (ss++[x]):=Eu (Cg _) (Du _) (Du _);exact(e1.trans e2).symm
 ·rcases Oz.mp (He.mp hy) with q | q
  ·exact hr y q
  ·rw[Ot.mp q];exact hx
theorem Xle{ss:List Str}{x:Str}:srt (ss++[x])≠[]:=λe=>by
 have:x∈srt (ss++[x]):=He.mpr (by simp);rw[e] at this;cases this
structure Fresh (row:List Str) (H:Hp) (f:Addr) (xs:List V) (Ts:List (List Str)):Prop where
 at':H f=some (.lst xs)
 all:DAll H (Ts.map tupD) xs
 nd:Ts.Nodup
 ok:∀T∈Ts,T≠[]/\Ae row T=true
theorem Fresh.same{row:List Str}{H H':Hp}{f:Addr}{xs:List V}{Ts:List (List Str)}(h:Fresh row H f xs Ts)(s:Same H H'):Fresh row H' f xs Ts:=⟨s _ _ h.at',DAll.same s _ _ h.all,h.nd,h.ok⟩
abbrev NPl:List Str:=["_law_row_here", "_law_bars_here", "_law_names_here", "_law_told", "_law_layer", "_law_k", "_law_fresh", "_law_plot", "_law_name", "_law_over"]
end SH
namespace L2
open PySem PySem.Spec PyProof.Rows
def Tups (H:Hp) (ps:List Addr) (Ts:List (List Str)):Prop:=ps.length=Ts.length/\∀i,i<ps.length->H (ps.getD i 0)=some (.tup ((Ts.getD i []).map V.str))
theorem Tups.same{H H':Hp}{ps:List Addr}{Ts:List (List Str)}(h:Tups H ps Ts)(s:Same H H'):Tups H' ps Ts:=⟨h.1,λi hi=>s _ _ (h.2 i hi)⟩
theorem Tups.nil(H:Hp):Tups H [] []:=⟨rfl,λi hi=>absurd hi (Qg _)⟩
theorem Tups.cons{H:Hp}{p:Addr}{T:List Str}{ps:List Addr}{Ts:List (List Str)}(h:H p=some (.tup (T.map V.str)))(r:Tups H ps Ts):Tups H (p::ps) (T::Ts):=by
 refine⟨by simp[r.1],λi hi=>?_⟩;cases i with
 | zero=>exact h
 | succ i=>exact r.2 i (by simpa using hi)
theorem Tups.app{H:Hp}:∀{ps qs:List Addr} {Ts Us:List (List Str)},Tups H ps Ts->Tups H qs Us->Tups H (ps++qs) (Ts++Us)
 | [],qs,Ts,Us,h,g=>by
  have:Ts=[]:=Py.mp h.1.symm;rw[this];exact g
 | p::ps,qs,[],Us,h,g=>by have:=h.1;simp at this
 | p::ps,qs,T::Ts,Us,h,g=>by
  have r:Tups H ps Ts:=⟨by simpa using h.1,λi hi=>by simpa using h.2 (i+1) (by simpa using hi)⟩;exact Tups.cons (h.2 0 (by simp)) (Tups.app r g)
open PySem.W (KasT kas_asc kas_desc kas_rev kas_tail3 kas_descPart kas_count kas_place kas_bin kas_sort kas_ask kas_item kat_run kat_snds kat_kind kat_lt KatLex kat_cons kat_go kat_yes kat_no kat_one kat_nil KatTups)
def Bg {α : Type} (lt:Nat->Nat->Bool):KasT α -> α
 | .ret a=>a
 | .ask i j k=>Bg lt (k (lt i j))
theorem Ge{α β : Type}{lt:Nat->Nat->Bool}{f : α->KasT β}:∀t:KasT α,Bg lt (t.bind f)=Bg lt (f (Bg lt t))
 | .ret _=>rfl
 | .ask i j k=>Ge (k (lt i j))
theorem Ng{α : Type}{n:Nat}{lt:Nat->Nat->Bool}{P : α->Prop}{G : α->Shared->Prop}{s:Shared}{cmp:Nat->Nat->(Bool->Shared->Prop)->Shared->Prop}(hc:∀i j C,i<n->j<n->C (lt i j) s->cmp i j C s):
  ∀{t:KasT α},KAll n P t->G (Bg lt t) s->t.kasWp cmp G s
 | .ret a,_,h=>h
 | .ask i j k,h,g=>hc i j _ h.1 h.2.1 (Ng hc (h.2.2 _) g)
theorem KAll.run{α : Type}{n:Nat}{lt:Nat->Nat->Bool}{P : α->Prop}:∀{t:KasT α},KAll n P t->P (Bg lt t)
 | .ret a,h=>h
 | .ask i j k,h=>KAll.run (t:=k (lt i j)) (h.2.2 (lt i j))
structure Lin (n:Nat) (lt:Nat->Nat->Bool):Prop where
 irr:∀i,lt i i=false
 tr:∀i j k,lt i j=true->lt j k=true->lt i k=true
 tot:∀i j,i<n->j<n->i≠j->lt i j=true\/lt j i=true
section
variable {n:Nat}{lt:Nat->Nat->Bool}{p:Array Nat}
def Bu (lt:Nat->Nat->Bool) (p:Array Nat) (m:Nat):Prop:=∀i j,i<j->j<m->lt (p.getD i 0) (p.getD j 0)=true
def Xd0 (lt:Nat->Nat->Bool) (p:Array Nat) (m:Nat):Prop:=∀i j,i<j->j<m->lt (p.getD j 0) (p.getD i 0)=true
theorem Gd.size{p:Array Nat}(h:Gd n p):p.size=n:=by
 have:=h.size_eq;simpa using this
theorem Gd.inj{p:Array Nat}(h:Gd n p){i j:Nat}(hi:i<n)(hj:j<n)(ne:i≠j):p.getD i 0≠p.getD j 0:=λe=>by
 have sz:=h.size;have nd:p.toList.Nodup:=by
  have q:p.toList.Perm (List.range n):=by simpa using h.toList
  exact q.nodup_iff.mpr List.nodup_range
 have hi':i<p.toList.length:=by rw[Ov,sz];exact hi
 have hj':j<p.toList.length:=by rw[Ov,sz];exact hj
 have e1:p.getD i 0=p.toList[i]:=by simp[Array.getD,sz,hi]
 have e2:p.getD j 0=p.toList[j]:=by simp[Array.getD,sz,hj]
 rw[e1,e2] at e;exact ne ((R4 nd).mp e)
theorem Lin.flip(L:Lin n lt)(h:Gd n p){i j:Nat}(hi:i<n)(hj:j<n)(ne:i≠j)(e:lt (p.getD i 0) (p.getD j 0)=false):lt (p.getD j 0) (p.getD i 0)=true:=by
 have hn:0<n:=by omega
 rcases L.tot _ _ (h.lt hn i) (h.lt hn j) (h.inj hi hj ne) with z | z
 ·rw[z] at e;cases e
 ·exact z
theorem Nh(L:Lin n lt)(h:Gd n p):∀f m,1<=m->m+f<=n->Bu lt p m->m<=Bg lt (kas_asc p f m)/\Bg lt (kas_asc p f m)<=m+f/\Bu lt p (Bg lt (kas_asc p f m)) /\
  (Bg lt (kas_asc p f m)<m+f->lt (p.getD (Bg lt (kas_asc p f m)) 0) (p.getD (Bg lt (kas_asc p f m) - 1) 0)=true)
 | 0,m,_,_,so=>⟨Oq _,Oq _,so,λz=>absurd z (by show ¬m<m+0;omega)⟩
 | f+1,m,h1,hn,so=>by
  have e:Bg lt (kas_asc p (f+1) m)=Bg lt (if lt (p.getD m 0) (p.getD (m - 1) 0)=true then KasT.ret m else kas_asc p f (m+1)):=rfl;cases c:lt (p.getD m 0) (p.getD (m - 1) 0) with
  | true=>
   rw[e,c,Tk rfl];exact⟨Oq _,by show m<=_;omega,so,λ_=>c⟩
  | false=>
   rw[e,c,Tj (by decide)];have c':=L.flip h (by omega) (by omega) (by omega) c;obtain⟨a1,a2,a3,a4⟩:=Nh L h f (m+1) (by omega) (by omega) (λi j hij hj=>by
    by_cases hjm:j<m
    ·exact so i j hij hjm
    ·have:j=m:=by omega
     subst this;by_cases hi:i=j - 1
     ·subst hi;exact c'
     ·exact L.tr _ _ _ (so i (j - 1) (by omega) (by omega)) c')
   exact⟨by omega,by omega,a3,λz=>a4 (by omega)⟩
theorem Xd1(L:Lin n lt)(h:Gd n p):∀f m,1<=m->m+f<=n->Xd0 lt p m->∃r,Bg lt (kas_desc f p m 0)=(p,r,0)/\m<=r/\r<=m+f/\Xd0 lt p r
 | 0,m,_,_,so=>⟨m,rfl,Oq _,Oq _,so⟩
 | f+1,m,h1,hn,so=>by
  have e:Bg lt (kas_desc (f+1) p m 0)=Bg lt (if lt (p.getD m 0) (p.getD (m - 1) 0)=true then (if 0 > 0 then kas_desc f (kas_rev p (m - (0+1)) m) (m+1) 0 else kas_desc f p (m+1) 0)
   else .ask (p.getD (m - 1) 0) (p.getD m 0) λd=>if d=true then .ret (p,m,0) else kas_desc f p (m+1) (0+1)):=rfl
  cases c:lt (p.getD m 0) (p.getD (m - 1) 0) with
  | true=>
   rw[e,c,Tk rfl,Tj (by omega)];obtain⟨r,a1,a2,a3,a4⟩:=Xd1 L h f (m+1) (by omega) (by omega) (λi j hij hj=>by
    by_cases hjm:j<m
    ·exact so i j hij hjm
    ·have:j=m:=by omega
     subst this;by_cases hi:i=j - 1
     ·subst hi;exact c
     ·exact L.tr _ _ _ c (so i (j - 1) (by omega) (by omega)))
   exact⟨r,a1,by omega,by omega,a4⟩
  | false=>
   rw[e,c,Tj (by decide)];have c':=L.flip h (by omega) (by omega) (by omega) c;refine⟨m,?_,Oq _,by omega,so⟩;show Bg lt (if lt (p.getD (m - 1) 0) (p.getD m 0)=true then _ else _)=_;rw[Tk c'];rfl
theorem Hq(p:Array Nat)(i:Nat):p.getD i 0=(p[i]?).getD 0:=by simp
theorem Xd2{m:Nat}(hm:m<=p.size){i:Nat}(hi:i<m):(kas_rev p 0 m).getD i 0=p.getD (m - 1 - i) 0:=by
 rw[Hq,Hq];show ((mirror p 0 m ((m - 0) / 2))[i]?).getD 0=_;rw[getElem?_mirror_all hm,Tk (by omega)];congr 2;omega
theorem Xlf(L:Lin n lt)(h:Gd n p)(hn:1<=n):∃m p',Bg lt (kas_count n p)=(m,p')/\1<=m/\m<=n/\Gd n p'/\Bu lt p' m:=by
 have sz:=h.size;unfold kas_count;rw[Ge];obtain⟨a1,a2,a3,a4⟩:=Nh (lt:=lt) L h (n - 1) 1 (Oq _) (by omega) (λi j hij hj=>by omega);generalize Bg lt (kas_asc p (n - 1) 1)=r at *;by_cases e1:(r==n)=true
 ·rw[Tk e1];exact⟨r,p,rfl,a1,by omega,h,a3⟩
 ·rw[Tj e1];have rn:r≠n:=λz=>e1 (by rw[z];exact beq_self_eq_true _);by_cases e2:r > 1
  ·rw[Tk e2];refine⟨r,p,?_,a1,by omega,h,a3⟩;show Bg lt (if lt (p.getD 0 0) (p.getD (r - 1) 0)=true then _ else _)=_;rw[Tk (a3 0 (r - 1) (by omega) (by omega))];rfl
  ·rw[Tj e2];obtain rfl:r=1:=by omega
   have a4:=a4 (by omega);unfold kas_descPart;rw[Ge];obtain⟨r2,b1,b2,b3,b4⟩:=Xd1 (lt:=lt) L h (n - (1+1)) (1+1) (by omega) (by omega) (λi j hij hj=>by
    have:j=1:=by omega
    subst this;have:i=0:=by omega
    subst this;exact a4)
   rw[b1];dsimp only;rw[Tj (by omega)];unfold kas_tail3;rw[Ge];have hrv:=h.rev 0 r2;obtain⟨c1,c2,c3,_⟩:=Nh (lt:=lt) L hrv (n - r2) r2 (by omega) (by omega) (λi j hij hj=>by
    rw[Xd2 (by omega) (by omega),Xd2 (by omega) (by omega)];exact b4 _ _ (by omega) (by omega))
   exact⟨_,_,rfl,by omega,by omega,hrv,c3⟩
theorem Ni(L:Lin n lt)(h:Gd n p){k:Nat}(hk:k<n)(so:Bu lt p k):∀f l r,r - l<=f->l<=r->r<=k->(∀i,i<l->lt (p.getD i 0) (p.getD k 0)=true)->(∀i,r<=i->i<k->lt (p.getD k 0) (p.getD i 0)=true) ->
  Bg lt (kas_place p k f l r)<=k/\(∀i,i<Bg lt (kas_place p k f l r)->lt (p.getD i 0) (p.getD k 0)=true)/\(∀i,Bg lt (kas_place p k f l r)<=i->i<k->lt (p.getD k 0) (p.getD i 0)=true)
 | 0,l,r,hf,hlr,hr,hl,hg=>by
  have:l=r:=by omega
  subst this;exact⟨hr,hl,hg⟩
 | f+1,l,r,hf,hlr,hr,hl,hg=>by
  unfold kas_place;by_cases e:l ≥ r
  ·rw[Tk e];have:l=r:=by omega
   subst this;exact⟨hr,hl,hg⟩
  ·rw[Tj e];have e2:Bg lt (KasT.ask (p.getD k 0) (p.getD ((l+r) / 2) 0) λc=>if c=true then kas_place p k f l ((l+r) / 2) else kas_place p k f ((l+r) / 2+1) r)=Bg lt (if lt (p.getD k 0) (p.getD ((l+r) / 2) 0)=true then kas_place p k f l ((l+r) / 2) else kas_place p k f ((l+r) / 2+1) r):=rfl;rw[e2];have hm1:l<=(l+r) / 2:=by omega
   have hm2:(l+r) / 2<r:=by omega
   generalize (l+r) / 2=md at *;cases c:lt (p.getD k 0) (p.getD md 0) with
   | true=>
    rw[Tk rfl];refine Ni L h hk so f l md (by omega) (by omega) (by omega) hl λi h1 h2=>?_;by_cases e3:i=md
    ·rw[e3];exact c
    ·exact L.tr _ _ _ c (so md i (by omega) h2)
   | false=>
    rw[Tj (by decide)];have c':=L.flip h hk (by omega) (by omega) c;refine Ni L h hk so f (md+1) r (by omega) (by omega) hr (λi hi=>?_) hg;by_cases e3:i=md
    ·rw[e3];exact c'
    ·exact L.tr _ _ _ (so i md (by omega) (by omega)) c'
theorem Xd3{k l:Nat}(hk:k<p.size)(hl:l<=k)(i:Nat):(bubble p k (k - l)).getD i 0=if i=l then p.getD k 0 else if l<i/\i<=k then p.getD (i - 1) 0 else p.getD i 0:=by
 simp only[Hq];rw[getElem?_bubble hk _ (by omega),show k - (k - l)=l by omega];by_cases h1:i=l
 ·rw[Tk h1,Tk h1]
 ·rw[Tj h1,Tj h1];by_cases h2:l<i/\i<=k
  ·rw[Tk h2,Tk h2]
  ·rw[Tj h2,Tj h2]
theorem Xd4(L:Lin n lt):∀f (p:Array Nat) k,Gd n p->k+f<=n->Bu lt p k->Bu lt (Bg lt (kas_bin f p k)) (k+f)
 | 0,p,k,_,_,so=>so
 | f+1,p,k,h,hk,so=>by
  have sz:=h.size;have e:Bg lt (kas_bin (f+1) p k)=Bg lt ((kas_place p k k 0 k).bind λl=>kas_bin f (bubble p k (k - l)) (k+1)):=rfl;rw[e,Ge];obtain⟨a1,a2,a3⟩:=Ni (lt:=lt) L h (k:=k) (by omega) so k 0 k (by omega) (by omega) (Oq _) (λi z=>absurd z (Qg _)) (λi h1 h2=>by omega);generalize Bg lt (kas_place p k k 0 k)=l at *;have:=Xd4 L f (bubble p k (k - l)) (k+1) ((bubble_perm p k _).trans h) (by omega) (λi j hij hj=>by
   rw[Xd3 (by omega) a1,Xd3 (by omega) a1];by_cases i1:i=l
   ·rw[Tk i1,Tj (by omega),Tk (by omega)];exact a3 _ (by omega) (by omega)
   ·rw[Tj i1];by_cases i2:l<i/\i<=k
    ·rw[Tk i2,Tj (by omega),Tk (by omega)];exact so _ _ (by omega) (by omega)
    ·rw[Tj i2];by_cases j1:j=l
     ·rw[Tk j1];exact a2 i (by omega)
     ·rw[Tj j1];by_cases j2:l<j/\j<=k
      ·rw[Tk j2];by_cases z:i=j - 1
       ·omega
       ·exact so _ _ (by omega) (by omega)
      ·rw[Tj j2];exact so _ _ hij (by omega))
  rw[show k+(f+1)=k+1+f by omega];exact this
theorem Xd5(L:Lin n lt)(hn:0<n):Bu lt (Bg lt (kas_sort n)) n:=by
 unfold kas_sort;rw[Ge];obtain⟨m,p',e,h1,h2,h3,h4⟩:=Xlf (lt:=lt) L (p:=List.toArray (List.range n)) (So _) hn;rw[e];dsimp only;by_cases hm:m<n
 ·rw[Tk hm];have:=Xd4 L (n - max m 1) p' (max m 1) h3 (by omega) (by rw[show max m 1=m by omega];exact h4)
  rwa [show max m 1+(n - max m 1)=n by omega] at this
 ·rw[Tj hm];have:m=n:=by omega
  subst this;exact h4
end
open PySem.W (KasT kas_asc kas_desc kas_rev kas_tail3 kas_descPart kas_count kas_place kas_bin kas_sort kas_ask kas_item kat_run kat_snds kat_kind kat_lt KatLex kat_cons kat_go kat_yes kat_no kat_one kat_nil KatTups)
def ltL:List Str->List Str->Bool
 | [],[]=>false
 | [],_::_=>true
 | _::_,[]=>false
 | x::a,y::b=>if x=y then ltL a b else decide (ltS x y)
theorem Hr:∀a,ltL a a=false
 | []=>rfl
 | x::a=>by
  show (if x=x then ltL a a else _)=false;rw[Tk rfl];exact Hr a
theorem Ke:∀a b c,ltL a b=true->ltL b c=true->ltL a c=true
 | [],[],c,h,_=>by cases h
 | [],_::_,[],_,g=>by cases g
 | [],_::_,_::_,_,_=>rfl
 | _::_,[],_,h,_=>by cases h
 | _::_,_::_,[],_,g=>by cases g
 | x::a,y::b,z::c,h,g=>by
  have h:(if x=y then ltL a b else decide (ltS x y))=true:=h;have g:(if y=z then ltL b c else decide (ltS y z))=true:=g;show (if x=z then ltL a c else decide (ltS x z))=true;by_cases e1:x=y
  ·subst e1;rw[Tk rfl] at h;by_cases e2:x=z
   ·rw[Tk e2] at g ⊢;exact Ke a b c h g
   ·rw[Tj e2] at g ⊢;exact g
  ·rw[Tj e1] at h;by_cases e2:y=z
   ·subst e2;rw[Tj e1];exact h
   ·rw[Tj e2] at g;have q:=Jf (Tn h) (Tn g);rw[Tj (G9 q)];exact Tl q
theorem Nj:∀a b,a≠b->ltL a b=true\/ltL b a=true
 | [],[],n=>absurd rfl n
 | [],_::_,_=>.inl rfl
 | _::_,[],_=>.inr rfl
 | x::a,y::b,n=>by
  show (if x=y then ltL a b else decide (ltS x y))=true\/(if y=x then ltL b a else decide (ltS y x))=true;by_cases e:x=y
  ·subst e;rw[Tk rfl,Tk rfl];exact Nj a b λz=>n (by rw[z])
  ·rw[Tj e,Tj (λz=>e z.symm)];rcases Mf x y with z | z
   ·exact .inl (Tl (ltS_of z e))
   ·exact .inr (Tl (ltS_of z λq=>e q.symm))
theorem Xlg{Ts:List (List Str)}(nd:Ts.Nodup):Lin Ts.length λi j=>ltL (Ts.getD i []) (Ts.getD j []) where
 irr i:=Hr _
 tr i j k:=Ke _ _ _
 tot i j hi hj ne:=Nj _ _ λe=>ne (by
  have e1:Ts.getD i []=Ts[i]:=by simp[List.getD,hi]
  have e2:Ts.getD j []=Ts[j]:=by simp[List.getD,hj]
  rw[e1,e2] at e;exact(R4 nd).mp e)
theorem Xlh{Ts:List (List Str)}{p:Array Nat}(g:Gd Ts.length p)(so:Bu (λi j=>ltL (Ts.getD i []) (Ts.getD j [])) p Ts.length):
  (p.toList.map λi=>Ts.getD i []).Perm Ts/\(p.toList.map λi=>Ts.getD i []).Pairwise λa b=>ltL a b=true:=by
 constructor
 ·have e:((List.range Ts.length).map λi=>Ts.getD i [])=Ts:=by
   refine Rg (by simp) λi h1 h2=>?_;simp[Qj,Sv,List.getD,h2]
  have q:p.toList.Perm (List.range Ts.length):=by
   have:=g.toList;simpa using this
  have:=q.map λi=>Ts.getD i [];rw[e] at this;exact this
 ·rw[Rk];intro i j hi hj hij;have sz:=g.size;rw[Oo,Ov,sz] at hi hj;have:=so i j hij hj;rw[Qj,Qj];have e1:p.getD i 0=p.toList[i]'(by rw[Ov,sz];exact hi):=by simp[Array.getD,sz,hi]
  have e2:p.getD j 0=p.toList[j]'(by rw[Ov,sz];exact hj):=by simp[Array.getD,sz,hj]
  rw[e1,e2] at this;exact this
section
variable {prog:Program}{w:World}{A:Around}{E:Value->Shared->Prop}{s:Shared}
theorem Xd6{b fin:Bool}{C:Bool->Shared->Prop}:∀{us vs:List Value} {as bs:List Str} (i:Nat),StrsAre us as->StrsAre vs bs->fin=decide (as.length<bs.length)->C (ltL as bs) s->KatLex prog w A b fin C (us.zip vs) i s
 | _,_,_,_,_,.nil,.nil,hf,h=>kat_nil (by rw[hf];exact h)
 | _,_,_,_,_,.nil,.cons _ _ _,hf,h=>kat_nil (by rw[hf];exact h)
 | _,_,_,_,_,.cons _ _ _,.nil,hf,h=>kat_nil (by rw[hf];exact h)
 | _,_,_,_,i,.cons x t r,.cons y u r',hf,h=>by
  have h:C (if x=y then ltL _ _ else decide (ltS x y)) s:=h;refine kat_cons (eqBool_str ?_);refine kat_go (λe=>kat_yes (Xd6 (i+1) r r' ?_ ?_)) (λe=>kat_no ?_)
  ·rw[hf];simp
  ·rw[Tk (by simpa using e)] at h;exact h
  ·have e:¬x=y:=by simpa using e
   rw[Tj e] at h;cases (b&&i==0) with
   | true=>exact oneLt_str h
   | false=>exact kat_one _ _ (PyProof.Rows.lt_str h)
def Dl (h:Heap) (v:Value) (ss:List Str):Prop:=∃a o xs n,v = .ref a/\h.get? a=some o/\o.cls = .type "tuple" /\ o.data = .seq xs n/\StrsAre xs.toList ss
theorem Xli{b:Bool}{x y:Value}{as bs:List Str}{C:Bool->Shared->Prop}(hx:Dl s.heap x as)(hy:Dl s.heap y bs)(h:C (ltL as bs) s):wpAny (model prog w) A (keyLt' (tuples' b) x y) C E s:=by
 obtain⟨a,o,xs,n,rfl,h1,_,h2,h3⟩:=hx;obtain⟨b,o',ys,n',rfl,g1,_,g2,g3⟩:=hy;refine kat_lt h1 h2 g1 g2 (Xd6 0 h3 g3 ?_ h);have e1:=h3.length;have e2:=g3.length;rw[Ov] at e1 e2;rw[e1,e2]
theorem Dl.toS{h:Heap}{v:Value}{ss:List Str}(t:Dl h v ss)(n:ss≠[]):Xdx h v:=by
 obtain⟨a,o,xs,k,e,h1,h2,h3,h4⟩:=t;exact⟨a,o,xs,k,ss,e,h1,h2,h3,h4,n⟩
theorem Dl.kept{h h':Heap}{v:Value}{ss:List Str}(t:Dl h v ss)(k:∀b o,o.cls = .type "tuple" -> h.get? b=some o->h'.get? b=some o):Dl h' v ss:=by
 obtain⟨a,o,xs,n,e,h1,h2,h3,h4⟩:=t;exact⟨a,o,xs,n,e,k a o h2 h1,h2,h3,h4⟩
def Xd7 (h:Heap) (vs:List Value) (Ts:List (List Str)):Prop:=vs.length=Ts.length/\∀i,i<vs.length->Dl h (vs.getD i .none) (Ts.getD i [])
theorem Xlj{a:Addr}{vs:List Value}{Ts:List (List Str)}{n:Nat}{P:PySem.Fin->Shared->Prop}(ho:s.heap.get? a=some (seqObj "list" vs.toArray n))(hv:Xd7 s.heap vs Ts)(hne:[]∉Ts)(nd:Ts.Nodup)(h64:vs.length<64)
  (h:∀p:Array Nat,Gd vs.length p->Bu (λi j=>ltL (Ts.getD i []) (Ts.getD j [])) p vs.length->P (.done (.ret .none)) {s with heap:=sortedHeap s.heap a vs (p.toList.map λi=>vs.getD i Value.none).toArray}):
  wpAny (model prog w) A (Builtin.«list.sort» ⟨[.ref a],[]⟩) P E s:=by
 rw[list_sort_plain];have ha:a<s.heap.objs.size:=Tq ho;have L:=Xlg nd;rw[<-hv.1] at L;have mem:∀i,i<vs.length->Ts.getD i []∈Ts:=λi hi=>by
  have hi':i<Ts.length:=by rw[<-hv.1];exact hi
  have:Ts.getD i []=Ts[i]:=by simp[List.getD,hi']
  rw[this];exact Pn hi'
 refine Te (listItems_at ho rfl ?_);refine Te (listUpdate_at ho rfl ?_);obtain⟨e1,ho1⟩:∃e1,(s.heap.update a (Obj.mapSeq λ_ => #[])).get? a=some (seqObj "list" #[] e1):=⟨_,get?_update_seq ho (λ_ => #[])⟩;refine Te (seqEpoch_at ho1 rfl ?_);refine Te (wpAny_newTuple ?_);refine Te (wpAny_newList ?_);refine wpAny_holding ?_;have ho6:(((s.heap.update a (Obj.mapSeq λ_ => #[])).push (seqObj "tuple" vs.toArray 0)).push (seqObj "list" #[] 0)).get? a=some (seqObj "list" #[] e1):=by
  rw[Heap.get?_push_ne _ _ _ (by rw[size_push',Heap.size_update];exact O1 (Qk ha)),Heap.get?_push_ne _ _ _ (by rw[Heap.size_update];exact O1 ha)];exact ho1
 have hk6:∀b o,o.cls = .type "tuple" -> s.heap.get? b=some o->(((s.heap.update a (Obj.mapSeq λ_ => #[])).push (seqObj "tuple" vs.toArray 0)).push (seqObj "list" #[] 0)).get? b=some o:=λb o g2 g1=>by
  have hne:b≠a:=λe=>by
   rw[e,ho] at g1;have e1:=Pa g1;rw[<-e1] at g2;exact absurd (show Value.type "list" = Value.type "tuple" from g2) (by decide)
  exact Tr _ (Tr _ (by rw[Heap.get?_update_ne _ _ _ _ hne];exact g1))
 have hv6:∀i,i<vs.length->Dl (((s.heap.update a (Obj.mapSeq λ_ => #[])).push (seqObj "tuple" vs.toArray 0)).push (seqObj "list" #[] 0)) (vs.getD i .none) (Ts.getD i []):=λi hi=>(hv.2 i hi).kept hk6;show wpAny (model prog w) A _ P E {s with heap:=((s.heap.update a (Obj.mapSeq λ_ => #[])).push (seqObj "tuple" vs.toArray 0)).push (seqObj "list" #[] 0)};dsimp only;have hsz:vs.toArray.size=vs.length:=by simp
 by_cases h2:vs.toArray.size<2
 ·rw[Tk h2,Tk h2];refine Te (Tf ?_);rw[StateT.run_pure];refine Te (Tf ?_);dsimp only;refine Te (seqEpoch_at ho6 rfl ?_);refine Te (listUpdate_at ho6 rfl ?_ (hsz2:=by rw[Array.size_map];show (pairsOf vs).size<=_;rw[pairsOf_size,Ti];omega));simp only[bne_self_eq_false,Pf,if_false];have q:=h (List.toArray (List.range vs.length)) (So _) (λi j hij hj=>by omega);refine Tf ?_;have e:(arrOf (SortSt.mk' general' (vs.toArray.zip vs.toArray) #[] 7 none)).map (·.2)=(((List.range vs.length).toArray).toList.map λi=>vs.getD i Value.none).toArray:=by
   show ((vs.toArray.zip vs.toArray).map (·.2))=_;apply Array.toList_inj.mp;simp only[Array.toList_map,List.zip_toArray];rw[List.map_snd_zip (Oq _)];refine Rg (by simp) λi h1 h2=>?_;simp[List.getD,h1]
  rw[e];exact q
 ·rw[Tj h2,Tj h2];obtain⟨fs,t1,t2,t3⟩:=Xdy (s:={s with heap:=((s.heap.update a (Obj.mapSeq λ_ => #[])).push (seqObj "tuple" vs.toArray 0)).push (seqObj "list" #[] 0)}) (vs:=vs) λv hm=>by
   obtain⟨i,hi,rfl⟩:=Po.mp hm;have e:vs.getD i .none=vs[i]:=by simp[List.getD,hi]
   have:=hv6 i hi;rw[e] at this;exact Dl.toS this λz=>hne (z ▸ mem i hi)
  refine Te (kat_kind (T:=.type "str") t1 (by omega) (λv hm=>?_) (by decide) ?_)
  ·obtain⟨x,t,rfl⟩:=t3 v hm;exact .now
  have eb:((Value.type "str") != Value.type "tuple")=true:=by decide
  rw[eb];refine Te (wpAny_mono (kat_run (κ:=tuples' true) (ks:=vs) (vs:=vs) (Q:=λst' s'=>s' = {s with heap:=((s.heap.update a (Obj.mapSeq λ_ => #[])).push (seqObj "tuple" vs.toArray 0)).push (seqObj "list" #[] 0)}/\failedOf st'=none/\∃p,Gd vs.length p/\Bu (λi j=>ltL (Ts.getD i []) (Ts.getD j [])) p vs.length/\(arrOf st').map (·.2)=(p.toList.map λi=>vs.getD i Value.none).toArray)
   (G:=λp s'=>s' = {s with heap:=((s.heap.update a (Obj.mapSeq λ_ => #[])).push (seqObj "tuple" vs.toArray 0)).push (seqObj "list" #[] 0)}/\Gd vs.length p/\Bu (λi j=>ltL (Ts.getD i []) (Ts.getD j [])) p vs.length) rfl (by omega) h64 (λp st' s' a1 a2 a3 a4=>⟨a4.1,a3,p,a4.2.1,a4.2.2,kat_snds rfl a2⟩) ?_) ?_ λ_ _ e=>e)
  ·refine Ng (n:=vs.length) (lt:=λi j=>ltL (Ts.getD i []) (Ts.getD j [])) (λi j C hi hj hC=>?_) (Kc (n:=vs.length) (by omega)) ⟨rfl,(Kc (n:=vs.length) (by omega)).run,Xd5 L (by omega)⟩;show wpAny _ _ (keyLt' (tuples' true) (vs.getD i Value.none) (vs.getD j Value.none)) C _ _;exact Xli (hv6 i hi) (hv6 j hj) hC
  rintro ⟨⟨⟩,st'⟩ s' ⟨rfl,hf,p,hp,so,ea⟩;dsimp only;refine Te (seqEpoch_at ho6 rfl ?_);have hps:=hp.size;refine Te (listUpdate_at ho6 rfl ?_ (hsz2:=by
   rw[ea,Ox,Oo,Ov,hps,Ti];omega))
  rw[hf];simp only[bne_self_eq_false,Pf,if_false];rw[ea];exact Tf (h p hp so)
theorem Xlk{l:Addr}{vs:List Value}{Ts:List (List Str)}{Q:Value->Shared->Prop}(hl:s.heap.IsList l vs.toArray)(hv:Xd7 s.heap vs Ts)(hne:[]∉Ts)(nd:Ts.Nodup)(h64:vs.length<64)
  (h:∀p:Array Nat,Gd vs.length p->Bu (λi j=>ltL (Ts.getD i []) (Ts.getD j [])) p vs.length->Q (.ref (s.heap.objs.size+1)) {s with heap:=sortedAll s.heap vs (p.toList.map λi=>vs.getD i Value.none).toArray}):
  wpAny (model prog w) A (call (.builtin "sorted") [.ref l]) Q E s:=by
 refine Calls.call_function_entry kind_sorted plain_sorted entry_sorted (args_sorted1 _) ?_;unfold Builtin.«sorted»;refine Te (m:=checkCount "sorted" 1 1 _) (Tf ?_);refine Te (collect_list hl ?_);refine Te (wpAny_newList ?_);have hsz:((s.heap.push (seqObj "list" #[] 0)).update s.heap.objs.size (Obj.mapSeq (· ++ vs.toArray))).objs.size=s.heap.objs.size+1:=by
  rw[Heap.size_update,size_push']
 have hoL:(((s.heap.push (seqObj "list" #[] 0)).update s.heap.objs.size (Obj.mapSeq (· ++ vs.toArray))).push (seqObj "list" vs.toArray 0)).get? (s.heap.objs.size+1)=some (seqObj "list" vs.toArray 0):=by
  rw[<-hsz];exact Heap.get?_push_size _ rfl
 have keep:∀b o,s.heap.get? b=some o->(((s.heap.push (seqObj "list" #[] 0)).update s.heap.objs.size (Obj.mapSeq (· ++ vs.toArray))).push (seqObj "list" vs.toArray 0)).get? b=some o:=λb o q=>by
  have hlt:b<s.heap.objs.size:=Tq q;rw[Heap.get?_push_ne _ _ _ (by rw[hsz];exact O1 (Qk hlt)),Heap.get?_update_ne _ _ _ _ (O1 hlt),Heap.get?_push_ne _ _ _ (O1 hlt)];exact q
 show wpAny _ _ _ _ _ {s with heap:=((s.heap.push (seqObj "list" #[] 0)).update s.heap.objs.size (Obj.mapSeq (· ++ vs.toArray))).push (seqObj "list" vs.toArray 0)};rw[hsz];refine Te (wpAny_holding (wpAny_call_entry slot_list_sort ⟨_,hoL,rfl⟩ entry_list_sort (Xlj hoL ⟨hv.1,λi hi=>(hv.2 i hi).kept λb o _=>keep b o⟩ hne nd h64 λp a1 a2=>⟨_,rfl,?_⟩) (args_list_sort _)));exact Tf ⟨_,rfl,h p a1 a2⟩
end
section
variable {X:Cx}
theorem Xll:Br X (.builtin "sorted") (λxs H Q=>∃(a:Addr) (ps:List Addr) (Ts:List (List Str)),xs=[.ref a]/\H a=some (.lst (ps.map V.ref))/\Tups H ps Ts/\[]∉Ts/\Ts.Nodup/\ps.length<64 /\
  ∀(l:Addr) (ps':List Addr) (Ts':List (List Str)),H l=none->Tups H ps' Ts'->Ts'.Perm Ts->(Ts'.Pairwise λa b=>ltL a b=true)->Q (.ref l) (upd H l (.lst (ps'.map V.ref)))):=by
 intro pins s σ H xs us Q I r h;obtain⟨a,ps,Ts,rfl,ha,ht,hne,nd,h64,q⟩:=h;obtain⟨u,rfl,rx⟩:=B4 r;cases rx;obtain⟨its,rv,pl,hz⟩:=I.list (SqL.of ha);have hits:its=ps.map Value.ref:=by
  clear ht h64 q hz pl ha
  induction ps generalizing its with
  | nil=>cases rv;rfl
  | cons p t ih=>
   cases rv with
   | cons r t'=>cases r;rw[ih _ t'];rfl
 subst hits;have hget:∀i,i<ps.length->(ps.map Value.ref).getD i .none = .ref (ps.getD i 0):=λi hi=>by simp[List.getD,hi]
 refine Xlk pl.isList (Ts:=Ts) ⟨by rw[Oo];exact ht.1,λi hi=>?_⟩ hne nd (by rw[Oo];exact h64) λp h1 h2=>?_
 ·rw[Oo] at hi;obtain⟨its2,r2,p2,_⟩:=I.tuple (SqT.of (K:=X.K) (ht.2 i hi));obtain⟨o,ho,hc,n,hd⟩:=id p2;exact⟨ps.getD i 0,o,its2.toArray,n,hget i hi,ho,hc,hd,by simpa using Fz r2⟩
 ·rw[Oo] at h1 h2;obtain⟨e,he⟩:=sortedAll_at s.heap (ps.map Value.ref) (p.toList.map λi=>(ps.map Value.ref).getD i Value.none).toArray;have hf:H (s.heap.objs.size+1)=none:=I.hok.fresh (Qt _);have hps:=h1.size;have lt:∀i∈p.toList,i<ps.length:=λi hi=>by
   have q:p.toList.Perm (List.range ps.length):=by
    have:=h1.toList;simpa using this
   simpa using q.mem_iff.mp hi
  have eo:(p.toList.map λi=>(ps.map Value.ref).getD i Value.none)=(p.toList.map λi=>ps.getD i 0).map Value.ref:=by
   rw[Pp];exact P0 λi hi=>hget i (lt i hi)
  have hst:=Xlh (Ts:=Ts) (by rw[<-ht.1];exact h1) (by rw[<-ht.1];exact h2);refine⟨.ref (s.heap.objs.size+1),_,I.laid (t':=s.toks) (h':=sortedAll s.heap (ps.map Value.ref) _) (o:=.lst ((p.toList.map λi=>ps.getD i 0).map V.ref)) (λb ob q=>sortedAll_old q) (Qt _) ?_,rfl,q _ _ (p.toList.map λi=>Ts.getD i []) hf ⟨by simp,λi hi=>?_⟩ hst.1 hst.2⟩
  ·refine⟨by rw[Oo,Oo,Ov,hps,Ti];omega,_,e,?_,he⟩;show Vals ((p.toList.map λi=>ps.getD i 0).map V.ref) (p.toList.map λi=>(ps.map Value.ref).getD i Value.none);rw[eo];generalize (p.toList.map λi=>ps.getD i 0)=z
   induction z with
   | nil=>exact .nil
   | cons p t ih=>exact .cons rfl ih
  ·rw[Oo] at hi;have g1:(p.toList.map λi=>ps.getD i 0).getD i 0=ps.getD (p.toList[i]) 0:=by rw[O7,O2,Op hi];rfl
   have g2:(p.toList.map λi=>Ts.getD i []).getD i []=Ts.getD (p.toList[i]) []:=by rw[O7,O2,Op hi];rfl
   rw[g1,g2];exact ht.2 _ (lt _ (Pn hi))
end
theorem Xlm(x y:Str)(xs ys:List Str):ltL (x::xs) (y::ys)=if x=y then ltL xs ys else decide (ltS x y):=rfl
theorem Xln:ltL [] []=false:=rfl
theorem Xlo(y:Str)(ys:List Str):ltL [] (y::ys)=true:=rfl
theorem Xlp(x:Str)(xs:List Str):ltL (x::xs) []=false:=rfl
theorem Xlq(A:Around)(s:Shared)(a:Str)(t:Tok)(c:Str)(u:Tok):∃e,SeqAt.EqAt A s (.str a t) (.str c u) e/\(e=true↔a=c):=
 ⟨(a==c),SeqAt.EqAt.str_str a t c u,by simp⟩
theorem Xlr(A:Around)(s:Shared)(a:Str)(t:Tok)(c:Str)(u:Tok)(prog:Program)(w:World)(E:Value->Shared->Prop)(Q:Value->Shared->Prop)(h:Q (.bool (decide (ltS a c))) s):
  wpAny (model prog w) A (richCompare .Lt (.str a t) (.str c u)) Q E s:=
 (PyProof.Rows.lt_str h:wpAny (model prog w) A (compareOp .Lt (.str a t) (.str c u)) Q E s)
section
open PySem.SeqAt
open PySem.AutoSeq1 (wpAny_loadPart')
open PySem.MeetsSeq PySem.MeetsSeq2 PySem.MeetsSeq3
theorem Xls(l b:Addr)(items items2:Array Value)(n n2:Nat)(dd dd2:Option Addr)(sl sl2:Array (Option Value))(ns ms:List Str)(hi:StrsAre items.toList ns)(hj:StrsAre items2.toList ms):
  Meets (Builtin.«tuple.__lt__» ⟨[.ref l,.ref b],[]⟩)
   (λ_ R s=>s.heap.get? l=some {cls:=.type "tuple",dict:=dd,data:=.seq items n,slots:=sl}/\s.heap.get? b=some {cls:=.type "tuple",dict:=dd2,data:=.seq items2 n2,slots:=sl2} /\
    R (.ok (.ret (.bool (ltL ns ms)))) s):=
 .of_wp λprog w A R s h=>by
  obtain⟨hp,g,d,tk,os⟩:=s;obtain⟨hl,hb,h⟩:=h;have f2:=AutoSeq1.sub_tuple_tuple;have z1:items.size=ns.length:=by rw[<-hi.length];simp
  have z2:items2.size=ms.length:=by rw[<-hj.length];simp
  wp_walk using wpAny_loadPart' hl,wpAny_loadPart' hb,wpAny_forIn_list _ (λrest b s'=>b.1=none/\s'=⟨hp,g,d,tk,os⟩/\∃(vs ws:List Value) (ns' ms':List Str),rest=vs.zip ws /\
   StrsAre vs ns'/\StrsAre ws ms'/\ns'.length+items2.size=ms'.length+items.size/\R (.ok (.ret (.bool (ltL ns' ms')))) ⟨hp,g,d,tk,os⟩) _
  case turn=>
   rintro ⟨y,x⟩ rest b s' ⟨hb',rfl,vs,ws,ns',ms',hz,hvi,hwi,hlen,hR⟩;cases hvi with
   | nil=>rw[List.zip_nil_left] at hz;cases hz
   | cons a t hvi'=>
    cases hwi with
    | nil=>rw[List.zip_nil_right] at hz;cases hz
    | cons c u hwi'=>
     rw[List.zip_cons_cons] at hz;injection hz with hyx hrest
     injection hyx with hy hx
     subst hy hx;rw[Xlm] at hR;simp only[Pc] at hlen;obtain⟨e,he,hiff⟩:=Xlq A.in1 ⟨hp,g,d,tk,os⟩ a t c u;refine Te (he prog w _ _ ?_);cases e with
     | true=>
      rw[Tk (hiff.mp rfl)] at hR
      wp_walk
      exact⟨rfl,rfl,_,_,_,_,hrest,hvi',hwi',by omega,hR⟩
     | false=>
      rw[Tj (λq=>absurd (hiff.mpr q) O4)] at hR;have hri:=Xlr A.in1 ⟨hp,g,d,tk,os⟩ a t c u prog w
      wp_walk using hri
      exact⟨_,rfl,by simpa using hR⟩
  case fin=>
   rintro ⟨b1,b2⟩ s' ⟨hb',rfl,vs,ws,ns',ms',hz,hvi,hwi,hlen,hR⟩;simp only at hb';subst hb';have hv:ltL ns' ms'=decide (items.size<items2.size):=by
    cases hvi with
    | nil=>
     cases hwi with
     | nil=>
      simp only[Q7] at hlen;rw[Xln];exact(Tm (by omega)).symm
     | cons c u hw=>
      simp only[Q7,Pc] at hlen;rw[Xlo];exact(Tl (by omega)).symm
    | cons a t hv=>
     cases hwi with
     | nil=>
      simp only[Q7,Pc] at hlen;rw[Xlp];exact(Tm (by omega)).symm
     | cons c u hw=>
      rw[List.zip_cons_cons] at hz;cases hz
   rw[hv] at hR
   wp_walk
   exact⟨_,rfl,by simpa [Builtin.Tuple.tupleCompareSizes] using hR⟩
  case h=>
   exact⟨rfl,rfl,items.toList,items2.toList,ns,ms,rfl,hi,hj,by omega,h⟩
end
open PySem.W (KasT kas_sort kas_ask kas_item kat_run kat_snds kat_kind kat_lt KatLex kat_cons kat_go kat_yes kat_no kat_one kat_nil KatTups)
section
variable {prog:Program}{w:World}{A:Around}{E:Value->Shared->Prop}{s:Shared}
theorem Xlt{l b:Addr}{items items2:Array Value}{ns ms:List Str}{Q:Value->Shared->Prop}(hl:IsTup s.heap l items)(hb:IsTup s.heap b items2)(hi:StrsAre items.toList ns)(hj:StrsAre items2.toList ms)
  (hu:A.units<cLine) (h:Q (.bool (ltL ns ms)) s):wpAny (model prog w) A (compareOp .Lt (.ref l) (.ref b)) Q E s:=by
 obtain⟨⟨cls,dd,data,sl⟩,ho,hc,n,hd⟩:=id hl;obtain⟨⟨cls2,dd2,data2,sl2⟩,ho2,hc2,n2,hd2⟩:=id hb;simp only at hc hd hc2 hd2;subst hc hd hc2 hd2;exact richCompare_meets_room (op:=.Lt) ⟨_,ho,rfl⟩ ⟨_,ho2,rfl⟩ PySem.F.slot_tuple_lt PySem.F.entry_tuple_lt (PySem.F.args_tuple_lt_2 _ _) (Xls l b items items2 n n2 dd dd2 sl sl2 ns ms hi hj)
  ⟨ho,ho2,show Value.bool (ltL ns ms)≠Value.notImplemented/\Q (.bool (ltL ns ms)) s from ⟨(λx=>nomatch x),h⟩⟩ hu
def Co (n:Nat) (a:List Str) (m:Nat) (b:List Str):Bool:=if n=m then ltL a b else decide (n<m)
theorem Xd8{vs:List Value}{ss:List Str}(h:StrsAre vs ss):ItemsAre (Bi prog w) (ss.map Sum.inr) vs:=by
 induction h with
 | nil=>exact .nil
 | cons x t r ih=>exact .cons (show D3 (.inr x) (.str x t)=true by simp[D3,Value.isStrOf]) ih
def Hs (h:Heap) (v:Value) (n:Nat) (ss:List Str):Prop:=∃a o xs k t u,v = .ref a/\h.get? a=some o/\o.cls = .type "tuple" /\ o.data = .seq xs k/\xs.toList=[.int n t,u]/\Dl h u ss
theorem Xlu{x y:Value}{n m:Nat}{as bs:List Str}{C:Bool->Shared->Prop}(hu:A.units<cLine)(hx:Hs s.heap x n as)(hy:Hs s.heap y m bs)(h:C (Co n as m bs) s):wpAny (model prog w) A (keyLt' (tuples' true) x y) C E s:=by
 obtain⟨a,o,xs,k,t,u,rfl,h1,h2,h3,h4,h5⟩:=hx;obtain⟨b,o',ys,k',t',u',rfl,g1,g2,g3,g4,g5⟩:=hy;refine kat_lt h1 h3 g1 g3 ?_;rw[h4,g4];have ef:decide (xs.size<ys.size)=false:=by
  have e1:xs.size=2:=by rw[<-Ov,h4];rfl
  have e2:ys.size=2:=by rw[<-Ov,g4];rfl
  rw[e1,e2];decide
 rw[ef];show KatLex prog w A true false C [(.int n t,.int m t'),(u,u')] 0 s;unfold Co at h;refine kat_cons (wpAny_eqBool_int ?_);refine kat_go (λe=>kat_yes ?_) (λe=>kat_no ?_)
 ·have e:n=m:=by have:=Tn e;omega
  rw[Tk e] at h;obtain⟨c,oc,cs,kc,rfl,c1,c2,c3,c4⟩:=h5;obtain⟨d,od,ds,kd,rfl,d1,d2,d3,d4⟩:=g5;refine kat_cons (wpAny_eqBool_tuple (knd:=Bi prog w) hu ⟨oc,cs,kc,c1,c2,c3,Xd8 c4⟩ ⟨od,ds,kd,d1,d2,d3,Xd8 d4⟩ ?_);refine kat_go (λe2=>kat_yes (kat_nil ?_)) (λe2=>kat_no ?_)
  ·have e2:as=bs:=by
    have:=Tn e2;exact Sa (λ_ _ q=>Q4 q) |>.mp this
   rw[e2,Hr] at h;exact h
  ·exact kat_one _ _ (Xlt ⟨oc,c1,c2,kc,c3⟩ ⟨od,d1,d2,kd,d3⟩ c4 d4 hu h)
 ·have e:¬n=m:=λz=>by
   have:=Tp e;omega
  rw[Tj e] at h;refine oneLt_int ?_;have:decide ((n:Int)<(m:Int))=decide (n<m):=by simp
  rw[this];exact h
end
open PySem.W (KasT kas_sort kas_ask kas_item kat_run kat_snds kat_kind KatTups)
section
variable {X:Cx}{pins:List (Addr×Obj)}{σ:List (Option V)}{H:Hp}{s:Shared}
theorem Inv.unpin{p:Addr×Obj}(I:Inv X (p::pins) σ H s):Inv X pins σ H s:=
 I.pins_of λq hq=>I.pin q (Pm _ (Ou _ hq))
theorem Xlv{D:Addr}{e1:Nat}{ys:List V}{out:List Value}(I:Inv X ((D,seqObj "list" #[] e1)::pins) σ H s)(hD:X.s₀.heap.objs.size<=D)(hnp:∀p∈X.pn++pins,p.1≠D)(hv:Vals ys out)(hz:ys.length<=sizeLine):
  Inv X pins σ (upd H D (.lst ys)) {s with heap:=s.heap.update D (Obj.mapSeq λ_=>out.toArray)}:=by
 obtain⟨hg,hn,hl,hf,_⟩:=I.pin (D,seqObj "list" #[] e1) (Pm _ Ow);have J:=I.unpin;have sb:=Tt s.heap D (Obj.mapSeq λ_=>out.toArray);obtain⟨c2,hc2⟩:∃c2,(s.heap.update D (Obj.mapSeq λ_=>out.toArray)).get? D=some (seqObj "list" out.toArray c2):=⟨_,get?_update_seq hg λ_=>out.toArray⟩;have kp:∀b o,b≠D->s.heap.get? b=some o->(s.heap.update D (Obj.mapSeq λ_=>out.toArray)).get? b=some o:=λb o n e=>(sb.2 b n).trans e;have nD:∀b u,H b=some u->b≠D:=λb u e z=>by rw[z,hn] at e;cases e
 have up:∀b u,H b=some u->(upd H D (.lst ys)) b=some u:=λb u e=>by rw[Ad (nD b u e)];exact e
 refine J.step (g':=s.gens) (d':=s.drawn) (t':=s.toks) (ch:=[D]) (λb hb=>?_) (λb o _ _ hc e _=>kp b o (λz=>hc (by rw[z];exact Qp _)) e) (λb o _ _ hc e _=>⟨o.slots,kp b o (λz=>hc (by rw[z];exact Qp _)) e⟩)
  (λb o hc e n=>?_) (λb o hc e=>⟨o,kp b o (λz=>hc (by rw[z];exact Qp _)) e⟩) (λb xs e=>up b _ e) (λb o u e=>up b _ e) (λb pz e=>⟨#[],by rw[up b _ e];simp⟩) (λm hm=>hm.sameBut sb (Ne.symm hl)) ?_ J.bare
 ·rw[Ot.mp hb];refine⟨.inr hD,hl,λx c e z=>?_,λp hp=>hnp p hp⟩;obtain⟨v,o,ho,hd⟩:=J.cell x c e;rw[z,hg] at ho;cases ho;cases hd
 ·rw[Ad (λz=>hc (by rw[z];exact Qp _))];exact n
 ·intro b u e;by_cases z:b=D
  ·subst z;rw[Ac] at e;cases e;exact⟨hz,out,c2,hv,hc2⟩
  ·rw[Ad z] at e;refine(J.hok b u e).stay (λd v hd g=>kp d v ?_ g) (λd g=>up d _ g) λd xs g=>up d _ g;rcases hd with rfl | hd
   ·exact z
   ·exact nD d _ hd
end
abbrev SM:=StateT SortSt Sem
def Db:Bool->Keyed->Array Keyed->Nat->Nat->Nat->SM (Option Nat):=sortPriv% PySem.Builtin.gallop
def bey (l:Bool) (k:Keyed) (c:Array Keyed) (i:Nat):SM (Option Bool):=do
 let x <-elem' c i
 if l then lt' x k else
  let r <-lt' k x
  return r.map (!·)
def Kf (l:Bool) (k:Keyed) (c:Array Keyed) (b n u0 v0:Nat):SM (Option Nat):=do
 let mut u:=u0
 let mut v:=v0
 for _ in [0:n] do
  if u ≥ v then break
  let q:=u+(v - u) / 2
  let some m <-bey l k c (b+q) | return none
  if m then u:=q+1 else v:=q
 return some v
theorem Xlw(l:Bool)(k:Keyed)(c:Array Keyed)(b n h:Nat):Db l k c b n h=(do
  let some r <-bey l k c (b+h) | return none
  if r then
   let mut la:=0
   let mut o:=1
   for _ in [0:n] do
    if o ≥ n - h then break
    let some m <-bey l k c (b+(h+o)) | return none
    if !m then break
    la:=o
    o:=2 * o+1
   Kf l k c b n (h+la+1) (h+min o (n - h))
  else
   let mut la:=0
   let mut o:=1
   for _ in [0:n] do
    if o ≥ h+1 then break
    let some m <-bey l k c (b+(h - o)) | return none
    if m then break
    la:=o
    o:=2 * o+1
   Kf l k c b n (h+1 - min o (h+1)) (h - la)):=rfl
open PySem.W (kas_item kas_cmp)
structure CmS (prog:Program) (w:World) (A:Around) (s:Shared) (κ : SortKind) (it:Array Keyed) (n:Nat) (lt:Nat->Nat->Bool):Prop where
 L:Lin n lt
 c:∀i j (C:Bool->Shared->Prop),i<n->j<n->C (lt i j) s->kas_cmp prog w A κ it i j C s
def Fk (it:Array Keyed) (l:List Nat):Array Keyed:=(l.map (kas_item it)).toArray
section
variable {prog:Program}{w:World}{A:Around}{E:Value->Shared->Prop}{s:Shared}{κ : SortKind}{it:Array Keyed}{n:Nat}{lt:Nat->Nat->Bool}
theorem Ht(hc:CmS prog w A s κ it n lt){x y:Nat}(hx:x<n)(hy:y<n){st:SortSt}(hk:kindOf st = κ){Q:Option Bool->SortSt->Prop}(h:Q (some (lt x y)) st):wpS (model prog w) A E s (lt' (kas_item it x) (kas_item it y)) Q st:=by
 rw[lt'_eq];refine Tg (wpS_get ?_);rw[hk];refine Tg (wpS_lift (wpAny_attempt (wpAny_mono (hc.c x y (λb s'=>s'=s/\b=lt x y) hx hy ⟨rfl,rfl⟩) (λb s' e=>?_) λ_ _ hF=>hF.elim)));obtain⟨rfl,rfl⟩:=e;exact⟨rfl,Th h⟩
theorem Bo{l:List Nat}{i x:Nat}(hi:l[i]? = some x){st:SortSt}{Q:Keyed->SortSt->Prop}(h:Q (kas_item it x) st):wpS (model prog w) A E s (elem' (Fk it l) i) Q st:=by
 rw[elem'_eq];have e:(Fk it l)[i]? = some (kas_item it x):=by
  unfold Fk;rw[Rj,O2,hi];rfl
 rw[e];exact Th h
def beyB (lt:Nat->Nat->Bool) (l:Bool) (k x:Nat):Bool:=if l then lt x k else !lt k x
theorem Gf(hc:CmS prog w A s κ it n lt){l:List Nat}{left:Bool}{k i x:Nat}(hi:l[i]? = some x)(hx:x<n)(hk:k<n){st:SortSt}(hks:kindOf st = κ){Q:Option Bool->SortSt->Prop}(h:Q (some (beyB lt left k x)) st):wpS (model prog w) A E s (bey left (kas_item it k) (Fk it l) i) Q st:=by
 unfold bey;refine Tg (Bo hi ?_);cases left with
 | true=>
  rw[Tk rfl];exact Ht hc hx hk hks h
 | false=>
  rw[Tj (by decide)];exact Tg (Ht hc hk hx hks (Th h))
structure Mono (m:Nat) (P:Nat->Bool):Prop where
 dn:∀i j,i<j->j<m->P j=true->P i=true
theorem Mono.up{m:Nat}{P:Nat->Bool}(M:Mono m P){i j:Nat}(h:i<=j)(hj:j<m)(e:P i=false):P j=false:=by
 by_cases z:i=j
 ·rw[<-z];exact e
 ·cases q:P j with
  | false=>rfl
  | true=>rw[M.dn i j (by omega) hj q] at e;cases e
theorem Gg{left:Bool}{key:Keyed}{arr:Array Keyed}{b m h:Nat}{P:Nat->Bool}{st:SortSt}(M:Mono m P)(hh:h<m)
  (ask:∀i,i<m->∀Q:Option Bool->SortSt->Prop,Q (some (P i)) st->wpS (model prog w) A E s (bey left key arr (b+i)) Q st)
  {Q:Option Nat->SortSt->Prop} (hq:∀r,r<=m->(∀i,i<r->P i=true)->(∀i,r<=i->i<m->P i=false)->Q (some r) st):wpS (model prog w) A E s (Db left key arr b m h) Q st:=by
 rw[Xlw];have last:∀(u v:Nat),u<=v->v<=m->(∀i,i<u->P i=true)->(∀i,v<=i->i<m->P i=false) ->
   wpS (model prog w) A E s (Kf left key arr b m u v) Q st:=by
  intro u v huv hv hu hvv;unfold Kf;refine Tg (wpS_mono (wpS_forRange (I:=λx c st'=>st'=st/\∃u v,c=(none,u,v)/\u<=v/\v<=m/\v - u<=m - x/\(∀i,i<u->P i=true)/\(∀i,v<=i->i<m->P i=false)) (Q:=λc st'=>st'=st/\∃u,c=(none,u,u)/\u<=m/\(∀i,i<u->P i=true)/\(∀i,u<=i->i<m->P i=false)) ?step ?fin ⟨rfl,u,v,rfl,huv,hv,by omega,hu,hvv⟩) ?post)
  case fin=>
   rintro c st' ⟨rfl,u,v,rfl,h1,h2,h3,h4,h5⟩;have:u=v:=by omega
   subst this;exact⟨rfl,u,rfl,h2,h4,h5⟩
  case step=>
   rintro x c st' _ hx ⟨rfl,u,v,rfl,h1,h2,h3,h4,h5⟩;dsimp only;by_cases e:u ≥ v
   ·rw[Tk e];have:u=v:=by omega
    subst this;exact Th ⟨rfl,u,rfl,h2,h4,h5⟩
   ·rw[Tj e];refine Tg (ask _ (by omega) _ ?_);dsimp only;cases q:P (u+(v - u) / 2) with
    | true=>
     rw[Tk rfl];refine Th ⟨rfl,_,v,rfl,by omega,h2,by omega,λi hi=>?_,h5⟩;by_cases z:i=u+(v - u) / 2
     ·rw[z];exact q
     ·exact M.dn i _ (by omega) (by omega) q
    | false=>
     rw[Tj (by decide)];refine Th ⟨rfl,u,_,rfl,by omega,by omega,by omega,h4,λi hi hm=>M.up hi hm q⟩
  case post=>
   rintro c st' ⟨rfl,u,rfl,h2,h4,h5⟩;exact Th (hq u h2 h4 h5)
 refine Tg (ask h hh _ ?_);dsimp only;cases q:P h with
 | true=>
  rw[Tk rfl];refine Tg (wpS_mono (wpS_forRange (I:=λx c st'=>st'=st/\∃la o,c=(none,la,o)/\P (h+la)=true/\h+la<m/\la<o/\x+1<=o) (Q:=λc st'=>st'=st/\∃la o,c=(none,la,o)/\P (h+la)=true/\h+la<m/\la<o/\(h+min o (m - h)<m->P (h+min o (m - h))=false)) ?step ?fin ⟨rfl,0,1,rfl,q,hh,by omega,by omega⟩) ?post)
  case fin=>
   rintro c st' ⟨rfl,la,o,rfl,h1,h2,h3,h4⟩;exact⟨rfl,la,o,rfl,h1,h2,h3,λz=>by omega⟩
  case step=>
   rintro x c st' _ hx ⟨rfl,la,o,rfl,h1,h2,h3,h4⟩;dsimp only;by_cases e:o ≥ m - h
   ·rw[Tk e];exact Th ⟨rfl,la,o,rfl,h1,h2,h3,λz=>by omega⟩
   ·rw[Tj e];refine Tg (ask _ (by omega) _ ?_);dsimp only;cases q2:P (h+o) with
    | true=>exact Th ⟨rfl,o,2 * o+1,rfl,q2,by omega,by omega,by omega⟩
    | false=>exact Th ⟨rfl,la,o,rfl,h1,h2,h3,λz=>by rw[show min o (m - h)=o by omega];exact q2⟩
  case post=>
   rintro c st' ⟨rfl,la,o,rfl,h1,h2,h3,h4⟩;dsimp only;refine last (h+la+1) (h+min o (m - h)) (by omega) (by omega) (λi hi=>?_) (λi hi hm=>M.up hi hm (h4 (by omega)));by_cases z:i=h+la
   ·rw[z];exact h1
   ·exact M.dn i _ (by omega) h2 h1
 | false=>
  rw[Tj (by decide)];refine Tg (wpS_mono (wpS_forRange (I:=λx c st'=>st'=st/\∃la o,c=(none,la,o)/\P (h - la)=false/\la<=h/\la<o/\x+1<=o) (Q:=λc st'=>st'=st/\∃la o,c=(none,la,o)/\P (h - la)=false/\la<=h/\la<o/\(o<h+1->P (h - o)=true)) ?step ?fin ⟨rfl,0,1,rfl,q,by omega,by omega,by omega⟩) ?post)
  case fin=>
   rintro c st' ⟨rfl,la,o,rfl,h1,h2,h3,h4⟩;exact⟨rfl,la,o,rfl,h1,h2,h3,λz=>by omega⟩
  case step=>
   rintro x c st' _ hx ⟨rfl,la,o,rfl,h1,h2,h3,h4⟩;dsimp only;by_cases e:o ≥ h+1
   ·rw[Tk e];exact Th ⟨rfl,la,o,rfl,h1,h2,h3,λz=>by omega⟩
   ·rw[Tj e];refine Tg (ask _ (by omega) _ ?_);dsimp only;cases q2:P (h - o) with
    | true=>exact Th ⟨rfl,la,o,rfl,h1,h2,h3,λz=>q2⟩
    | false=>exact Th ⟨rfl,o,2 * o+1,rfl,q2,by omega,by omega,by omega⟩
  case post=>
   rintro c st' ⟨rfl,la,o,rfl,h1,h2,h3,h4⟩;dsimp only;refine last (h+1 - min o (h+1)) (h - la) (by omega) (by omega) (λi hi=>?_) (λi hi hm=>M.up hi hm h1);have ho:o<h+1:=by omega
   have:=h4 ho;rw[show min o (h+1)=o by omega] at hi;by_cases z:i=h - o
   ·rw[z];exact this
   ·exact M.dn i _ (by omega) (by omega) this
end
open PySem.W (kas_item kas_cmp)
def mLo:Array Keyed->Array Keyed->SM (Array Keyed):=sortPriv% PySem.Builtin.mergeLo
def Dy:Nat->SM Unit:=sortPriv% PySem.Builtin.setMinGallop
theorem Xlx(g:Nat):Dy g=modify λst=>SortSt.mk' (kindOf st) (arrOf st) (pendingOf st) g (failedOf st):=rfl
def dnL (a b o:Array Keyed) (i j:Nat):Array Keyed:=o++a.extract i a.size++b.extract j b.size
def lsL (a b o:Array Keyed) (i j:Nat):Array Keyed:=o++b.extract j b.size++a.extract i a.size
abbrev MTO:=Option (Array Keyed)×Array Keyed×Nat×Nat×Nat
abbrev MTI:=Option (Array Keyed)×Array Keyed×Nat×Nat×Nat×Nat
abbrev MTG:=Option (Array Keyed)×Array Keyed×Nat×Nat×Nat×Nat×Nat
def Nk (a b:Array Keyed) (g:Nat) (d:MTI):SM (ForInStep MTI):=do
 let y <-elem' b d.2.2.2.1
 let x <-elem' a d.2.2.1
 let r <-lt' y x
 match r with
 | some c=>
  if c=true then do
   let y <-elem' b d.2.2.2.1
   if (d.2.2.2.1+1==b.size)=true then pure (.done (some (dnL a b (d.2.1.push y) d.2.2.1 (d.2.2.2.1+1)),d.2.1.push y,d.2.2.1,d.2.2.2.1+1,0,d.2.2.2.2.2+1))
   else if d.2.2.2.2.2+1 ≥ g then pure (.done (none,d.2.1.push y,d.2.2.1,d.2.2.2.1+1,0,d.2.2.2.2.2+1))
   else pure (.yield (none,d.2.1.push y,d.2.2.1,d.2.2.2.1+1,0,d.2.2.2.2.2+1))
  else do
   let x <-elem' a d.2.2.1
   if (d.2.2.1+1+1==a.size)=true then pure (.done (some (lsL a b (d.2.1.push x) (d.2.2.1+1) d.2.2.2.1),d.2.1.push x,d.2.2.1+1,d.2.2.2.1,d.2.2.2.2.1+1,0))
   else if d.2.2.2.2.1+1 ≥ g then pure (.done (none,d.2.1.push x,d.2.2.1+1,d.2.2.2.1,d.2.2.2.2.1+1,0))
   else pure (.yield (none,d.2.1.push x,d.2.2.1+1,d.2.2.2.1,d.2.2.2.2.1+1,0))
 | _=>pure (.done (some (dnL a b d.2.1 d.2.2.1 d.2.2.2.1),d.2.1,d.2.2.1,d.2.2.2.1,d.2.2.2.2.1,d.2.2.2.2.2))
def gV3 (a b o:Array Keyed) (i j g p q:Nat):SM (ForInStep MTG):=do
 let x <-elem' a i
 if (i+1+1==a.size)=true then pure (.done (some (lsL a b (o.push x) (i+1) j),o.push x,i+1,j,g,p,q))
 else if (decide (p<7)&&decide (q<7))=true then pure (.done (none,o.push x,i+1,j,g,p,q))
 else pure (.yield (none,o.push x,i+1,j,g,p,q))
def gV2 (a b o:Array Keyed) (i j g p q:Nat):SM (ForInStep MTG):=do
 let y <-elem' b j
 if (j+1==b.size)=true then pure (.done (some (dnL a b (o.push y) i (j+1)),o.push y,i,j+1,g,p,q))
 else do
  let x <-elem' a i
  let r <-Db true x b (j+1) (b.size - (j+1)) 0
  match r with
  | some k=>
   if k > 0 then
    if (j+1+k==b.size)=true then pure (.done (some (dnL a b (o.push y++b.extract (j+1) (j+1+k)) i (j+1+k)),o.push y++b.extract (j+1) (j+1+k),i,j+1+k,g,p,k))
    else gV3 a b (o.push y++b.extract (j+1) (j+1+k)) i (j+1+k) g p k
   else gV3 a b (o.push y) i (j+1) g p k
  | _=>pure (.done (some (dnL a b (o.push y) i (j+1)),o.push y,i,j+1,g,p,q))
def gV1 (a b o:Array Keyed) (i j g p q:Nat):SM (ForInStep MTG):=do
 Dy g
 let y <-elem' b j
 let r <-Db false y a i (a.size - i) 0
 match r with
 | some k=>
  if k > 0 then
   if (i+k+1==a.size)=true then pure (.done (some (lsL a b (o++a.extract i (i+k)) (i+k) j),o++a.extract i (i+k),i+k,j,g,k,q))
   else if (i+k==a.size)=true then pure (.done (some (dnL a b (o++a.extract i (i+k)) (i+k) j),o++a.extract i (i+k),i+k,j,g,k,q))
   else gV2 a b (o++a.extract i (i+k)) (i+k) j g k q
  else gV2 a b o i j g k q
 | _=>pure (.done (some (dnL a b o i j),o,i,j,g,p,q))
def Kg (a b:Array Keyed) (c:MTO):SM (ForInStep MTO):=do
 let d <-forIn [0:a.size+b.size] ((none,c.2.1,c.2.2.1,c.2.2.2.1,0,0):MTI) λ_ d=>Nk a b c.2.2.2.2 d
 match d.1 with
 | some r=>pure (.done (some r,d.2.1,d.2.2.1,d.2.2.2.1,c.2.2.2.2))
 | none=>do
  liftM (rule "list.sort.gallop")
  let e <-forIn [0:a.size+b.size] ((none,d.2.1,d.2.2.1,d.2.2.2.1,c.2.2.2.2+1,d.2.2.2.2.1,d.2.2.2.2.2):MTG) λ_ e=>
   if e.2.2.2.2.1 > 1 then gV1 a b e.2.1 e.2.2.1 e.2.2.2.1 (e.2.2.2.2.1 - 1) e.2.2.2.2.2.1 e.2.2.2.2.2.2 else gV1 a b e.2.1 e.2.2.1 e.2.2.2.1 e.2.2.2.2.1 e.2.2.2.2.2.1 e.2.2.2.2.2.2
  match e.1 with
  | some r=>pure (.done (some r,e.2.1,e.2.2.1,e.2.2.2.1,e.2.2.2.2.1))
  | none=>do
   Dy (e.2.2.2.2.1+1)
   pure (.yield (none,e.2.1,e.2.2.1,e.2.2.2.1,e.2.2.2.2.1+1))
theorem Xly(a b:Array Keyed):mLo a b=(do
  liftM (rule "list.sort.merge-lo")
  let x0 <-elem' b 0
  let mut o:Array Keyed := #[x0]
  let mut i:=0
  let mut j:=1
  if j==b.size then return dnL a b o i j
  if i+1==a.size then return lsL a b o i j
  let mut g:=gallopOf (<-get)
  for _ in [0:a.size+b.size] do
   let mut p:=0
   let mut q:=0
   for _ in [0:a.size+b.size] do
    let some c <-lt' (<-elem' b j) (<-elem' a i) | return dnL a b o i j
    if c then
     o:=o.push (<-elem' b j)
     j:=j+1
     q:=q+1
     p:=0
     if j==b.size then return dnL a b o i j
     if q ≥ g then break
    else
     o:=o.push (<-elem' a i)
     i:=i+1
     p:=p+1
     q:=0
     if i+1==a.size then return lsL a b o i j
     if p ≥ g then break
   liftM (rule "list.sort.gallop")
   g:=g+1
   for _ in [0:a.size+b.size] do
    if g > 1 then g:=g - 1
    Dy g
    let some k <-Db false (<-elem' b j) a i (a.size - i) 0 | return dnL a b o i j
    p:=k
    if k > 0 then
     o:=o++a.extract i (i+k)
     i:=i+k
     if i+1==a.size then return lsL a b o i j
     if i==a.size then return dnL a b o i j
    o:=o.push (<-elem' b j)
    j:=j+1
    if j==b.size then return dnL a b o i j
    let some k <-Db true (<-elem' a i) b j (b.size - j) 0 | return dnL a b o i j
    q:=k
    if k > 0 then
     o:=o++b.extract j (j+k)
     j:=j+k
     if j==b.size then return dnL a b o i j
    o:=o.push (<-elem' a i)
    i:=i+1
    if i+1==a.size then return lsL a b o i j
    if p<7&&q<7 then break
   g:=g+1
   Dy g
  unsupported "internal:list.sort.merge-bound"):=rfl
theorem Xlz(a b:Array Keyed):mLo a b=(do
  liftM (rule "list.sort.merge-lo")
  let x0 <-elem' b 0
  if (1==b.size)=true then pure (dnL a b #[x0] 0 1)
  else if (0+1==a.size)=true then pure (lsL a b #[x0] 0 1)
  else do
   let st <-get
   let c <-forIn [0:a.size+b.size] ((none, #[x0],0,1,gallopOf st):MTO) λ_ c=>Kg a b c
   match c.1 with
   | some r=>pure r
   | none=>unsupported "internal:list.sort.merge-bound"):=by
 rw[Xly];congr 1;funext _u;congr 1;funext x0;dsimp only;congr 1;congr 1;congr 1;funext st;congr 1
 ·congr 1;funext _x c;unfold Kg;congr 1;funext d;obtain⟨r,d⟩:=d;cases r with
  | some r=>rfl
  | none=>
   dsimp only;congr 1;funext _v;congr 1;funext e;obtain⟨r,e⟩:=e;cases r<;>rfl
 ·funext c;obtain⟨r,c⟩:=c;cases r<;>rfl
open PySem.W (kas_item kas_cmp)
section
variable {it:Array Keyed}
theorem Hu(l:List Nat)(x:Nat):(Fk it l).push (kas_item it x)=Fk it (l++[x]):=by
 unfold Fk;rw[List.push_toArray,O5];rfl
theorem Dm(l m:List Nat):Fk it l++Fk it m=Fk it (l++m):=by
 unfold Fk;rw[List.append_toArray,O5]
theorem Dz(l:List Nat)(i j:Nat):(Fk it l).extract i j=Fk it ((l.drop i).take (j - i)):=by
 unfold Fk;rw[List.extract_toArray,List.map_take,List.map_drop]
theorem Bv(l:List Nat):(Fk it l).size=l.length:=by
 unfold Fk;rw[Ox,Oo]
theorem Hv(la lb lo:List Nat)(i j:Nat):dnL (Fk it la) (Fk it lb) (Fk it lo) i j=Fk it (lo++la.drop i++lb.drop j):=by
 unfold dnL;rw[Dz,Dz,Bv,Bv,Dm,Dm,Pu (by rw[P8];exact Oq _),Pu (by rw[P8];exact Oq _)]
theorem Kh(la lb lo:List Nat)(i j:Nat):lsL (Fk it la) (Fk it lb) (Fk it lo) i j=Fk it (lo++lb.drop j++la.drop i):=by
 unfold lsL;rw[Dz,Dz,Bv,Bv,Dm,Dm,Pu (by rw[P8];exact Oq _),Pu (by rw[P8];exact Oq _)]
end
structure Two (lt:Nat->Nat->Bool) (n:Nat) (la lb:List Nat):Prop where
 L:Lin n lt
 an:∀x∈la,x<n
 bn:∀x∈lb,x<n
 dj:∀x∈la,∀y∈lb,x≠y
 sa:la.Pairwise λx y=>lt x y=true
 sb:lb.Pairwise λx y=>lt x y=true
structure MI (lt:Nat->Nat->Bool) (la lb lo:List Nat) (i j:Nat):Prop where
 so:lo.Pairwise λx y=>lt x y=true
 pm:lo.Perm (la.take i++lb.take j)
 ba:∀x∈lo,∀y∈la.drop i,lt x y=true
 bb:∀x∈lo,∀y∈lb.drop j,lt x y=true
section
variable {lt:Nat->Nat->Bool}{n:Nat}{la lb lo:List Nat}{i j k:Nat}
theorem Two.flip(T:Two lt n la lb){x y:Nat}(hx:x∈la)(hy:y∈lb)(h:lt y x=false):lt x y=true:=by
 rcases T.L.tot x y (T.an x hx) (T.bn y hy) (T.dj x hx y hy) with z | z
 ·exact z
 ·rw[z] at h;cases h
theorem drop_split(l:List Nat)(i k:Nat):l.drop i=(l.drop i).take k++l.drop (i+k):=by
 rw[<-List.drop_drop,Pi]
theorem take_split(l:List Nat)(i k:Nat):l.take (i+k)=l.take i++(l.drop i).take k:=by
 rw[List.take_add]
theorem MI.chA(T:Two lt n la lb)(m:MI lt la lb lo i j)(h:∀x∈(la.drop i).take k,∀y∈lb.drop j,lt x y=true):MI lt la lb (lo++(la.drop i).take k) (i+k) j:=by
 have sp:=drop_split la i k;have sd:=T.sa.sublist (Qu i la);rw[sp] at sd;obtain⟨s1,s2,s3⟩:=Ph.mp sd;refine⟨Ph.mpr ⟨m.so,s1,λx hx y hy=>m.ba x hx y (Px hy)⟩,?_,λx hx y hy=>?_,λx hx y hy=>?_⟩
 ·rw[take_split];refine(m.pm.append_right _).trans ?_;rw[Pj,Pj];exact Qe _ Qy
 ·rcases Oz.mp hx with z | z
  ·exact m.ba x z y (by rw[sp];exact Pm _ hy)
  ·exact s3 x z y hy
 ·rcases Oz.mp hx with z | z
  ·exact m.bb x z y hy
  ·exact h x z y hy
theorem MI.chB(T:Two lt n la lb)(m:MI lt la lb lo i j)(h:∀x∈(lb.drop j).take k,∀y∈la.drop i,lt x y=true):MI lt la lb (lo++(lb.drop j).take k) i (j+k):=by
 have sp:=drop_split lb j k;have sd:=T.sb.sublist (Qu j lb);rw[sp] at sd;obtain⟨s1,s2,s3⟩:=Ph.mp sd;refine⟨Ph.mpr ⟨m.so,s1,λx hx y hy=>m.bb x hx y (Px hy)⟩,?_,λx hx y hy=>?_,λx hx y hy=>?_⟩
 ·rw[take_split,<-Pj];exact m.pm.append_right _
 ·rcases Oz.mp hx with z | z
  ·exact m.ba x z y hy
  ·exact h x z y hy
 ·rcases Oz.mp hx with z | z
  ·exact m.bb x z y (by rw[sp];exact Pm _ hy)
  ·exact s3 x z y hy
theorem Xd9(la lb:List Nat)(h:lo.Perm (la.take i++lb.take j)):(lo++la.drop i++lb.drop j).Perm (la++lb):=by
 refine((h.append_right _).append_right _).trans ?_;rw[Pj,Pj];have e:la++lb=la.take i++(la.drop i++(lb.take j++lb.drop j)):=by rw[Pi,<-Pj,Pi]
 rw[e];refine Qe _ ?_;rw[<-Pj,<-Pj];exact Qy.append_right _
def Mrg (lt:Nat->Nat->Bool) (la lb r:List Nat):Prop:=r.Perm (la++lb)/\r.Pairwise λx y=>lt x y=true
theorem MI.endB(T:Two lt n la lb)(m:MI lt la lb lo i j)(h:∀x∈la.drop i,∀y∈lb.drop j,lt x y=true):Mrg lt la lb (lo++la.drop i++lb.drop j):=by
 refine⟨Xd9 la lb m.pm,Ph.mpr ⟨Ph.mpr ⟨m.so,T.sa.sublist (Qu ..),m.ba⟩,T.sb.sublist (Qu ..),λx hx y hy=>?_⟩⟩;rcases Oz.mp hx with z | z
 ·exact m.bb x z y hy
 ·exact h x z y hy
theorem MI.endA(T:Two lt n la lb)(m:MI lt la lb lo i j)(h:∀x∈lb.drop j,∀y∈la.drop i,lt x y=true):Mrg lt la lb (lo++lb.drop j++la.drop i):=by
 refine⟨?_,Ph.mpr ⟨Ph.mpr ⟨m.so,T.sb.sublist (Qu ..),m.bb⟩,T.sa.sublist (Qu ..),λx hx y hy=>?_⟩⟩
 ·refine List.Perm.trans ?_ (Xd9 la lb m.pm);rw[Pj,Pj];exact Qe _ Qy
 ·rcases Oz.mp hx with z | z
  ·exact m.ba x z y hy
  ·exact h x z y hy
theorem Gh{l:List Nat}(L:Lin n lt)(so:l.Pairwise λx y=>lt x y=true){x z:Nat}(hz:l[i]? = some z)(h:lt x z=true):∀y∈l.drop i,lt x y=true:=by
 intro y hy;obtain⟨hi,e⟩:=Pb.mp hz;rw[Rl hi,e] at hy;have sd:=so.sublist (Qu i l);rw[Rl hi,e] at sd;rcases O6.mp hy with q | q
 ·rw[q];exact h
 ·exact L.tr _ _ _ h (List.rel_of_pairwise_cons sd q)
end
section
variable {lt:Nat->Nat->Bool}{n:Nat}{la lb lo:List Nat}{i j k:Nat}
theorem Bm{l:List Nat}(h:i<l.length):l[i]? = some (l.getD i 0):=by
 rw[O7,Op h];rfl
theorem Bw{l:List Nat}(h:i<l.length):l.getD i 0∈l:=Rm (Bm h)
theorem Dn{l:List Nat}(h:i<l.length):(l.drop i).take 1=[l.getD i 0]:=by
 rw[Rl h];show [l[i]]=_;rw[O7,Op h];rfl
theorem Ki{l:List Nat}(h:i+1=l.length):l.drop i=[l.getD (l.length - 1) 0]:=by
 have hi:i<l.length:=by omega
 rw[Rl hi,Qm (by omega),show l.length - 1=i by omega,O7,Op hi];rfl
theorem Dc{l:List Nat}{x:Nat}(h:x∈(l.drop i).take k):∃t,t<k/\i+t<l.length/\x=l.getD (i+t) 0:=by
 obtain⟨t,ht,e⟩:=Po.mp h;rw[O3,P8] at ht;rw[Sh,S7] at e;have hl:i+t<l.length:=by omega
 exact⟨t,by omega,hl,by rw[<-e,O7,Op hl];rfl⟩
theorem Gi{l:List Nat}{R:Nat->Nat->Prop}(h:l.Pairwise R){a b:Nat}(hab:a<b)(hb:b<l.length):R (l.getD a 0) (l.getD b 0):=by
 have:=Rk.mp h a b (by omega) hb hab
 rwa [show l.getD a 0=l[a] by rw[O7,Op (show a<l.length by omega)];rfl,show l.getD b 0=l[b] by rw[O7,Op hb];rfl]
theorem MI.nil:MI lt la lb [] 0 0:=⟨.nil,.nil,λ_ h=>(nomatch h),λ_ h=>(nomatch h)⟩
end
structure SG (st0 st:SortSt):Prop where
 k:kindOf st=kindOf st0
 a:arrOf st=arrOf st0
 p:pendingOf st=pendingOf st0
 f:failedOf st=failedOf st0
def RsI {τ : Type} (it:Array Keyed) (lt:Nat->Nat->Bool) (la lb:List Nat) (c:Option (Array Keyed)×Array Keyed×Nat×Nat × τ):Prop:=∃res,c.1=some (Fk it res)/\Mrg lt la lb res
def NxI {τ : Type} (it:Array Keyed) (lt:Nat->Nat->Bool) (la lb:List Nat) (m:Nat) (c:Option (Array Keyed)×Array Keyed×Nat×Nat × τ):Prop:=∃lo i j t,c=(none,Fk it lo,i,j,t)/\MI lt la lb lo i j/\i+1<la.length/\j<lb.length/\m<i+j
def StI {τ : Type} (it:Array Keyed) (lt:Nat->Nat->Bool) (la lb:List Nat) (m:Nat) (r:ForInStep (Option (Array Keyed)×Array Keyed×Nat×Nat × τ)):Prop:=match r with
 | .done c=>RsI it lt la lb c\/NxI it lt la lb m c
 | .yield c=>NxI it lt la lb m c
def StO {τ : Type} (it:Array Keyed) (lt:Nat->Nat->Bool) (la lb:List Nat) (m:Nat) (r:ForInStep (Option (Array Keyed)×Array Keyed×Nat×Nat × τ)):Prop:=match r with
 | .done c=>RsI it lt la lb c
 | .yield c=>NxI it lt la lb m c
theorem NxI.mono{τ : Type}{it:Array Keyed}{lt:Nat->Nat->Bool}{la lb:List Nat}{m m':Nat}{c:Option (Array Keyed)×Array Keyed×Nat×Nat × τ}(h:NxI it lt la lb m c)(hm:m'<=m):NxI it lt la lb m' c:=by
 obtain⟨lo,i,j,t,e,a1,a2,a3,a4⟩:=h;exact⟨lo,i,j,t,e,a1,a2,a3,by omega⟩
section
variable {prog:Program}{w:World}{A:Around}{E:Value->Shared->Prop}{s:Shared}{κ : SortKind}{it:Array Keyed}{n:Nat}{lt:Nat->Nat->Bool}{la lb lo:List Nat}{i j k g p q:Nat}{st0 st:SortSt}
theorem wS_setG{Q:Unit->SortSt->Prop}(sg:SG st0 st)(h:∀st',SG st0 st'->Q () st'):wpS (model prog w) A E s (Dy g) Q st:=by
 rw[Xlx];exact wpS_modify (h _ ⟨sg.k,sg.a,sg.p,sg.f⟩)
theorem Xl0(hc:CmS prog w A s κ it n lt)(T:Two lt n la lb)(top:∀x∈lb,lt x (la.getD (la.length - 1) 0)=true)(hk:kindOf st0 = κ)(sg:SG st0 st)(m:MI lt la lb lo i j)(hi:i+1<la.length)(hj:j<lb.length)
  {Q:ForInStep MTI->SortSt->Prop} (h:∀r,StI it lt la lb (i+j) r->Q r st):wpS (model prog w) A E s (Nk (Fk it la) (Fk it lb) g (none,Fk it lo,i,j,p,q)) Q st:=by
 unfold Nk;dsimp only;have hi':i<la.length:=by omega
 have ea:=Bm hi';have eb:=Bm hj;have ma:=Bw hi';have mb:=Bw hj;refine Tg (Bo eb (Tg (Bo ea (Tg (Ht hc (T.bn _ mb) (T.an _ ma) (sg.k.trans hk) ?_)))));dsimp only;cases c:lt (lb.getD j 0) (la.getD i 0) with
 | true=>
  rw[Tk rfl];refine Tg (Bo eb ?_);rw[Hu,Hv,Bv];have m':=MI.chB (k:=1) T m (by rw[Dn hj];intro x hx y hy;rw[Ot.mp hx];exact Gh T.L T.sa ea c y hy);rw[Dn hj] at m';by_cases e:(j+1==lb.length)=true
  ·rw[Tk e];have e':j+1=lb.length:=by simpa using e
   exact Th (h _ (.inl ⟨_,rfl,m'.endB T (by rw[Qm (by omega:lb.length<=j+1)];intro _ _ y hy;cases hy)⟩))
  ·rw[Tj e];have e':j+1≠lb.length:=by simpa using e
   by_cases e2:q+1 ≥ g
   ·rw[Tk e2];exact Th (h _ (.inr ⟨_,_,_,_,rfl,m',hi,by omega,by omega⟩))
   ·rw[Tj e2];exact Th (h _ ⟨_,_,_,_,rfl,m',hi,by omega,by omega⟩)
 | false=>
  rw[Tj (by decide)];have c':=T.flip ma mb c;refine Tg (Bo ea ?_);rw[Hu,Kh,Bv];have m':=MI.chA (k:=1) T m (by rw[Dn hi'];intro x hx y hy;rw[Ot.mp hx];exact Gh T.L T.sb eb c' y hy);rw[Dn hi'] at m';by_cases e:(i+1+1==la.length)=true
  ·rw[Tk e];have e':i+1+1=la.length:=by simpa using e
   exact Th (h _ (.inl ⟨_,rfl,m'.endA T (by rw[Ki e'];intro x hx y hy;rw[Ot.mp hy];exact top x (P7 hx))⟩))
  ·rw[Tj e];have e':i+1+1≠la.length:=by simpa using e
   by_cases e2:p+1 ≥ g
   ·rw[Tk e2];exact Th (h _ (.inr ⟨_,_,_,_,rfl,m',by omega,hj,by omega⟩))
   ·rw[Tj e2];exact Th (h _ ⟨_,_,_,_,rfl,m',by omega,hj,by omega⟩)
theorem Xea(T:Two lt n la lb)(top:∀x∈lb,lt x (la.getD (la.length - 1) 0)=true)(m:MI lt la lb lo i j)(hi:i+1<la.length)(hj:j<lb.length)(c:lt (la.getD i 0) (lb.getD j 0)=true){m0:Nat}(hm:m0<=i+j)
  {Q:ForInStep MTG->SortSt->Prop} (h:∀r,StI it lt la lb m0 r->Q r st):wpS (model prog w) A E s (gV3 (Fk it la) (Fk it lb) (Fk it lo) i j g p q) Q st:=by
 unfold gV3;have hi':i<la.length:=by omega
 refine Tg (Bo (Bm hi') ?_);rw[Hu,Kh,Bv];have m':=MI.chA (k:=1) T m (by rw[Dn hi'];intro x hx y hy;rw[Ot.mp hx];exact Gh T.L T.sb (Bm hj) c y hy);rw[Dn hi'] at m';by_cases e:(i+1+1==la.length)=true
 ·rw[Tk e];have e':i+1+1=la.length:=by simpa using e
  exact Th (h _ (.inl ⟨_,rfl,m'.endA T (by rw[Ki e'];intro x hx y hy;rw[Ot.mp hy];exact top x (P7 hx))⟩))
 ·rw[Tj e];have e':i+1+1≠la.length:=by simpa using e
  by_cases e2:(decide (p<7)&&decide (q<7))=true
  ·rw[Tk e2];exact Th (h _ (.inr ⟨_,_,_,_,rfl,m',by omega,hj,by omega⟩))
  ·rw[Tj e2];exact Th (h _ ⟨_,_,_,_,rfl,m',by omega,hj,by omega⟩)
theorem Xeb(hc:CmS prog w A s κ it n lt)(T:Two lt n la lb)(top:∀x∈lb,lt x (la.getD (la.length - 1) 0)=true)(hk:kindOf st0 = κ)(sg:SG st0 st)(m:MI lt la lb lo i j)(hi:i+1<la.length)(hj:j<lb.length)(c:lt (lb.getD j 0) (la.getD i 0)=true){m0:Nat}(hm:m0<=i+j)
  {Q:ForInStep MTG->SortSt->Prop} (h:∀r,StI it lt la lb m0 r->Q r st):wpS (model prog w) A E s (gV2 (Fk it la) (Fk it lb) (Fk it lo) i j g p q) Q st:=by
 unfold gV2;have hi':i<la.length:=by omega
 have ea:=Bm hi';have ma:=Bw hi';refine Tg (Bo (Bm hj) ?_);rw[Hu,Hv,Bv];have m':=MI.chB (k:=1) T m (by rw[Dn hj];intro x hx y hy;rw[Ot.mp hx];exact Gh T.L T.sa ea c y hy);rw[Dn hj] at m';by_cases e:(j+1==lb.length)=true
 ·rw[Tk e];have e':j+1=lb.length:=by simpa using e
  exact Th (h _ (.inl ⟨_,rfl,m'.endB T (by rw[Qm (by omega:lb.length<=j+1)];intro _ _ y hy;cases hy)⟩))
 rw[Tj e];have e':j+1≠lb.length:=by simpa using e
 refine Tg (Bo ea ?_);refine Tg (Gg (P:=λt=>lt (lb.getD (j+1+t) 0) (la.getD i 0)) ⟨λa b hab hb e=>?_⟩ (by omega) (λt ht Q' hq=>?_) λr hr hlo hhi=>?_)
 ·exact T.L.tr _ _ _ (Gi T.sb (by omega) (by omega)) e
 ·exact Gf hc (Bm (by omega)) (T.bn _ (Bw (by omega))) (T.an _ ma) (sg.k.trans hk) (left:=true) hq
 dsimp only;by_cases hr0:r > 0
 ·rw[Tk hr0,Dz,Dm,Hv,show j+1+r - (j+1)=r by omega];have m2:=MI.chB (k:=r) T m' (λx hx y hy=>by
   obtain⟨t,h1,h2,rfl⟩:=Dc hx;exact Gh T.L T.sa ea (hlo t h1) y hy)
  by_cases e3:(j+1+r==lb.length)=true
  ·rw[Tk e3];have e3':j+1+r=lb.length:=by simpa using e3
   exact Th (h _ (.inl ⟨_,rfl,m2.endB T (by rw[Qm (by omega:lb.length<=j+1+r)];intro _ _ y hy;cases hy)⟩))
  ·rw[Tj e3];have e3':j+1+r≠lb.length:=by simpa using e3
   have hjr:j+1+r<lb.length:=by omega
   exact Xea T top m2 hi hjr (T.flip ma (Bw hjr) (hhi r (Oq _) (by omega))) (by omega) h
 ·rw[Tj hr0];have hz:=hhi 0 (by omega) (by omega);exact Xea T top m' hi (by omega) (T.flip ma (Bw (by omega)) hz) (by omega) h
theorem Xec(hc:CmS prog w A s κ it n lt)(T:Two lt n la lb)(top:∀x∈lb,lt x (la.getD (la.length - 1) 0)=true)(hk:kindOf st0 = κ)(sg:SG st0 st)(m:MI lt la lb lo i j)(hi:i+1<la.length)(hj:j<lb.length)
  {Q:ForInStep MTG->SortSt->Prop} (h:∀r st',SG st0 st'->StI it lt la lb (i+j) r->Q r st'):wpS (model prog w) A E s (gV1 (Fk it la) (Fk it lb) (Fk it lo) i j g p q) Q st:=by
 unfold gV1;refine Tg (wS_setG sg λst' sg'=>?_);have eb:=Bm hj;have mb:=Bw hj;refine Tg (Bo eb ?_);rw[Bv];refine Tg (Gg (P:=λt => !lt (lb.getD j 0) (la.getD (i+t) 0)) ⟨λa b hab hb e=>?_⟩ (by omega) (λt ht Q' hq=>?_) λr hr hlo hhi=>?_)
 ·have e:lt (lb.getD j 0) (la.getD (i+b) 0)=false:=by simpa using e
  cases q:lt (lb.getD j 0) (la.getD (i+a) 0) with
  | false=>rfl
  | true=>
   have:=T.L.tr _ _ _ q (Gi T.sa (show i+a<i+b by omega) (by omega));rw[this] at e;cases e
 ·exact Gf hc (Bm (by omega)) (T.an _ (Bw (by omega))) (T.bn _ mb) (sg'.k.trans hk) (left:=false) hq
 dsimp only;have tp:=top _ mb;have hr1:r<la.length - i:=by
  rcases Nat.lt_or_ge r (la.length - i) with z | z
  ·exact z
  ·have:=hlo (la.length - 1 - i) (by omega);rw[show i+(la.length - 1 - i)=la.length - 1 by omega,tp] at this;cases this
 have hnx:lt (lb.getD j 0) (la.getD (i+r) 0)=true:=by
  have:=hhi r (Oq _) hr1;simpa using this
 by_cases hr0:r > 0
 ·rw[Tk hr0,Dz,Dm,Hv,Kh,show i+r - i=r by omega];have m2:=MI.chA (k:=r) T m (λx hx y hy=>by
   obtain⟨t,h1,h2,rfl⟩:=Dc hx;have:=hlo t h1;exact Gh T.L T.sb eb (T.flip (Bw h2) mb (by simpa using this)) y hy)
  by_cases e3:(i+r+1==la.length)=true
  ·rw[Tk e3];have e3':i+r+1=la.length:=by simpa using e3
   exact Th (h _ _ sg' (.inl ⟨_,rfl,m2.endA T (by rw[Ki e3'];intro x hx y hy;rw[Ot.mp hy];exact top x (P7 hx))⟩))
  ·rw[Tj e3];have e3':i+r+1≠la.length:=by simpa using e3
   have e4:¬(i+r==la.length)=true:=by
    simp;omega
   rw[Tj e4];exact Xeb hc T top hk sg' m2 (by omega) hj hnx (by omega) λr' hr'=>h r' _ sg' hr'
 ·rw[Tj hr0];have:r=0:=by omega
  subst this;exact Xeb hc T top hk sg' m hi hj hnx (Oq _) λr' hr'=>h r' _ sg' hr'
theorem Xl1(hc:CmS prog w A s κ it n lt)(T:Two lt n la lb)(top:∀x∈lb,lt x (la.getD (la.length - 1) 0)=true)(hk:kindOf st0 = κ)(sg:SG st0 st)(m:MI lt la lb lo i j)(hi:i+1<la.length)(hj:j<lb.length)
  {Q:ForInStep MTO->SortSt->Prop} (h:∀r st',SG st0 st'->StO it lt la lb (i+j) r->Q r st'):wpS (model prog w) A E s (Kg (Fk it la) (Fk it lb) (none,Fk it lo,i,j,g)) Q st:=by
 unfold Kg;dsimp only;rw[Bv,Bv];refine Tg (wpS_mono (wpS_forRange (I:=λx c st'=>SG st0 st'/\∃lo' i' j' t,c=(none,Fk it lo',i',j',t)/\MI lt la lb lo' i' j'/\i'+1<la.length/\j'<lb.length/\i+j+x<=i'+j') (Q:=λc st'=>SG st0 st'/\(RsI it lt la lb c\/NxI it lt la lb (i+j) c)) ?step ?fin ⟨sg,lo,i,j,_,rfl,m,hi,hj,Oq _⟩) ?post)
 case fin=>
  rintro c st' ⟨sg',lo',i',j',t,rfl,m',h1,h2,h3⟩;exact⟨sg',.inr ⟨lo',i',j',t,rfl,m',h1,h2,by omega⟩⟩
 case step=>
  rintro x c st' _ hx ⟨sg',lo',i',j',t,rfl,m',h1,h2,h3⟩;refine Xl0 hc T top hk sg' m' h1 h2 λr hr=>?_;cases r with
  | done c=>
   rcases hr with z | z
   ·exact⟨sg',.inl z⟩
   ·exact⟨sg',.inr (z.mono (by omega))⟩
  | yield c=>
   obtain⟨lo2,i2,j2,t2,e,a1,a2,a3,a4⟩:=hr;exact⟨sg',lo2,i2,j2,t2,e,a1,a2,a3,by omega⟩
 case post=>
  rintro ⟨r,o1,i1,j1,p1,q1⟩ st1 ⟨sg1,z⟩;rcases z with ⟨res,e,mr⟩ | ⟨lo1,i2,j2,t,e,m1,a1,a2,a3⟩
  ·obtain rfl:r=some (Fk it res):=e;exact Th (h _ _ sg1 ⟨res,rfl,mr⟩)
  ·cases e;dsimp only;refine Tg (wpS_lift (wpAny_rule ⟨rfl,?_⟩));refine Tg (wpS_mono (wpS_forRange (I:=λx c st'=>SG st0 st'/\NxI it lt la lb (i+j) c) (Q:=λc st'=>SG st0 st'/\(RsI it lt la lb c\/NxI it lt la lb (i+j) c)) ?step ?fin ⟨sg1,lo1,i1,j1,_,rfl,m1,a1,a2,a3⟩) ?post)
   case fin=>exact λc st' z=>⟨z.1,.inr z.2⟩
   case step=>
    rintro x c st' _ hx ⟨sg',lo',i',j',⟨g',p',q'⟩,rfl,m',h1,h2,h3⟩;dsimp only;have go:∀(r:ForInStep MTG) st'',SG st0 st''->StI it lt la lb (i'+j') r->(match r with
     | .done c'=>SG st0 st''/\(RsI it lt la lb c'\/NxI it lt la lb (i+j) c')
     | .yield c'=>SG st0 st''/\NxI it lt la lb (i+j) c'):=λr st'' sg'' hr=>by
     cases r with
     | done c=>
      rcases hr with z | z
      ·exact⟨sg'',.inl z⟩
      ·exact⟨sg'',.inr (z.mono (by omega))⟩
     | yield c=>exact⟨sg'',NxI.mono hr (by omega)⟩
    by_cases e:g' > 1
    ·rw[Tk e];exact Xec hc T top hk sg' m' h1 h2 λr st'' s1 s2=>by have:=go r st'' s1 s2;cases r<;>exact this
    ·rw[Tj e];exact Xec hc T top hk sg' m' h1 h2 λr st'' s1 s2=>by have:=go r st'' s1 s2;cases r<;>exact this
   case post=>
    rintro ⟨r,o2,i2,j2,g2,p2,q2⟩ st2 ⟨sg2,z⟩;rcases z with ⟨res,e,mr⟩ | ⟨lo2,i3,j3,t,e,m2,b1,b2,b3⟩
    ·obtain rfl:r=some (Fk it res):=e;exact Th (h _ _ sg2 ⟨res,rfl,mr⟩)
    ·cases e;dsimp only;exact Tg (wS_setG sg2 λst3 sg3=>Th (h _ _ sg3 ⟨lo2,i2,j2,_,rfl,m2,b1,b2,b3⟩))
theorem Xl2(hc:CmS prog w A s κ it n lt)(T:Two lt n la lb)(ha:1<=la.length)(hb:1<=lb.length)(h0:∀y∈la,lt (lb.getD 0 0) y=true)(top:∀x∈lb,lt x (la.getD (la.length - 1) 0)=true)
  (hk:kindOf st = κ) {Q:Array Keyed->SortSt->Prop} (h:∀res st',Mrg lt la lb res->SG st st'->Q (Fk it res) st'):wpS (model prog w) A E s (mLo (Fk it la) (Fk it lb)) Q st:=by
 rw[Xlz];have sg0:SG st st:=⟨rfl,rfl,rfl,rfl⟩;refine Tg (wpS_lift (wpAny_rule ⟨rfl,?_⟩));have hb':0<lb.length:=hb;refine Tg (Bo (Bm hb') ?_);have e0:(#[kas_item it (lb.getD 0 0)]:Array Keyed)=Fk it [lb.getD 0 0]:=rfl;rw[e0,Hv,Kh,Bv,Bv];have m1:=MI.chB (k:=1) T (MI.nil (lt:=lt) (la:=la) (lb:=lb)) (by rw[Dn hb'];intro x hx y hy;rw[Ot.mp hx];exact h0 y (P7 hy));rw[Dn hb',Ro,Ql] at m1;by_cases e1:(1==lb.length)=true
 ·rw[Tk e1];have e1':1=lb.length:=by simpa using e1
  exact Th (h _ _ (m1.endB T (by rw[Qm (by omega:lb.length<=1)];intro _ _ y hy;cases hy)) sg0)
 rw[Tj e1];have e1':1≠lb.length:=by simpa using e1
 by_cases e2:(0+1==la.length)=true
 ·rw[Tk e2];have e2':0+1=la.length:=by simpa using e2
  exact Th (h _ _ (m1.endA T (by rw[Ki e2'];intro x hx y hy;rw[Ot.mp hy];exact top x (P7 hx))) sg0)
 rw[Tj e2];have e2':0+1≠la.length:=by simpa using e2
 refine Tg (wpS_get ?_);refine Tg (wpS_mono (wpS_forRange (I:=λx c st'=>SG st st'/\NxI it lt la lb x c) (Q:=λc st'=>SG st st'/\RsI it lt la lb c) ?step ?fin ⟨sg0,_,_,_,_,rfl,m1,by omega,by omega,by omega⟩) ?post)
 case fin=>
  rintro c st' ⟨sg',lo',i',j',t,rfl,m',h1,h2,h3⟩;omega
 case step=>
  rintro x c st' _ hx ⟨sg',lo',i',j',t,rfl,m',h1,h2,h3⟩;refine Xl1 hc T top hk sg' m' h1 h2 λr st'' sg'' hr=>?_;cases r with
  | done c=>exact⟨sg'',hr⟩
  | yield c=>exact⟨sg'',NxI.mono hr (by omega)⟩
 case post=>
  rintro ⟨r,o2,i2,j2,g2⟩ st2 ⟨sg2,res,e,mr⟩;obtain rfl:r=some (Fk it res):=e;exact Th (h res _ mr sg2)
end
open PySem.W (kas_item kas_cmp)
def mHi:Array Keyed->Array Keyed->SM (Array Keyed):=sortPriv% PySem.Builtin.mergeHi
def dnH (a b o:Array Keyed) (i j:Nat):Array Keyed:=a.extract 0 i++b.extract 0 j++o.reverse
def fsH (a b o:Array Keyed) (i j:Nat):Array Keyed:=b.extract 0 j++a.extract 0 i++o.reverse
abbrev HTO:=Option (Array Keyed)×Nat×Nat×Array Keyed×Nat
abbrev HTI:=Option (Array Keyed)×Nat×Nat×Array Keyed×Nat×Nat
abbrev HTG:=Option (Array Keyed)×Nat×Nat×Array Keyed×Nat×Nat×Nat
def Nl (a b:Array Keyed) (g:Nat) (d:HTI):SM (ForInStep HTI):=do
 let y <-elem' b (d.2.2.1 - 1)
 let x <-elem' a (d.2.1 - 1)
 let r <-lt' y x
 match r with
 | some c=>
  if c=true then do
   let x <-elem' a (d.2.1 - 1)
   if (d.2.1 - 1==0)=true then pure (.done (some (dnH a b (d.2.2.2.1.push x) (d.2.1 - 1) d.2.2.1),d.2.1 - 1,d.2.2.1,d.2.2.2.1.push x,d.2.2.2.2.1+1,0))
   else if d.2.2.2.2.1+1 ≥ g then pure (.done (none,d.2.1 - 1,d.2.2.1,d.2.2.2.1.push x,d.2.2.2.2.1+1,0))
   else pure (.yield (none,d.2.1 - 1,d.2.2.1,d.2.2.2.1.push x,d.2.2.2.2.1+1,0))
  else do
   let y <-elem' b (d.2.2.1 - 1)
   if (d.2.2.1 - 1==1)=true then pure (.done (some (fsH a b (d.2.2.2.1.push y) d.2.1 (d.2.2.1 - 1)),d.2.1,d.2.2.1 - 1,d.2.2.2.1.push y,0,d.2.2.2.2.2+1))
   else if d.2.2.2.2.2+1 ≥ g then pure (.done (none,d.2.1,d.2.2.1 - 1,d.2.2.2.1.push y,0,d.2.2.2.2.2+1))
   else pure (.yield (none,d.2.1,d.2.2.1 - 1,d.2.2.2.1.push y,0,d.2.2.2.2.2+1))
 | _=>pure (.done (some (dnH a b d.2.2.2.1 d.2.1 d.2.2.1),d.2.1,d.2.2.1,d.2.2.2.1,d.2.2.2.2.1,d.2.2.2.2.2))
def gH3 (a b o:Array Keyed) (i j g p q:Nat):SM (ForInStep HTG):=do
 let x <-elem' a (i - 1)
 if (i - 1==0)=true then pure (.done (some (dnH a b (o.push x) (i - 1) j),i - 1,j,o.push x,g,p,q))
 else if (decide (p<7)&&decide (q<7))=true then pure (.done (none,i - 1,j,o.push x,g,p,q))
 else pure (.yield (none,i - 1,j,o.push x,g,p,q))
def gH2 (a b o:Array Keyed) (i j g p q:Nat):SM (ForInStep HTG):=do
 let y <-elem' b (j - 1)
 if (j - 1==1)=true then pure (.done (some (fsH a b (o.push y) i (j - 1)),i,j - 1,o.push y,g,p,q))
 else do
  let x <-elem' a (i - 1)
  let r <-Db true x b 0 (j - 1) (j - 1 - 1)
  match r with
  | some r=>
   if j - 1 - r > 0 then
    if (r==1)=true then pure (.done (some (fsH a b (o.push y++(b.extract r (j - 1)).reverse) i r),i,r,o.push y++(b.extract r (j - 1)).reverse,g,p,j - 1 - r))
    else if (r==0)=true then pure (.done (some (dnH a b (o.push y++(b.extract r (j - 1)).reverse) i r),i,r,o.push y++(b.extract r (j - 1)).reverse,g,p,j - 1 - r))
    else gH3 a b (o.push y++(b.extract r (j - 1)).reverse) i r g p (j - 1 - r)
   else gH3 a b (o.push y) i (j - 1) g p (j - 1 - r)
  | _=>pure (.done (some (dnH a b (o.push y) i (j - 1)),i,j - 1,o.push y,g,p,q))
def gH1 (a b o:Array Keyed) (i j g p q:Nat):SM (ForInStep HTG):=do
 Dy g
 let y <-elem' b (j - 1)
 let r <-Db false y a 0 i (i - 1)
 match r with
 | some r=>
  if i - r > 0 then
   if (r==0)=true then pure (.done (some (dnH a b (o++(a.extract r i).reverse) r j),r,j,o++(a.extract r i).reverse,g,i - r,q))
   else gH2 a b (o++(a.extract r i).reverse) r j g (i - r) q
  else gH2 a b o i j g (i - r) q
 | _=>pure (.done (some (dnH a b o i j),i,j,o,g,p,q))
def Kj (a b:Array Keyed) (c:HTO):SM (ForInStep HTO):=do
 let d <-forIn [0:a.size+b.size] ((none,c.2.1,c.2.2.1,c.2.2.2.1,0,0):HTI) λ_ d=>Nl a b c.2.2.2.2 d
 match d.1 with
 | some r=>pure (.done (some r,d.2.1,d.2.2.1,d.2.2.2.1,c.2.2.2.2))
 | none=>do
  liftM (rule "list.sort.gallop")
  let e <-forIn [0:a.size+b.size] ((none,d.2.1,d.2.2.1,d.2.2.2.1,c.2.2.2.2+1,d.2.2.2.2.1,d.2.2.2.2.2):HTG) λ_ e=>
   if e.2.2.2.2.1 > 1 then gH1 a b e.2.2.2.1 e.2.1 e.2.2.1 (e.2.2.2.2.1 - 1) e.2.2.2.2.2.1 e.2.2.2.2.2.2 else gH1 a b e.2.2.2.1 e.2.1 e.2.2.1 e.2.2.2.2.1 e.2.2.2.2.2.1 e.2.2.2.2.2.2
  match e.1 with
  | some r=>pure (.done (some r,e.2.1,e.2.2.1,e.2.2.2.1,e.2.2.2.2.1))
  | none=>do
   Dy (e.2.2.2.2.1+1)
   pure (.yield (none,e.2.1,e.2.2.1,e.2.2.2.1,e.2.2.2.2.1+1))
theorem Xl3(a b:Array Keyed):mHi a b=(do
  liftM (rule "list.sort.merge-hi")
  let mut i:=a.size - 1
  let mut j:=b.size
  let x0 <-elem' a i
  let mut o:Array Keyed := #[x0]
  if i==0 then return dnH a b o i j
  if j==1 then return fsH a b o i j
  let mut g:=gallopOf (<-get)
  for _ in [0:a.size+b.size] do
   let mut p:=0
   let mut q:=0
   for _ in [0:a.size+b.size] do
    let some c <-lt' (<-elem' b (j - 1)) (<-elem' a (i - 1)) | return dnH a b o i j
    if c then
     i:=i - 1
     o:=o.push (<-elem' a i)
     p:=p+1
     q:=0
     if i==0 then return dnH a b o i j
     if p ≥ g then break
    else
     j:=j - 1
     o:=o.push (<-elem' b j)
     q:=q+1
     p:=0
     if j==1 then return fsH a b o i j
     if q ≥ g then break
   liftM (rule "list.sort.gallop")
   g:=g+1
   for _ in [0:a.size+b.size] do
    if g > 1 then g:=g - 1
    Dy g
    let some r <-Db false (<-elem' b (j - 1)) a 0 i (i - 1) | return dnH a b o i j
    let k:=i - r
    p:=k
    if k > 0 then
     o:=o++(a.extract r i).reverse
     i:=r
     if i==0 then return dnH a b o i j
    j:=j - 1
    o:=o.push (<-elem' b j)
    if j==1 then return fsH a b o i j
    let some r <-Db true (<-elem' a (i - 1)) b 0 j (j - 1) | return dnH a b o i j
    let k:=j - r
    q:=k
    if k > 0 then
     o:=o++(b.extract r j).reverse
     j:=r
     if j==1 then return fsH a b o i j
     if j==0 then return dnH a b o i j
    i:=i - 1
    o:=o.push (<-elem' a i)
    if i==0 then return dnH a b o i j
    if p<7&&q<7 then break
   g:=g+1
   Dy g
  unsupported "internal:list.sort.merge-bound"):=rfl
theorem Xl4(a b:Array Keyed):mHi a b=(do
  liftM (rule "list.sort.merge-hi")
  let x0 <-elem' a (a.size - 1)
  if (a.size - 1==0)=true then pure (dnH a b #[x0] (a.size - 1) b.size)
  else if (b.size==1)=true then pure (fsH a b #[x0] (a.size - 1) b.size)
  else do
   let st <-get
   let c <-forIn [0:a.size+b.size] ((none,a.size - 1,b.size, #[x0],gallopOf st):HTO) λ_ c=>Kj a b c
   match c.1 with
   | some r=>pure r
   | none=>unsupported "internal:list.sort.merge-bound"):=by
 rw[Xl3];congr 1;funext _u;dsimp only;congr 1;funext x0;congr 1;congr 1;congr 1;funext st;congr 1
 ·congr 1;funext _x c;unfold Kj;congr 1;funext d;obtain⟨r,d⟩:=d;cases r with
  | some r=>rfl
  | none=>
   dsimp only;congr 1;funext _v;congr 1;funext e;obtain⟨r,e⟩:=e;cases r<;>rfl
 ·funext c;obtain⟨r,c⟩:=c;cases r<;>rfl
open PySem.W (kas_item kas_cmp)
section
variable {it:Array Keyed}
theorem Nm(l:List Nat):(Fk it l).reverse=Fk it l.reverse:=by
 unfold Fk;rw[List.reverse_toArray,List.map_reverse]
theorem Kk(l:List Nat)(j:Nat):(Fk it l).extract 0 j=Fk it (l.take j):=by
 rw[Dz,R0,Tb]
theorem Xed(l lo:List Nat)(r i:Nat):Fk it lo.reverse++((Fk it l).extract r i).reverse=Fk it (((l.take i).drop r)++lo).reverse:=by
 rw[Dz,Nm,Dm,List.reverse_append,Si]
theorem Kl(lo:List Nat)(x:Nat):(Fk it lo.reverse).push (kas_item it x)=Fk it (x::lo).reverse:=by
 rw[Hu,Sz]
theorem Hw(la lb lo:List Nat)(i j:Nat):dnH (Fk it la) (Fk it lb) (Fk it lo.reverse) i j=Fk it (la.take i++lb.take j++lo):=by
 unfold dnH;rw[Kk,Kk,Nm,List.reverse_reverse,Dm,Dm]
theorem Km(la lb lo:List Nat)(i j:Nat):fsH (Fk it la) (Fk it lb) (Fk it lo.reverse) i j=Fk it (lb.take j++la.take i++lo):=by
 unfold fsH;rw[Kk,Kk,Nm,List.reverse_reverse,Dm,Dm]
end
structure MJ (lt:Nat->Nat->Bool) (la lb lo:List Nat) (i j:Nat):Prop where
 so:lo.Pairwise λx y=>lt x y=true
 pm:lo.Perm (la.drop i++lb.drop j)
 ba:∀x∈la.take i,∀y∈lo,lt x y=true
 bb:∀x∈lb.take j,∀y∈lo,lt x y=true
section
variable {lt:Nat->Nat->Bool}{n:Nat}{la lb lo:List Nat}{i j k r:Nat}
theorem Kn{l:List Nat}(h:r<=i):l.take i=l.take r++(l.take i).drop r:=by
 have:=Pi r (l.take i);rw[List.take_take,Q8 h] at this;exact this.symm
theorem Xee{l:List Nat}(h:r<=i)(hi:i<=l.length):l.drop r=(l.take i).drop r++l.drop i:=by
 have e:=Pi i l;have:=congrArg (List.drop r) e;rw[List.drop_append_of_le_length (by rw[O3];omega)] at this;exact this.symm
theorem MJ.chA(T:Two lt n la lb)(m:MJ lt la lb lo i j)(hr:r<=i)(hi:i<=la.length)(h:∀x∈lb.take j,∀y∈(la.take i).drop r,lt x y=true):MJ lt la lb ((la.take i).drop r++lo) r j:=by
 have sd:=T.sa.sublist (P1 i la);rw[Kn hr] at sd;obtain⟨s1,s2,s3⟩:=Ph.mp sd;refine⟨Ph.mpr ⟨s2,m.so,λx hx y hy=>m.ba x (P7 hx) y hy⟩,?_,λx hx y hy=>?_,λx hx y hy=>?_⟩
 ·rw[Xee hr hi,Pj];exact Qe _ m.pm
 ·rcases Oz.mp hy with z | z
  ·exact s3 x hx y z
  ·exact m.ba x (by rw[Kn hr];exact P4 _ hx) y z
 ·rcases Oz.mp hy with z | z
  ·exact h x hx y z
  ·exact m.bb x hx y z
theorem MJ.chB(T:Two lt n la lb)(m:MJ lt la lb lo i j)(hr:r<=j)(hj:j<=lb.length)(h:∀x∈la.take i,∀y∈(lb.take j).drop r,lt x y=true):MJ lt la lb ((lb.take j).drop r++lo) i r:=by
 have sd:=T.sb.sublist (P1 j lb);rw[Kn hr] at sd;obtain⟨s1,s2,s3⟩:=Ph.mp sd;refine⟨Ph.mpr ⟨s2,m.so,λx hx y hy=>m.bb x (P7 hx) y hy⟩,?_,λx hx y hy=>?_,λx hx y hy=>?_⟩
 ·rw[Xee hr hj];refine(Qe _ m.pm).trans ?_;rw[<-Pj,<-Pj];exact Qy.append_right _
 ·rcases Oz.mp hy with z | z
  ·exact h x hx y z
  ·exact m.ba x hx y z
 ·rcases Oz.mp hy with z | z
  ·exact s3 x hx y z
  ·exact m.bb x (by rw[Kn hr];exact P4 _ hx) y z
theorem Xef(h:lo.Perm (la.drop i++lb.drop j)):(la.take i++lb.take j++lo).Perm (la++lb):=by
 refine(Qe _ h).trans ?_;have e:la++lb=la.take i++(la.drop i++(lb.take j++lb.drop j)):=by rw[Pi,<-Pj,Pi]
 rw[e,Pj];refine Qe _ ?_;rw[<-Pj,<-Pj];exact Qy.append_right _
theorem MJ.endD(T:Two lt n la lb)(m:MJ lt la lb lo i j)(h:∀x∈la.take i,∀y∈lb.take j,lt x y=true):Mrg lt la lb (la.take i++lb.take j++lo):=by
 refine⟨Xef m.pm,Ph.mpr ⟨Ph.mpr ⟨T.sa.sublist (P1 ..),T.sb.sublist (P1 ..),h⟩,m.so,λx hx y hy=>?_⟩⟩;rcases Oz.mp hx with z | z
 ·exact m.ba x z y hy
 ·exact m.bb x z y hy
theorem MJ.endF(T:Two lt n la lb)(m:MJ lt la lb lo i j)(h:∀x∈lb.take j,∀y∈la.take i,lt x y=true):Mrg lt la lb (lb.take j++la.take i++lo):=by
 refine⟨?_,Ph.mpr ⟨Ph.mpr ⟨T.sb.sublist (P1 ..),T.sa.sublist (P1 ..),h⟩,m.so,λx hx y hy=>?_⟩⟩
 ·refine List.Perm.trans ?_ (Xef m.pm);exact Qy.append_right _
 ·rcases Oz.mp hx with z | z
  ·exact m.bb x z y hy
  ·exact m.ba x z y hy
theorem Hx{l:List Nat}(L:Lin n lt)(so:l.Pairwise λx y=>lt x y=true)(hi:1<=i)(hl:i<=l.length){x:Nat}(h:lt (l.getD (i - 1) 0) x=true):∀y∈l.take i,lt y x=true:=by
 intro y hy;obtain⟨t,ht,e⟩:=Po.mp hy;rw[O3] at ht;rw[Sh] at e;have htl:t<l.length:=by omega
 have ey:y=l.getD t 0:=by rw[<-e,O7,Op htl];rfl
 by_cases z:t=i - 1
 ·rw[ey,z];exact h
 ·rw[ey];exact L.tr _ _ _ (Gi so (by omega) (by omega)) h
theorem D0{l:List Nat}(h1:1<=i)(h:i<=l.length):(l.take i).drop (i - 1)=[l.getD (i - 1) 0]:=by
 rw[Si,show i - (i - 1)=1 by omega];exact Dn (by omega)
theorem Nn{l:List Nat}{x:Nat}(h:x∈(l.take i).drop r)(hi:i<=l.length):∃t,r<=t/\t<i/\x=l.getD t 0:=by
 rw[Si] at h;obtain⟨t,h1,h2,e⟩:=Dc h;exact⟨r+t,by omega,by omega,e⟩
theorem Fj{l:List Nat}{x:Nat}(h:x∈l.take i)(hi:i<=l.length):∃t,t<i/\x=l.getD t 0:=by
 obtain⟨t,_,h2,e⟩:=Nn (r:=0) (by rw[R0];exact h) hi;exact⟨t,h2,e⟩
end
def RsH {τ : Type} (it:Array Keyed) (lt:Nat->Nat->Bool) (la lb:List Nat) (c:Option (Array Keyed) × τ):Prop:=∃res,c.1=some (Fk it res)/\Mrg lt la lb res
def NxH {τ : Type} (it:Array Keyed) (lt:Nat->Nat->Bool) (la lb:List Nat) (m:Nat) (c:Option (Array Keyed)×Nat×Nat×Array Keyed × τ):Prop:=∃lo i j t,c=(none,i,j,Fk it lo.reverse,t)/\MJ lt la lb lo i j/\1<=i/\2<=j/\i<=la.length/\j<=lb.length/\i+j<m
def StH {τ : Type} (it:Array Keyed) (lt:Nat->Nat->Bool) (la lb:List Nat) (m:Nat) (r:ForInStep (Option (Array Keyed)×Nat×Nat×Array Keyed × τ)):Prop:=match r with
 | .done c=>RsH it lt la lb c\/NxH it lt la lb m c
 | .yield c=>NxH it lt la lb m c
def SuH {τ : Type} (it:Array Keyed) (lt:Nat->Nat->Bool) (la lb:List Nat) (m:Nat) (r:ForInStep (Option (Array Keyed)×Nat×Nat×Array Keyed × τ)):Prop:=match r with
 | .done c=>RsH it lt la lb c
 | .yield c=>NxH it lt la lb m c
theorem NxH.mono{τ : Type}{it:Array Keyed}{lt:Nat->Nat->Bool}{la lb:List Nat}{m m':Nat}{c:Option (Array Keyed)×Nat×Nat×Array Keyed × τ}(h:NxH it lt la lb m c)(hm:m<=m'):NxH it lt la lb m' c:=by
 obtain⟨lo,i,j,t,e,a1,a2,a3,a4,a5,a6⟩:=h;exact⟨lo,i,j,t,e,a1,a2,a3,a4,a5,by omega⟩
section
variable {prog:Program}{w:World}{A:Around}{E:Value->Shared->Prop}{s:Shared}{κ : SortKind}{it:Array Keyed}{n:Nat}{lt:Nat->Nat->Bool}{la lb lo:List Nat}{i j k g p q:Nat}{st0 st:SortSt}
theorem Xl5(hc:CmS prog w A s κ it n lt)(T:Two lt n la lb)(bot:∀y∈la,lt (lb.getD 0 0) y=true)(hk:kindOf st0 = κ)(sg:SG st0 st)(m:MJ lt la lb lo i j)(hi:1<=i)(hj:2<=j)(ha:i<=la.length)(hb:j<=lb.length)
  {Q:ForInStep HTI->SortSt->Prop} (h:∀r,StH it lt la lb (i+j) r->Q r st):wpS (model prog w) A E s (Nl (Fk it la) (Fk it lb) g (none,i,j,Fk it lo.reverse,p,q)) Q st:=by
 unfold Nl;dsimp only;have ea:=Bm (show i - 1<la.length by omega);have eb:=Bm (show j - 1<lb.length by omega);have ma:=Bw (show i - 1<la.length by omega);have mb:=Bw (show j - 1<lb.length by omega);refine Tg (Bo eb (Tg (Bo ea (Tg (Ht hc (T.bn _ mb) (T.an _ ma) (sg.k.trans hk) ?_)))));dsimp only;cases c:lt (lb.getD (j - 1) 0) (la.getD (i - 1) 0) with
 | true=>
  rw[Tk rfl];refine Tg (Bo ea ?_);rw[Kl,Hw];have m':=MJ.chA (r:=i - 1) T m (by omega) ha (by rw[D0 hi ha];intro x hx y hy;rw[Ot.mp hy];exact Hx T.L T.sb (by omega) hb c x hx);rw[D0 hi ha] at m';by_cases e:(i - 1==0)=true
  ·rw[Tk e];have e':i - 1=0:=by simpa using e
   exact Th (h _ (.inl ⟨_,rfl,m'.endD T (by rw[e'];intro _ hx;simp at hx)⟩))
  ·rw[Tj e];have e':i - 1≠0:=by simpa using e
   by_cases e2:p+1 ≥ g
   ·rw[Tk e2];exact Th (h _ (.inr ⟨_,_,_,_,rfl,m',by omega,hj,by omega,hb,by omega⟩))
   ·rw[Tj e2];exact Th (h _ ⟨_,_,_,_,rfl,m',by omega,hj,by omega,hb,by omega⟩)
 | false=>
  rw[Tj (by decide)];have c':=T.flip ma mb c;refine Tg (Bo eb ?_);rw[Kl,Km];have m':=MJ.chB (r:=j - 1) T m (by omega) hb (by rw[D0 (by omega) hb];intro x hx y hy;rw[Ot.mp hy];exact Hx T.L T.sa hi ha c' x hx);rw[D0 (by omega) hb] at m';by_cases e:(j - 1==1)=true
  ·rw[Tk e];have e':j - 1=1:=by simpa using e
   refine Th (h _ (.inl ⟨_,rfl,m'.endF T λx hx y hy=>?_⟩));obtain⟨t,ht,rfl⟩:=Fj hx (by omega);rw[show t=0 by omega];exact bot y (Px hy)
  ·rw[Tj e];have e':j - 1≠1:=by simpa using e
   by_cases e2:q+1 ≥ g
   ·rw[Tk e2];exact Th (h _ (.inr ⟨_,_,_,_,rfl,m',hi,by omega,ha,by omega,by omega⟩))
   ·rw[Tj e2];exact Th (h _ ⟨_,_,_,_,rfl,m',hi,by omega,ha,by omega,by omega⟩)
theorem Xeg(T:Two lt n la lb)(m:MJ lt la lb lo i j)(hi:1<=i)(hj:2<=j)(ha:i<=la.length)(hb:j<=lb.length)(c:∀x∈lb.take j,lt x (la.getD (i - 1) 0)=true){m0:Nat}(hm:i+j<=m0)
  {Q:ForInStep HTG->SortSt->Prop} (h:∀r,StH it lt la lb m0 r->Q r st):wpS (model prog w) A E s (gH3 (Fk it la) (Fk it lb) (Fk it lo.reverse) i j g p q) Q st:=by
 unfold gH3;refine Tg (Bo (Bm (show i - 1<la.length by omega)) ?_);rw[Kl,Hw];have m':=MJ.chA (r:=i - 1) T m (by omega) ha (by rw[D0 hi ha];intro x hx y hy;rw[Ot.mp hy];exact c x hx);rw[D0 hi ha] at m';by_cases e:(i - 1==0)=true
 ·rw[Tk e];have e':i - 1=0:=by simpa using e
  exact Th (h _ (.inl ⟨_,rfl,m'.endD T (by rw[e'];intro _ hx;simp at hx)⟩))
 ·rw[Tj e];have e':i - 1≠0:=by simpa using e
  by_cases e2:(decide (p<7)&&decide (q<7))=true
  ·rw[Tk e2];exact Th (h _ (.inr ⟨_,_,_,_,rfl,m',by omega,hj,by omega,hb,by omega⟩))
  ·rw[Tj e2];exact Th (h _ ⟨_,_,_,_,rfl,m',by omega,hj,by omega,hb,by omega⟩)
theorem Xeh(hc:CmS prog w A s κ it n lt)(T:Two lt n la lb)(bot:∀y∈la,lt (lb.getD 0 0) y=true)(hk:kindOf st0 = κ)(sg:SG st0 st)(m:MJ lt la lb lo i j)(hi:1<=i)(hj:2<=j)(ha:i<=la.length)(hb:j<=lb.length)(c:lt (la.getD (i - 1) 0) (lb.getD (j - 1) 0)=true){m0:Nat}(hm:i+j<=m0)
  {Q:ForInStep HTG->SortSt->Prop} (h:∀r,StH it lt la lb m0 r->Q r st):wpS (model prog w) A E s (gH2 (Fk it la) (Fk it lb) (Fk it lo.reverse) i j g p q) Q st:=by
 unfold gH2;have ea:=Bm (show i - 1<la.length by omega);have ma:=Bw (show i - 1<la.length by omega);refine Tg (Bo (Bm (show j - 1<lb.length by omega)) ?_);rw[Kl,Km];have m':=MJ.chB (r:=j - 1) T m (by omega) hb (by rw[D0 (by omega) hb];intro x hx y hy;rw[Ot.mp hy];exact Hx T.L T.sa hi ha c x hx);rw[D0 (by omega) hb] at m';by_cases e:(j - 1==1)=true
 ·rw[Tk e];have e':j - 1=1:=by simpa using e
  refine Th (h _ (.inl ⟨_,rfl,m'.endF T λx hx y hy=>?_⟩));obtain⟨t,ht,rfl⟩:=Fj hx (by omega);rw[show t=0 by omega];exact bot y (Px hy)
 rw[Tj e];have e':j - 1≠1:=by simpa using e
 refine Tg (Bo ea ?_);refine Tg (Gg (P:=λt=>lt (lb.getD t 0) (la.getD (i - 1) 0)) ⟨λa b hab hb' e=>?_⟩ (by omega) (λt ht Q' hq=>?_) λr hr hlo hhi=>?_)
 ·exact T.L.tr _ _ _ (Gi T.sb hab (by omega)) e
 ·rw[Ql];exact Gf hc (Bm (by omega)) (T.bn _ (Bw (by omega))) (T.an _ ma) (sg.k.trans hk) (left:=true) hq
 dsimp only;have below:∀z≤r,∀x∈lb.take z,lt x (la.getD (i - 1) 0)=true:=λz hz x hx=>by
  obtain⟨t,ht,rfl⟩:=Fj hx (by omega);exact hlo t (by omega)
 by_cases hr0:j - 1 - r > 0
 ·rw[Tk hr0,Xed,Hw,Km];have m2:=MJ.chB (r:=r) T m' hr (by omega) (λx hx y hy=>by
   obtain⟨t,h1,h2,rfl⟩:=Nn hy (by omega);exact Hx T.L T.sa hi ha (T.flip ma (Bw (by omega)) (hhi t h1 h2)) x hx)
  by_cases e3:(r==1)=true
  ·rw[Tk e3];have e3':r=1:=by simpa using e3
   refine Th (h _ (.inl ⟨_,rfl,m2.endF T λx hx y hy=>?_⟩));obtain⟨t,ht,rfl⟩:=Fj hx (by omega);rw[show t=0 by omega];exact bot y (Px hy)
  ·rw[Tj e3];have e3':r≠1:=by simpa using e3
   by_cases e4:(r==0)=true
   ·rw[Tk e4];have e4':r=0:=by simpa using e4
    exact Th (h _ (.inl ⟨_,rfl,m2.endD T (by rw[e4'];intro _ _ y hy;simp at hy)⟩))
   ·rw[Tj e4];have e4':r≠0:=by simpa using e4
    exact Xeg T m2 hi (by omega) ha (by omega) (below r (Oq _)) (by omega) h
 ·rw[Tj hr0];exact Xeg T m' hi (by omega) ha (by omega) (below (j - 1) (by omega)) (by omega) h
theorem Xei(hc:CmS prog w A s κ it n lt)(T:Two lt n la lb)(bot:∀y∈la,lt (lb.getD 0 0) y=true)(hk:kindOf st0 = κ)(sg:SG st0 st)(m:MJ lt la lb lo i j)(hi:1<=i)(hj:2<=j)(ha:i<=la.length)(hb:j<=lb.length)
  {Q:ForInStep HTG->SortSt->Prop} (h:∀r st',SG st0 st'->StH it lt la lb (i+j) r->Q r st'):wpS (model prog w) A E s (gH1 (Fk it la) (Fk it lb) (Fk it lo.reverse) i j g p q) Q st:=by
 unfold gH1;refine Tg (wS_setG sg λst' sg'=>?_);have eb:=Bm (show j - 1<lb.length by omega);have mb:=Bw (show j - 1<lb.length by omega);refine Tg (Bo eb ?_);refine Tg (Gg (P:=λt => !lt (lb.getD (j - 1) 0) (la.getD t 0)) ⟨λa b hab hb' e=>?_⟩ (by omega) (λt ht Q' hq=>?_) λr hr hlo hhi=>?_)
 ·have e:lt (lb.getD (j - 1) 0) (la.getD b 0)=false:=by simpa using e
  cases q:lt (lb.getD (j - 1) 0) (la.getD a 0) with
  | false=>rfl
  | true=>
   have:=T.L.tr _ _ _ q (Gi T.sa hab (by omega));rw[this] at e;cases e
 ·rw[Ql];exact Gf hc (Bm (by omega)) (T.an _ (Bw (by omega))) (T.bn _ mb) (sg'.k.trans hk) (left:=false) hq
 dsimp only;have last:1<=r->lt (la.getD (r - 1) 0) (lb.getD (j - 1) 0)=true:=λh1=>by
  have:=hlo (r - 1) (by omega);exact T.flip (Bw (by omega)) mb (by simpa using this)
 by_cases hr0:i - r > 0
 ·rw[Tk hr0,Xed,Hw];have m2:=MJ.chA (r:=r) T m hr ha (λx hx y hy=>by
   obtain⟨t,h1,h2,rfl⟩:=Nn hy (by omega);have:=hhi t h1 h2;exact Hx T.L T.sb (by omega) hb (by simpa using this) x hx)
  by_cases e3:(r==0)=true
  ·rw[Tk e3];have e3':r=0:=by simpa using e3
   exact Th (h _ _ sg' (.inl ⟨_,rfl,m2.endD T (by rw[e3'];intro _ hx;simp at hx)⟩))
  ·rw[Tj e3];have e3':r≠0:=by simpa using e3
   exact Xeh hc T bot hk sg' m2 (by omega) hj (by omega) hb (last (by omega)) (by omega) λr' hr'=>h r' _ sg' hr'
 ·rw[Tj hr0];have:r=i:=by omega
  subst this;exact Xeh hc T bot hk sg' m hi hj ha hb (last hi) (Oq _) λr' hr'=>h r' _ sg' hr'
theorem Xl6(hc:CmS prog w A s κ it n lt)(T:Two lt n la lb)(bot:∀y∈la,lt (lb.getD 0 0) y=true)(hk:kindOf st0 = κ)(sg:SG st0 st)(m:MJ lt la lb lo i j)(hi:1<=i)(hj:2<=j)(ha:i<=la.length)(hb:j<=lb.length)
  {Q:ForInStep HTO->SortSt->Prop} (h:∀r st',SG st0 st'->SuH it lt la lb (i+j) r->Q r st'):wpS (model prog w) A E s (Kj (Fk it la) (Fk it lb) (none,i,j,Fk it lo.reverse,g)) Q st:=by
 unfold Kj;dsimp only;rw[Bv,Bv];refine Tg (wpS_mono (wpS_forRange (I:=λx c st'=>SG st0 st'/\NxH it lt la lb (i+j+1 - x) c) (Q:=λc st'=>SG st0 st'/\(RsH it lt la lb c\/NxH it lt la lb (i+j) c)) ?step ?fin ⟨sg,lo,i,j,_,rfl,m,hi,hj,ha,hb,by omega⟩) ?post)
 case fin=>
  rintro c st' ⟨sg',z⟩;exact⟨sg',.inr (z.mono (by omega))⟩
 case step=>
  rintro x c st' _ hx ⟨sg',lo',i',j',t,rfl,m',h1,h2,h3,h4,h5⟩;refine Xl5 hc T bot hk sg' m' h1 h2 h3 h4 λr hr=>?_;cases r with
  | done c=>
   rcases hr with z | z
   ·exact⟨sg',.inl z⟩
   ·exact⟨sg',.inr (z.mono (by omega))⟩
  | yield c=>exact⟨sg',NxH.mono hr (by omega)⟩
 case post=>
  rintro ⟨r,i1,j1,o1,p1,q1⟩ st1 ⟨sg1,z⟩;rcases z with ⟨res,e,mr⟩ | ⟨lo1,i2,j2,t,e,m1,a1,a2,a3,a4,a5⟩
  ·obtain rfl:r=some (Fk it res):=e;exact Th (h _ _ sg1 ⟨res,rfl,mr⟩)
  ·cases e;dsimp only;refine Tg (wpS_lift (wpAny_rule ⟨rfl,?_⟩));refine Tg (wpS_mono (wpS_forRange (I:=λx c st'=>SG st0 st'/\NxH it lt la lb (i+j) c) (Q:=λc st'=>SG st0 st'/\(RsH it lt la lb c\/NxH it lt la lb (i+j) c)) ?step ?fin ⟨sg1,lo1,i1,j1,_,rfl,m1,a1,a2,a3,a4,a5⟩) ?post)
   case fin=>exact λc st' z=>⟨z.1,.inr z.2⟩
   case step=>
    rintro x c st' _ hx ⟨sg',lo',i',j',⟨g',p',q'⟩,rfl,m',h1,h2,h3,h4,h5⟩;dsimp only;have go:∀(r:ForInStep HTG) st'',SG st0 st''->StH it lt la lb (i'+j') r->(match r with
     | .done c'=>SG st0 st''/\(RsH it lt la lb c'\/NxH it lt la lb (i+j) c')
     | .yield c'=>SG st0 st''/\NxH it lt la lb (i+j) c'):=λr st'' sg'' hr=>by
     cases r with
     | done c=>
      rcases hr with z | z
      ·exact⟨sg'',.inl z⟩
      ·exact⟨sg'',.inr (z.mono (by omega))⟩
     | yield c=>exact⟨sg'',NxH.mono hr (by omega)⟩
    by_cases e:g' > 1
    ·rw[Tk e];exact Xei hc T bot hk sg' m' h1 h2 h3 h4 λr st'' s1 s2=>by have:=go r st'' s1 s2;cases r<;>exact this
    ·rw[Tj e];exact Xei hc T bot hk sg' m' h1 h2 h3 h4 λr st'' s1 s2=>by have:=go r st'' s1 s2;cases r<;>exact this
   case post=>
    rintro ⟨r,i2,j2,o2,g2,p2,q2⟩ st2 ⟨sg2,z⟩;rcases z with ⟨res,e,mr⟩ | ⟨lo2,i3,j3,t,e,m2,b1,b2,b3,b4,b5⟩
    ·obtain rfl:r=some (Fk it res):=e;exact Th (h _ _ sg2 ⟨res,rfl,mr⟩)
    ·cases e;dsimp only;exact Tg (wS_setG sg2 λst3 sg3=>Th (h _ _ sg3 ⟨lo2,i2,j2,_,rfl,m2,b1,b2,b3,b4,b5⟩))
theorem Xl7(hc:CmS prog w A s κ it n lt)(T:Two lt n la lb)(ha:1<=la.length)(hb:1<=lb.length)(bot:∀y∈la,lt (lb.getD 0 0) y=true)(top:∀x∈lb,lt x (la.getD (la.length - 1) 0)=true)
  (hk:kindOf st = κ) {Q:Array Keyed->SortSt->Prop} (h:∀res st',Mrg lt la lb res->SG st st'->Q (Fk it res) st'):wpS (model prog w) A E s (mHi (Fk it la) (Fk it lb)) Q st:=by
 rw[Xl4];have sg0:SG st st:=⟨rfl,rfl,rfl,rfl⟩;refine Tg (wpS_lift (wpAny_rule ⟨rfl,?_⟩));rw[Bv,Bv];refine Tg (Bo (Bm (show la.length - 1<la.length by omega)) ?_);have e0:(#[kas_item it (la.getD (la.length - 1) 0)]:Array Keyed)=Fk it [la.getD (la.length - 1) 0].reverse:=rfl;rw[e0,Hw,Km];have mn:MJ lt la lb [] la.length lb.length:=⟨.nil,by rw[Qm (Oq _),Qm (Oq _)];exact .nil,λ_ _ _ h=>(nomatch h),λ_ _ _ h=>(nomatch h)⟩;have m1:=MJ.chA (r:=la.length - 1) T mn (by omega) (Oq _) (by rw[D0 ha (Oq _)];intro x hx y hy;rw[Ot.mp hy];exact top x (Px hx));rw[D0 ha (Oq _),Qa] at m1;by_cases e1:(la.length - 1==0)=true
 ·rw[Tk e1];have e1':la.length - 1=0:=by simpa using e1
  exact Th (h _ _ (m1.endD T (by rw[e1'];intro _ hx;simp at hx)) sg0)
 rw[Tj e1];have e1':la.length - 1≠0:=by simpa using e1
 by_cases e2:(lb.length==1)=true
 ·rw[Tk e2];have e2':lb.length=1:=by simpa using e2
  refine Th (h _ _ (m1.endF T λx hx y hy=>?_) sg0);obtain⟨t,ht,rfl⟩:=Fj hx (Oq _);rw[show t=0 by omega];exact bot y (Px hy)
 rw[Tj e2];have e2':lb.length≠1:=by simpa using e2
 refine Tg (wpS_get ?_);refine Tg (wpS_mono (wpS_forRange (I:=λx c st'=>SG st st'/\NxH it lt la lb (la.length+lb.length - x) c) (Q:=λc st'=>SG st st'/\RsH it lt la lb c) ?step ?fin ⟨sg0,_,_,_,_,rfl,m1,by omega,by omega,by omega,by omega,by omega⟩) ?post)
 case fin=>
  rintro c st' ⟨sg',lo',i',j',t,rfl,m',h1,h2,h3,h4,h5⟩;omega
 case step=>
  rintro x c st' _ hx ⟨sg',lo',i',j',t,rfl,m',h1,h2,h3,h4,h5⟩;refine Xl6 hc T bot hk sg' m' h1 h2 h3 h4 λr st'' sg'' hr=>?_;cases r with
  | done c=>exact⟨sg'',hr⟩
  | yield c=>exact⟨sg'',NxH.mono hr (by omega)⟩
 case post=>
  rintro ⟨r,o2,i2,j2,g2⟩ st2 ⟨sg2,res,e,mr⟩;obtain rfl:r=some (Fk it res):=e;exact Th (h res _ mr sg2)
end
open PySem.W (kas_item kas_cmp kas_swaps_map)
def SoL (lt:Nat->Nat->Bool) (l:List Nat) (u v:Nat):Prop:=∀i j,u<=i->i<j->j<v->lt (l.getD i 0) (l.getD j 0)=true
def DeL (lt:Nat->Nat->Bool) (l:List Nat) (u v:Nat):Prop:=∀i j,u<=i->i<j->j<v->lt (l.getD j 0) (l.getD i 0)=true
structure SA (κ : SortKind) (it:Array Keyed) (pd:Array (Nat×Nat×Nat)) (l:List Nat) (st:SortSt):Prop where
 k:kindOf st = κ
 a:arrOf st=Fk it l
 f:failedOf st=none
 p:pendingOf st=pd
section
variable {κ : SortKind}{it:Array Keyed}{pd:Array (Nat×Nat×Nat)}{l:List Nat}{st:SortSt}
theorem Gj:Fk it l=l.toArray.map (kas_item it):=by
 unfold Fk;rw[List.map_toArray]
theorem Hy(l:List Nat)(k:Nat):l.getD k 0=(l.toArray[k]?).getD 0:=by
 rw[Rj,O7]
theorem Xej(p:Array Nat)(k:Nat):p.toList.getD k 0=(p[k]?).getD 0:=by
 rw[O7,Rh]
theorem Xl8(hst:SA κ it pd l st){i j:Nat}(hj:j<=l.length):∃l',SA κ it pd l' (setArr st (mirror (arrOf st) i j ((j - i) / 2)))/\l'.Perm l/\∀k,l'.getD k 0=if i<=k/\k<j then l.getD (i+j - 1 - k) 0 else l.getD k 0:=by
 refine⟨(mirror l.toArray i j ((j - i) / 2)).toList,⟨hst.k,?_,hst.f,hst.p⟩,?_,λk=>?_⟩
 ·show mirror (arrOf st) i j ((j - i) / 2)=_;rw[hst.a,Gj,Gj];exact kas_swaps_map (kas_item it) (λk=>i+k) (λk=>j - 1 - k) _ l.toArray
 ·have:=(mirror_perm l.toArray i j ((j - i) / 2)).toList;simpa using this
 ·rw[Xej,getElem?_mirror_all (by simpa using hj)];split<;>rw[Hy]
theorem Xl9(hst:SA κ it pd l st){k d:Nat}(hk:k<l.length)(hd:d<=k):∃l',SA κ it pd l' (setArr st (bubble (arrOf st) k (k - d)))/\l'.Perm l/\∀i,l'.getD i 0=if i=d then l.getD k 0 else if d<i/\i<=k then l.getD (i - 1) 0 else l.getD i 0:=by
 refine⟨(bubble l.toArray k (k - d)).toList,⟨hst.k,?_,hst.f,hst.p⟩,?_,λi=>?_⟩
 ·show bubble (arrOf st) k (k - d)=_;rw[hst.a,Gj,Gj];exact kas_swaps_map (kas_item it) (λi=>k - i) (λi=>k - i - 1) _ l.toArray
 ·have:=(bubble_perm l.toArray k (k - d)).toList;simpa using this
 ·rw[Xej,getElem?_bubble (by simpa using hk) _ (by omega),show k - (k - d)=d by omega];split
  ·rw[Hy]
  ·split<;>rw[Hy]
end
section
variable {prog:Program}{w:World}{A:Around}{E:Value->Shared->Prop}{s:Shared}{κ : SortKind}{it:Array Keyed}{n:Nat}{lt:Nat->Nat->Bool}{pd:Array (Nat×Nat×Nat)}{l:List Nat}{st:SortSt}
structure Al (n:Nat) (l:List Nat):Prop where
 pm:l.Perm (List.range n)
theorem Al.len(h:Al n l):l.length=n:=by rw[h.pm.length_eq,P2]
theorem Al.ltn(h:Al n l){i:Nat}(hi:i<n):l.getD i 0<n:=P6.mp (h.pm.mem_iff.mp (Bw (by rw[h.len];exact hi)))
theorem Al.nd(h:Al n l):l.Nodup:=h.pm.nodup_iff.mpr List.nodup_range
theorem Al.ne(h:Al n l){i j:Nat}(hi:i<n)(hj:j<n)(ne:i≠j):l.getD i 0≠l.getD j 0:=λe=>by
 have hl:=h.len;have e1:l.getD i 0=l[i]'(by omega):=by rw[O7,Op (by omega)];rfl
 have e2:l.getD j 0=l[j]'(by omega):=by rw[O7,Op (by omega)];rfl
 rw[e1,e2] at e;exact ne ((R4 h.nd).mp e)
theorem Al.flip(L:Lin n lt)(h:Al n l){i j:Nat}(hi:i<n)(hj:j<n)(ne:i≠j)(e:lt (l.getD i 0) (l.getD j 0)=false):lt (l.getD j 0) (l.getD i 0)=true:=by
 rcases L.tot _ _ (h.ltn hi) (h.ltn hj) (h.ne hi hj ne) with z | z
 ·rw[z] at e;cases e
 ·exact z
theorem Gk(hc:CmS prog w A s κ it n lt)(hst:SA κ it pd l st)(al:Al n l){i j:Nat}(hi:i<n)(hj:j<n){Q:Option Bool->SortSt->Prop}(h:Q (some (lt (l.getD i 0) (l.getD j 0))) st):wpS (model prog w) A E s (ltAt' i j) Q st:=by
 rw[ltAt'_eq];refine Tg (wpS_get ?_)
 show wpS _ _ _ _ (do let x <-elem' (arrOf st) i;let y <-elem' (arrOf st) j;lt' x y) Q st;rw[hst.a];have hl:=al.len;exact Tg (Bo (Bm (by omega)) (Tg (Bo (Bm (by omega)) (Ht hc (al.ltn hi) (al.ltn hj) hst.k h))))
theorem Xek(L:Lin n lt){u v:Nat}(so:SoL lt l u v)(huv:u<v)(h:lt (l.getD (v - 1) 0) (l.getD v 0)=true):SoL lt l u (v+1):=λi j h1 h2 h3=>by
 by_cases e:j<v
 ·exact so i j h1 h2 e
 ·have:j=v:=by omega
  subst this;by_cases z:i=j - 1
  ·rw[z];exact h
  ·exact L.tr _ _ _ (so i (j - 1) h1 (by omega) (by omega)) h
theorem Xel(L:Lin n lt){u v:Nat}(so:DeL lt l u v)(huv:u<v)(h:lt (l.getD v 0) (l.getD (v - 1) 0)=true):DeL lt l u (v+1):=λi j h1 h2 h3=>by
 by_cases e:j<v
 ·exact so i j h1 h2 e
 ·have:j=v:=by omega
  subst this;by_cases z:i=j - 1
  ·rw[z];exact h
  ·exact L.tr _ _ _ h (so i (j - 1) h1 (by omega) (by omega))
theorem Xem(hc:CmS prog w A s κ it n lt)(hst:SA κ it pd l st)(al:Al n l){lo r:Nat}(hr:1<=r)(hn:lo+r=n)
  {Q:Option Nat->SortSt->Prop} (h:∀m l' st',SA κ it pd l' st'->l'.Perm l->1<=m->m<=r->SoL lt l' lo (lo+m)->(∀i,i<lo->l'.getD i 0=l.getD i 0)->Q (some m) st'):wpS (model prog w) A E s (countRun' lo r) Q st:=by
 have L:=hc.L;have hl:=al.len;rw[countRun'_eq];refine Tg (wpS_mono (wpS_forRange (I:=λx c st'=>st=st'/\c=(none,x)/\SoL lt l lo (lo+x)) (Q:=λc st'=>st=st'/\∃m,c=(none,m)/\1<=m/\m<=r/\SoL lt l lo (lo+m)/\(m<r->lt (l.getD (lo+m) 0) (l.getD (lo+m - 1) 0)=true)) ?step ?fin ⟨rfl,rfl,λi j h1 h2 h3=>by omega⟩) ?post)
 case fin=>
  rintro c st' ⟨rfl,rfl,so⟩;exact⟨rfl,_,rfl,by omega,by omega,so,λz=>by omega⟩
 case step=>
  rintro x c st' hx1 hx ⟨rfl,rfl,so⟩;dsimp only;refine Tg (Gk hc hst al (by omega) (by omega) ?_);dsimp only;cases e:lt (l.getD (lo+x) 0) (l.getD (lo+x - 1) 0) with
  | true=>
   rw[Tk rfl];exact Th ⟨rfl,x,rfl,hx1,by omega,so,λ_=>e⟩
  | false=>
   rw[Tj (by decide)];exact Th ⟨rfl,rfl,Xek (v:=lo+x) L so (by omega) (al.flip L (by omega) (by omega) (by omega) e)⟩
 case post=>
  rintro c st' ⟨rfl,m,rfl,m1,m2,so,nx⟩;dsimp only;by_cases e1:(m==r)=true
  ·rw[Tk e1];exact Th (h m l _ hst (.refl _) m1 m2 so λ_ _=>rfl)
  rw[Tj e1];have e1':m≠r:=by simpa using e1
  by_cases e2:m > 1
  ·rw[Tk e2];refine Tg (Gk hc hst al (by omega) (by omega) ?_);dsimp only;rw[so lo (lo+m - 1) (Oq _) (by omega) (by omega),Tk rfl];exact Th (h m l _ hst (.refl _) m1 m2 so λ_ _=>rfl)
  rw[Tj e2];obtain rfl:m=1:=by omega
  have nx:=nx (by omega);refine Tg (wpS_lift (wpAny_rule ⟨rfl,?_⟩));refine Tg (wpS_mono (wpS_forRange (I:=λx c st'=>st=st'/\c=(none,x,0)/\DeL lt l lo (lo+x)) (Q:=λc st'=>st=st'/\∃m,c=(none,m,0)/\2<=m/\m<=r/\DeL lt l lo (lo+m)) ?step ?fin ⟨rfl,rfl,Xel (v:=lo+1) L (λi j h1 h2 h3=>by omega) (by omega) nx⟩) ?post)
  case fin=>
   rintro c st' ⟨rfl,rfl,so⟩;exact⟨rfl,_,rfl,by omega,by omega,so⟩
  case step=>
   rintro x c st' hx1 hx ⟨rfl,rfl,so⟩;dsimp only;refine Tg (Gk hc hst al (by omega) (by omega) ?_);dsimp only;cases e:lt (l.getD (lo+x) 0) (l.getD (lo+x - 1) 0) with
   | true=>
    rw[Tk rfl,Tj (by omega)];exact Th ⟨rfl,rfl,Xel (v:=lo+x) L so (by omega) e⟩
   | false=>
    rw[Tj (by decide)];refine Tg (Gk hc hst al (by omega) (by omega) ?_);dsimp only;rw[al.flip L (by omega) (by omega) (by omega) e,Tk rfl];exact Th ⟨rfl,x,rfl,by omega,by omega,so⟩
  case post=>
   rintro c st' ⟨rfl,m,rfl,m1,m2,de⟩;dsimp only;rw[Tj (by omega)];obtain⟨l',st1,pm1,g1⟩:=Xl8 hst (i:=lo) (j:=lo+m) (by omega);refine Tg (wpS_reverse ?_);have al':Al n l':=⟨pm1.trans al.pm⟩;have so':SoL lt l' lo (lo+m):=λi j h1 h2 h3=>by
    rw[g1,g1,Tk (by omega),Tk (by omega)];exact de _ _ (by omega) (by omega) (by omega)
   have pre:∀i,i<lo->l'.getD i 0=l.getD i 0:=λi hi=>by rw[g1,Tj (by omega)]
   refine Tg (wpS_mono (wpS_forRange (I:=λx c st'=>SA κ it pd l' st'/\c=(none,x)/\SoL lt l' lo (lo+x)) (Q:=λc st'=>SA κ it pd l' st'/\∃m,c=(none,m)/\1<=m/\m<=r/\SoL lt l' lo (lo+m)) ?step ?fin ⟨st1,rfl,so'⟩) ?post)
   case fin=>
    rintro c st' ⟨s1,rfl,so⟩;exact⟨s1,_,rfl,by omega,by omega,so⟩
   case step=>
    rintro x c st' hx1 hx ⟨s1,rfl,so⟩;dsimp only;refine Tg (Gk hc s1 al' (by omega) (by omega) ?_);dsimp only;cases e:lt (l'.getD (lo+x) 0) (l'.getD (lo+x - 1) 0) with
    | true=>
     rw[Tk rfl];exact Th ⟨s1,x,rfl,by omega,by omega,so⟩
    | false=>
     rw[Tj (by decide)];exact Th ⟨s1,rfl,Xek (v:=lo+x) L so (by omega) (al'.flip L (by omega) (by omega) (by omega) e)⟩
   case post=>
    rintro c st' ⟨s1,m',rfl,a1,a2,a3⟩;exact Th (h m' l' _ s1 pm1 a1 a2 a3 pre)
theorem Xen(hc:CmS prog w A s κ it n lt)(hst:SA κ it pd l st)(al:Al n l){lo m ok:Nat}(h1:1<=ok)(h2:ok<=m)(hn:lo+m<=n)(so:SoL lt l lo (lo+ok))
  {Q:Bool->SortSt->Prop} (h:∀l' st',SA κ it pd l' st'->l'.Perm l->SoL lt l' lo (lo+m)->(∀i,i<lo->l'.getD i 0=l.getD i 0)->Q true st'):wpS (model prog w) A E s (binarySort' lo m ok) Q st:=by
 have L:=hc.L;have hl:=al.len;rw[binarySort'_eq];refine Tg (wpS_mono (wpS_forRange (I:=λx c st'=>c=(none,())/\∃l',SA κ it pd l' st'/\l'.Perm l/\SoL lt l' lo (lo+x)/\(∀i,i<lo->l'.getD i 0=l.getD i 0)) (Q:=λc st'=>c=(none,())/\∃l',SA κ it pd l' st'/\l'.Perm l/\SoL lt l' lo (lo+m)/\(∀i,i<lo->l'.getD i 0=l.getD i 0)) ?step ?fin ⟨rfl,l,hst,.refl _,by rw[show max ok 1=ok by omega];exact so,λ_ _=>rfl⟩) ?post)
 case fin=>
  rintro c st' ⟨rfl,l',s1,pm,so',pre⟩;exact⟨rfl,l',s1,pm,by rw[show max (max ok 1) m=m by omega] at so';exact so',pre⟩
 case post=>
  rintro c st' ⟨rfl,l',s1,pm,so',pre⟩;exact Th (h l' _ s1 pm so' pre)
 case step=>
  rintro k c st' hk1 hk ⟨rfl,l',s1,pm,so',pre⟩;have al':Al n l':=⟨pm.trans al.pm⟩;have hl':=al'.len;refine Tg (wpS_mono (wpS_forRange (I:=λx c st''=>st'=st''/\∃u v,c=(none,u,v)/\u<=v/\v<=k/\v - u<=k - x/\(∀i,i<u->lt (l'.getD (lo+i) 0) (l'.getD (lo+k) 0)=true)/\(∀i,v<=i->i<k->lt (l'.getD (lo+k) 0) (l'.getD (lo+i) 0)=true))
   (Q:=λc st''=>st'=st''/\∃u,c=(none,u,u)/\u<=k/\(∀i,i<u->lt (l'.getD (lo+i) 0) (l'.getD (lo+k) 0)=true)/\(∀i,u<=i->i<k->lt (l'.getD (lo+k) 0) (l'.getD (lo+i) 0)=true)) ?step ?fin ⟨rfl,0,k,rfl,by omega,by omega,by omega,λi hi=>by omega,λi h1 h2=>by omega⟩) ?post)
  case fin=>
   rintro c st'' ⟨rfl,u,v,rfl,b1,b2,b3,b4,b5⟩;have:u=v:=by omega
   subst this;exact⟨rfl,u,rfl,b2,b4,b5⟩
  case step=>
   rintro x c st'' _ hx ⟨rfl,u,v,rfl,b1,b2,b3,b4,b5⟩;dsimp only;by_cases e:u ≥ v
   ·rw[Tk e];have:u=v:=by omega
    subst this;exact Th ⟨rfl,u,rfl,b2,b4,b5⟩
   ·rw[Tj e];refine Tg (Gk hc s1 al' (by omega) (by omega) ?_);dsimp only;have q1:u<=(u+v) / 2:=by omega
    have q2:(u+v) / 2<v:=by omega
    generalize (u+v) / 2=md at q1 q2;cases c:lt (l'.getD (lo+k) 0) (l'.getD (lo+md) 0) with
    | true=>
     rw[Tk rfl];refine Th ⟨rfl,u,md,rfl,q1,by omega,by omega,b4,λi z1 z2=>?_⟩;by_cases z:i=md
     ·rw[z];exact c
     ·exact L.tr _ _ _ c (so' _ _ (by omega) (by omega) (by omega))
    | false=>
     rw[Tj (by decide)];have c':=al'.flip L (by omega) (by omega) (by omega) c;refine Th ⟨rfl,md+1,v,rfl,by omega,b2,by omega,λi z1=>?_,b5⟩;by_cases z:i=md
     ·rw[z];exact c'
     ·exact L.tr _ _ _ (so' _ _ (by omega) (by omega) (by omega)) c'
  case post=>
   rintro c st'' ⟨rfl,u,rfl,b2,b4,b5⟩;dsimp only;obtain⟨l2,s2,pm2,g2⟩:=Xl9 s1 (k:=lo+k) (d:=lo+u) (by omega) (by omega);have wm:∀{Q:Unit->SortSt->Prop},Q () (setArr st' (bubble (arrOf st') (lo+k) (lo+k - (lo+u))))->wpS (model prog w) A E s (moveDown' (lo+k) (lo+u)) Q st':=λhq=>by
    rw[moveDown'_eq];exact wpS_modify hq
   refine Tg (wm (Th ⟨rfl,l2,s2,pm2.trans pm,λi j h1 h2 h3=>?_,λi hi=>?_⟩))
   ·rw[g2,g2];by_cases i1:i=lo+u
    ·rw[Tk i1,Tj (by omega),Tk (by omega)];have:=b5 (j - 1 - lo) (by omega) (by omega)
     rwa [show lo+(j - 1 - lo)=j - 1 by omega] at this
    ·rw[Tj i1];by_cases i2:lo+u<i/\i<=lo+k
     ·rw[Tk i2,Tj (by omega),Tk (by omega)];exact so' _ _ (by omega) (by omega) (by omega)
     ·rw[Tj i2];by_cases j1:j=lo+u
      ·rw[Tk j1];have:=b4 (i - lo) (by omega)
       rwa [show lo+(i - lo)=i by omega] at this
      ·rw[Tj j1];by_cases j2:lo+u<j/\j<=lo+k
       ·rw[Tk j2];exact so' _ _ (by omega) (by omega) (by omega)
       ·rw[Tj j2];exact so' _ _ (by omega) h2 (by omega)
   ·rw[g2,Tj (by omega),Tj (by omega)];exact pre i hi
end
open PySem.W (kas_item kas_cmp kas_swaps_map)
def Gm (m:Array Keyed) (u:Nat) (c:Array Keyed):Array Keyed:=m.toList.zipIdx.foldl (λa z=>a.setIfInBounds (u+z.2) z.1) c
def Xeo (c:Array Keyed) (u v m r:Nat):SM Bool:=do
 let z <-if m<=r then mLo (c.extract u v) (c.extract v (v+r)) else mHi (c.extract u v) (c.extract v (v+r))
 modify λs=>setArr s (Gm z u (arrOf s))
 return (failedOf (<-get)).isNone
theorem Xma(i:Nat):mergeAt' i=(do
  let s <-get
  let (some (u,m,pw),some (v,r,_)):=((pendingOf s)[i]?,(pendingOf s)[i+1]?) | unsupported "internal:list.sort.pending"
  set (SortSt.mk' (kindOf s) (arrOf s) (((pendingOf s).setIfInBounds i (u,m+r,pw)).eraseIdxIfInBounds (i+1)) (gallopOf s) (failedOf s))
  let some k <-Db false (<-elem' (arrOf s) v) (arrOf s) u m 0 | return false
  if m - k==0 then return true
  let some q <-Db true (<-elem' (arrOf s) (u+k+(m - k) - 1)) (arrOf s) v r (r - 1) | return false
  if q==0 then return true
  Xeo (arrOf s) (u+k) v (m - k) q):=rfl
theorem Xep(k:Nat):∀(xs:List Keyed) (o:Nat) (c:Array Keyed) (m:Nat),k+o+xs.length<=c.size->((xs.zipIdx o).foldl (λa z=>a.setIfInBounds (k+z.2) z.1) c)[m]? = if k+o<=m/\m<k+o+xs.length then xs[m - (k+o)]? else c[m]?
 | [],o,c,m,_=>by rw[Tj (by simp)];rfl
 | x::xs,o,c,m,h=>by
  have hl:(x::xs).length=xs.length+1:=rfl;rw[List.zipIdx_cons,Rv,Xep k xs (o+1) _ m (by rw[Array.size_setIfInBounds];omega),Array.getElem?_setIfInBounds];by_cases h1:k+(o+1)<=m/\m<k+(o+1)+xs.length
  ·rw[Tk h1,Tk (by omega),show m - (k+o)=m - (k+(o+1))+1 by omega,List.getElem?_cons_succ]
  ·rw[Tj h1];by_cases h2:k+o=m
   ·rw[Tk h2,Tk (by omega),Tk (by omega),show m - (k+o)=0 by omega];rfl
   ·rw[Tj h2,Tj (by omega)]
theorem Xmb{it:Array Keyed}{l res:List Nat}{k:Nat}(h:k+res.length<=l.length):Gm (Fk it res) k (Fk it l)=Fk it (l.take k++res++l.drop (k+res.length)):=by
 have e1:(Fk it res).toList=res.map (kas_item it):=by unfold Fk;rfl
 unfold Gm;rw[e1];apply Array.ext_getElem?;intro m;rw[Xep k _ 0 _ m (by rw[Oo,Bv];omega),Oo,Nat.add_zero];unfold Fk;rw[Rj,Rj,O2,O2,O2];by_cases h1:k<=m/\m<k+res.length
 ·rw[Tk h1,Qw (by rw[Oy,O3];omega),Rc (by rw[O3];omega),O3,Q8 (by omega)]
 ·rw[Tj h1];by_cases h2:m<k
  ·rw[Qw (by rw[Oy,O3];omega),Qw (by rw[O3];omega),Sw,Tk h2]
  ·rw[Rc (by rw[Oy,O3];omega),Oy,O3,Sb];congr 2;omega
theorem Ko{lt:Nat->Nat->Bool}{l:List Nat}{u v:Nat}(h:SoL lt l u v)(hv:v<=l.length):((l.take v).drop u).Pairwise λx y=>lt x y=true:=by
 rw[Rk];intro i j hi hj hij;rw[P8,O3] at hi hj;rw[S7,S7,Sh,Sh];have:=h (u+i) (u+j) (by omega) (by omega) (by omega)
 rwa [O7,O7,Op (by omega),Op (by omega)] at this
section
variable {prog:Program}{w:World}{A:Around}{E:Value->Shared->Prop}{s:Shared}{κ : SortKind}{it:Array Keyed}{n:Nat}{lt:Nat->Nat->Bool}{l:List Nat}{st:SortSt}
theorem wS_mAt(hc:CmS prog w A s κ it n lt){n1 n2 pw:Nat}(hst:SA κ it #[(0,n1,pw),(n1,n2,0)] l st)(al:Al n l)(h1:1<=n1)(h2:1<=n2)(hn:n1+n2=n)(so1:SoL lt l 0 n1)(so2:SoL lt l n1 n)
  {Q:Bool->SortSt->Prop} (h:∀l' st',SA κ it #[(0,n,pw)] l' st'->l'.Perm l->SoL lt l' 0 n->Q true st'):wpS (model prog w) A E s (mergeAt' 0) Q st:=by
 have L:=hc.L;have hl:=al.len;rw[Xma];refine Tg (wpS_get ?_);rw[hst.p,hst.a];have e0:(#[(0,n1,pw),(n1,n2,0)]:Array (Nat×Nat×Nat))[0]? = some (0,n1,pw):=rfl;have e1:(#[(0,n1,pw),(n1,n2,0)]:Array (Nat×Nat×Nat))[0+1]? = some (n1,n2,0):=rfl;have ep:((#[(0,n1,pw),(n1,n2,0)]:Array (Nat×Nat×Nat)).setIfInBounds 0 (0,n1+n2,pw)).eraseIdxIfInBounds (0+1) = #[(0,n1+n2,pw)]:=by simp
 rw[e0,e1];dsimp only;rw[ep];clear e0 e1 ep;have s1:SA κ it #[(0,n,pw)] l (SortSt.mk' (kindOf st) (Fk it l) #[(0,n1+n2,pw)] (gallopOf st) (failedOf st)):=⟨hst.k,rfl,hst.f,by rw[<-hn]⟩;have wset:∀{Q:PUnit->SortSt->Prop} {x y:SortSt},Q ⟨⟩ x->wpS (model prog w) A E s (set x:StateT SortSt Sem PUnit) Q y:=λhq=>by
  unfold wpS;rw[StateT.run_set];exact Tf ⟨rfl,hq⟩
 refine Tg (wset ?_);generalize SortSt.mk' (kindOf st) (Fk it l) #[(0,n1+n2,pw)] (gallopOf st) (failedOf st)=st1 at s1;have m1:l.getD n1 0∈l:=Bw (by omega);refine Tg (Bo (Bm (show n1<l.length by omega)) ?_);refine Tg (Gg (P:=λt => !lt (l.getD n1 0) (l.getD t 0)) ⟨λa b hab hb e=>?_⟩ (by omega) (λt ht Q' hq=>?_) λk hk hlo hhi=>?_)
 ·have e:lt (l.getD n1 0) (l.getD b 0)=false:=by simpa using e
  cases q:lt (l.getD n1 0) (l.getD a 0) with
  | false=>rfl
  | true=>
   have:=L.tr _ _ _ q (so1 a b (Pq _) hab hb);rw[this] at e;cases e
 ·rw[Ql];exact Gf hc (Bm (by omega)) (al.ltn (by omega)) (al.ltn (by omega)) s1.k (left:=false) hq
 dsimp only;have lo1:∀t,t<k->lt (l.getD t 0) (l.getD n1 0)=true:=λt ht=>by
  have:=hlo t ht;exact al.flip L (by omega) (by omega) (by omega) (by simpa using this)
 have hi1:∀t,k<=t->t<n1->lt (l.getD n1 0) (l.getD t 0)=true:=λt ht ht2=>by
  have:=hhi t ht ht2;simpa using this
 have ge:∀{x t:Nat},n1<=t->t<n->lt x (l.getD n1 0)=true->lt x (l.getD t 0)=true:=λ{x t} h1 h2 hx=>by
  by_cases z:t=n1
  ·rw[z];exact hx
  ·exact L.tr _ _ _ hx (so2 n1 t (Oq _) (by omega) h2)
 by_cases e1:(n1 - k==0)=true
 ·rw[Tk e1];have e1':n1 - k=0:=by simpa using e1
  refine Th (h l _ s1 (.refl _) λi j a1 a2 a3=>?_);by_cases c1:j<n1
  ·exact so1 i j a1 a2 c1
  ·by_cases c2:n1<=i
   ·exact so2 i j c2 a2 a3
   ·exact ge (by omega) a3 (lo1 i (by omega))
 rw[Tj e1];have e1':n1 - k≠0:=by simpa using e1
 rw[show 0+k+(n1 - k) - 1=n1 - 1 by omega,Ql];refine Tg (Bo (Bm (show n1 - 1<l.length by omega)) ?_);refine Tg (Gg (P:=λt=>lt (l.getD (n1+t) 0) (l.getD (n1 - 1) 0)) ⟨λa b hab hb e=>?_⟩ (by omega) (λt ht Q' hq=>?_) λr hr hlo2 hhi2=>?_)
 ·exact L.tr _ _ _ (so2 _ _ (by omega) (by omega) (by omega)) e
 ·exact Gf hc (Bm (by omega)) (al.ltn (by omega)) (al.ltn (by omega)) s1.k (left:=true) hq
 dsimp only;have hi2:∀t,r<=t->t<n2->lt (l.getD (n1 - 1) 0) (l.getD (n1+t) 0)=true:=λt a b=>al.flip L (by omega) (by omega) (by omega) (hhi2 t a b);have le:∀{x t:Nat},t<n1->lt (l.getD (n1 - 1) 0) x=true->lt (l.getD t 0) x=true:=λ{x t} h1 hx=>by
  by_cases z:t=n1 - 1
  ·rw[z];exact hx
  ·exact L.tr _ _ _ (so1 t (n1 - 1) (Pq _) (by omega) (by omega)) hx
 have r1:1<=r:=by
  rcases Nat.eq_zero_or_pos r with z | z
  ·have a:=hi2 0 (by omega) (by omega);have b:=hi1 (n1 - 1) (by omega) (by omega);have:=L.tr _ _ _ a b;rw[L.irr] at this;cases this
  ·exact z
 rw[Tj (by simp;omega)];unfold Xeo;rw[Dz,Dz,show n1+r - n1=r by omega];have ela:(l.drop k).take (n1 - k)=(l.take n1).drop k:=(Si ..).symm;have elb:(l.drop n1).take r=(l.take (n1+r)).drop n1:=by rw[Si,show n1+r - n1=r by omega]
 have T:Two lt n ((l.drop k).take (n1 - k)) ((l.drop n1).take r):=by
  refine⟨L,λx hx=>?_,λx hx=>?_,λx hx y hy=>?_,?_,?_⟩
  ·obtain⟨t,b1,b2,rfl⟩:=Dc hx;exact al.ltn (by omega)
  ·obtain⟨t,b1,b2,rfl⟩:=Dc hx;exact al.ltn (by omega)
  ·obtain⟨t,b1,b2,rfl⟩:=Dc hx;obtain⟨t',c1,c2,rfl⟩:=Dc hy;exact al.ne (by omega) (by omega) (by omega)
  ·rw[ela];exact Ko (λi j a1 a2 a3=>so1 i j (Pq _) a2 a3) (by omega)
  ·rw[elb];exact Ko (λi j a1 a2 a3=>so2 i j a1 a2 (by omega)) (by omega)
 have lena:((l.drop k).take (n1 - k)).length=n1 - k:=by rw[O3,P8];omega
 have lenb:((l.drop n1).take r).length=r:=by rw[O3,P8];omega
 have b0:((l.drop n1).take r).getD 0 0=l.getD n1 0:=by
  rw[O7,Sw,Tk (by omega),Sb,<-O7];rfl
 have a9:((l.drop k).take (n1 - k)).getD (((l.drop k).take (n1 - k)).length - 1) 0=l.getD (n1 - 1) 0:=by
  rw[lena,O7,Sw,Tk (by omega),Sb,show k+(n1 - k - 1)=n1 - 1 by omega,<-O7]
 have bot:∀y∈(l.drop k).take (n1 - k),lt (((l.drop n1).take r).getD 0 0) y=true:=λy hy=>by
  obtain⟨t,b1,b2,rfl⟩:=Dc hy;rw[b0];exact hi1 _ (by omega) (by omega)
 have top:∀x∈(l.drop n1).take r,lt x (((l.drop k).take (n1 - k)).getD (((l.drop k).take (n1 - k)).length - 1) 0)=true:=λx hx=>by
  obtain⟨t,b1,b2,rfl⟩:=Dc hx;rw[a9];exact hlo2 t b1
 have fin:∀res st',Mrg lt ((l.drop k).take (n1 - k)) ((l.drop n1).take r) res->SG st1 st'->wpS (model prog w) A E s (do
   modify λs=>setArr s (Gm (Fk it res) k (arrOf s))
   let z <-get
   pure (failedOf z).isNone) Q st':=by
  intro res st' mr sg;have hrl:res.length=n1 - k+r:=by rw[mr.1.length_eq,Oy,lena,lenb]
  refine Tg (wpS_modify (Tg (wpS_get (Th ?_))));have ef:failedOf (setArr st' (Gm (Fk it res) k (arrOf st')))=none:=sg.f.trans s1.f;rw[ef];have hmem:∀x∈res,(∃t,k<=t/\t<n1/\x=l.getD t 0)\/(∃t,t<r/\x=l.getD (n1+t) 0):=λx hx=>by
   rcases Oz.mp (mr.1.mem_iff.mp hx) with z | z
   ·obtain⟨t,b1,b2,e⟩:=Dc z;exact .inl ⟨k+t,by omega,by omega,e⟩
   ·obtain⟨t,b1,b2,e⟩:=Dc z;exact .inr ⟨t,b1,e⟩
  refine h (l.take k++res++l.drop (k+res.length)) _ ⟨sg.k.trans s1.k,?_,ef,sg.p.trans s1.p⟩ ?_ ?_
  ·show Gm (Fk it res) k (arrOf st')=_;rw[sg.a,s1.a,Xmb (by omega)]
  ·rw[show k+res.length=n1+r by omega];have e:l=l.take k++((l.drop k).take (n1 - k)++(l.drop n1).take r)++l.drop (n1+r):=by
    rw[<-Pj,<-take_split,show k+(n1 - k)=n1 by omega,<-take_split,Pi]
   refine List.Perm.trans ?_ (List.Perm.of_eq e.symm);exact(Qe _ mr.1).append_right _
  ·have pw:(l.take k++res++l.drop (k+res.length)).Pairwise λx y=>lt x y=true:=by
    refine Ph.mpr ⟨Ph.mpr ⟨?_,mr.2,λx hx y hy=>?_⟩,?_,λx hx y hy=>?_⟩
    ·have:=Ko (u:=0) (v:=k) (l:=l) (lt:=lt) (λi j a1 a2 a3=>so1 i j a1 a2 (by omega)) (by omega)
     rwa [R0] at this
    ·obtain⟨t,ht,rfl⟩:=Fj hx (by omega);rcases hmem y hy with ⟨u,c1,c2,rfl⟩ | ⟨u,c1,rfl⟩
     ·exact so1 _ _ (Pq _) (by omega) c2
     ·exact ge (by omega) (by omega) (lo1 t ht)
    ·have:=Ko (u:=k+res.length) (v:=n) (l:=l) (lt:=lt) (λi j a1 a2 a3=>so2 i j (by omega) a2 a3) (by omega)
     rwa [Pu (by omega)] at this
    ·have hy':y∈(l.drop (k+res.length)).take n:=by rw[Pu (by rw[P8];omega)];exact hy
     obtain⟨u,c1,c2,rfl⟩:=Dc hy';have hju:k+res.length+u=n1+(r+u):=by omega
     rw[hju];have top2:=hi2 (r+u) (by omega) (by omega);rcases Oz.mp hx with z | z
     ·obtain⟨t,ht,rfl⟩:=Fj z (by omega);exact ge (by omega) (by omega) (lo1 t ht)
     ·rcases hmem x z with ⟨t,c1,c2,rfl⟩ | ⟨t,c1,rfl⟩
      ·exact le c2 top2
      ·exact so2 _ _ (by omega) (by omega) (by omega)
   have len:(l.take k++res++l.drop (k+res.length)).length=n:=by
    rw[Oy,Oy,O3,P8];omega
   exact λi j a1 a2 a3=>Gi pw a2 (by omega)
 by_cases e5:n1 - k<=r
 ·rw[Tk e5];exact Tg (Xl2 hc T (by omega) (by omega) bot top s1.k λres st' mr sg=>fin res st' mr sg)
 ·rw[Tj e5];exact Tg (Xl7 hc T (by omega) (by omega) bot top s1.k λres st' mr sg=>fin res st' mr sg)
end
open PySem.W (KasT kas_item kas_cmp kas_ask kas_sort kat_run kat_snds kat_ask_eq kas_range)
section
variable {prog:Program}{w:World}{A:Around}{E:Value->Shared->Prop}{s:Shared}{κ : SortKind}{it:Array Keyed}{lt:Nat->Nat->Bool}{l:List Nat}{st:SortSt}
def Rn (κ : SortKind) (it:Array Keyed) (lt:Nat->Nat->Bool) (l:List Nat) (st:SortSt):Prop:=∃l',l'.Perm l/\((SA κ it #[(0,64,0)] l' st/\SoL lt l' 0 64) \/ ∃n1 n2 pw,1<=n1/\1<=n2/\n1+n2=64/\SA κ it #[(0,n1,pw),(n1,n2,0)] l' st/\SoL lt l' 0 n1/\SoL lt l' n1 64)
theorem Xmc(hc:CmS prog w A s κ it 64 lt)(hst:SA κ it #[] l st)(al:Al 64 l){Q:Unit->SortSt->Prop}(h:∀l' st' pd,SA κ it pd l' st'->l'.Perm l->SoL lt l' 0 64->Q () st'):wpS (model prog w) A E s sortRuns' Q st:=by
 have hl:=al.len;rw[sortRuns'_eq];refine Tg (wpS_get ?_);have hsz:(arrOf st).size=64:=by rw[hst.a,Bv,hl]
 have hmr:minRun' 64 64 0=32:=by
  rw[minRun'_succ,Tj (by decide)];rfl
 dsimp only;rw[hsz,hmr];refine Tg (wpS_mono (wpS_forRange (I:=λx c st'=>(x=0/\c=(none,0)/\SA κ it #[] l st')\/(x=1/\∃l' n1,c=(none,n1)/\SA κ it #[(0,n1,0)] l' st'/\l'.Perm l/\32<=n1/\n1<=64/\SoL lt l' 0 n1)\/(2<=x/\c=(none,64)/\Rn κ it lt l st')) (Q:=λc st'=>c=(none,64)/\Rn κ it lt l st') ?step ?fin (.inl ⟨rfl,rfl,hst⟩)) ?post)
 case fin=>
  rintro c st' (⟨z,_⟩ | ⟨z,_⟩ | ⟨_,z⟩)
  ·exact absurd z (by decide)
  ·exact absurd z (by decide)
  ·exact z
 case step=>
  rintro x c st' _ hx (⟨rfl,rfl,s0⟩ | ⟨rfl,l1,n1,rfl,s1,pm1,b1,b2,so1⟩ | ⟨x2,rfl,z⟩)
  ·dsimp only;rw[Tj (by omega),Tb];refine Tg (Xem hc s0 al (by omega) (by omega) λm l1 st1 s1 pm1 m1 m2 so _=>?_);have al1:Al 64 l1:=⟨pm1.trans al.pm⟩;dsimp only;rw[Ql] at so;by_cases hm:m<32
   ·rw[Tk hm];refine Tg (wpS_lift (wpAny_rule ⟨rfl,?_⟩));refine Tg (Xen hc s1 al1 m1 (by omega) (by omega) (by rw[Ql];exact so) λl2 st2 s2 pm2 so2 _=>?_);rw[Tj (by decide)];refine Tg (wpS_get ?_);rw[s2.p];refine Tg (wpS_modify (Th (.inr (.inl ⟨rfl,l2,32,rfl,⟨s2.k,s2.a,s2.f,?_⟩,pm2.trans pm1,by omega,by omega,so2⟩))));show (pendingOf st2).push _=_;rw[s2.p];rfl
   ·rw[Tj hm];refine Tg (wpS_get ?_);rw[s1.p];refine Tg (wpS_modify (Th (.inr (.inl ⟨rfl,l1,m,by rw[Ql],⟨s1.k,s1.a,s1.f,?_⟩,pm1,by omega,by omega,so⟩))));show (pendingOf st1).push _=_;rw[s1.p];rfl
  ·dsimp only;by_cases e:n1 ≥ 64
   ·rw[Tk e];obtain rfl:n1=64:=by omega
    exact Th ⟨rfl,l1,pm1,.inl ⟨s1,so1⟩⟩
   rw[Tj e];have al1:Al 64 l1:=⟨pm1.trans al.pm⟩;have fin:∀l2 st2,SA κ it #[(0,n1,0)] l2 st2->l2.Perm l1->SoL lt l2 n1 64->(∀i,i<n1->l2.getD i 0=l1.getD i 0)->∀pw,SA κ it #[(0,n1,pw),(n1,64 - n1,0)] l2 (setPending (setPending st2 ((pendingOf st2).modify ((pendingOf st2).size - 1) λx=>(x.fst,x.2.fst,pw))) ((pendingOf (setPending st2 ((pendingOf st2).modify ((pendingOf st2).size - 1) λx=>(x.fst,x.2.fst,pw)))).push (n1,64 - n1,0)))/\SoL lt l2 0 n1:=by
    intro l2 st2 s2 pm2 so2 pre pw;refine⟨⟨s2.k,s2.a,s2.f,?_⟩,λi j a1 a2 a3=>?_⟩
    ·show ((pendingOf st2).modify ((pendingOf st2).size - 1) λx=>(x.fst,x.2.fst,pw)).push (n1,64 - n1,0)=_;rw[s2.p];simp[Array.modify,Array.modifyM]
    ·rw[pre i (by omega),pre j (by omega)];exact so1 i j a1 a2 a3
   refine Tg (Xem hc s1 al1 (by omega) (by omega) λm l2 st2 s2 pm2 m1 m2 so pre=>?_);have al2:Al 64 l2:=⟨pm2.trans al1.pm⟩;dsimp only;by_cases hm:m<32
   ·rw[Tk hm];refine Tg (wpS_lift (wpAny_rule ⟨rfl,?_⟩));rw[show min (64 - n1) 32=64 - n1 by omega];refine Tg (Xen hc s2 al2 m1 (by omega) (by omega) so λl3 st3 s3 pm3 so3 pre3=>?_);rw[Tj (by decide)];have so3':SoL lt l3 n1 64:=by rw[show n1+(64 - n1)=64 by omega] at so3;exact so3
    refine Tg (wpS_get ?_);rw[s3.p];have eb:(#[(0,n1,0)]:Array (Nat×Nat×Nat)).back? = some (0,n1,0):=rfl;rw[eb];dsimp only;refine Tg (wpS_mono (wpS_forRange (I:=λx c st'=>c=(none,())/\SA κ it #[(0,n1,0)] l3 st') (Q:=λc st'=>c=(none,())/\SA κ it #[(0,n1,0)] l3 st') ?_ (λc st' z=>z) ⟨rfl,s3⟩) ?_)
    ·rintro x c st' _ _ ⟨rfl,q⟩;refine Tg (wpS_get ?_);rw[q.p,Tj (by show ¬ 1 > 1;decide)];exact Th ⟨rfl,q⟩
    ·rintro c st' ⟨rfl,q⟩;dsimp only;obtain⟨q1,q2⟩:=fin l3 st' q (pm3.trans pm2) so3' (λi hi=>(pre3 i hi).trans (pre i hi)) (power' 64 (2 * 0+n1) (2 * 0+n1+n1+(64 - n1)) 64);refine Tg (wpS_modify (Tg (wpS_modify (Th (.inr (.inr ⟨by omega,by rw[show n1+(64 - n1)=64 by omega],l3,((pm3.trans pm2)).trans pm1,.inr ⟨n1,64 - n1,_,by omega,by omega,by omega,q1,q2,so3'⟩⟩))))))
   ·rw[Tj hm];obtain rfl:m=64 - n1:=by omega
    have so':SoL lt l2 n1 64:=by rw[show n1+(64 - n1)=64 by omega] at so;exact so
    refine Tg (wpS_get ?_);rw[s2.p];have eb:(#[(0,n1,0)]:Array (Nat×Nat×Nat)).back? = some (0,n1,0):=rfl;rw[eb];dsimp only;refine Tg (wpS_mono (wpS_forRange (I:=λx c st'=>c=(none,())/\SA κ it #[(0,n1,0)] l2 st') (Q:=λc st'=>c=(none,())/\SA κ it #[(0,n1,0)] l2 st') ?_ (λc st' z=>z) ⟨rfl,s2⟩) ?_)
    ·rintro x c st' _ _ ⟨rfl,q⟩;refine Tg (wpS_get ?_);rw[q.p,Tj (by show ¬ 1 > 1;decide)];exact Th ⟨rfl,q⟩
    ·rintro c st' ⟨rfl,q⟩;dsimp only;obtain⟨q1,q2⟩:=fin l2 st' q pm2 so' pre (power' 64 (2 * 0+n1) (2 * 0+n1+n1+(64 - n1)) 64);refine Tg (wpS_modify (Tg (wpS_modify (Th (.inr (.inr ⟨by omega,by rw[show n1+(64 - n1)=64 by omega],l2,(pm2).trans pm1,.inr ⟨n1,64 - n1,_,by omega,by omega,by omega,q1,q2,so'⟩⟩))))))
  ·dsimp only;rw[Tk (Oq _)];exact Th ⟨rfl,z⟩
 case post=>
  rintro c st' ⟨rfl,l1,pm1,z⟩;dsimp only;have al1:Al 64 l1:=⟨pm1.trans al.pm⟩;refine Tg (wpS_mono (wpS_forRange (I:=λx c st'=>c=(none,())/\∃l2 pd,l2.Perm l/\Al 64 l2/\SA κ it pd l2 st'/\((pd.size<=1/\SoL lt l2 0 64)\/(x=0/\∃n1 n2 pw,1<=n1/\1<=n2/\n1+n2=64/\pd = #[(0,n1,pw),(n1,n2,0)]/\SoL lt l2 0 n1/\SoL lt l2 n1 64))) (Q:=λc st'=>c=(none,())/\∃l2 pd,l2.Perm l/\SA κ it pd l2 st'/\SoL lt l2 0 64) ?step ?fin ?init) ?post)
  case init=>
   rcases z with ⟨s1,so⟩ | ⟨n1,n2,pw,a1,a2,a3,s1,so1,so2⟩
   ·exact⟨rfl,l1,_,pm1,al1,s1,.inl ⟨by show 1<=1;decide,so⟩⟩
   ·exact⟨rfl,l1,_,pm1,al1,s1,.inr ⟨rfl,n1,n2,pw,a1,a2,a3,rfl,so1,so2⟩⟩
  case fin=>
   rintro c st' ⟨rfl,l2,pd,pm2,al2,s2,⟨_,so⟩ | ⟨e,_⟩⟩
   ·exact⟨rfl,l2,pd,pm2,s2,so⟩
   ·exact absurd e (by decide)
  case step=>
   rintro x c st' _ _ ⟨rfl,l2,pd,pm2,al2,s2,⟨e,so⟩ | ⟨rfl,n1,n2,pw,a1,a2,a3,rfl,so1,so2⟩⟩
   ·refine Tg (wpS_get ?_);rw[s2.p,Tk e];exact Th ⟨rfl,l2,pd,pm2,s2,so⟩
   ·refine Tg (wpS_get ?_);rw[s2.p,Tj (by show ¬ 2<=1;decide)]
    show wpS _ _ _ _ (do
     let b <-mergeAt' 0
     if (!b)=true then pure (ForInStep.done (some (),())) else pure (ForInStep.yield (none,()))) _ _
    refine Tg (wS_mAt hc s2 al2 a1 a2 a3 so1 so2 λl3 st3 s3 pm3 so3=>?_);rw[Tj (by decide)];exact Th ⟨rfl,l3,_,pm3.trans pm2,⟨pm3.trans al2.pm⟩,s3,.inl ⟨by show 1<=1;decide,so3⟩⟩
  case post=>
   rintro c st' ⟨rfl,l2,pd,pm2,s2,so⟩;exact Th (h l2 _ pd s2 pm2 so)
end
section
variable {prog:Program}{w:World}{A:Around}{E:Value->Shared->Prop}{s:Shared}{κ : SortKind}{ks vs:List Value}{lt:Nat->Nat->Bool}
theorem Xmd{Q:SortSt->Shared->Prop}(hl:ks.length=vs.length)(h2:2<=vs.length)(h64:vs.length<=64)(L:Lin vs.length lt)
  (hc:∀i j (C:Bool->Shared->Prop),i<vs.length->j<vs.length->C (lt i j) s->kas_ask prog w A κ ks i j C s)
  (h:∀p st',Gd vs.length p->Bu lt p vs.length->arrOf st'=p.map (kas_item (ks.toArray.zip vs.toArray))->failedOf st'=none->Q st' s):
  wpAny (model prog w) A ((sortRuns').run (SortSt.mk' κ (ks.toArray.zip vs.toArray) #[] 7 none)) (λr s'=>Q r.2 s') E s:=by
 by_cases e:vs.length<64
 ·exact kat_run (G:=λp s'=>s'=s/\Gd vs.length p/\Bu lt p vs.length) hl h2 e (λp st' s' _ b1 b2 ⟨e1,b3,b4⟩=>by subst e1;exact h p st' b3 b4 b1 b2)
   (Ng (n:=vs.length) (lt:=lt) (λi j C hi hj hC=>hc i j C hi hj hC) (Kc (n:=vs.length) (by omega)) ⟨rfl,(Kc (n:=vs.length) (by omega)).run,Xd5 L (by omega)⟩)
 ·have e64:vs.length=64:=by omega
  have hz:(ks.toArray.zip vs.toArray).size=64:=by simp[hl,e64]
  rw[e64] at L;have cm:CmS prog w A s κ (ks.toArray.zip vs.toArray) 64 lt:=⟨L,λi j C hi hj hC=>by
   have:=hc i j C (by omega) (by omega) hC;rw[kat_ask_eq hl] at this;exact this⟩
  have ea:(ks.toArray.zip vs.toArray)=Fk (ks.toArray.zip vs.toArray) (List.range 64):=by
   have:=kas_range (ks.toArray.zip vs.toArray);rw[hz] at this;rw[Gj];exact this.symm
  have s0:SA κ (ks.toArray.zip vs.toArray) #[] (List.range 64) (SortSt.mk' κ (ks.toArray.zip vs.toArray) #[] 7 none):=⟨rfl,ea,rfl,rfl⟩;have run:=Xmc (E:=E) (Q:=λ_ st'=>Q st' s) cm s0 ⟨.refl _⟩ λl' st' pd s1 pm so=>by
   refine h l'.toArray st' ?_ ?_ ?_ s1.f
   ·rw[e64];exact(List.perm_iff_toArray_perm).mp pm
   ·rw[e64];intro i j h1 h2;have:=so i j (Pq _) h1 h2;show lt (l'.toArray.getD i 0) (l'.toArray.getD j 0)=true;rw[Hq,Hq,<-Hy,<-Hy];exact this
   ·rw[s1.a,Gj]
  exact wpAny_mono run (λr s' q=>by obtain⟨rfl,q⟩:=q;exact q) λ_ _ z=>z
end
open PySem.W (KasT kas_sort kas_ask kas_item kat_run kat_snds kat_kind KatTups)
def E3 (Ts:List (List Str)) (i j:Nat):Bool:=Co (Ts.getD i []).length (Ts.getD i []) (Ts.getD j []).length (Ts.getD j [])
theorem Xeq(n:Nat)(a:List Str):Co n a n a=false:=by unfold Co;rw[Tk rfl];exact Hr a
theorem Xer{n m k:Nat}{a b c:List Str}(h:Co n a m b=true)(g:Co m b k c=true):Co n a k c=true:=by
 unfold Co at *;by_cases e1:n=m
 ·rw[Tk e1] at h;by_cases e2:m=k
  ·rw[Tk e2] at g;rw[Tk (e1.trans e2)];exact Ke _ _ _ h g
  ·rw[Tj e2] at g;rw[Tj (by omega)];have:=Tn g;exact Tl (by omega)
 ·rw[Tj e1] at h;have h:=Tn h;by_cases e2:m=k
  ·rw[Tj (by omega)];exact Tl (by omega)
  ·rw[Tj e2] at g;have g:=Tn g;rw[Tj (by omega)];exact Tl (by omega)
theorem Xme{n m:Nat}{a b:List Str}(h:a≠b):Co n a m b=true\/Co m b n a=true:=by
 unfold Co;by_cases e:n=m
 ·rw[Tk e,Tk e.symm];exact Nj _ _ h
 ·rw[Tj e,Tj (Ne.symm e)];rcases Nat.lt_or_ge n m with z | z
  ·exact .inl (Tl z)
  ·exact .inr (Tl (by omega))
theorem linP{Ts:List (List Str)}(nd:Ts.Nodup):Lin Ts.length (E3 Ts) where
 irr i:=Xeq _ _
 tr i j k:=Xer
 tot i j hi hj ne:=Xme λe=>ne (by
  have e1:Ts.getD i []=Ts[i]:=by simp[List.getD,hi]
  have e2:Ts.getD j []=Ts[j]:=by simp[List.getD,hj]
  rw[e1,e2] at e;exact(R4 nd).mp e)
def Turns (X:Cx) (f:Addr) (H:Hp) (ps:List Addr) (Ts:List (List Str)):Prop:=
 ∀(pins:List (Addr×Obj)) (σ:L2.St) (s1:Shared) (H1:Hp) (i:Nat),i<ps.length->Same H H1->Inv X pins σ H1 s1 ->
  wpAny (model X.prog X.w) X.A.in1.in1 (call (.ref f) [.ref (ps.getD i 0)]) (λu s'=>∃t H2,u = .ref t/\Inv X pins σ H2 s'/\H2 t=some (.tup [.int (Ts.getD i []).length,.ref (ps.getD i 0)])/\Same H1 H2) (λ_ _=>False) s1
section
variable {X:Cx}{pins:List (Addr×Obj)}{σ:L2.St}{H:Hp}{s:Shared}
theorem Xmf{t p:Addr}{n:Nat}{ss:List Str}(I:Inv X pins σ H s)(ht:H t=some (.tup [.int n,.ref p]))(hp:H p=some (.tup (ss.map V.str))):Hs s.heap (.ref t) n ss:=by
 obtain⟨its,r,⟨o,ho,hc,k,hd⟩,_⟩:=I.tuple (SqT.of (K:=X.K) ht);obtain⟨its2,r2,⟨o2,ho2,hc2,k2,hd2⟩,_⟩:=I.tuple (SqT.of (K:=X.K) hp);cases r with
 | cons r1 r'=>
  cases r' with
  | cons r2' r''=>
   cases r'';obtain⟨tk,rfl⟩:∃tk,_=Value.int n tk:=r1;cases r2';exact⟨t,o,_,k,tk,.ref p,rfl,ho,hc,hd,rfl,p,o2,_,k2,rfl,ho2,hc2,hd2,by simpa using Fz r2⟩
theorem Xes{D kS:Addr}{e1:Nat}{ks:List V}{st:SortSt}{out:List Addr}{A:Around}{E:Value->Shared->Prop}{P:PySem.Fin->Shared->Prop}(I:Inv X ((D,seqObj "list" #[] e1)::pins) σ H s)(hD:X.s₀.heap.objs.size<=D)(hnp:∀p∈X.pn++pins,p.1≠D)
  (hk:H kS=some (.lst ks)) (ho:(arrOf st).map (·.2)=(out.map Value.ref).toArray) (hf:failedOf st=none) (hz:out.length<=64) (h:∀s',Inv X pins σ (upd (upd H kS (.lst [])) D (.lst (out.map V.ref))) s'->P (.done (.ret .none)) s'):
  wpAny (model X.prog X.w) A (ksk_tail D false e1 (.ref kS) st) P E s:=by
 obtain⟨z,its,n,r,hl,e⟩:=I.lstM hk;have J:=I.lset (its':=[]) (f:=λ_ => #[]) (ys:=[]) (t':=s.toks) hk e rfl .nil (by decide);unfold ksk_tail
 try dsimp only
 rw[ho];simp only[Pf,if_false];refine Te (listUpdate_at e rfl ?_ (by rw[Ox,<-hl];exact z) (Pq _));refine Te (wpAny_letGo ?_);obtain⟨hg,_⟩:=J.pin (D,seqObj "list" #[] e1) (Pm _ Ow);refine Te (seqEpoch_at hg rfl ?_);refine Te (listUpdate_at hg rfl ?_ (Pq _) (by rw[Ox,Oo,Ti];omega));rw[hf];simp only[bne_self_eq_false,Pf,if_false];refine Tf (h _ ?_);have vr:Vals (out.map V.ref) (out.map Value.ref):=by
  clear ho hz h
  induction out with
  | nil=>exact .nil
  | cons p t ih=>exact .cons rfl ih
 exact Xlv J hD hnp vr (by rw[Oo,Ti];omega)
theorem Xmg{D kS:Addr}{e1:Nat}{ks:List V}{ps:List Addr}{Ts:List (List Str)}{its:List Value}{A:Around}{E:Value->Shared->Prop}{P:PySem.Fin->Shared->Prop}(I:Inv X ((D,seqObj "list" #[] e1)::pins) σ H s)(hu:A.units<cLine)(hD:X.s₀.heap.objs.size<=D)(hnp:∀p∈X.pn++pins,p.1≠D)
  (hk:H kS=some (.lst ks)) (hlen:its.length=ps.length) (hT:ps.length=Ts.length) (nd:Ts.Nodup) (hp:∀i,i<ps.length->Hs s.heap (its.getD i .none) (Ts.getD i []).length (Ts.getD i [])) (h64:ps.length<=64)
  (h:∀(p:Array Nat) s',Gd ps.length p->Bu (E3 Ts) p ps.length->Inv X pins σ (upd (upd H kS (.lst [])) D (.lst ((p.toList.map λi=>ps.getD i 0).map V.ref))) s'->P (.done (.ret .none)) s'):
  wpAny (model X.prog X.w) A (ksk_end D false (ps.map Value.ref).toArray e1 (.ref kS) its.toArray) P E s:=by
 have hsz:(ps.map Value.ref).toArray.size=ps.length:=by simp
 have L:=linP nd;rw[<-hT] at L;have outs:∀p:Array Nat,Gd ps.length p->(p.toList.map λi=>(ps.map Value.ref).getD i Value.none)=((p.toList.map λi=>ps.getD i 0).map Value.ref):=λp g=>by
  rw[Pp];refine P0 λi hi=>?_;have hi':i<ps.length:=by
   have:=(Array.perm_iff_toList_perm.mp g).mem_iff.mp hi;simpa using this
  simp[List.getD,hi']
 unfold ksk_end
 try dsimp only
 simp only[Pf,if_false];by_cases h2:(ps.map Value.ref).toArray.size<2
 ·rw[Tk h2,Tk h2];refine Te (Tf ?_);rw[StateT.run_pure];refine Te (Tf ?_)
  try dsimp only
  have g0:Gd ps.length (List.toArray (List.range ps.length)):=So _;refine Xes (st:=SortSt.mk' general' (its.toArray.zip (ps.map Value.ref).toArray) #[] 7 none) (out:=(List.toArray (List.range ps.length)).toList.map λi=>ps.getD i 0) I hD hnp hk ?_ rfl (by simpa using h64) λs' J=>h _ s' g0 (λi j hij hj=>by omega) J;rw[<-outs _ g0];show ((its.toArray.zip (ps.map Value.ref).toArray).map (·.2))=_;apply Array.toList_inj.mp;simp only[Array.toList_map,List.zip_toArray];rw[List.map_snd_zip (by simp[hlen])];refine Rg (by simp) λi h1 h2=>?_;simp[List.getD] at h1 ⊢;simp[h1]
 ·rw[Tj h2,Tj h2];have fst:∀(l:List Value) (q:∀v∈l,∃n ss,Hs s.heap v n ss),∃fs,KatTups s.heap l fs/\fs.length=l.length/\∀f∈fs,∃(x:Int) (t:Tok),f = .int x t:=by
   intro l
   induction l with
   | nil=>exact λ_=>⟨[],KatTups.nil,rfl,λ_ h=>by cases h⟩
   | cons v l ih=>
    intro q;obtain⟨fs,t1,t2,t3⟩:=ih λu hm=>q u (Ou _ hm);obtain⟨n,ss,a,o,xs,k,t,u,rfl,g1,g2,g3,g4,_⟩:=q v Ow;refine⟨.int n t::fs,KatTups.cons g1 g2 g3 ?_ t1,by simp[t2],λf hf=>?_⟩
    ·have:xs[0]? = xs.toList[0]?:=by simp
     rw[this,g4];rfl
    ·rcases O6.mp hf with e | e
     ·exact⟨_,_,e⟩
     ·exact t3 f e
  obtain⟨fs,t1,t2,t3⟩:=fst its λv hv=>by
   obtain⟨i,hi,rfl⟩:=Po.mp hv;have:=hp i (by omega);have e:its.getD i .none=its[i]:=by simp[List.getD,hi]
   rw[e] at this;exact⟨_,_,this⟩
  refine Te (kat_kind (T:=.type "int") t1 (by omega) (λv hm=>?_) (by decide) ?_)
  ·obtain⟨x,t,rfl⟩:=t3 v hm;exact .now
  have eb:((Value.type "int") != Value.type "tuple")=true:=by decide
  rw[eb];refine Te (wpAny_mono (Xmd (lt:=E3 Ts) (κ:=tuples' true) (ks:=its) (vs:=ps.map Value.ref) (Q:=λst' s'=>s'=s/\failedOf st'=none/\∃p,Gd ps.length p/\Bu (E3 Ts) p ps.length/\(arrOf st').map (·.2)=(p.toList.map λi=>(ps.map Value.ref).getD i Value.none).toArray)
   (by simp[hlen]) (by rw[Oo];omega) (by rw[Oo];exact h64) (by rw[Oo];exact L) (λi j C hi hj hC=>?_) (λp st' g so a2 a3=>by rw[Oo] at g so;exact⟨rfl,a3,p,g,so,kat_snds (by simp[hlen]) a2⟩)) ?_ λ_ _ e=>e)
  ·rw[Oo] at hi hj;show wpAny _ _ (keyLt' (tuples' true) (its.getD i Value.none) (its.getD j Value.none)) C _ _;exact Xlu hu (hp i hi) (hp j hj) hC
  rintro ⟨⟨⟩,st'⟩ s' ⟨rfl,hf,p,g,so,ea⟩
  try dsimp only
  refine Xes (out:=p.toList.map λi=>ps.getD i 0) I hD hnp hk (by rw[ea,outs p g]) hf (by rw[Oo,Ov,g.size];exact h64) λs' J=>h p s' g so J
end
section
variable {X:Cx}{pins:List (Addr×Obj)}{σ:L2.St}{H:Hp}{s:Shared}
theorem Xmh{D kS f:Addr}{e1:Nat}{ps:List Addr}{Ts:List (List Str)}{A:Around}{E:Value->Shared->Prop}{P:PySem.Fin->Shared->Prop}(hA:A=X.A.in1.in1)(I:Inv X ((D,seqObj "list" #[] e1)::pins) σ (upd H kS (.lst [])) s)(hkS:H kS=none)(hu:A.units<cLine)(hD:X.s₀.heap.objs.size<=D)(hnp:∀p∈X.pn++pins,p.1≠D)(hDn:H D=none)
  (hT:Tups H ps Ts) (nd:Ts.Nodup) (h64:ps.length<=64) (turn:Turns X f H ps Ts)
  (h:∀(p:Array Nat) (H':Hp) s',Gd ps.length p->Bu (E3 Ts) p ps.length->Same H H'->H' D=some (.lst ((p.toList.map λi=>ps.getD i 0).map V.ref))->Inv X pins σ H' s'->P (.done (.ret .none)) s'):
  wpAny (model X.prog X.w) A (ksk_rest D (.ref f) false (ps.map Value.ref).toArray e1 (.ref kS)) P E s:=by
 subst hA;unfold ksk_rest;refine Te (wpAny_rule ?_)
 first
  | rw[List.forIn_toArray]
  | (rw[<-Sc];simp only[List.toList_toArray])
  | rw[<-Sc]
 refine Te (ksk_fold (λi s'=>∃(H':Hp) (ks:List V),Inv X ((D,seqObj "list" #[] e1)::pins) σ H' s'/\Same H H'/\H' kS=some (.lst ks)/\ks.length=i/\∀j,j<i->∃t,ks[j]? = some (.ref t)/\H' t=some (.tup [.int (Ts.getD j []).length,.ref (ps.getD j 0)])) (ps.map Value.ref) 0 s
  ⟨_,[],I,Same.upd0 hkS,Ac,rfl,λj hj=>absurd hj (Qg _)⟩ ?step ?done)
 case step=>
  rintro j x s' hx ⟨H',ks,J,sm,hk,hkl,hks⟩;simp only[Ql] at hkl hks ⊢;obtain⟨hj,ex⟩:=Pb.mp hx;rw[Oo] at hj;have ex':x = .ref (ps.getD j 0):=by rw[<-ex];simp[List.getD,hj]
  subst ex';refine Te (wpAny_attempt (wpAny_mono (turn _ σ s' H' j hj sm J) (λv s'' he=>?_) λ_ _ hF=>hF.elim));obtain⟨t,H2,rfl,J2,ht,sm2⟩:=he
  try dsimp only
  have hk2:=sm2 _ _ hk;obtain⟨z,its,n,r,hl,e⟩:=J2.lstM hk2;have ntk:t≠kS:=λq=>by rw[q,hk2] at ht;cases ht
  refine Te (listUpdate_at e rfl ?_ (by rw[Ox,<-hl];exact z) (by rw[Array.size_push,Ox,<-hl,hkl,Ti];omega));refine Tf ⟨rfl,_,ks++[.ref t],J2.lset (ys:=ks++[.ref t]) (its':=its++[.ref t]) (t':=s''.toks) hk2 e (by simp) (r.append (.cons (show Ah (.ref t) (.ref t) from rfl) .nil)) (by rw[Oy,Qd,hkl,Ti];omega),(sm.trans sm2).upd hkS,Ac,by simp[hkl],λi hi=>?_⟩;by_cases q:i=j
  ·subst q;exact⟨t,by rw[Rc (by omega),hkl];simp,by rw[Ad ntk];exact ht⟩
  ·obtain⟨t',a1,a2⟩:=hks i (by omega);refine⟨t',by rw[Qw (by omega)];exact a1,?_⟩;rw[Ad λq=>by rw[q,hk] at a2;cases a2];exact sm2 _ _ a2
 case done=>
  rintro s' ⟨H',ks,J,sm,hk,hkl,hks⟩;simp only[Ql,Oo] at hkl hks
  try dsimp only
  obtain⟨z,its,n,r,hl,e⟩:=J.lstM hk;refine Te (listItems_at e rfl ?_);have hTs:=hT.same sm;have nkD:kS≠D:=λq=>by
   obtain⟨_,hn,_⟩:=J.pin (D,seqObj "list" #[] e1) (Pm _ Ow);have hn:H' D=none:=hn;rw[<-q,hk] at hn;cases hn
  refine Xmg (ks:=ks) J hu hD hnp hk (by omega) hT.1 nd (λi hi=>?_) h64 λp s2 g so J2=>h p _ s2 g so ((sm.upd hkS).upd hDn) Ac J2;obtain⟨t,a1,a2⟩:=hks i hi;obtain⟨u,hu1,hu2⟩:=r.get a1;have hu2:u=Value.ref t:=hu2;have e2:its.getD i .none = .ref t:=by simp[List.getD,hu1,hu2]
  rw[e2];exact Xmf J a2 (hTs.2 i hi)
theorem Xmi{l f:Addr}{ps:List Addr}{Ts:List (List Str)}{Q:VK}(I:Inv X pins σ H s)(hu:X.A.in1.in1.units<cLine)(hl:H l=some (.lst (ps.map V.ref)))(hT:Tups H ps Ts)(nd:Ts.Nodup)(h64:ps.length<=64)(turn:Turns X f H ps Ts)
  (h:∀(D:Addr) (p:Array Nat) (H':Hp),H D=none->Gd ps.length p->Bu (E3 Ts) p ps.length->Same H H'->H' D=some (.lst ((p.toList.map λi=>ps.getD i 0).map V.ref))->Q (.ref D) H'):
  wpAny (model X.prog X.w) X.A (call (.builtin "sorted") [.ref l] [(Str.ofString "key",.ref f)]) (EP X pins σ Q) X.xe s:=by
 obtain⟨its,rv,pl,hz⟩:=I.list (SqL.of hl);have hits:its=ps.map Value.ref:=by
  clear hT h64 turn h pl hl hz
  induction ps generalizing its with
  | nil=>cases rv;rfl
  | cons p t ih=>
   cases rv with
   | cons r t'=>cases r;rw[ih _ t'];rfl
 subst hits;refine call_function_entry_kw kind_sorted plain_sorted entry_sorted (ksk_s1 _ _) ?_;unfold Builtin.«sorted»;refine Te (m:=checkCount "sorted" 1 1 _) (Tf ?_);refine Te (collect_list pl.isList ?_ (by rw[Oo,Ti];omega));refine Te (wpAny_newList ?_ (by rw[Oo,Ti];omega));generalize hvs:ps.map Value.ref=vs at *;have hvl:vs.length=ps.length:=by rw[<-hvs,Oo]
 have hsz:((s.heap.push (seqObj "list" #[] 0)).update s.heap.objs.size (Obj.mapSeq (· ++ vs.toArray))).objs.size=s.heap.objs.size+1:=by
  rw[Heap.size_update,size_push']
 have hoL:(((s.heap.push (seqObj "list" #[] 0)).update s.heap.objs.size (Obj.mapSeq (· ++ vs.toArray))).push (seqObj "list" vs.toArray 0)).get? (s.heap.objs.size+1)=some (seqObj "list" vs.toArray 0):=by
  rw[<-hsz];exact Heap.get?_push_size _ rfl
 have keep:∀b o,s.heap.get? b=some o->(((s.heap.push (seqObj "list" #[] 0)).update s.heap.objs.size (Obj.mapSeq (· ++ vs.toArray))).push (seqObj "list" vs.toArray 0)).get? b=some o:=λb o q=>by
  have hlt:b<s.heap.objs.size:=Tq q;rw[Heap.get?_push_ne _ _ _ (by rw[hsz];exact O1 (Qk hlt)),Heap.get?_update_ne _ _ _ _ (O1 hlt),Heap.get?_push_ne _ _ _ (O1 hlt)];exact q
 have hszA:(((s.heap.push (seqObj "list" #[] 0)).update s.heap.objs.size (Obj.mapSeq (· ++ vs.toArray))).push (seqObj "list" vs.toArray 0)).objs.size=s.heap.objs.size+2:=by
  rw[size_push',hsz]
 show wpAny _ _ _ _ _ {s with heap:=((s.heap.push (seqObj "list" #[] 0)).update s.heap.objs.size (Obj.mapSeq (· ++ vs.toArray))).push (seqObj "list" vs.toArray 0)};rw[hsz];generalize hhA:((s.heap.push (seqObj "list" #[] 0)).update s.heap.objs.size (Obj.mapSeq (· ++ vs.toArray))).push (seqObj "list" vs.toArray 0)=hA at *;refine Te (wpAny_holding (wpAny_call_entry_kw slot_list_sort ⟨_,hoL,rfl⟩ entry_list_sort ?body (ksk_l1 _ _)))
 case body=>
  show wpAny (model X.prog X.w) X.A.in1.in1 (Builtin.«list.sort» ⟨[.ref (s.heap.objs.size+1)],[(Str.ofString "key",.ref f)]⟩) _ _ _;rw[ksk_t1];unfold ksk_tree;refine Te (listItems_at hoL rfl ?_);refine Te (listUpdate_at hoL rfl ?_ (by rw[Ox,hvl,Ti];omega) (Pq _));obtain⟨e1,ho1⟩:∃e1,(hA.update (s.heap.objs.size+1) (Obj.mapSeq λ_=>(#[]:Array Value))).get? (s.heap.objs.size+1)=some (seqObj "list" #[] e1):=⟨_,get?_update_seq hoL λ_ => #[]⟩;refine Te (seqEpoch_at ho1 rfl ?_);refine Te (wpAny_newTuple ?_ (by show vs.length<=_;rw[hvl,Ti];omega));refine Te (wpAny_newList ?_ (Pq _));refine wpAny_holding ?_;have hkS:((hA.update (s.heap.objs.size+1) (Obj.mapSeq λ_=>(#[]:Array Value))).push (seqObj "tuple" vs.toArray 0)).objs.size=s.heap.objs.size+3:=by rw[size_push',Heap.size_update,hszA]
  have k6:∀b o,s.heap.get? b=some o->(((hA.update (s.heap.objs.size+1) (Obj.mapSeq λ_=>(#[]:Array Value))).push (seqObj "tuple" vs.toArray 0)).push (seqObj "list" #[] 0)).get? b=some o:=λb o e=>by
   refine Tr _ (Tr _ ?_);rw[Heap.get?_update_ne _ _ _ _ (O1 (Qk (Tq e)))];exact keep b o e
  have ho6:(((hA.update (s.heap.objs.size+1) (Obj.mapSeq λ_=>(#[]:Array Value))).push (seqObj "tuple" vs.toArray 0)).push (seqObj "list" #[] 0)).get? (s.heap.objs.size+1)=some (seqObj "list" #[] e1):=Tr _ (Tr _ ho1);have hk6:(((hA.update (s.heap.objs.size+1) (Obj.mapSeq λ_=>(#[]:Array Value))).push (seqObj "tuple" vs.toArray 0)).push (seqObj "list" #[] 0)).get? (s.heap.objs.size+3)=some (seqObj "list" #[] 0):=by rw[<-hkS];exact Heap.get?_push_size _ rfl
  have J0:Inv X pins σ (upd H (s.heap.objs.size+3) (.lst [])) {s with heap:=((hA.update (s.heap.objs.size+1) (Obj.mapSeq λ_=>(#[]:Array Value))).push (seqObj "tuple" vs.toArray 0)).push (seqObj "list" #[] 0)}:=
   I.laid (t':=s.toks) (o:=.lst []) k6 (by omega) ⟨by decide,[],0,.nil,hk6⟩
  have hDn:H (s.heap.objs.size+1)=none:=I.hok.fresh (Qt _);have hnp:∀p∈X.pn++pins,p.1≠s.heap.objs.size+1:=λp hp=>O1 (Qk (Tq (I.pin p hp).1));have J1:Inv X ((s.heap.objs.size+1,seqObj "list" #[] e1)::pins) σ (upd H (s.heap.objs.size+3) (.lst [])) {s with heap:=((hA.update (s.heap.objs.size+1) (Obj.mapSeq λ_=>(#[]:Array Value))).push (seqObj "tuple" vs.toArray 0)).push (seqObj "list" #[] 0)}:=by
   refine J0.pins_of λp hp=>?_;rcases O6.mp hp with rfl | hp
   ·exact⟨ho6,by rw[Ad (by show s.heap.objs.size+1≠s.heap.objs.size+3;omega)];exact hDn,Ta (Qk I.lt),I.nofs (Qt _),λv q=>by cases q⟩
   ·exact J0.pin p (Pm _ hp)
  rw[hkS];subst hvs;refine Xmh (f:=f) rfl J1 (I.hok.fresh (by omega)) hu (Pr I.sz (Qt _)) hnp hDn hT nd h64 turn λp H' s' g so sm hD' J=>⟨_,rfl,?_⟩;exact Tf ⟨_,rfl,⟨.ref (s.heap.objs.size+1),H',J,rfl,h _ p H' hDn g so sm hD'⟩⟩
end
structure FunT (K:PySem.W.Frag) (x:Str) (st:Stmt) (f:Addr) (fd:FuncData) (T:Addr):Prop where
 ex:∃(oc:Value) (od:Option Addr) (kV doc pm:Value) (an:Option Addr) (c0:Addr) (ct:Value) (osl:Array (Option Value)),
  fd=PySem.W.fnOf x x (D7 st) (Cw st) (defScope st) .none kV doc pm an (.ref c0) ct/\K.lookup f=some ⟨oc,od,.func fd,osl⟩/\PySem.W.codeIn K (.ref c0) x=true/\PySem.W.codeHdIn K c0 T=true
 kp:PySem.W.keepIn K (.ref f)=true
structure DefT (K:PySem.W.Frag) (x:Str) (st:Stmt) (T:Addr):Prop where
 ex:∃f fd,PySem.W.nsIn K mainGlobals x=some (some (.ref f))/\PySem.W.keepIn K (.ref f)=true/\FunT K x st f fd T/\Fun K x x st f fd
theorem DefT.of{K:PySem.W.Frag}{x:Str}{st:Stmt}{f c0 T:Addr}{oc:Value}{od an:Option Addr}{osl:Array (Option Value)}{kV doc pm ct:Value}(a:PySem.W.nsIn K mainGlobals x=some (some (.ref f)))
  (l:K.lookup f=some ⟨oc,od,.func (PySem.W.fnOf x x (D7 st) (Cw st) (defScope st) .none kV doc pm an (.ref c0) ct),osl⟩) (c:PySem.W.codeIn K (.ref c0) x=true) (k:PySem.W.keepIn K (.ref f)=true) (t:PySem.W.codeHdIn K c0 T=true):DefT K x st T:=
 ⟨⟨f,_,a,k,⟨⟨oc,od,kV,doc,pm,an,c0,ct,osl,rfl,l,c,t⟩,k⟩,Xbo l c k⟩⟩
section
variable {P:Program}{w:World}{K:PySem.W.Frag}{mg:Str->Option Value}{base:Heap}
theorem FunT.ok{x:Str}{st:Stmt}{f T:Addr}{fd:FuncData}{N ps:List Str}{k:Nat}{sp:Sp}(F:FunT K x st f fd T)(S:FnScope N ps (defScope st))(len:∀vs H Q E,sp vs H Q E->vs.length=ps.length)
  (hbody:∀(c0:Addr),PySem.W.codeHdIn K c0 T=true->∀(A:Around) (outer:List Env) (s:Shared) (H:Hp) (vs:List V) (Q:VK) (E:XK),Room k (A.deeper (envOfC x (defScope st) s.heap.objs.size f (.ref c0)))->sp vs H Q E ->
   ∃t,PSs (Cj CX0 P w K mg base N x (defScope st) f (.ref c0) A outer s H E).nox (Cw st) t/\t {nx:=λ_ H'=>Q .non H',rt:=Q} (start N vs) H):FnOk P w K mg base CX0 (k+1) f fd ps sp:=by
 obtain⟨oc,od,kV,doc,pm,an,c0,ct,osl,rfl,lk,hcd,hhd⟩:=F.ex;refine Li lk hcd S len λA outer s H vs Q E hr hsp=>?_;obtain⟨t,h,q⟩:=hbody c0 hhd A outer s H vs Q E hr hsp;exact⟨t,h.nox,q⟩
end
section
variable {X:Cx}
def Xmj (X:Cx) (ta tk:TA):TE:=fun σ H Q=>ta σ H λvs H1=>tk σ H1 λzs H2=>∃(l f:Addr) (ps:List Addr) (Ts:List (List Str)),vs=[.ref l]/\zs=[.ref f]/\H2 l=some (.lst (ps.map V.ref))/\Tups H2 ps Ts/\Ts.Nodup/\ps.length<=64/\Turns X f H2 ps Ts /\
 ∀(D:Addr) (p:Array Nat) (H':Hp),H2 D=none->Gd ps.length p->Bu (E3 Ts) p ps.length->Same H2 H'->H' D=some (.lst ((p.toList.map λi=>ps.getD i 0).map V.ref))->Q (.ref D) H'
theorem Xmk{x:Str}{p pos:Pos}{e:Expr}{es:List Expr}{kws:List Keyword}{ta tk:TA}(hu:X.A.in1.in1.units<cLine)(hg:Gl X x)(hm:X.mg x=none)(hv:bootBuiltins x=some (.builtin "sorted"))(ha:PA X (e::es) ta)(hkw:PK X kws tk)
  (hks:(backToKw pos (keywordEach kws X.env)).filterMap (·.1)=[Str.ofString "key"]:=by rfl)
  (hn:x ≠ "__name__" := by decide) (hdb:(x==("__debug__" : Str))=false:=by decide)
  (he:backTo pos (starEach (e::es) X.env)=(false,eval e X.env)::backTo pos (starEach es X.env):=by rfl)
  (hplain:(backTo pos (starEach (e::es) X.env)).any (·.1)=false:=by rfl)
  (hall:(backToKw pos (keywordEach kws X.env)).all (·.1.isSome)=true:=by rfl)
  (hno:(backToKw pos (keywordEach kws X.env)).any (·.1.isNone)=false:=by rfl):PE X (.Call (.Name x p) (e::es) kws pos) (Xmj X ta tk):=by
 intro pins s σ H Q I h;refine wpAny_Call_Name_kw (Fr I hg hm hv ?_ hn hdb);refine callWith_kw (thn (ha pos pins s σ H _ I h) λus s1 ⟨vs,H1,I1,r1,q1⟩=>thn (hkw pos pins s1 σ H1 _ I1 q1) λws s2 ⟨zs,H2,I2,r2,q2⟩=>?_) he hplain hall hno;rw[hks];obtain⟨l,f,ps,Ts,rfl,rfl,hl,hT,nd,h64,turn,k⟩:=q2;obtain⟨u,rfl,rx⟩:=B4 r1;obtain⟨v,rfl,rf⟩:=B4 r2;cases rx;cases rf;exact Xmi I2 hu hl hT nd h64 turn k
theorem Xml{k:Nat}{f c:Addr}{x qual:Str}{params:Arguments}{body:Expr}{scope:Scope}{pm ctv:Value}{H:Hp}{ps:List Addr}{Ts:List (List Str)}(hf:H f=some (.ext (Ey f (PySem.W.kla_fn "<lambda>" qual params body scope [] pm (.ref c) ctv))))(hc:H c=some (.ext (Ex c qual)))
  (S:FnScope [x] [x] scope) (hr:Room (k+3) X.A) (hb:∀u,bindArgs (PySem.W.kla_fn "<lambda>" qual params body scope [] pm (.ref c) ctv) ⟨[u],[]⟩=pure ([x].zip [u]))
  (hkey:∀(A:Around) (outer:List Env) (s1:Shared) (H1:Hp) (i:Nat),i<ps.length->Same H H1->Room k (A.deeper (envOfC qual scope s1.heap.objs.size f (.ref c)))->∃t,PE (Cj CX0 X.prog X.w X.K X.mg X.base [x] qual scope f (.ref c) A outer s1 H1 E0) body t /\
   ∀Q:VK,(∀t H2,H2 t=some (.tup [.int (Ts.getD i []).length,.ref (ps.getD i 0)])->Same H1 H2->Q (.ref t) H2)->t (start [x] [.ref (ps.getD i 0)]) H1 Q):Turns X f H ps Ts:=by
 intro pins σ s1 H1 i hi sm I;have hr1:Room (k+1) X.A.in1.in1:=(Room.in1 (k:=k+2) hr).in1;obtain⟨t,ht,hq⟩:=hkey X.A.in1.in1 X.stack s1 H1 i hi sm (hr1.deeper _);refine wpAny_call (codeAny_mono (Xj7 (Q:=λv H2=>∃t,v = .ref t/\H2 t=some (.tup [.int (Ts.getD i []).length,.ref (ps.getD i 0)])/\Same H1 H2) (sm _ _ hf) (sm _ _ hc) S hr1 I.env0.in1.in1 rfl (.cons (show Ah (.ref (ps.getD i 0)) (.ref (ps.getD i 0)) from rfl) .nil) (hb _) ht (hq _ λt H2 a b=>⟨t,rfl,a,b⟩)) λr s' hq'=>?_);cases r with
 | error e=>exact hq'.elim
 | ok fl=>
  cases fl with
  | next=>exact False.elim hq'
  | brk=>exact False.elim hq'
  | cont=>exact False.elim hq'
  | ret u=>
   obtain⟨v,H2,J,rv,t,rfl,a,b⟩:=I.after hq';exact⟨t,H2,rv,J,a,b⟩
end
end L2
namespace SH
open PySem PySem.Spec PyProof.Rows L2
theorem Np{how:Str}{off:Bool}:Eb how off=true↔(how = "within" -> off=true)/\(how = "apart" -> off=false):=by
 unfold Eb;by_cases h:how = "within"
 ·rw[Tk h];have n:how ≠ "apart" := by rw[h];decide
  exact⟨λz=>⟨λ_=>z,λz=>absurd z n⟩,λz=>z.1 h⟩
 ·rw[Tj h];by_cases g:how = "apart"
  ·rw[Tl g];constructor
   ·exact λz=>⟨λq=>absurd q h,λ_=>by simpa using z⟩
   ·intro z;rw[z.2 g];rfl
  ·rw[Tm g];exact⟨λ_=>⟨λq=>absurd q h,λq=>absurd q g⟩,λ_=>rfl⟩
theorem Fl{row S:List Str}:Ae row S=true↔S.Pairwise ltS/\(∀x∈S,x∈row)/\(∀x∈S,∀y∈row,lieR row x y = "within" -> y∈S)/\(∀x∈S,∀y∈S,lieR row x y ≠ "apart"):=by
 constructor
 ·intro h;obtain⟨h1,h2⟩:=Da h;unfold Ae at h;rw[O9] at h;have al:∀x∈S,∀y∈row,Eb (lieR row x y) (decide (y∈S))=true:=λx hx y hy=>Pl.mp (Pl.mp h.2 x hx) y (Ao.mpr hy);refine⟨h2,h1,λx hx y hy e=>Tn ((Np.mp (al x hx y hy)).1 e),λx hx y hy e=>?_⟩;have:=(Np.mp (al x hx y (h1 y hy))).2 e;rw[Tl hy] at this;cases this
 ·rintro ⟨h1,h2,h3,h4⟩;unfold Ae;rw[O9,O9];refine⟨⟨Tl (J3 h1).symm,Pl.mpr λx hx=>Tl (h2 x hx)⟩,Pl.mpr λx hx=>Pl.mpr λy hy=>Np.mpr ⟨λe=>Tl (h3 x hx y (Ao.mp hy) e),λe=>Tm λz=>h4 x hx y z e⟩⟩
theorem Kp{a b c e:Int}(h:lieT a b c e = "within"):c<a/\a<e/\c<b/\b<e:=by
 unfold lieT at h;split at h
 ·exact absurd h (by decide)
 ·split at h
  ·exact absurd h (by decide)
  ·split at h
   ·rename_i q;rw[Cb] at q;by_cases p1:c<a/\a<e
    ·by_cases p2:c<b/\b<e
     ·exact⟨p1.1,p1.2,p2.1,p2.2⟩
     ·rw[Tk p1,Tj p2] at q;omega
    ·rw[Tj p1] at q;split at q<;>omega
   ·split at h
    ·exact absurd h (by decide)
    ·exact absurd h (by decide)
theorem Xmm{row:List Str}{x y:Str}(hx:row.count x=2)(h:lieR row x y = "within"):span row x<span row y:=by
 have l1:=Ca hx;obtain⟨h1,h2,h3,h4⟩:=Kp h;unfold span;omega
theorem Xmn{S:List Str}{p:Str->Bool}(h:S.Pairwise ltS):(S.filter p).Pairwise ltS:=h.filter p
theorem Xmo{row S:List Str}(h2:∀y∈row,row.count y=2)(h:Ae row S=true)(ne:S≠[]):∃x∈S,Ae row (S.filter λy=>decide (y≠x))=true:=by
 obtain⟨p1,p2,p3,p4⟩:=Fl.mp h;obtain⟨x,hx,lx⟩:=least (span row) S ne;refine⟨x,hx,Fl.mpr ⟨Xmn p1,λy hy=>p2 y (O0.mp hy).1,λy hy z hz e=>?_,λy hy z hz=>p4 y (O0.mp hy).1 z (O0.mp hz).1⟩⟩;obtain⟨hy1,hy2⟩:=O0.mp hy;refine O0.mpr ⟨p3 y hy1 z hz e,Tl λq=>?_⟩;subst q;have:=Xmm (h2 y (p2 y hy1)) e;have:=lx y hy1;omega
theorem Xet{S:List Str}{x:Str}(h:S.Pairwise ltS)(hx:x∈S):srt ((S.filter λy=>decide (y≠x))++[x])=S:=by
 have nd:=Ec h;refine Eu ((Cg _).trans (F4 ?_ nd λy=>?_)) (Du _) (Jy h)
 ·rw[Qb];refine⟨nd.filter _,by simp,λa ha b hb e=>?_⟩;rw[Ot.mp hb] at e;exact Tn (O0.mp ha).2 e
 ·rw[Oz,Ot,O0];constructor
  ·rintro (z | z)
   ·exact z.1
   ·rw[z];exact hx
  ·intro z;by_cases e:y=x
   ·exact .inr e
   ·exact .inl ⟨z,Tl e⟩
theorem Xmp{S:List Str}{x:Str}(h:S.Pairwise ltS)(hx:x∈S):(S.filter λy=>decide (y≠x)).length+1=S.length:=by
 have e:=Xet h hx;have:=congrArg List.length e;rw[(Cg _).length_eq,Oy] at this;exact this
theorem Nq{H:Hp}:∀{Ts:List (List Str)} {xs:List V},DAll H (Ts.map tupD) xs->∃ps:List Addr,xs=ps.map V.ref/\Tups H ps Ts
 | [],xs,h=>by unfold List.map DAll at h;exact⟨[],h,Tups.nil H⟩
 | T::Ts,xs,h=>by
  rw[Pg] at h;unfold DAll at h;obtain⟨v,vr,rfl,h1,h2⟩:=h;obtain⟨p,ys,rfl,hp,hy⟩:=Mm h1;rw[Hl hy] at hp;obtain⟨ps,rfl,hq⟩:=Nq h2;exact⟨p::ps,rfl,Tups.cons hp hq⟩
theorem Xeu{H:Hp}:∀{ps:List Addr} {Ts:List (List Str)},Tups H ps Ts->DAll H (Ts.map tupD) (ps.map V.ref)
 | [],Ts,h=>by
  have:Ts=[]:=Py.mp h.1.symm;rw[this];unfold List.map DAll;rfl
 | p::ps,[],h=>by have:=h.1;simp at this
 | p::ps,T::Ts,h=>by
  rw[Pg,Pg];unfold DAll;exact⟨.ref p,ps.map V.ref,rfl,Gc (h.2 0 (by simp)),Xeu ⟨by simpa using h.1,λi hi=>by simpa using h.2 (i+1) (by simpa using hi)⟩⟩
theorem Xmq{row T:List Str}(h2:∀y∈row,row.count y=2)(h:Ae row T=true):C2 (bars row) T=true:=by
 rw[<-M8 h2] at h;unfold Hm at h;rw[O9] at h;exact h.2
def Cov (row:List Str) (Us:List (List Str)) (j:Nat) (Ts:List (List Str)):Prop:=∀i,i<j->∀x∈row,x∉Us.getD i []->Ae row (srt (Us.getD i []++[x]))=true->srt (Us.getD i []++[x])∈Ts
theorem Kq{α : Type}{R : α -> α->Prop}(irr:∀a,¬R a a)(tr:∀a b c,R a b->R b c->R a c):∀{A B:List α},A.Pairwise R->B.Pairwise R->(∀x,x∈A↔x∈B)->A=B
 | [],[],_,_,_=>rfl
 | [],b::_,_,_,h=>absurd ((h b).mpr Ow) (by simp)
 | a::_,[],_,_,h=>absurd ((h a).mp Ow) (by simp)
 | a::A,b::B,hA,hB,h=>by
  obtain⟨a1,a2⟩:=Ri.mp hA;obtain⟨b1,b2⟩:=Ri.mp hB;have e:a=b:=by
   rcases O6.mp ((h a).mp Ow) with z | z
   ·exact z
   ·rcases O6.mp ((h b).mpr Ow) with u | u
    ·exact u.symm
    ·exact absurd (tr _ _ _ (a1 b u) (b1 a z)) (irr a)
  subst e;rw[Kq irr tr a2 b2 λx=>?_];constructor
  ·intro hx;rcases O6.mp ((h x).mp (Ou _ hx)) with z | z
   ·exact absurd (z ▸ a1 x hx) (irr a)
   ·exact z
  ·intro hx;rcases O6.mp ((h x).mpr (Ou _ hx)) with z | z
   ·exact absurd (z ▸ b1 x hx) (irr a)
   ·exact z
def LayC (row:List Str) (n:Nat) (Us:List (List Str)):Prop:=∀T,T∈Us↔Ae row T=true/\T.length=n
end SH
namespace L2
open PySem PySem.Spec PyProof.Rows
theorem Xmr{X:Cx}{tg l:Expr}{tl:TE}(K:PySem.W.Frag)(h:X.K=K)(hl:PE X l tl):PI X tg l (Xaj K tl):=by subst h;exact Bq hl
end L2
namespace SH
open PySem PySem.Spec PyProof.Rows L2
def spOne:Sp:=λvs H Q _=>∃(dr sc l:Addr) (xs:List V),vs=[.ref dr,.ref l]/\DrawOk H dr sc/\H l=some (.lst xs)/\l≠dr/\0<xs.length/\xs.length<=1000 /\
 ∀(i:Nat) (H':Hp),i<xs.length->DrawOk H' dr sc->But dr H H'->Q (xs.getD i .non) H'
def mostL (a b c:List Str):List Str:=srt ((a.filter λx=>decide (x∈b)||decide (x∈c))++(b.filter λx=>decide (x∈c) && !decide (x∈a)))
theorem Xev{a b:List Str}(ha:a.Pairwise ltS)(hb:b.Pairwise ltS)(h:∀x,x∈a↔x∈b):a=b:=Kq Je (λ_ _ _=>Jf) ha hb h
end SH
set_option maxHeartbeats 3200000
namespace L2
open PySem PySem.Spec PyProof.Rows PySem.Calls
def it5 (mask:Nat):Nat->Nat->Nat
 | 0,i=>i
 | m+1,i=>it5 mask m ((i * 5+1) % (mask+1))
theorem Xms:∀i<8,∀j<8,∃m<8,it5 7 m i=j:=by decide +kernel
theorem Xmt:∀i<16,∀j<16,∃m<16,it5 15 m i=j:=by decide +kernel
theorem Xmu:∀i<32,∀j<32,∃m<32,it5 31 m i=j:=by decide +kernel
def Mask (mask:Nat):Prop:=mask=7\/mask=15\/mask=31
theorem Xmv{mask:Nat}(h:Mask mask):∀i<mask+1,∀j<mask+1,∃m<mask+1,it5 mask m i=j:=by
 rcases h with rfl | rfl | rfl
 ·exact Xms
 ·exact Xmt
 ·exact Xmu
section
variable {mask:Nat}{owner:Array (Option Nat)}
abbrev Free (owner:Array (Option Nat)) (j:Nat):Prop:=owner.getD j (some 0)=none
theorem Xew(fuel i p:Nat):(∃j,SetTable.layClean.free mask owner (fuel+1) i p=some j/\Free owner j) \/
  (¬Free owner i/\SetTable.layClean.free mask owner (fuel+1) i p=SetTable.layClean.free mask owner fuel ((i * 5+1+p / 32) % (mask+1)) (p / 32)):=by
 rw[SetTable.layClean.free];cases hf:(List.range (SetTable.runEnd mask i+1 - i)).find? λk=>(owner.getD (i+k) (some 0)).isNone with
 | some k=>
  left;refine⟨i+k,rfl,?_⟩;have:=List.find?_some hf;exact Option.isNone_iff_eq_none.mp this
 | none=>
  right;refine⟨λz=>?_,rfl⟩;rw[List.find?_eq_none] at hf;have hr:0<SetTable.runEnd mask i+1 - i:=by
   unfold SetTable.runEnd;split<;>omega
  have:=hf 0 (P6.mpr hr);rw[Nat.add_zero] at this;have z:owner.getD i (some 0)=none:=z;rw[z] at this;exact this rfl
theorem Xex:∀fuel i,(∃m,m<fuel/\Free owner (it5 mask m i))->∃j,SetTable.layClean.free mask owner fuel i 0=some j/\Free owner j
 | 0,_,⟨_,h,_⟩=>absurd h (Qg _)
 | fuel+1,i,⟨m,hm,hf⟩=>by
  rcases Xew (mask:=mask) (owner:=owner) fuel i 0 with h | ⟨h1,h2⟩
  ·exact h
  ·rw[h2];cases m with
   | zero=>exact absurd hf h1
   | succ m=>exact Xex fuel _ ⟨m,by omega,hf⟩
theorem Xey:∀c fuel i p,p<32 ^ c->i<mask+1->(∀i,i<mask+1->∃m,m<fuel/\Free owner (it5 mask m i))->∃j,SetTable.layClean.free mask owner (fuel+c) i p=some j/\Free owner j
 | 0,fuel,i,p,hp,hi,h=>by
  have:p=0:=by omega
  subst this;exact Xex fuel i (h i hi)
 | c+1,fuel,i,p,hp,hi,h=>by
  rcases Xew (mask:=mask) (owner:=owner) (fuel+c) i p with h' | ⟨_,h2⟩
  ·exact h'
  ·rw[<-Nat.add_assoc,h2];exact Xey c fuel _ _ (by rw[Nat.pow_succ] at hp;omega) (S5 _ (by omega)) h
def Dd (owner:Array (Option Nat)):List Nat:=owner.toList.filterMap id
theorem Xmw{j k:Nat}(h:Free owner j):(Dd (owner.setIfInBounds j (some k))).Perm (k::Dd owner):=by
 have hj:j<owner.size:=by
  by_cases q:j<owner.size
  ·exact q
  ·have h:owner.getD j (some 0)=none:=h;simp[Array.getD,q] at h
 have h':owner.toList[j]'(by simpa using hj)=none:=by
  have h:owner.getD j (some 0)=none:=h;simpa [Array.getD,hj] using h
 unfold Dd;rw[Array.toList_setIfInBounds];have e:∀(l:List (Option Nat)) (j:Nat) (hj:j<l.length),l[j]=none->((l.set j (some k)).filterMap id).Perm (k::l.filterMap id):=by
  intro l
  induction l with
  | nil=>intro j hj;exact absurd hj (Qg _)
  | cons o l ih=>
   intro j hj hn;cases j with
   | zero=>
    have:o=none:=hn;subst this;simp
   | succ j=>
    have:=ih j (by simpa using hj) (by simpa using hn);cases o with
    | none=>simpa using this
    | some v=>
     simp only[List.set_cons_succ,Qr,id];exact(this.cons v).trans (List.Perm.swap k v _)
 exact e _ j (by simpa using hj) h'
theorem Xmx(hn:(Dd owner).length<owner.size):∃j,j<owner.size/\Free owner j:=by
 refine Classical.byContradiction λz=>?_;have all:∀o∈owner.toList,o≠none:=λo ho e=>by
  obtain⟨j,hj,e2⟩:=Po.mp ho;have hj':j<owner.size:=by simpa using hj
  refine z ⟨j,hj',?_⟩;show owner.getD j (some 0)=none;rw[<-e,<-e2];simp[Array.getD,hj']
 have:(Dd owner).length=owner.toList.length:=by
  unfold Dd;generalize owner.toList=l at all;clear hn z
  induction l with
  | nil=>rfl
  | cons o l ih=>
   cases o with
   | none=>exact absurd rfl (all none Ow)
   | some v=>
    have:=ih λo ho=>all o (Ou _ ho);simp only[Qr,id,Pc,this]
 exact absurd hn (by rw[this,Ov];exact P3 _)
end
theorem Xmy(h:Int):SetTable.bits h<32 ^ 14:=by
 unfold SetTable.bits;have h1:h % (2 ^ 64:Int)<2 ^ 64:=Ru _ (by decide);have h2:0<=h % (2 ^ 64:Int):=Sd _ (by decide);have:(h % (2 ^ 64:Int)).toNat<2 ^ 64:=by omega
 exact Pd this (by decide)
def Nr (mask:Nat) (acc:Option (Array (Option Nat)×Nat)) (h:Int):Option (Array (Option Nat)×Nat):=do
 let (owner,k) <-acc
 let j <-SetTable.layClean.free mask owner (SetTable.turns mask) (SetTable.bits h % (mask+1)) (SetTable.bits h)
 pure (owner.setIfInBounds j (some k),k+1)
theorem Xez{mask:Nat}(hm:Mask mask):∀(hs:List Int) (owner:Array (Option Nat)) (k:Nat),owner.size=mask+1->(Dd owner).Perm (List.range k)->k+hs.length<=mask ->
  ∃owner',hs.foldl (Nr mask) (some (owner,k))=some (owner',k+hs.length)/\owner'.size=mask+1/\(Dd owner').Perm (List.range (k+hs.length))
 | [],owner,k,h1,h2,_=>⟨owner,rfl,h1,h2⟩
 | h::hs,owner,k,h1,h2,h3=>by
  have hl:(Dd owner).length=k:=by rw[h2.length_eq,P2]
  rw[Pc] at h3;obtain⟨j0,hj0,hf0⟩:=Xmx (owner:=owner) (by omega);obtain⟨j,e,hf⟩:=Xey (mask:=mask) (owner:=owner) 14 (mask+1) (SetTable.bits h % (mask+1)) (SetTable.bits h) (Xmy h) (S5 _ (by omega)) λi hi=>by
   obtain⟨m,hm1,hm2⟩:=Xmv hm i hi j0 (by omega);exact⟨m,hm1,by rw[hm2];exact hf0⟩
  have e1:Nr mask (some (owner,k)) h=some (owner.setIfInBounds j (some k),k+1):=by
   show (do let j <-SetTable.layClean.free mask owner (SetTable.turns mask) (SetTable.bits h % (mask+1)) (SetTable.bits h);pure (owner.setIfInBounds j (some k),k+1))=_;have:SetTable.turns mask=mask+1+14:=by unfold SetTable.turns;omega
   rw[this,e];rfl
  rw[Rv,e1];obtain⟨o',a1,a2,a3⟩:=Xez hm hs (owner.setIfInBounds j (some k)) (k+1) (by simpa using h1) (by
   refine(Xmw hf).trans ((h2.cons k).trans ?_);rw[Qc];exact(List.perm_append_singleton k (List.range k)).symm) (by omega)
  rw[show k+(h::hs).length=k+1+hs.length by rw[Pc];omega];exact⟨o',a1,a2,a3⟩
theorem Xmz(mask:Nat)(hs:Array Int):SetTable.layClean mask hs=(hs.toList.foldl (Nr mask) (some (Array.replicate (mask+1) none,0))).map (·.1):=by
 unfold SetTable.layClean;rw[<-Array.foldl_toList];rfl
theorem Xe0:∀(owner:Array (Option Nat)),((List.range owner.size).filterMap λj=>(owner.getD j none).map (j, ·)).map (·.2)=Dd owner:=by
 intro owner;unfold Dd;rw[List.map_filterMap];have e:owner.toList=(List.range owner.size).map λj=>owner.getD j none:=by
  refine Rg (by simp) λi h1 h2=>?_;have:i<owner.size:=by simpa using h1
  simp[Array.getD,this]
 rw[e,List.filterMap_map];congr 1;funext j;show Option.map _ (Option.map _ (owner.getD j none))=owner.getD j none;cases owner.getD j none<;>rfl
theorem Xm0{mask finger moves:Nat}{led plain:Bool}{hs:Array Int}(hm:Mask mask)(hn:hs.size<=mask):
  ∃t o,SetTable.laid mask finger moves led plain hs=some (t,o)/\o.toList.Perm (List.range hs.size)/\t.fits hs.size=true/\t.led=led/\t.plain=plain:=by
 obtain⟨owner,e1,e2,e3⟩:=Xez hm hs.toList (Array.replicate (mask+1) none) 0 (by simp) (by
  unfold Dd;rw[Array.toList_replicate];have:∀n,(List.replicate n (none:Option Nat)).filterMap id=[]:=λn=>by
   induction n with
   | zero=>rfl
   | succ n ih=>rw[Qs];simpa using ih
  rw[this];exact Qn _) (by simpa using hn)
 rw[Ov,Ql] at e1 e3;have ec:SetTable.layClean mask hs=some owner:=by rw[Xmz,e1];rfl
 unfold SetTable.laid;rw[ec];refine⟨_,_,rfl,?_,?_,rfl,rfl⟩
 ·show (((List.range (mask+1)).filterMap λj=>(owner.getD j none).map (j, ·)).map (·.2)).Perm _;rw[<-e2,Xe0];exact e3
 ·have l1:(((List.range (mask+1)).filterMap λj=>(owner.getD j none).map (j, ·))).length=hs.size:=by
   have:=congrArg List.length (Xe0 owner);rw[Oo,e2,e3.length_eq,P2] at this;exact this
  simp only[SetTable.fits,SetTable.fill,O9,beq_iff_eq,decide_eq_true_eq,Ox,Oo,l1];exact⟨trivial,by simpa using hn⟩
theorem Xm1{mask finger moves:Nat}{led plain:Bool}(hm:Mask mask):∃t,SetTable.laid mask finger moves led plain #[]=some (t, #[])/\t.mask=mask/\t.place = #[]/\t.dummies = #[]/\t.led=led/\t.plain=plain:=by
 have ec:SetTable.layClean mask #[]=some (Array.replicate (mask+1) none):=rfl;unfold SetTable.laid;rw[ec];have l0:((List.range (mask+1)).filterMap λj=>((Array.replicate (mask+1) (none:Option Nat)).getD j none).map (j, ·))=[]:=by
  rw[List.filterMap_eq_nil_iff];intro j hj;have:j<mask+1:=P6.mp hj;simp[Array.getD,this]
 refine⟨⟨mask, #[], #[],finger,led,moves,plain⟩,?_,rfl,rfl,rfl,rfl,rfl⟩;show some (_,_)=_;rw[l0];rfl
def reord (es:Array (Int×Value)) (laid:Option (SetTable×Array Nat)):Sem (Array (Int×Value)×SetTable):=do
 let some (t,order):=laid | unsupported "internal:set-table-without-room"
 let es':=order.filterMap (es[·]?)
 if es'.size != es.size then unsupported "internal:set-table-lost-an-element"
 pure (es',t)
theorem Xm2(a:Addr)(wanted:Nat):setRelay a wanted=(do
  let (es,_,t) <-setState a
  if SetTable.sizeAbove wanted > sizeLine then unsupported "set:memory"
  let (es,t) <-reord es (t.relaid (es.map (·.1)) wanted)
  storeSet a es t):=rfl
theorem Xm3(s o:Addr)(each:Sem Unit):setMerge s o each=(do
  if s==o then return
  let (eo,epoch,to) <-setState o
  if eo.isEmpty then return
  setRoomFor s eo.size
  let (_,_,ts) <-setState s
  match ts.road to with
  | .slotForSlot=>storeSet s eo {to with finger:=ts.finger,led:=ts.led&&to.led,moves:=ts.moves,plain:=ts.plain&&to.plain}
  | .clean=>
   let (es,t) <-reord eo (SetTable.laid ts.mask ts.finger ts.moves (led:=ts.led&&to.led) (plain:=ts.plain&&to.plain) (eo.map (·.1)))
   storeSet s es t
  | .oneByOne=>
   for (h,x) in <-setWalkUnseen o [s] (some s) do
    let _ <-holding [x] (setAddHashed s x h)
    each
    if (<-setState o).2.1 != epoch then unsupported "set.changed-during-merge"):=rfl
def Nt (es:Array (Int×Value)) (t:SetTable):Sem Unit:=do
 if !t.led&&es.size > 1 then unsupported "set:maker-not-led"
theorem Xm4(a:Addr):setWalk a=(do
  let (es,epoch,t) <-setState a
  if <-setsByText then return pickOrder ((<-ask).params.setOrder a epoch) es
  if !t.plain&&decide (es.size > 1) then return (<-drawOrder es.size es.toList).toArray
  Nt es t
  return es):=rfl
theorem Xm5:∀m<16,5<=m->(SetTable.sizeAbove (m * 2) - 1=15\/SetTable.sizeAbove (m * 2) - 1=31)/\m<=SetTable.sizeAbove (m * 2) - 1/\¬SetTable.sizeAbove (m * 2) > sizeLine:=by decide +kernel
section
variable {P:Program}{w:World}{A:Around}{E:Value->Shared->Prop}{s:Shared}{a b c:Addr}{ks ls:List Str}
theorem wp_reord{es:Array (Int×Value)}{t:SetTable}{o:Array Nat}{Q:Array (Int×Value)×SetTable->Shared->Prop}(h:o.toList.Perm (List.range es.size))(q:∀es':Array (Int×Value),es'.toList.Perm es.toList->es'.size=es.size->Q (es',t) s):
  wpAny (model P w) A (reord es (some (t,o))) Q E s:=by
 have p:(o.filterMap (es[·]?)).toList.Perm es.toList:=by
  rw[Array.toList_filterMap];have:=h.filterMap (λi=>es[i]?)
  rwa [filterMap_getElem?_range] at this
 have z:(o.filterMap (es[·]?)).size=es.size:=by rw[<-Ov,p.length_eq,Ov]
 unfold reord;dsimp only;rw[z];simp only[bne_self_eq_false,Pf,if_false];exact Tf (q _ p z)
theorem Kr{Q:Bool->Shared->Prop}(hT:s.TypeIs (.ref a) "set")(h:Q true s):wpAny (model P w) A (Builtin.Frozenset.isAnySet (.ref a)) Q E s:=by
 unfold Builtin.Frozenset.isAnySet;show wpAny _ _ (isInstance (.ref a) (.type "set") >>= λb=>_) _ _ s;refine Te (wpAny_isInstance hT sub_set_self ?_);exact Tf h
theorem Xm6{Q:Value->Shared->Prop}(hT:s.TypeIs (.ref a) "set")(h:Q (.type "set") s):wpAny (model P w) A (Builtin.Frozenset.baseOf a) Q E s:=by
 unfold Builtin.Frozenset.baseOf;refine Te (wpAny_isInstance hT sub_set_self ?_);exact Tf h
theorem SSet.typeIs(S:SSet P w s.heap a ks):s.TypeIs (.ref a) "set" := by
 obtain⟨o,_,_,_,_,ho,hex,_⟩:=S;exact⟨o,ho,hex.1⟩
structure Nu (w:World) (h:Heap) (a:Addr) (n:Nat):Prop where
 ex:∃o ep t,h.get? a=some o/\o.ExactSet/\o.data = .set #[] ep t/\t.place = #[]/\t.dummies = #[]/\Mask t.mask/\n<=t.mask/\t.led = !Bd w/\t.plain=true
theorem Xm7{t:SetTable}(h1:t.place = #[])(h2:t.dummies = #[]):t.fits 0=true:=by
 simp[SetTable.fits,SetTable.fill,h1,h2]
theorem Xm8{n:Nat}{Q:Unit->Shared->Prop}{o:Obj}{ep:Nat}(ho:s.heap.get? a=some o)(hex:o.ExactSet)(hd:o.data = .set #[] ep (.fresh 0 0 (!Bd w)))(hn:n<16)
  (h:∀h',Heap.SameBut a s.heap h'->Nu w h' a n->Q () {s with heap:=h'}):wpAny (model P w) A (setRoomFor a n) Q E s:=by
 have hf:(SetTable.fresh 0 0 (!Bd w)).fits (#[]:Array (Int×Value)).size=true:=rfl;unfold setRoomFor;refine Te (wpAny_setState_of ho hd hf ?_);dsimp only;by_cases hr:n * 5 ≥ 21
 ·have e:(SetTable.fresh 0 0 (!Bd w)).roomFor n=some (n * 2):=by
   unfold SetTable.roomFor;rw[Tk (by show (0+0+n) * 5 ≥ 7 * 3;omega)];show some ((0+n) * 2)=_;rw[Ql]
  rw[e];dsimp only;rw[Xm2];refine Te (wpAny_setState_of ho hd hf ?_);dsimp only;obtain⟨m1,m2,m3⟩:=Xm5 n hn (by omega);have hM:Mask (SetTable.sizeAbove (n * 2) - 1):=.inr m1;rw[Tj m3];obtain⟨t,e1,t1,t2,t3,t4,t5⟩:=Xm1 (finger:=(SetTable.fresh 0 0 (!Bd w)).finger) (moves:=(SetTable.fresh 0 0 (!Bd w)).movedTo (SetTable.sizeAbove (n * 2) - 1)) (led := !Bd w) (plain:=true) hM;have e2:(SetTable.fresh 0 0 (!Bd w)).relaid ((#[]:Array (Int×Value)).map (·.1)) (n * 2)=some (t, #[]):=by
   unfold SetTable.relaid;rw[Array.map_empty];exact e1
  rw[e2];refine Te (wp_reord (es := #[]) (by simp) λes' p z=>?_);have:es' = #[]:=Array.eq_empty_of_size_eq_zero z;subst this;refine wpAny_storeSet_of ho hd ?_ (Pq _);have g:=Heap.get?_update_self (Obj.putSet #[] t) ho (by rw[putSet_of #[] t hd];rfl);rw[putSet_of #[] t hd] at g;exact h _ (Tt _ a _) ⟨_,ep+1,t,g,hex,rfl,t2,t3,by rw[t1];exact hM,by rw[t1];exact m2,t4,t5⟩
 ·have e:(SetTable.fresh 0 0 (!Bd w)).roomFor n=none:=by
   unfold SetTable.roomFor;rw[Tj (by show ¬(0+0+n) * 5 ≥ 7 * 3;omega)]
  rw[e];exact Tf (h _ (Heap.SameBut.refl a _) ⟨o,ep,_,ho,hex,hd,rfl,rfl,.inl rfl,by show n<=7;omega,rfl,rfl⟩)
theorem Xm9{id:String}{Q:Unit->Shared->Prop}{o:Obj}{ep:Nat}(ho:s.heap.get? c=some o)(hex:o.ExactSet)(hd:o.data = .set #[] ep (.fresh 0 0 (!Bd w)))(S:SSet P w s.heap b ls)(hl:ls.length<16)(hcb:c≠b)
  (h:∀h',Heap.SameBut c s.heap h'->SSet P w h' c ls->Q () {s with heap:=h'}):wpAny (model P w) A (Builtin.Frozenset.merge id c b) Q E s:=by
 obtain⟨ob,eo,epo,to,lso,hob,hexo,hdo,helo,hsto,hpo,hbo,hfo,hlo,hplo⟩:=S;have hz:eo.size=ls.length:=by
  have:=hsto.length;rw[Oo,Ov] at this;rw[this,hpo.length_eq]
 unfold Builtin.Frozenset.merge;refine Te (wpAny_setEpoch_of hob hdo hfo ?_);rw[Xm3];rw[Tj (by simpa using hcb)];refine Te (wpAny_setState_of hob hdo hfo ?_);dsimp only;by_cases he:eo.isEmpty=true
 ·rw[Tk he];have e0:eo = #[]:=by simpa using he
  have:ls=[]:=Py.mp (by rw[<-hz,e0];rfl);subst this;exact Tf (h _ (Heap.SameBut.refl c _) ⟨o, #[],ep,_,[],ho,hex,hd,λe he=>by simp at he,.nil,Qn _,by decide,rfl,rfl,λ_=>rfl⟩)
 ·rw[Tj he];refine Te (Xm8 ho hex hd (by rw[hz];exact hl) λh1 sb1 nu=>?_);obtain⟨o1,ep1,t1,ho1,hex1,hd1,p1,p2,hM,hn1,l1,pl1⟩:=nu.ex;have hf1:t1.fits (#[]:Array (Int×Value)).size=true:=Xm7 p1 p2;refine Te (wpAny_setState_of (s:={s with heap:=h1}) ho1 hd1 hf1 ?_);dsimp only;have fin:∀(es':Array (Int×Value)) (t':SetTable),es'.toList.Perm eo.toList->t'.fits es'.size=true->t'.led = !Bd w->(t'.plain=true->es'.size=0)->Q () {s with heap:=h1.update c (Obj.putSet es' t')}:=λes' t' pp ff fl fp=>by
   obtain⟨ls',st',q'⟩:=Jb pp hsto;have z':es'.size=eo.size:=by rw[<-Ov,pp.length_eq,Ov]
   have g:=Heap.get?_update_self (Obj.putSet es' t') ho1 (by rw[putSet_of es' t' hd1];rfl);rw[putSet_of es' t' hd1] at g;exact h _ (sb1.trans (Tt _ c _)) ⟨_,es',ep1+1,t',ls',g,hex1,rfl,helo.perm pp,st',q'.trans hpo,by rw[z'];exact hbo,ff,fl,fp⟩
  have hroad:t1.road to=if (t1.mask==to.mask&&to.dummies.isEmpty)=true then SetTable.Road.slotForSlot else SetTable.Road.clean:=by
   unfold SetTable.road;have:(t1.fill != 0)=false:=by simp[SetTable.fill,p1,p2]
   rw[this,Tj (by decide)]
  rw[hroad];by_cases hr:(t1.mask==to.mask&&to.dummies.isEmpty)=true
  ·rw[Tk hr];dsimp only;refine wpAny_storeSet_of (s:={s with heap:=h1}) ho1 hd1 ?_ (fits_of_scanBound hbo);exact fin eo _ (Qn _) hfo (by show (t1.led&&to.led)=_;rw[l1,hlo,R9]) (by show (t1.plain&&to.plain)=true->_;rw[pl1,Qx];exact hplo)
  ·rw[Tj hr];dsimp only;obtain⟨t2,od,e1,e2,e3,e4,e5⟩:=Xm0 (finger:=t1.finger) (moves:=t1.moves) (led:=t1.led&&to.led) (plain:=t1.plain&&to.plain) (hs:=eo.map (·.1)) hM (by rw[Array.size_map];exact hn1);rw[e1];rw[Array.size_map] at e2 e3;refine Te (wp_reord e2 λes' pp zz=>?_);refine wpAny_storeSet_of (s:={s with heap:=h1}) ho1 hd1 ?_ (fits_of_scanBound (by rw[zz];exact hbo));exact fin es' t2 pp (by rw[zz];exact e3) (by rw[e4,l1,hlo,R9]) (by rw[e5,pl1,Qx,zz];exact hplo)
def Wl (P:Program) (w:World) (wl:Array (Int×Value)) (ks:List Str):Prop:=ElemsOf (PySem.strKind P w) wl.toList/\∃zs,StrsAre (wl.toList.map (·.2)) zs/\zs.Perm ks
theorem Xna{es wl:Array (Int×Value)}{ls0:List Str}(hel:ElemsOf (PySem.strKind P w) es.toList)(hs:StrsAre (es.toList.map (·.2)) ls0)(hp:ls0.Perm ks)(pp:wl.toList.Perm es.toList):Wl P w wl ks:=by
 obtain⟨zs,st,q⟩:=Jb pp hs;exact⟨hel.perm pp,zs,st,q.trans hp⟩
theorem Xe1{Q:Option Bool×Unit->Shared->Prop}{f:Int×Value->Option Bool×Unit->Sem (ForInStep (Option Bool×Unit))}(hf:∀(x:Int×Value) (r:Option Bool×Unit),(∀p,x.2 ≠ .ref p)->f x r=pure (.yield (none,()))):
  ∀(l:List (Int×Value)),(∀e∈l,∀p,e.2 ≠ .ref p)->Q (none,()) s->wpAny (model P w) A (forIn l (none,()) f) Q E s
 | [],_,h=>by rw[Sy];exact Tf h
 | x::l,hn,h=>by
  rw[Sl,hf x _ (hn x Ow)];exact Te (Tf (Xe1 hf l (λe he=>hn e (Ou _ he)) h))
end
section
variable {P:Program}{w:World}{A:Around}{E:Value->Shared->Prop}{s:Shared}{a b c:Addr}{ks ls:List Str}
theorem Xe2{l:List (Int×Value)}(h:ElemsOf (PySem.strKind P w) l):∀e∈l,∀p,e.2 ≠ .ref p:=λe he p z=>by
 have:=(h e he).2;rw[z] at this;cases this
theorem Xe3{Q:Option Bool×Unit->Shared->Prop}{f:Int×Value->Option Bool×Unit->Sem (ForInStep (Option Bool×Unit))}(hf:∀(x:Int×Value) (r:Option Bool×Unit),(∀p,x.2 ≠ .ref p)->f x r=pure (.yield (none,())))
  {es:Array (Int×Value)} (hn:∀e∈es.toList,∀p,e.2 ≠ .ref p) (h:Q (none,()) s):wpAny (model P w) A (forIn es (none,()) f) Q E s:=by
 rw[<-Sc];exact Xe1 hf _ hn h
theorem Xnb{Q:Bool->Shared->Prop}(S:SSet P w s.heap a ks)(F:SSet P w s.heap b ls)(h:Q true s):wpAny (model P w) A (setsQuiet [a,b]) Q E s:=by
 obtain⟨o,es,ep,t,l0,ho,hex,hd,hel,hst,hp,hb,hf,hl,hpl⟩:=S;obtain⟨o',es',ep',t',l0',ho',hex',hd',hel',hst',hp',hb',hf',hl',hpl'⟩:=F;have hq:∀(x:Int×Value) (r:Option Bool×Unit),(∀p,x.2 ≠ .ref p)->(match x.2 with
   | Value.ref a=>do
    let __do_lift <-specialOf x.2 (Str.ofString "__eq__")
    if (__do_lift != some (Value.builtin "object.__eq__"))=true then pure (ForInStep.done (some false,())) else pure (ForInStep.yield (none,()))
   | x=>pure (ForInStep.yield (none,())):Sem (ForInStep (Option Bool×Unit)))=pure (.yield (none,())):=λx r hx=>by
  split
  ·rename_i e;exact absurd e (hx _)
  ·rfl
 unfold setsQuiet;simp only[Sl,Sy];refine Te (Te (Te (wpAny_setEntries_of ho hd hf (Te (Xe3 hq (Xe2 hel) (Tf ?_))))));refine Te (Te (wpAny_setEntries_of ho' hd' hf' (Te (Xe3 hq (Xe2 hel') (Tf ?_)))));exact Tf (Tf h)
theorem wp_unseen{Q:Array (Int×Value)->Shared->Prop}(S:SSet P w s.heap a ks)(F:SSet P w s.heap c ls)(hac:a≠c)
  (h:∀wl h' d,Wl P w wl ks->Heap.SameBut c s.heap h'->SSet P w h' c ls->Q wl {s with heap:=h',drawn:=d}):wpAny (model P w) A (setWalkUnseen a [c] (some c)) Q E s:=by
 obtain⟨o,es,ep,t,l0,ho,hex,hd,hel,hst,hp,hb,hf,hl,hpl⟩:=id S;have wl1:∀wl:Array (Int×Value),wl.toList.Perm es.toList->Wl P w wl ks:=λwl pp=>Xna hel hst hp pp;have walk:wpAny (model P w) A (setWalk a) Q E s:=by
  rw[Xm4];refine Te (wpAny_setState_of ho hd hf ?_);dsimp only;unfold setsByText;refine Te (Te (wpAny_askSetting (Tf ?_)));show wpAny _ _ (if Bd w=true then _ else _) _ _ s;cases hw:Bd w with
  | true=>
   rw[Tk rfl];refine Te (wpAny_askSetting (Tf ?_));exact h _ s.heap s.drawn (wl1 _ (Xb6 _ es)) (Heap.SameBut.refl c _) F
  | false=>
   rw[Tj (by decide)];by_cases hc:(!t.plain&&decide (es.size > 1))=true
   ·rw[Tk hc];refine Te (Xb7 _ _ _ _ (Ov) λos d po=>Tf ?_);exact h _ s.heap d (wl1 _ (by simpa using po)) (Heap.SameBut.refl c _) F
   ·rw[Tj hc];have hm:Nt es t=pure ():=by
     unfold Nt;rw[hl,hw];rfl
    refine Te (wpAny_of_eq hm (Tf ?_));exact h _ s.heap s.drawn (wl1 _ (Qn _)) (Heap.SameBut.refl c _) F
 unfold setWalkUnseen;refine Te (wpAny_setState_of ho hd hf ?_);dsimp only;unfold setsByText;refine Te (Te (wpAny_askSetting (Tf ?_)));show wpAny _ _ (if (Bd w||(t.led&&t.plain)||decide (es.size<=1))=true then setWalk a else _) _ _ s;by_cases hc:(Bd w||(t.led&&t.plain)||decide (es.size<=1))=true
 ·rw[Tk hc];exact walk
 ·rw[Tj hc];refine Te (Xnb S F ?_);simp only[R8,Pf,if_false];refine Te (wpAny_rule ?_);obtain⟨oc,ec,epc,tc,lc,hoc,hexc,hdc,helc,hstc,hpc,hbc,hfc,hlc,hplc⟩:=id F;refine Te (wpAny_setState_of hoc hdc hfc ?_);dsimp only;by_cases hs:((tc.led && !t.led)||(tc.plain && !t.plain))=true
  ·rw[Tk hs];refine Te (wpAny_storeSet_of hoc hdc (Tf ?_) (fits_of_scanBound hbc));obtain⟨g,S1⟩:_/\SSet P w (s.heap.update c (Obj.putSet ec {tc with led:=tc.led&&t.led,plain:=tc.plain&&t.plain})) c ls:=by
    have g:=Heap.get?_update_self (Obj.putSet ec {tc with led:=tc.led&&t.led,plain:=tc.plain&&t.plain}) hoc (by rw[putSet_of ec _ hdc];rfl);rw[putSet_of ec _ hdc] at g;exact⟨g,_,ec,epc+1,_,lc,g,hexc,rfl,helc,hstc,hpc,hbc,hfc,by show (tc.led&&t.led)=_;rw[hlc,hl,R9],by
     show (tc.plain&&t.plain)=true->_;intro z;rw[O9] at z;exact hplc z.1⟩
   exact h _ _ s.drawn (wl1 _ (Qn _)) (Tt _ c _) S1
  ·rw[Tj hs];exact Tf (h _ s.heap s.drawn (wl1 _ (Qn _)) (Heap.SameBut.refl c _) F)
def xor1 (ks:List Str) (x:Str):List Str:=if x∈ks then ks.erase x else ks++[x]
theorem Ks{α : Type}(xs:Array α)(i:Nat):(SetTable.eraseAt xs i).toList=xs.toList.eraseIdx i:=by
 unfold SetTable.eraseAt;rw[Array.toList_append,Array.toList_extract,Array.toList_extract,List.eraseIdx_eq_take_drop_succ];simp[List.extract];exact Pu (by simp)
theorem Xe4:∀(l:List Str),l.Nodup->∀(j:Nat) (hj:j<l.length),l.erase l[j]=l.eraseIdx j
 | x::l,nd,0,_=>by simp
 | x::l,nd,j+1,hj=>by
  obtain⟨h1,h2⟩:=Qf.mp nd;have hj':j<l.length:=by simpa using hj
  have ne:x≠l[j]:=λe=>h1 (e ▸ Pn hj');rw[List.getElem_cons_succ,List.eraseIdx_cons_succ,List.erase_cons_tail (by simpa using ne),Xe4 l h2 j hj']
theorem Xe5{α β : Type}(f : α -> β):∀(l:List α) (j:Nat),(l.eraseIdx j).map f=(l.map f).eraseIdx j
 | [],_=>rfl
 | x::l,0=>rfl
 | x::l,j+1=>by simp[Xe5 f l j]
theorem Xe6:∀{vs:List Value} {ls:List Str} (i:Nat),StrsAre vs ls->StrsAre (vs.eraseIdx i) (ls.eraseIdx i)
 | _,_,_,.nil=>by simp;exact .nil
 | _,_,0,.cons x t h=>h
 | _,_,i+1,.cons x t h=>.cons x t (Xe6 i h)
theorem Xnc{vs:List Value}{ls:List Str}(h:StrsAre vs ls){i:Nat}(hi:i<vs.length):∃t,vs[i] = .str (ls.getD i Str.empty) t:=by
 induction h generalizing i with
 | nil=>exact absurd hi (Qg _)
 | cons x t _ ih=>
  cases i with
  | zero=>exact⟨t,rfl⟩
  | succ i=>exact ih (by simpa using hi)
theorem Xnd{x:Str}{tk:Tok}{Q:Unit->Shared->Prop}(S:SSet P w s.heap a ks)(nd:ks.Nodup)(hr:ks.length+1<scanBound)
  (h:∀h',Heap.SameBut a s.heap h'->SSet P w h' a (xor1 ks x)->Q () {s with heap:=h'}):
  wpAny (model P w) A (holding [.str x tk] do
   if !(<-setDiscardHashed a (.str x tk) ((PySem.strKind P w).hash x)) then
    let _ <-setAddHashed a (.str x tk) ((PySem.strKind P w).hash x)) Q E s:=by
 obtain⟨o,es,ep,t,l0,ho,hex,hd,hel,hs,hp,hb,hf,hl,hpl⟩:=id S;have hkey:(PySem.strKind P w).is x (.str x tk)=true:=strKind_is P w x tk;have hin:x∈ks ↔ ∃e∈es.toList,(PySem.strKind P w).is x e.2=true:=hp.mem_iff.symm.trans (Xb1 hs);have hlen:es.size=ks.length:=by
  have:=hs.length;rw[Oo,Ov] at this;rw[this,hp.length_eq]
 refine wpAny_holding (Te ?_);unfold setDiscardHashed setFind setFindIn;refine Te (Te (wpAny_setState_of ho hd hf ?_));dsimp only;rw[byScan_of (knd:=PySem.strKind P w) rfl hb hel];simp only[↓reduceIte];refine Te (wpAny_rule (Te (wpAny_setScan_of hkey ho hd hf hel ?_)));cases hf1:List.findIdx? (λe=>(PySem.strKind P w).is x e.2) es.toList with
 | none=>
  dsimp only;have hx:x∉ks:=λz=>by
   obtain⟨e,he,q⟩:=hin.mp z;have:=List.findIdx?_eq_none_iff.mp hf1 e he;rw[q] at this;cases this
  refine Tf (Tf ?_);simp only[Bool.not_false,if_true];refine Te (sset_add S hr λb h' sb S'=>Tf ?_);refine h h' sb ?_;unfold xor1;rw[Tj hx];rw[Tj hx] at S';exact S'
 | some j=>
  dsimp only;obtain⟨hj,hpj,_⟩:=R7.mp hf1;have hx:x∈ks:=hin.mpr ⟨es.toList[j],Pn hj,hpj⟩;rw[Ql];refine Tf ?_;dsimp only;refine Te (wpAny_setState_of ho hd hf ?_);dsimp only;have hjs:j<es.size:=by simpa using hj
  have zE:(SetTable.eraseAt es j).size=es.size - 1:=by
   rw[<-Ov,Ks,Rf hj,Ov]
  refine Te (wpAny_storeSet_of ho hd ?_ (fits_of_scanBound (by rw[zE];omega)));refine Te (wpAny_point (Tf ?_));simp only[R8,Pf,if_false];refine Tf ?_;have g:=Heap.get?_update_self (Obj.putSet (SetTable.eraseAt es j) (t.drop j)) ho (by rw[putSet_of _ _ hd];rfl);rw[putSet_of _ _ hd] at g;have hfs:t.place.size=es.size/\t.fill<=t.mask:=by
   simpa [SetTable.fits,O9] using hf
  have hdrop:(t.drop j).fits (es.size - 1)=true/\(t.drop j).led=t.led/\(t.drop j).plain=t.plain:=by
   unfold SetTable.drop;have hjp:j<t.place.size:=by rw[hfs.1];exact hjs
   rw[getElem?_pos t.place j hjp];dsimp only;refine⟨?_,rfl,rfl⟩;have z1:(SetTable.eraseAt t.place j).size=t.place.size - 1:=by
    rw[<-Ov,Ks,Rf (by simpa using hjp),Ov]
   have z2:∀p v,(SetTable.insertAt t.dummies p v).size=t.dummies.size+1:=λp v=>by
    have:=(SetTable.insertAt_perm t.dummies p v).length_eq;simpa using this
   simp only[SetTable.fits,SetTable.fill,O9,beq_iff_eq,decide_eq_true_eq,z1,z2];have:=hfs.2;unfold SetTable.fill at this;omega
  have hl0j:l0.getD j Str.empty=x:=by
   obtain⟨tt,e⟩:=Xnc hs (i:=j) (by simpa using hj);rw[Qj] at e;rw[e] at hpj;obtain⟨t3,e3⟩:=Value.isStrOf_shape (x:=x) (v:=.str (l0.getD j Str.empty) tt) hpj;injection e3
  have hl0:l0.length=es.size:=by
   have:=hs.length;rw[Oo,Ov] at this;exact this.symm
  have nd0:l0.Nodup:=hp.nodup_iff.mpr nd;have ere:l0.eraseIdx j=l0.erase x:=by
   have hj0:j<l0.length:=by omega
   have e:l0[j]=x:=by rw[<-hl0j];simp[List.getD,hj0]
   rw[<-e];exact(Xe4 l0 nd0 j hj0).symm
  refine h _ (Tt _ a _) ⟨_,_,ep+1,_,l0.eraseIdx j,g,hex,rfl,?_,?_,?_,by rw[zE];omega,by rw[zE];exact hdrop.1,hdrop.2.1.trans hl,?_⟩
  ·intro e he;rw[Ks] at he;exact hel e (List.mem_of_mem_eraseIdx he)
  ·rw[Ks];have:(es.toList.eraseIdx j).map (·.2)=(es.toList.map (·.2)).eraseIdx j:=by
    exact Xe5 _ _ _
   rw[this];exact Xe6 j hs
  ·rw[ere];unfold xor1;rw[Tk hx];exact hp.erase x
  ·rw[hdrop.2.2,zE];intro z;rw[hpl z]
end
def Xne (a:Addr) (h:Int) (x:Value):Sem Unit:=holding [x] do
 if !(<-setDiscardHashed a x h) then
  let _ <-setAddHashed a x h
theorem Xe7(ks:List Str)(x:Str):(xor1 ks x).length<=ks.length+1:=by
 unfold xor1;split
 ·exact Nat.le_succ_of_le (List.length_erase_le ..)
 ·rw[Oy];exact Oq _
theorem Xe8{ks:List Str}{x:Str}(h:ks.Nodup):(xor1 ks x).Nodup:=by
 unfold xor1;split
 ·exact h.erase x
 ·rename_i hx;exact Qb.mpr ⟨h,by simp,λa ha b hb e=>hx (by rw[Ot.mp hb] at e;exact e ▸ ha)⟩
theorem Xnf{ks:List Str}{x y:Str}(h:ks.Nodup):y∈xor1 ks x↔(y∈ks/\y≠x)\/(y=x/\x∉ks):=by
 unfold xor1;split
 ·rename_i hx;rw[h.mem_erase_iff];constructor
  ·exact λz=>.inl ⟨z.2,z.1⟩
  ·rintro (z | z)
   ·exact⟨z.2,z.1⟩
   ·exact absurd hx z.2
 ·rename_i hx;rw[Oz,Ot];constructor
  ·rintro (z | z)
   ·exact .inl ⟨z,λe=>hx (e ▸ z)⟩
   ·exact .inr ⟨z,hx⟩
  ·rintro (z | z)
   ·exact .inl z.1
   ·exact .inr z.1
theorem Xe9:∀(zs ms:List Str),ms.Nodup->zs.Nodup->(zs.foldl xor1 ms).Nodup/\(zs.foldl xor1 ms).length<=ms.length+zs.length/\∀y,y∈zs.foldl xor1 ms↔(y∈ms/\y∉zs)\/(y∉ms/\y∈zs)
 | [],ms,h,_=>⟨h,Oq _,λy=>by simp⟩
 | z::zs,ms,h,hz=>by
  obtain⟨n1,n2⟩:=Qf.mp hz;obtain⟨a1,a2,a3⟩:=Xe9 zs (xor1 ms z) (Xe8 h) n2;refine⟨a1,?_,λy=>?_⟩
  ·have:=Xe7 ms z;rw[Pc];rw[Rv];omega
  ·rw[Rv,a3,Xnf h,O6];by_cases e:y=z
   ·subst e;by_cases g:y∈ms<;>simp[g,n1]
   ·by_cases g:y∈ms<;>simp[g,e]
section
variable {P:Program}{w:World}{A:Around}{E:Value->Shared->Prop}{s:Shared}{a b c:Addr}{ks ls:List Str}
theorem Xfa{id:String}{ep:Nat}{f:Int×Value->PUnit->Sem (ForInStep PUnit)}(hf:∀x u,f x u=(do Xne c x.1 x.2; Builtin.Frozenset.unchanged id a ep;pure (.yield ⟨⟩))){o:Obj}{es:Array (Int×Value)}{t:SetTable}(hd:o.data = .set es ep t)(hft:t.fits es.size=true)(hac:a≠c):
  ∀(l:List (Int×Value)) (zs ms:List Str) (s:Shared) (Q:PUnit->Shared->Prop),s.heap.get? a=some o->ElemsOf (PySem.strKind P w) l->StrsAre (l.map (·.2)) zs->SSet P w s.heap c ms->ms.Nodup->ms.length+l.length<scanBound ->
   (∀h',Heap.SameBut c s.heap h'->SSet P w h' c (zs.foldl xor1 ms)->Q ⟨⟩ {s with heap:=h'})->wpAny (model P w) A (forIn l PUnit.unit f) Q E s
 | [],zs,ms,s,Q,_,_,hz,hS,_,_,h=>by
  rw[Sy];cases hz;exact Tf (h s.heap (Heap.SameBut.refl c _) hS)
 | (hh,x)::l,zs,ms,s,Q,ho,hel,hz,hS,nd,hb,h=>by
  have hz0:StrsAre (x::l.map (·.2)) zs:=hz;clear hz;cases hz0 with
  | cons y t' hz=>
   obtain⟨⟨k,hk,he⟩,_⟩:=hel.head;have hk:(PySem.strKind P w).is k (.str y t')=true:=hk;obtain⟨t3,e3⟩:=Value.isStrOf_shape (x:=k) (v:=.str y t') hk;injection e3 with e3 _
   subst e3;have he:hh=(PySem.strKind P w).hash y:=he;subst he;rw[Pc] at hb;rw[Sl,hf];refine Te (Te (Xnd hS nd (by omega) λh1 sb1 S1=>?_));have ho1:h1.get? a=some o:=(sb1.2 a hac).trans ho;refine Te ?_;unfold Builtin.Frozenset.unchanged;refine Te (wpAny_setEpoch_of (s:={s with heap:=h1}) ho1 hd hft ?_);simp only[bne_self_eq_false,Pf,if_false];refine Tf (Tf ?_);have hl:=Xe7 ms y;exact Xfa hf hd hft hac l _ (xor1 ms y) {s with heap:=h1} Q ho1 hel.tail hz S1 (Xe8 nd) (by omega) λh2 sb2 S2=>h h2 (sb1.trans sb2) S2
def Xfb (i:String) (l:Addr) (r:Value):Sem Value:=do
 let result <-Builtin.Frozenset.newFrom i (<-Builtin.Frozenset.baseOf l) r
 holding [result] (Builtin.Frozenset.symmetricDifferenceUpdate i (<-Builtin.Frozenset.addrOf result) (.ref l))
 return result
theorem Xng(x y:Value):Builtin.«frozenset.__xor__» ⟨[x,y],[]⟩=(do
  let (self,other) <-Builtin.Frozenset.slot1 "__xor__" ⟨[x,y],[]⟩
  let (l,r):=if false then (other,self) else (self,other)
  if !(<-Builtin.Frozenset.isAnySet l <&&> Builtin.Frozenset.isAnySet r) then rule s!"frozenset.{"__xor__"}.declined"; return <-ret .notImplemented
  ret (<-Xfb s!"frozenset.{"__xor__"}" (<-Builtin.Frozenset.addrOf l) r)):=rfl
theorem Xnh{i:String}{Q:Unit->Shared->Prop}{ms:List Str}(S:SSet P w s.heap a ks)(F:SSet P w s.heap c ms)(hac:a≠c)(hk:ks.Nodup)(hm:ms.Nodup)(l1:ks.length<16)(l2:ms.length<16)
  (h:∀h' d zs,Heap.SameBut c s.heap h'->SSet P w h' c zs->zs.Nodup->zs.length<=32->(∀y,y∈zs↔(y∈ms/\y∉ks)\/(y∉ms/\y∈ks))->Q () {s with heap:=h',drawn:=d}):
  wpAny (model P w) A (Builtin.Frozenset.symmetricDifferenceUpdate i c (.ref a)) Q E s:=by
 obtain⟨o,es,ep,t,l0,ho,hex,hd,hel,hst,hp,hb,hf,hl,hpl⟩:=id S;unfold Builtin.Frozenset.symmetricDifferenceUpdate;rw[Tj (by simpa using hac)];refine Te (wpAny_typeOf (T := "set") S.typeIs ?_);rw[Tj (by decide)];refine Te (Kr S.typeIs ?_);rw[Tk rfl];refine Te (Tf ?_);refine Te (Tf ?_);refine Te (wpAny_setEpoch_of ho hd hf ?_);refine wpAny_holding (Te (wp_unseen S F hac λwl h1 d W sb1 S1=>?_));obtain⟨hel1,zs,st1,q1⟩:=W;rw[<-Sc];have ho1:h1.get? a=some o:=(sb1.2 a hac).trans ho;have hwl:wl.toList.length=ks.length:=by
  have:=st1.length;rw[Oo] at this;rw[this,q1.length_eq]
 have ndz:zs.Nodup:=q1.nodup_iff.mpr hk;obtain⟨x1,x2,x3⟩:=Xe9 zs ms hm ndz;refine Te (Xfa (id:=i) (c:=c) (a:=a) (s:={s with heap:=h1,drawn:=d}) (λx u=>rfl) hd hf hac wl.toList zs ms _ ho1 hel1 st1 S1 hm (by rw[hwl];unfold scanBound;omega) λh2 sb2 S2=>Tf ?_);refine h h2 d _ (sb1.trans sb2) S2 x1 ?_ λy=>?_
 ·have:=q1.length_eq;omega
 ·rw[x3,q1.mem_iff]
theorem Xni{Q:Value->Shared->Prop}(S:SSet P w s.heap a ks)(F:SSet P w s.heap b ls)(hk:ks.Nodup)(hl:ls.Nodup)(l1:ks.length<16)(l2:ls.length<16)
  (h:∀h' d zs,(∀e o,s.heap.get? e=some o->h'.get? e=some o)->SSet P w h' s.heap.objs.size zs->zs.Nodup->zs.length<=32->(∀y,y∈zs↔(y∈ls/\y∉ks)\/(y∉ls/\y∈ks))->Q (.ref s.heap.objs.size) {s with heap:=h',drawn:=d}):
  wpAny (model P w) A (binaryOp .BitXor (.ref a) (.ref b)) Q E s:=by
 have ha:=S.typeIs;have hb:=F.typeIs;have la:a<s.heap.objs.size:=by obtain⟨o,_,_,_,_,g,_⟩:=S;exact Tq g
 have lb:b<s.heap.objs.size:=by obtain⟨o,_,_,_,_,g,_⟩:=F;exact Tq g
 have eX:entryFor table "set.__xor__" = some Builtin.«frozenset.__xor__»:=entryFor_alias (id' := "frozenset.__xor__") (by kernel_rfl) rfl (by decide +kernel) (by kernel_rfl);refine wpAny_binaryOp_same (T := "set") (id := "set.__xor__") ha hb PySem.F.fills_set_xor PySem.F.slot_set_xor (wpAny_call_entry PySem.F.slot_set_xor ha eX ?_ (PySem.F.args_set_xor_2 _ _));rw[Xng];unfold Builtin.Frozenset.slot1 slotArgs;simp only[List.isEmpty_nil,R8,Pf, ↓reduceIte,bind_assoc,Q7,Pc,bne_self_eq_false,pure_bind];refine Te ?_;show wpAny _ _ (Builtin.Frozenset.isAnySet (.ref a) >>= λb1=>_) _ _ s;refine Te (Kr ha ?_);show wpAny _ _ (Builtin.Frozenset.isAnySet (.ref b)) _ _ s;refine Kr hb ?_;simp only[R8,Pf, ↓reduceIte];refine Te ?_;show wpAny _ _ (pure a) _ _ s;refine Tf ?_;refine Te ?_;unfold Xfb;refine Te (Xm6 ha ?_);refine Te ?_;unfold Builtin.Frozenset.newFrom newSet setsByText;refine Te (Te (Te (wpAny_askSetting (Tf ?_))));dsimp only;simp only[newObj];refine Te (wpAny_alloc (Tf ?_));have keep:∀e o,s.heap.get? e=some o->(s.heap.push {cls:=.type "set",dict:=none,data:=.set #[] 0 (.fresh 0 0 (!Bd w))}).get? e=some o:=λe o q=>Tr _ q;refine Te ?_;show wpAny _ _ (pure s.heap.objs.size) _ _ _;refine Tf ?_;refine Te (wpAny_holding ?_);unfold Builtin.Frozenset.updateFrom;have F1:SSet P w (s.heap.push {cls:=.type "set",dict:=none,data:=.set #[] 0 (.fresh 0 0 (!Bd w))}) b ls:=F.stay λo q=>keep b o q;refine Te (Kr (s:={s with heap:=s.heap.push {cls:=.type "set",dict:=none,data:=.set #[] 0 (.fresh 0 0 (!Bd w))} }) F1.typeIs ?_);rw[Tk rfl];unfold Builtin.Frozenset.addrOf;refine Te (Tf ?_);refine Xm9 (s:={s with heap:=s.heap.push {cls:=.type "set",dict:=none,data:=.set #[] 0 (.fresh 0 0 (!Bd w))} }) (c:=s.heap.objs.size) (ep:=0) (Heap.get?_push_size _ rfl) ⟨rfl,rfl,rfl⟩ rfl F1 l2 (Ta lb) λh1 sb1 S1=>?_;refine Tf ?_;have k1:∀e o,s.heap.get? e=some o->h1.get? e=some o:=λe o q=>(sb1.2 e (O1 (Tq q))).trans (keep e o q);refine Te (Tf ?_);refine Te (wpAny_holding (Xnh (s:={s with heap:=h1}) (S.stay λo q=>k1 a o q) S1 (O1 la) hk hl l1 l2 λh2 d zs sb2 S2 n2 z2 m2=>?_));refine Tf (Tf ⟨_,rfl,by simp,?_⟩);exact h h2 d zs (λe o q=>(sb2.2 e (O1 (Tq q))).trans (k1 e o q)) S2 n2 z2 m2
end
section
variable {X:Cx}
theorem Xnj:OpR X (binaryOp .BitXor) (λx y H Q=>∃a b ks ls,x = .ref a/\y = .ref b/\H a=some (Et X.prog X.w a ks)/\H b=some (Et X.prog X.w b ls)/\ks.Nodup/\ls.Nodup/\ks.length<16/\ls.length<16 /\
  ∀c zs,H c=none->zs.Nodup->zs.length<=32->(∀y,y∈zs↔(y∈ls/\y∉ks)\/(y∉ls/\y∈ks))->Q (.ref c) (upd H c (Et X.prog X.w c zs))):=by
 intro pins s σ H x y v u Q I rx ry h;obtain⟨a,b,ks,ls,rfl,rfl,ha,hb,nk,nl,l1,l2,q⟩:=h;cases rx;cases ry;obtain⟨S,_⟩:=(show A0 X.prog X.w H s.heap a (.ext λh=>SSet X.prog X.w h a ks) from I.hok a _ ha);obtain⟨F,_⟩:=(show A0 X.prog X.w H s.heap b (.ext λh=>SSet X.prog X.w h b ls) from I.hok b _ hb);refine Xni S F nk nl l1 l2 λh' d zs k S' n' z' m'=>?_;refine⟨.ref s.heap.objs.size,_,I.laidM (s':={s with heap:=h',drawn:=d}) k rfl rfl (Oq _) ?_,rfl,q _ zs (I.hok.fresh (Oq _)) n' z' m'⟩;exact⟨S',by obtain⟨o,_,_,_,_,g,_⟩:=S';exact⟨o,g⟩,λh1 h2 S1 kk=>S1.stay kk⟩
end
end L2
set_option maxHeartbeats 4000000
namespace SH
open PySem PySem.Spec PyProof.Rows L2
def Bx (a b:List Str):List Str:=srt ((a.filter λx => !decide (x∈b))++(b.filter λx => !decide (x∈a)))
theorem Xnk{a b:List Str}{x:Str}:x∈Bx a b↔(x∈a/\x∉b)\/(x∈b/\x∉a):=by
 unfold Bx;rw[He,Oz,O0,O0];simp
theorem Xfc{a b:List Str}(ha:a.Nodup)(hb:b.Nodup):((a.filter λx => !decide (x∈b))++(b.filter λx => !decide (x∈a))).Nodup:=by
 rw[Qb];refine⟨ha.filter _,hb.filter _,λx hx y hy e=>?_⟩;subst e;have h1:=(O0.mp hx).1;have h2:=(O0.mp hy).2;simp[h1] at h2
theorem Xnl{a b:List Str}(ha:a.Nodup)(hb:b.Nodup):(Bx a b).Pairwise ltS:=by
 have nd2:(Bx a b).Nodup:=(Cg _).nodup_iff.mpr (Xfc ha hb);exact(List.pairwise_and_iff.mpr ⟨Du _,nd2⟩).imp λ{x y} (h:leS x y/\x≠y)=>ltS_of h.1 h.2
theorem Xfd(a b:List Str):(Bx a b).length<=a.length+b.length:=by
 unfold Bx;rw[(Cg _).length_eq,Oy];have h1:=Pt (λx => !decide (x∈b)) a;have h2:=Pt (λx => !decide (x∈a)) b;omega
theorem xor_srt{a b zs:List Str}(ha:a.Nodup)(hb:b.Nodup)(hz:zs.Nodup)(h:∀y,y∈zs↔(y∈b/\y∉a)\/(y∉b/\y∈a)):srt zs=Bx a b:=by
 refine Xck (F4 hz (Xfc ha hb) λy=>?_);rw[h,Oz,O0,O0];simp;by_cases h1:y∈a<;>by_cases h2:y∈b<;>simp[h1,h2]
def spParting:Sp:=λvs H Q _=>∃(p q:Addr) (a b:List Str),vs=[.ref p,.ref q]/\H p=some (.tup (a.map V.str))/\H q=some (.tup (b.map V.str))/\a.Nodup/\b.Nodup/\a.length<16/\b.length<16 /\
 ∀l H',H l=none->H' l=some (.lst ((Bx a b).map V.str))->Same H H'->Q (.ref l) H'
def spApart:Sp:=λvs H Q _=>∃(p q:Addr) (a b:List Str),vs=[.ref p,.ref q]/\H p=some (.tup (a.map V.str))/\H q=some (.tup (b.map V.str))/\a.length<=24/\b.length<=24 /\
 ∀l H',H l=none->H' l=some (.lst ((Bx a b).map V.str))->Same H H'->Q (.ref l) H'
abbrev NAp:List Str:=["_law_one_here", "_law_other", "_law_mine"]
abbrev NAp1:List Str:=["_law_name", "_law_other"]
abbrev NAp2:List Str:=["_law_name", "_law_one_here"]
structure Two (H:Hp) (r p q:Addr) (row a b:List Str):Prop where
 hr:H r=some (.lst (row.map V.str))
 r2:Row2 row
 hd:(dit row).length<=14
 hp:H p=some (.tup (a.map V.str))
 hq:H q=some (.tup (b.map V.str))
 oa:∀y∈a,okN y
 ob:∀y∈b,okN y
 la:a.length<=24
 lb:b.length<=24
theorem Kt{row a:List Str}(h:Ae row a=true):a.Nodup:=Ec (Da h).2
def B6 (a b:List Str):Bool:=Co a.length a b.length b
theorem Xnm{Ts:List (List Str)}{p:Array Nat}(g:Gd Ts.length p)(so:Bu (E3 Ts) p Ts.length):
  (p.toList.map λi=>Ts.getD i []).Perm Ts/\(p.toList.map λi=>Ts.getD i []).Pairwise λa b=>B6 a b=true:=by
 constructor
 ·have e:((List.range Ts.length).map λi=>Ts.getD i [])=Ts:=by
   refine Rg (by simp) λi h1 h2=>?_;simp[Qj,Sv,List.getD,h2]
  have q:p.toList.Perm (List.range Ts.length):=by
   have:=g.toList;simpa using this
  have:=q.map λi=>Ts.getD i [];rw[e] at this;exact this
 ·rw[Rk];intro i j hi hj hij;have sz:=g.size;rw[Oo,Ov,sz] at hi hj;have:=so i j hij hj;rw[Qj,Qj];have e1:p.getD i 0=p.toList[i]'(by rw[Ov,sz];exact hi):=by simp[Array.getD,sz,hi]
  have e2:p.getD j 0=p.toList[j]'(by rw[Ov,sz];exact hj):=by simp[Array.getD,sz,hj]
  rw[e1,e2] at this;exact this
theorem Xfe{α : Type}(f:Nat -> α)(d : α)(l:List Nat){i:Nat}(hi:i<l.length):(l.map f).getD i d=f l[i]:=by simp[List.getD,hi]
theorem Xnn{H:Hp}{ps:List Addr}{Ts:List (List Str)}{p:Array Nat}(h:Tups H ps Ts)(g:Gd ps.length p):Tups H (p.toList.map λi=>ps.getD i 0) (p.toList.map λi=>Ts.getD i []):=by
 refine⟨by simp,λi hi=>?_⟩;rw[Oo] at hi;have e1:(p.toList.map λi=>ps.getD i 0).getD i 0=ps.getD p.toList[i] 0:=Xfe _ _ _ hi;have e2:(p.toList.map λi=>Ts.getD i []).getD i []=Ts.getD p.toList[i] []:=Xfe _ _ _ hi;rw[e1,e2];refine h.2 _ ?_;have q:p.toList.Perm (List.range ps.length):=by
  have:=g.toList;simpa using this
 simpa using q.mem_iff.mp (Pn hi)
abbrev qIn:Str:=(Str.ofString "in_order" ++ Str.ofString ".<locals>.")++Str.ofString "<lambda>"
def spInOrder (T:Addr) (pos:Pos):Sp:=λvs H Q _=>∃(l:Addr) (ps:List Addr) (Ts:List (List Str)),vs=[.ref l]/\H l=some (.lst (ps.map V.ref))/\Tups H ps Ts/\Ts.Nodup/\ps.length<=64/\Am T pos qIn H /\
 ∀(D:Addr) (ps':List Addr) (Ts':List (List Str)) (H':Hp),H D=none->H' D=some (.lst (ps'.map V.ref))->Tups H' ps' Ts'->Ts'.Perm Ts->(Ts'.Pairwise λa b=>B6 a b=true)->Am T pos qIn H'->But T H H'->Q (.ref D) H'
theorem Am.same{T:Addr}{pos:Pos}{q:Str}{H H':Hp}(h:Am T pos q H)(s:Same H H'):Am T pos q H':=by
 rcases h with e | ⟨c,e,ec⟩
 ·exact .inl (s _ _ e)
 ·exact .inr ⟨c,s _ _ e,s _ _ ec⟩
theorem Am.but{T dr:Addr}{pos:Pos}{q:Str}{H H':Hp}{o':List V}(h:Am T pos q H)(hd:H dr=some (.lst o'))(b:But dr H H'):Am T pos q H':=by
 rcases h with e | ⟨c,e,ec⟩
 ·exact .inl (b _ _ e λz=>by rw[z,hd] at e;cases e)
 ·exact .inr ⟨c,b _ _ e (λz=>by rw[z,hd] at e;cases e),b _ _ ec λz=>by rw[z,hd] at ec;cases ec⟩
def lamPos (s:Stmt):Pos:=match Cw s with
 | [.Return (some (.Call _ _ [⟨_,.Lambda _ _ _ p,_⟩] _)) _]=>p
 | _=>⟨0,0,0,0⟩
theorem Xno{a b c e:Int}(h1:a<b)(h2:c<e)(n1:a≠c)(n2:a≠e)(n3:b≠c)(n4:b≠e)(h:lieT a b c e = "apart"):e<a\/b<c:=by
 unfold lieT at h;rw[Tj (by omega)] at h;split at h
 ·exact absurd h (by decide)
 ·split at h
  ·exact absurd h (by decide)
  ·split at h
   ·exact absurd h (by decide)
   ·rename_i q1 q2 q3;rw[Cb] at q1 q2 q3;by_cases p1:c<a/\a<e
    ·by_cases p2:c<b/\b<e
     ·rw[Tk p1,Tk p2] at q2;omega
     ·rw[Tk p1,Tj p2] at q1;omega
    ·by_cases p2:c<b/\b<e
     ·rw[Tj p1,Tk p2] at q1;omega
     ·by_cases p3:a<c/\c<b
      ·by_cases p4:a<e/\e<b
       ·rw[Tk p3,Tk p4] at q3;omega
       ·omega
      ·omega
theorem Xff{a b c e:Int}(h1:a<b)(h:lieT a b c e = "cross"):a<e/\c<b:=by
 unfold lieT at h;split at h
 ·exact absurd h (by decide)
 ·split at h
  ·rename_i q;rw[Cb] at q;by_cases p1:c<a/\a<e
   ·omega
   ·by_cases p2:c<b/\b<e
    ·omega
    ·rw[Tj p1,Tj p2] at q;omega
  ·split at h
   ·exact absurd h (by decide)
   ·split at h
    ·exact absurd h (by decide)
    ·exact absurd h (by decide)
theorem Xnp{a b c e:Int}(h1:a<b)(h2:c<a)(h3:b<e):lieT a b c e = "within" := by
 unfold lieT;have q:nIn c e [a,b]=2:=by rw[Cb,Tk ⟨h2,by omega⟩,Tk ⟨by omega,h3⟩]
 rw[Tj (by omega),q,Tj (by decide),Tk rfl]
section
variable {row:List Str}
theorem Xfg{a y:Str}(h:upB row a y=true):(pl row y).1<=(pl row a).1/\(pl row a).2<=(pl row y).2:=by
 unfold upB at h;rw[Rx] at h;rcases h with h | h
 ·rw[Tn h];exact⟨S9 _,S9 _⟩
 ·obtain⟨h1,h2,h3,h4⟩:=Kp (Tn h);exact⟨by omega,by omega⟩
theorem Xfh{x y z:Str}(hx:row.count x=2)(h:lieR row x y = "within")(g:lieR row y z = "within"):lieR row x z = "within" := by
 have l:=Ca hx;obtain⟨h1,h2,h3,h4⟩:=Kp h;obtain⟨g1,g2,g3,g4⟩:=Kp g;exact Xnp l (by omega) (by omega)
theorem Nv{x:Str}:lieR row x x ≠ "within" := by rw[Jx];decide
structure Core (row:List Str) (cs:List Str) (p:Str->Bool):Prop where
 inr:∀c∈cs,c∈row
 is:∀y,p y=true ↔ ∃c∈cs,upB row c y=true
 ov:∀c∈cs,∀d∈cs,(pl row c).1<(pl row d).2
 an:∀c∈cs,∀d∈cs,lieR row c d ≠ "within"
variable {cs cs':List Str}{p p':Str->Bool}
theorem Core.plot(h2:∀y∈row,row.count y=2)(C:Core row cs p):Ae row ((dit row).filter p)=true:=by
 refine Fl.mpr ⟨(Dv row).filter p,λx hx=>Ao.mp (O0.mp hx).1,λx hx y hy e=>?_,λx hx y hy e=>?_⟩
 ·obtain⟨c,hc,hu⟩:=(C.is x).mp (O0.mp hx).2;refine O0.mpr ⟨Ao.mpr hy,(C.is y).mpr ⟨c,hc,?_⟩⟩;unfold upB at hu ⊢;rw[Rx] at hu ⊢;rcases hu with hu | hu
  ·rw[Tn hu] at e;exact .inr (Tl e)
  ·exact .inr (Tl (Xfh (h2 c (C.inr c hc)) (Tn hu) e))
 ·have mx:=O0.mp hx;have my:=O0.mp hy;obtain⟨c,hc,hu⟩:=(C.is x).mp mx.2;obtain⟨d,hd,hv⟩:=(C.is y).mp my.2;have hx2:=h2 x (Ao.mp mx.1);have hy2:=h2 y (Ao.mp my.1);have ne:x≠y:=λz=>by rw[z,Jx] at e;exact absurd e (by decide)
  obtain⟨n1,n2,n3,n4⟩:=Fh hx2 hy2 ne;have u1:=Xfg hu;have u2:=Xfg hv;have o1:=C.ov c hc d hd;have o2:=C.ov d hd c hc;rcases Xno (Ca hx2) (Ca hy2) n1 n2 n3 n4 e with z | z
  ·omega
  ·omega
theorem Core.min(h2:∀y∈row,row.count y=2)(C:Core row cs p)(x:Str):x∈cs↔x∈(dit row).filter p/\∀y∈(dit row).filter p,lieR row y x ≠ "within" := by
 have self:∀c∈cs,c∈(dit row).filter p:=λc hc=>O0.mpr ⟨Ao.mpr (C.inr c hc),(C.is c).mpr ⟨c,hc,by unfold upB;simp⟩⟩;constructor
 ·intro hx;refine⟨self x hx,λy hy e=>?_⟩;obtain⟨c,hc,hu⟩:=(C.is y).mp (O0.mp hy).2;unfold upB at hu;rw[Rx] at hu;rcases hu with hu | hu
  ·rw[Tn hu] at e;exact C.an c hc x hx e
  ·exact C.an c hc x hx (Xfh (h2 c (C.inr c hc)) (Tn hu) e)
 ·rintro ⟨hx,hm⟩;obtain⟨c,hc,hu⟩:=(C.is x).mp (O0.mp hx).2;unfold upB at hu;rw[Rx] at hu;rcases hu with hu | hu
  ·rw[Tn hu];exact hc
  ·exact absurd (Tn hu) (hm c (self c hc))
theorem Core.eq(h2:∀y∈row,row.count y=2)(C:Core row cs p)(C':Core row cs' p')(e:(dit row).filter p=(dit row).filter p'):∀x,x∈cs↔x∈cs':=λx=>by
 rw[C.min h2,C'.min h2,e]
theorem core1(h2:∀y∈row,row.count y=2){a:Str}(ha:a∈row):Core row [a] (upB row a) where
 inr c hc:=by rw[Ot.mp hc];exact ha
 is y:=by simp
 ov c hc d hd:=by rw[Ot.mp hc,Ot.mp hd];exact Ca (h2 a ha)
 an c hc d hd:=by rw[Ot.mp hc,Ot.mp hd];exact Nv
theorem Hz{q:Str×Str}(h:q∈crs row):q.1∈row/\q.2∈row/\ltS q.1 q.2/\lieR row q.1 q.2 = "cross" := by
 unfold crs at h;obtain⟨x,hx,h⟩:=List.mem_flatMap.mp h;obtain⟨y,hy,rfl⟩:=Pe.mp h;obtain⟨h1,h3⟩:=O0.mp hy;rw[O9] at h3;exact⟨Ao.mp hx,Ao.mp h1,Tn h3.1,Tn h3.2⟩
theorem core2(h2:∀y∈row,row.count y=2){q:Str×Str}(h:q∈crs row):Core row [q.1,q.2] λy=>upB row q.1 y||upB row q.2 y:=by
 obtain⟨ha,hb,hl,hx⟩:=Hz h;have hy:lieR row q.2 q.1 = "cross" := Dx (h2 _ ha) (h2 _ hb) hx;have la:=Ca (h2 _ ha);have lb:=Ca (h2 _ hb);have c1:=Xff la hx;have c2:=Xff lb hy;refine⟨λc hc=>?_,λy=>by simp,λc hc d hd=>?_,λc hc d hd=>?_⟩
 ·simp at hc;rcases hc with rfl | rfl
  ·exact ha
  ·exact hb
 ·simp at hc hd;rcases hc with rfl | rfl<;>rcases hd with rfl | rfl
  ·exact la
  ·exact c1.1
  ·exact c2.1
  ·exact lb
 ·simp at hc hd;rcases hc with rfl | rfl<;>rcases hd with rfl | rfl
  ·exact Nv
  ·rw[hx];decide
  ·rw[hy];decide
  ·exact Nv
theorem Xnq(h2:∀y∈row,row.count y=2):∀S∈cands row,Ae row S=true:=λS hS=>by
 unfold cands at hS;rcases Oz.mp hS with h | h
 ·obtain⟨a,ha,rfl⟩:=Pe.mp h;exact(core1 h2 (Ao.mp ha)).plot h2
 ·obtain⟨q,hq,rfl⟩:=Pe.mp h;exact(core2 h2 hq).plot h2
theorem Xnr(row:List Str):(crs row).Nodup:=by
 unfold crs;have nd:=Ec (Dv row);rw[List.Nodup,List.pairwise_flatMap];refine⟨λx hx=>?_,nd.imp λ{x y} ne a ha b hb e=>?_⟩
 ·rw[Sg];exact(nd.filter _).imp λne e=>ne (Prod.mk.inj e).2
 ·obtain⟨u,_,rfl⟩:=Pe.mp ha;obtain⟨v,_,rfl⟩:=Pe.mp hb;exact ne (Prod.mk.inj e).1
theorem Xns(h2:∀y∈row,row.count y=2):(cands row).Nodup:=by
 have nd:=Ec (Dv row);unfold cands;rw[List.Nodup,Ph];refine⟨?_,?_,?_⟩
 ·rw[Sg];refine nd.imp_of_mem λ{a b} ha hb ne e=>ne ?_;have:=(Core.eq h2 (core1 h2 (Ao.mp ha)) (core1 h2 (Ao.mp hb)) e a).mp (Qp _);exact Ot.mp this
 ·rw[Sg];refine(Xnr row).imp_of_mem λ{q r} hq hr ne e=>ne ?_;have E:=Core.eq h2 (core2 h2 hq) (core2 h2 hr) e;obtain⟨_,_,l1,_⟩:=Hz hq;obtain⟨_,_,l2,_⟩:=Hz hr;have e1:=(E q.1).mp (by simp);have e2:=(E q.2).mp (by simp);have e3:=(E r.1).mpr (by simp);simp at e1 e2 e3;obtain⟨a,b⟩:=q;obtain⟨c,d⟩:=r;simp only at *;rcases e1 with e1 | e1
  ·rcases e2 with e2 | e2
   ·exact absurd (e1.trans e2.symm) (G9 l1)
   ·rw[e1,e2]
  ·rcases e2 with e2 | e2
   ·rw[e1,e2] at l1;exact absurd (Jf l1 l2) (Je _)
   ·exact absurd (e1.trans e2.symm) (G9 l1)
 ·intro A hA B hB e;obtain⟨a,ha,rfl⟩:=Pe.mp hA;obtain⟨q,hq,rfl⟩:=Pe.mp hB;have E:=Core.eq h2 (core1 h2 (Ao.mp ha)) (core2 h2 hq) e;obtain⟨_,_,l1,_⟩:=Hz hq;have e1:=Ot.mp ((E q.1).mpr (by simp));have e2:=Ot.mp ((E q.2).mpr (by simp));exact G9 l1 (e1.trans e2.symm)
theorem Xnt(h2:∀y∈row,row.count y=2)(h3:Bt row)(S:List Str):S∈[]::cands row↔Ae row S=true:=by
 constructor
 ·intro h;rcases O6.mp h with e | e
  ·rw[e];exact Ho row
  ·exact Xnq h2 S e
 ·intro h;by_cases e:S=[]
  ·rw[e];exact Ow
  ·exact Ou _ (Xdt h2 h3 e h)
theorem Xnu(h2:∀y∈row,row.count y=2):[]∉cands row:=λh=>by
 unfold cands at h;rcases Oz.mp h with h | h
 ·obtain⟨a,ha,e⟩:=Pe.mp h;have:=((core1 h2 (Ao.mp ha)).min h2 a).mp (Qp _);rw[e] at this;cases this.1
 ·obtain⟨q,hq,e⟩:=Pe.mp h;have:=((core2 h2 hq).min h2 q.1).mp (by simp);rw[e] at this;cases this.1
theorem Xnv(h2:∀y∈row,row.count y=2):([]::cands row).Nodup:=Qf.mpr ⟨Xnu h2,Xns h2⟩
end
end SH
namespace L2
open PySem PySem.Spec PyProof.Rows
theorem Xfi{X:Cx}{N:List Str}{cap:List (Option Nat)}{scope:Scope}{tg iter elt:Expr}{ifs:List Expr}{g:TG}{tt:TT}{te:TE}{wi:TI}{pos:Pos}{i:Nat}{y:Str}{py spos:Pos}(C:CompScope X N cap scope)(hcalm:X.calm=true)(hN:X.N.Nodup)(hiN:X.N[i]? = some y)(hy:X.env.scope.names.lookup y=some .local)(hi:PI X tg iter wi)
  (hg:∀s0 H0 ex,PG (X.comp N scope s0 H0 ex) tg g) (ht:∀s0 H0 ex,PIfs (X.comp N scope s0 H0 ex) ifs tt) (he:∀s0 H0 ex,PE (X.comp N scope s0 H0 ex) elt te)
  (hsw:swapsWith (.ListComp elt [⟨tg,iter,ifs,0⟩] scope pos) (some (.Name y py)) spos.line X.env=pure true:=by rfl)
  (hs:∀x,foldedSetIterable iter X.env x=pure x:=by intro _;rfl):PS X (.Assign [.Name y py] (.ListComp elt [⟨tg,iter,ifs,0⟩] scope pos) spos) (Xcy i cap (.lst []) wi g tt (Jl te)):=
 Xcz (act := fun D env => do let _ <- call (.builtin "list.append") [.ref D, <- eval elt env]) Jn (fun use => rfl) rfl C hcalm Hg hN hiN hy hi (fun it D env => rfl) hg ht (fun D s0 H0 ex => Jm (he s0 H0 ex)) hsw hs
end L2
namespace SH
open PySem PySem.Spec PyProof.Rows L2
def spPlotsA (T:Addr) (pos:Pos):Sp:=λvs H Q _=>∃(r:Addr) (row:List Str),vs=[.ref r]/\H r=some (.lst (row.map V.str))/\Row2 row/\Bt row/\(dit row).length<=14/\Am T pos qIn H /\
 ∀(D:Addr) (ps:List Addr) (Ts:List (List Str)) (H':Hp),H D=none->H' D=some (.lst (ps.map V.ref))->Tups H' ps Ts->(∀S,S∈Ts↔Ae row S=true)->(Ts.Pairwise λa b=>B6 a b=true)->ps.length<=64->Am T pos qIn H'->But T H H'->Q (.ref D) H'
abbrev NPp:List Str:=["row", "span", "off", "single", "double"]
abbrev NPo:List Str:=["name", "span"]
abbrev NPi:List Str:=["other", "name", "span"]
abbrev NPs:List Str:=["name", "off"]
abbrev NPd:List Str:=["one", "other", "off"]
structure Offs (H:Hp) (kvs:List (Key×V)) (row:List Str) (ns:List Str):Prop where
 keys:kvs.map (·.1)=ns.map (λx=>(Sum.inr x:Key))
 val:∀x∈ns,∃l,Av kvs (Sum.inr x:Key)=some (.ref l)/\H l=some (.lst (((dit row).filter (upB row x)).map V.str))
theorem Offs.mono{H H':Hp}{kvs:List (Key×V)}{row ns:List Str}(s:Offs H kvs row ns)(h:Same H H'):Offs H' kvs row ns:=⟨s.keys,λx hx=>let ⟨l,h1,h2⟩:=s.val x hx; ⟨l,h1,h _ _ h2⟩⟩
theorem Offs.snoc{H H':Hp}{kvs:List (Key×V)}{row ns:List Str}{x:Str}{l:Addr}(s:Offs H kvs row ns)(nx:x∉ns)(h:H' l=some (.lst (((dit row).filter (upB row x)).map V.str)))(k:∀b xs,H b=some (.lst xs)->H' b=some (.lst xs)):
  Offs H' (Bk kvs (Sum.inr x) (.ref l)) row (ns++[x]):=by
 have hn:Av kvs (Sum.inr x:Key)=none:=by
  cases e:Av kvs (Sum.inr x:Key) with
  | none=>rfl
  | some v=>
   exfalso;have:=Iy e;rw[s.keys] at this;obtain⟨y,hy,e2⟩:=Pe.mp this;rw[Q4 e2] at hy;exact nx hy
 refine⟨by rw[Fx _ hn,O5,O5,s.keys];rfl,λy hy=>?_⟩;rw[Iw];by_cases e:y=x
 ·subst e;exact⟨l,Tk rfl,h⟩
 ·have hy':y∈ns:=by
   rcases Oz.mp hy with z | z
   ·exact z
   ·exact absurd (Ot.mp z) e
  obtain⟨l0,h1,h2⟩:=s.val y hy';exact⟨l0,by rw[Tj (λz=>e (Q4 z))];exact h1,k _ _ h2⟩
theorem Offs.get{H:Hp}{kvs:List (Key×V)}{row ns:List Str}{d:Addr}{x:Str}(s:Offs H kvs row ns)(hd:Rd H d (.dK kvs))(hx:x∈ns):∃l,DGet H d (.str x) (some (.ref l))/\H l=some (.lst (((dit row).filter (upB row x)).map V.str)):=by
 obtain⟨l,h1,h2⟩:=s.val x hx;exact⟨l,DGet.rd hd h1,h2⟩
theorem Offs.at{H:Hp}{kvs:List (Key×V)}{row ns:List Str}(s:Offs H kvs row ns)(i:Nat)(hi:i<ns.length):(kvs.map λp=>kV p.1).getD i .non = .str (ns.getD i Str.empty):=by
 have e:(kvs.map λp=>kV p.1)=ns.map V.str:=by
  have:(kvs.map λp=>kV p.1)=(kvs.map (·.1)).map kV:=by rw[Pp];rfl
  rw[this,s.keys,Pp];rfl
 rw[e];exact Bs V.str Str.empty ns hi
theorem Offs.len{H:Hp}{kvs:List (Key×V)}{row ns:List Str}(s:Offs H kvs row ns):kvs.length=ns.length:=by
 have:=congrArg List.length s.keys;simpa using this
theorem Xnw{row:List Str}{x y:Str}(hx:row.count x=2)(hy:row.count y=2):decide (lieR row x y∈[Str.ofString "same",Str.ofString "within"])=upB row x y:=by
 unfold upB;by_cases e:y=x
 ·subst e;rw[Jx];simp
 ·have n:lieR row x y ≠ "same" := λz=>e (Xds hx hy z).symm;simp[e,n]
end SH
namespace L2
open PySem PySem.Spec PyProof.Rows
theorem Xnx{ns:List Int}{its:List Value}(rv:Vals (ns.map V.int) its):∃ps:List (Int×Tok),its=ps.map (λp=>Value.int p.1 p.2)/\ps.map (·.1)=ns:=by
 induction ns generalizing its with
 | nil=>cases rv;exact⟨[],rfl,rfl⟩
 | cons n t ih=>
  cases rv with
  | cons r t'=>
   obtain⟨tk,rfl⟩:=r;obtain⟨ps,rfl,e⟩:=ih t';exact⟨(n,tk)::ps,rfl,by rw[Pg,e]⟩
theorem Nw(ps:List (Int×Tok)):∀j,j<=ps.length->preSum (numAt ps.toArray) j=((ps.map (·.1)).take j).sum
 | 0,_=>rfl
 | j+1,h=>by
  have e:preSum (numAt ps.toArray) (j+1)=preSum (numAt ps.toArray) j+numAt ps.toArray j:=rfl;have hj:j<(ps.map (·.1)).length:=by rw[Oo];omega
  rw[e,Nw ps j (by omega),O8 hj,List.sum_append];congr 1;unfold numAt;rw[Rj,Op (by omega),Qj];simp
theorem Xfj{B:Int}(hB:0<=B):∀(l:List Int),(∀n∈l,0<=n/\n<=B)->0<=l.sum/\l.sum<=B * l.length
 | [],_=>⟨by simp,by simp⟩
 | n::l,h=>by
  obtain⟨a,b⟩:=h n Ow;obtain⟨c,d⟩:=Xfj hB l λm hm=>h m (Ou _ hm);rw[Qi,Pc];have:B * ((l.length+1:Nat):Int)=B * l.length+B:=by rw[Int.natCast_add,Int.mul_add];simp
  omega
section
variable {X:Cx}
theorem Nx(hc:X.calm=true):Br X (.builtin "sum") (λxs H Q=>∃(a:Addr) (ns:List Int),xs=[.ref a]/\H a=some (.lst (ns.map V.int))/\ns.length<=1000/\(∀n∈ns,0<=n/\n<=100000)/\Q (.int ns.sum) H):=by
 intro pins s σ H xs us Q I r h;obtain⟨a,ns,rfl,ha,hl,hb,q⟩:=h;obtain⟨u,rfl,ru⟩:=B4 r;cases ru;obtain⟨its,rv,p,hz⟩:=I.list (SqL.of ha);obtain⟨ps,rfl,e⟩:=Xnx rv;have hpl:ps.length=ns.length:=by rw[<-e,Oo]
 have hit:s.heap.IsList a (intItems ps.toArray):=by
  have:intItems ps.toArray=(ps.map λp=>Value.int p.1 p.2).toArray:=by unfold intItems;rw[List.map_toArray]
  rw[this];exact p.isList
 have small:∀j,j<=ps.length->0<=preSum (numAt ps.toArray) j/\preSum (numAt ps.toArray) j<=100000000:=λj hj=>by
  rw[Nw ps j hj,e];have:=Xfj (B:=100000) (by decide) (ns.take j) λn hn=>hb n (Px hn);have hlen:(ns.take j).length<=1000:=by rw[O3];omega
  omega
 refine sum_intList (I.ok.hd hc) hit (λj hj=>?_) λh' tk t' k=>⟨.int ns.sum,H,I.kept k,⟨t',?_⟩,q⟩
 ·have hj':j<ps.length:=by simpa using hj
  have s1:=small (j+1) (by omega);have s0:=small j (by omega);have e1:preSum (numAt ps.toArray) (j+1)=preSum (numAt ps.toArray) j+numAt ps.toArray j:=rfl;constructor<;>(unfold InLong;omega)
 ·have:preSum (numAt ps.toArray) ps.toArray.size=ns.sum:=by
   rw[Ox,Nw ps _ (Oq _),e,Pu (by omega)]
  rw[this]
end
end L2
set_option maxHeartbeats 8000000
namespace SH
open PySem PySem.Spec PyProof.Rows L2
theorem isin{U:List (List Str)}{S:List Str}(h1:∀W∈U,∀y∈W,okN y)(h2:∀y∈S,okN y):((U.map tupD).any λe=>PyData.eqv e (tupD S))=decide (S∈U):=by
 rw[List.any_map];by_cases hS:S∈U
 ·rw[Tl hS,Rr];exact⟨S,hS,by show PyData.eqv (.tuple _) (.tuple _)=true;rw[J6 h2 h2];exact Tl rfl⟩
 ·rw[Tm hS,List.any_eq_false];intro W hW;show ¬PyData.eqv (.tuple _) (.tuple _)=true;rw[J6 (h1 W hW) h2];simp;exact λz=>hS (z ▸ hW)
theorem Xfk:∀(U:List (List Str)),PyData.depthAll (U.map tupD)<=1
 | []=>by show 0<=1;decide
 | S::U=>by
  have:=Xfk U;show max (PyData.depthAll (S.map PyData.str)+1) (PyData.depthAll (U.map tupD))<=1;rw[J5];omega
theorem Xfl{U:List (List Str)}(h:∀S∈U,∀y∈S,okN y):C8 (U.map tupD)=true:=plainAll_map tupD U λS hS=>Gb (h S hS)
theorem De{U:List (List Str)}(h:∀S∈U,∀y∈S,okN y):B9 (.list (U.map tupD))=true:=Xfl h
theorem Ia{U W:List (List Str)}(h1:∀S∈U,∀y∈S,okN y)(h2:∀S∈W,∀y∈S,okN y):PyData.eqv (.list (U.map tupD)) (.list (W.map tupD))=decide (U=W):=
 Xc2 (λU=>PyData.list (U.map tupD)) (λa b e=>by injection e with e;exact(Sa Xdh).mp e) U W (De h1) (De h2)
theorem Dp{H:Hp}{l:Addr}{ps:List Addr}{Ts:List (List Str)}(h:H l=some (.lst (ps.map V.ref)))(t:Tups H ps Ts):DAt H (.list (Ts.map tupD)) (.ref l):=Xc0 h (Xeu t)
theorem Ib(U W:List (List Str)):min (PyData.depth (.list (U.map tupD))) (PyData.depth (.list (W.map tupD)))<=3:=by
 show min (PyData.depthAll (U.map tupD)+1) _<=3;have:=Xfk U;omega
end SH
set_option maxHeartbeats 4000000
namespace SH
open PySem PySem.Spec PyProof.Rows L2
def Ny (Ts:List (List Str)):Prop:=∀S∈Ts,(∀y∈S,okN y)/\S.length<=24
def Ap (Ts:List (List Str)) (b:List Str):Int:=(Ts.map λa=>((Bx a b).length:Int)).sum
def spAskCrowd (C T:Addr) (pos:Pos):Sp:=λvs H Q E=>∃(r c:Addr) (row:List Str) (ps:List Addr) (Ts:List (List Str)),vs=[.ref r,.ref c]/\H r=some (.lst (row.map V.str))/\Row2 row/\Bt row/\(dit row).length<=14/\Am T pos qIn H /\
 H c=some (.lst (ps.map V.ref))/\Tups H ps Ts/\ps.length<=200/\Ny Ts /\
 ((∀S∈Ts,Ae row S=true)->∀H',Am T pos qIn H'->But T H H'->Q .non H')/\((∃S∈Ts,Ae row S=false)->∀H',Am T pos qIn H'->But T H H'->E (.ref C) none H')
def spSteps:Sp:=λvs H Q _=>∃(c p:Addr) (ps:List Addr) (Ts:List (List Str)) (b:List Str),vs=[.ref c,.ref p]/\H c=some (.lst (ps.map V.ref))/\Tups H ps Ts/\H p=some (.tup (b.map V.str))/\ps.length<=200/\(∀S∈Ts,S.Nodup/\S.length<16)/\b.Nodup/\b.length<16 /\
 ∀H',Same H H'->Q (.int (Ap Ts b)) H'
def spCrowdL:Sp:=λvs H Q _=>∃(dr sc l:Addr) (ps:List Addr),vs=[.ref dr,.ref l]/\DrawOk H dr sc/\H l=some (.lst (ps.map V.ref))/\l≠dr/\0<ps.length/\ps.length<=1000 /\
 ∀(c:Addr) (qs:List Addr) (H':Hp),H c=none->H' c=some (.lst (qs.map V.ref))->(∀q∈qs,q∈ps)->qs.length<=60->DrawOk H' dr sc->But dr H H'->Q (.ref c) H'
abbrev NAc:List Str:=["row", "crowd", "there", "plot"]
abbrev NCw:List Str:=["_law_draw", "_law_some", "_law_many", "_law_alike", "_law_often", "_law_crowd_here", "_law_k", "_law_plot"]
theorem Tups.at{H:Hp}{ps:List Addr}{Ts:List (List Str)}{i:Nat}(h:Tups H ps Ts)(hi:i<ps.length):Ts.getD i []∈Ts:=by
 have hi':i<Ts.length:=by rw[<-h.1];exact hi
 have:Ts.getD i []=Ts[i]:=by simp[List.getD,hi']
 rw[this];exact Pn hi'
theorem Xny{ps:List Addr}{i:Nat}{v:V}(h:(ps.map V.ref)[i]? = some v):i<ps.length/\v = .ref (ps.getD i 0):=by
 obtain⟨hi,e⟩:=Pb.mp h;rw[Oo] at hi;exact⟨hi,by rw[<-e];simp[List.getD,hi]⟩
theorem Xfm{H:Hp}{ps:List Addr}{Ts:List (List Str)}{b:List Str}(hT:Tups H ps Ts):((List.range ps.length).map λi=>V.int ((Bx (Ts.getD i []) b).length:Int))=(Ts.map λa=>((Bx a b).length:Int)).map V.int:=by
 rw[hT.1,Pp];refine Rg (by simp) λi h1 h2=>?_;rw[Qj,Qj,Sv];simp at h2;simp[List.getD,h2]
theorem Am.ne{T b:Addr}{pos:Pos}{q:Str}{H:Hp}{o:HO}(tb:Am T pos q H)(e:H b=some o)(n:∀z,o ≠ .tbl z):b≠T:=λz=>by
 rcases tb with q | ⟨_,q,_⟩<;>(rw[z,q] at e;cases e;exact n _ rfl)
end SH
namespace L2
open PySem PySem.Spec PyProof.Rows
def Recs (H:Hp) (ps:List Addr) (rs:List (List V)):Prop:=ps.length=rs.length/\∀i,i<ps.length->H (ps.getD i 0)=some (.tup (rs.getD i []))
theorem Recs.same{H H':Hp}{ps:List Addr}{rs:List (List V)}(h:Recs H ps rs)(s:Same H H'):Recs H' ps rs:=⟨h.1,λi hi=>s _ _ (h.2 i hi)⟩
theorem Recs.nil(H:Hp):Recs H [] []:=⟨rfl,λi hi=>absurd hi (Qg _)⟩
theorem Recs.cons{H:Hp}{p:Addr}{r:List V}{ps:List Addr}{rs:List (List V)}(h:H p=some (.tup r))(q:Recs H ps rs):Recs H (p::ps) (r::rs):=by
 refine⟨by simp[q.1],λi hi=>?_⟩;cases i with
 | zero=>exact h
 | succ i=>exact q.2 i (by simpa using hi)
theorem Recs.app{H:Hp}:∀{ps qs:List Addr} {rs us:List (List V)},Recs H ps rs->Recs H qs us->Recs H (ps++qs) (rs++us)
 | [],qs,rs,us,h,g=>by
  have:rs=[]:=Py.mp h.1.symm;rw[this];exact g
 | p::ps,qs,[],us,h,g=>by have:=h.1;simp at this
 | p::ps,qs,r::rs,us,h,g=>by
  have q:Recs H ps rs:=⟨by simpa using h.1,λi hi=>by simpa using h.2 (i+1) (by simpa using hi)⟩;exact Recs.cons (h.2 0 (by simp)) (Recs.app q g)
theorem Recs.at{α : Type}{H:Hp}{ps:List Addr}{ts:List α}{f : α->List V}(h:Recs H ps (ts.map f)){i:Nat}(hi:i<ps.length):∃t,ts[i]? = some t/\H (ps.getD i 0)=some (.tup (f t)):=by
 have hl:=h.1;rw[Oo] at hl;have hi':i<ts.length:=by omega
 refine⟨ts[i],Op hi',?_⟩;have:=h.2 i hi
 rwa [show (ts.map f).getD i []=f ts[i] by simp[List.getD,hi']] at this
theorem Xfn{cap:List (Option Nat)}{g:TG}{tt:TT}{te:TE}{J:It}{σ:St}{H1:Hp}{F:Addr->Hp->Prop}(n:Nat)(hn:n<sizeLine)(vs:Nat->V)(Us:Nat->List V)(Es:St->Prop)(h0:Es (B2 cap σ))
  (hgo:∀i H2,i<n->Same H1 H2->J.go i H2/\∀x H3,J.yld i H2 x H3->H3=H2/\x=vs i)
  (hst:∀H2,Same H1 H2->J.stop n H2)
  (step:∀i σ1 H2 (Q1:St->V->Hp->Prop) (Q0:St->Hp->Prop),i<n->Es σ1->Same H1 H2->(∀σ2 t H6,Es σ2->H6 t=some (.tup (Us i))->Same H2 H6->Q1 σ2 (.ref t) H6)->g (vs i) σ1 H2 fun σ2 H4=>tt σ2 H4 λb H5=>if b=true then te σ2 H5 λy H6=>Q1 σ2 y H6 else Q0 σ2 H5)
  (hd:∀D ps H2,H1 D=none->Same H1 H2->H2 D=some (.lst (ps.map V.ref))->Recs H2 ps ((List.range n).map Us)->F D H2):Ep cap g tt te J σ H1 F:=by
 refine G3 n vs (λD i σ2 H2=>Es σ2/\Same H1 H2/\∃ps:List Addr,H2 D=some (.lst (ps.map V.ref))/\Recs H2 ps ((List.range i).map Us)) ?_ ?_ ?_ ?_ ?_
 ·intro D hD;exact⟨h0,(Same.refl H1).step hD,[],Ac,Recs.nil _⟩
 ·rintro D i σ2 H2 hD hi ⟨_,s2,_⟩;exact hgo i H2 hi s2
 ·rintro D σ2 H2 hD ⟨_,s2,_⟩;exact hst H2 s2
 ·rintro D i σ2 H2 hD hi ⟨e,s2,ps,hb,ht⟩;refine step i σ2 H2 _ _ hi e s2 fun σ3 t H4 e3 h4 s4=>?_
  have hb4:=s4 _ _ hb;have ht4:=ht.same s4;have hl:(ps.map V.ref).length<=i:=by
   have:=ht.1;rw[Oo,P2] at this;rw[Oo,this];exact Oq _
  have keep:∀b w,H4 b=some (.tup w)->upd H4 D (.lst (ps.map V.ref++[.ref t])) b=some (.tup w):=λb w e=>by
   rw[Ad (λz=>by rw[z,hb4] at e;cases e)];exact e
  refine wput hi hb4 (by omega) ⟨e3,λb u e'=>?_,ps++[t],by rw[Ac,O5];rfl,?_⟩
  ·rw[Ad (Aw e' hD)];exact s4 _ _ (s2 b u e')
  ·rw[Qc,O5];exact Recs.app ⟨ht4.1,λj hj=>keep _ _ (ht4.2 j hj)⟩ (Recs.cons (keep _ _ h4) (Recs.nil _))
 ·rintro D σ2 H2 hD ⟨_,s2,ps,hb,ht⟩;exact hd D ps H2 hD s2 hb ht
theorem Xfo{cap:List (Option Nat)}{g:TG}{tt:TT}{te:TE}{J:It}{σ:St}{H1:Hp}{F:Addr->Hp->Prop}(n:Nat)(hn:n<sizeLine)(vs:Nat->V)(ys:Nat->V)(Es:St->Prop)(h0:Es (B2 cap σ))
  (hgo:∀i H2,i<n->Same H1 H2->J.go i H2/\∀x H3,J.yld i H2 x H3->H3=H2/\x=vs i)
  (hst:∀H2,Same H1 H2->J.stop n H2)
  (step:∀i σ1 H2 (Q1:St->V->Hp->Prop) (Q0:St->Hp->Prop),i<n->Es σ1->Same H1 H2->(∀σ2 H6,Es σ2->Same H2 H6->Q1 σ2 (ys i) H6)->g (vs i) σ1 H2 fun σ2 H4=>tt σ2 H4 λb H5=>if b=true then te σ2 H5 λy H6=>Q1 σ2 y H6 else Q0 σ2 H5)
  (hd:∀D H2,H1 D=none->Same H1 H2->H2 D=some (.lst ((List.range n).map ys))->F D H2):Ep cap g tt te J σ H1 F:=by
 refine G3 n vs (λD i σ2 H2=>Es σ2/\Same H1 H2/\H2 D=some (.lst ((List.range i).map ys))) ?_ ?_ ?_ ?_ ?_
 ·intro D hD;exact⟨h0,(Same.refl H1).step hD,Ac⟩
 ·rintro D i σ2 H2 hD hi ⟨_,s2,_⟩;exact hgo i H2 hi s2
 ·rintro D σ2 H2 hD ⟨_,s2,_⟩;exact hst H2 s2
 ·rintro D i σ2 H2 hD hi ⟨e,s2,hb⟩;refine step i σ2 H2 _ _ hi e s2 fun σ3 H4 e3 s4=>?_
  have hb4:=s4 _ _ hb;refine wput hi hb4 (by rw[Oo,P2];omega) ⟨e3,λb u e'=>?_,?_⟩
  ·rw[Ad (Aw e' hD)];exact s4 _ _ (s2 b u e')
  ·rw[Ac,Qc,O5];rfl
 ·rintro D σ2 H2 hD ⟨_,s2,hb⟩;exact hd D H2 hD s2 hb
end L2
namespace SH
open PySem PySem.Spec PyProof.Rows L2
def offN (Ts:List (List Str)) (x:Str):Nat:=(Ts.filter λS=>decide (x∈S)).length
theorem Ku(Ts:List (List Str))(x:Str):offN Ts x<=Ts.length:=Pt ..
def Fm (row:List Str) (Ts:List (List Str)):List (Str×Int×Int):=(dit row).map λx=>(x,(Ts.length:Int) - offN Ts x,(offN Ts x:Int))
def B7 (row:List Str) (Ts:List (List Str)):List (Str×Int):=(Fm row Ts).map λt=>(t.1,if t.2.2<t.2.1 then t.2.2 else t.2.1)
def Ee (row:List Str) (Ts:List (List Str)):Int:=((B7 row Ts).map (·.2)).sum
def v3 (t:Str×Int×Int):List V:=[.str t.1,.int t.2.1,.int t.2.2]
def v2 (q:Str×Int):List V:=[.str q.1,.int q.2]
def d3 (t:Str×Int×Int):PyData:=.tuple [.str t.1,.int t.2.1,.int t.2.2]
def d2 (q:Str×Int):PyData:=.tuple [.str q.1,.int q.2]
theorem Xfp(row:List Str)(Ts:List (List Str)):(Fm row Ts).length=(dit row).length:=by unfold Fm;rw[Oo]
theorem Kv(row:List Str)(Ts:List (List Str)):(B7 row Ts).length=(dit row).length:=by unfold B7;rw[Oo,Xfp]
theorem Xnz{row:List Str}{Ts:List (List Str)}(hl:Ts.length<=200):∀n∈(B7 row Ts).map (·.2),0<=n/\n<=200:=λn hn=>by
 obtain⟨q,hq,rfl⟩:=Pe.mp hn;obtain⟨t,ht,rfl⟩:=Pe.mp hq;obtain⟨x,_,rfl⟩:=Pe.mp ht;have:=Ku Ts x;dsimp only;split<;>omega
structure CrAt (H:Hp) (T:Addr) (pos:Pos) (r c:Addr) (row:List Str) (ps:List Addr) (Ts:List (List Str)):Prop where
 hr:H r=some (.lst (row.map V.str))
 r2:Row2 row
 n3:Bt row
 d:(dit row).length<=14
 tab:Am T pos qIn H
 hc:H c=some (.lst (ps.map V.ref))
 ht:Tups H ps Ts
 pl:ps.length<=200
 co:Ny Ts
theorem CrAt.but{H H':Hp}{T:Addr}{pos:Pos}{r c:Addr}{row:List Str}{ps:List Addr}{Ts:List (List Str)}(h:CrAt H T pos r c row ps Ts)(t:Am T pos qIn H')(b:But T H H'):CrAt H' T pos r c row ps Ts:=
 have keep:∀{b:Addr} {o:HO},H b=some o->(∀z,o ≠ .tbl z)->H' b=some o:=λe n=>b _ _ e (Am.ne h.tab e n)
 ⟨keep h.hr λz=>by simp,h.r2,h.n3,h.d,t,keep h.hc λz=>by simp,⟨h.ht.1,λi hi=>keep (h.ht.2 i hi) λz=>by simp⟩,h.pl,h.co⟩
theorem CrAt.same{H H':Hp}{T:Addr}{pos:Pos}{r c:Addr}{row:List Str}{ps:List Addr}{Ts:List (List Str)}(h:CrAt H T pos r c row ps Ts)(s:Same H H'):CrAt H' T pos r c row ps Ts:=h.but (SH.Am.same h.tab s) λb o e _=>s _ _ e
def Nz (C T:Addr) (pos:Pos):Sp:=λvs H Q E=>∃(r c:Addr) (row:List Str) (ps:List Addr) (Ts:List (List Str)),vs=[.ref r,.ref c]/\CrAt H T pos r c row ps Ts /\
 ((∀S∈Ts,Ae row S=true)->∀(D:Addr) (qs:List Addr) (H':Hp),H D=none->H' D=some (.lst (qs.map V.ref))->Recs H' qs ((Fm row Ts).map v3)->Am T pos qIn H'->But T H H'->Q (.ref D) H') /\
 ((∃S∈Ts,Ae row S=false)->∀H',Am T pos qIn H'->But T H H'->E (.ref C) none H')
def N0 (C T:Addr) (pos:Pos):Sp:=λvs H Q E=>∃(r c:Addr) (row:List Str) (ps:List Addr) (Ts:List (List Str)),vs=[.ref r,.ref c]/\CrAt H T pos r c row ps Ts /\
 ((∀S∈Ts,Ae row S=true)->∀(D:Addr) (qs:List Addr) (H':Hp),H D=none->H' D=some (.lst (qs.map V.ref))->Recs H' qs ((B7 row Ts).map v2)->Am T pos qIn H'->But T H H'->Q (.ref D) H') /\
 ((∃S∈Ts,Ae row S=false)->∀H',Am T pos qIn H'->But T H H'->E (.ref C) none H')
def N1 (C T:Addr) (pos:Pos):Sp:=λvs H Q E=>∃(r c:Addr) (row:List Str) (ps:List Addr) (Ts:List (List Str)),vs=[.ref r,.ref c]/\CrAt H T pos r c row ps Ts /\
 ((∀S∈Ts,Ae row S=true)->∀H',Am T pos qIn H'->But T H H'->Q (.int (Ee row Ts)) H') /\
 ((∃S∈Ts,Ae row S=false)->∀H',Am T pos qIn H'->But T H H'->E (.ref C) none H')
def kvN (ns:List Str) (f:Str->Nat):List (Key×V):=ns.map λx=>((Sum.inr x:Key),V.int (f x:Int))
theorem N2(f:Str->Nat)(x:Str):∀(ns:List Str),Av (kvN ns f) (Sum.inr x:Key)=if x∈ns then some (.int (f x:Int)) else none
 | []=>rfl
 | y::ns=>by
  have ih:=N2 f x ns;unfold kvN Av at ih ⊢;rw[Pg,Q5];by_cases e:y=x
  ·subst e;simp
  ·have e1:decide ((Sum.inr y:Key)=Sum.inr x)=false:=Tm λz=>e (Q4 z);rw[e1];dsimp only;rw[ih];have:x≠y:=λz=>e z.symm;by_cases m:x∈ns<;>simp[m,this]
def cntOn (ns:List Str) (Ts:List (List Str)):List (Str×Int×Int):=ns.map λx=>(x,(Ts.length:Int) - offN Ts x,(offN Ts x:Int))
abbrev NCo:List Str:=["row", "crowd", "off"]
abbrev NCo1:List Str:=["name", "crowd"]
abbrev NCo2:List Str:=["plot", "name"]
abbrev NCo3:List Str:=["name", "crowd", "off"]
abbrev NPa1:List Str:=["name", "home", "off"]
abbrev NTo1:List Str:=["name", "number"]
def ne2 (a b:List Str) (x:Str):Bool:=xor (decide (x∈a)) (decide (x∈b))
theorem Xn0{a b:List Str}{x:Str}:ne2 a b x=true↔(x∈a/\x∉b)\/(x∈b/\x∉a):=by
 unfold ne2;by_cases h1:x∈a<;>by_cases h2:x∈b<;>simp[h1,h2]
theorem Xn1{row a b:List Str}(ha:Ae row a=true)(hb:Ae row b=true):(Bx a b).length=(dit row).countP (ne2 a b):=by
 rw[Q3];congr 1;refine Xev (Xnl (Kt ha) (Kt hb)) ((Dv row).filter _) λx=>?_;rw[Xnk,O0,Xn0,Ao];refine⟨λh=>⟨?_,h⟩,λh=>h.2⟩;rcases h with h | h
 ·exact(Da ha).1 x h.1
 ·exact(Da hb).1 x h.1
def btw (a b c:List Str):Bool:=decide ((Bx a c).length+(Bx c b).length=(Bx a b).length)
def Xqq:Sp:=λvs H Q _=>∃(r p q u:Addr) (row a b c:List Str),vs=[.ref r,.ref p,.ref q,.ref u]/\H r=some (.lst (row.map V.str))/\Row2 row/\(dit row).length<=14/\H p=some (.tup (a.map V.str))/\H q=some (.tup (b.map V.str))/\H u=some (.tup (c.map V.str)) /\
 Ae row a=true/\Ae row b=true/\Ae row c=true/\∀H',Same H H'->Q (.bl (btw a b c)) H'
def Xqr (T:Addr) (pos:Pos):Sp:=λvs H Q _=>∃(r p q:Addr) (row a b:List Str),vs=[.ref r,.ref p,.ref q]/\H r=some (.lst (row.map V.str))/\Row2 row/\Bt row/\(dit row).length<=14/\H p=some (.tup (a.map V.str))/\H q=some (.tup (b.map V.str)) /\
 Ae row a=true/\Ae row b=true/\Am T pos qIn H /\
 ∀(D:Addr) (ps:List Addr) (Ts:List (List Str)) (H':Hp),H D=none->H' D=some (.lst (ps.map V.ref))->Tups H' ps Ts->(∀S,S∈Ts↔Ae row S=true/\btw a b S=true)->(Ts.Pairwise λx y=>B6 x y=true)->ps.length<=64->Am T pos qIn H'->But T H H'->Q (.ref D) H'
def E4 (Ts:List (List Str)) (S:List Str) (x:Str):Int:=if x∈S then (Ts.length:Int) - offN Ts x else (offN Ts x:Int)
theorem Xfq{α : Type}(f g : α->Int):∀l:List α,(l.map λx=>f x+g x).sum=(l.map f).sum+(l.map g).sum
 | []=>rfl
 | a::l=>by
  have ih:=Xfq f g l;simp only[Pg,Qi];omega
theorem Xfr{α : Type}(p : α->Bool):∀l:List α,(l.map λx=>if p x=true then (1:Int) else 0).sum=(l.countP p:Int)
 | []=>rfl
 | a::l=>by
  have ih:=Xfr p l;rw[Pg,Qi,ih,Qq];cases p a<;>simp<;>omega
theorem Ie(a:List Str)(Ts:List (List Str))(x:Str):offN (a::Ts) x=(if x∈a then 1 else 0)+offN Ts x:=by
 unfold offN;rw[Pw];by_cases h:x∈a
 ·rw[Tl h,Tk rfl,Tk h,Pc,Nat.add_comm]
 ·rw[Tm h,Tj (by decide),Tj h,Ql]
theorem N3{row S:List Str}(hS:Ae row S=true):∀{Ts:List (List Str)},(∀a∈Ts,Ae row a=true)->Ap Ts S=((dit row).map (E4 Ts S)).sum
 | [],_=>by
  have:(dit row).map (E4 [] S)=(dit row).map λ_=>(0:Int):=P0 λx _=>by
   unfold E4 offN;split<;>rfl
  rw[this];show (0:Int)=_
  induction dit row with
  | nil=>rfl
  | cons a l ih=>rw[Pg,Qi,<-ih];rfl
 | a::Ts,h=>by
  have ih:=N3 hS (Ts:=Ts) λb hb=>h b (Ou _ hb);have e:Ap (a::Ts) S=((Bx a S).length:Int)+Ap Ts S:=by
   unfold Ap;rw[Pg,Qi]
  rw[e,ih,Xn1 (h a Ow) hS,<-Xfr,<-Xfq];congr 1;refine P0 λx _=>?_;unfold E4 ne2;rw[Ie,Pc];have:=Ku Ts x;by_cases h1:x∈a<;>by_cases h2:x∈S<;>simp[h1,h2]<;>omega
def Xfs (Ts:List (List Str)) (S:List Str) (x:Str):Prop:=(x∈S->Ts.length<=2 * offN Ts x)/\(x∉S->2 * offN Ts x<=Ts.length)
def Ig (Ts:List (List Str)) (x:Str):Int:=if (offN Ts x:Int)<(Ts.length:Int) - offN Ts x then (offN Ts x:Int) else (Ts.length:Int) - offN Ts x
theorem Xn2(Ts:List (List Str))(S:List Str)(x:Str):Ig Ts x<=E4 Ts S x:=by
 unfold Ig E4;have:=Ku Ts x;split<;>split<;>omega
theorem Xn3{Ts:List (List Str)}{S:List Str}{x:Str}:E4 Ts S x=Ig Ts x↔Xfs Ts S x:=by
 unfold Ig E4 Xfs;have:=Ku Ts x;by_cases h:x∈S
 ·rw[Tk h];constructor
  ·intro e;exact⟨λ_=>by split at e<;>omega,λz=>absurd h z⟩
  ·intro e;have:=e.1 h;split<;>omega
 ·rw[Tj h];constructor
  ·intro e;exact⟨λz=>absurd z h,λ_=>by split at e<;>omega⟩
  ·intro e;have:=e.2 h;split<;>omega
theorem Xft{α : Type}{f g : α->Int}:∀{l:List α},(∀x∈l,f x<=g x)->(l.map f).sum<=(l.map g).sum
 | [],_=>S9 _
 | a::l,h=>by
  have ih:=Xft (l:=l) λx hx=>h x (Ou _ hx);have:=h a Ow;rw[Pg,Pg,Qi,Qi];omega
theorem Xfu(row:List Str)(Ts:List (List Str)):Ee row Ts=((dit row).map (Ig Ts)).sum:=by
 unfold Ee B7 Fm;rw[Pp,Pp];rfl
def Ih (row:List Str) (Ts:List (List Str)):List Str:=(dit row).filter λx=>decide (Ts.length<2 * offN Ts x)
theorem Fo{row:List Str}{Ts:List (List Str)}{x:Str}:x∈Ih row Ts↔x∈row/\Ts.length<2 * offN Ts x:=by
 unfold Ih;rw[O0,Ao,decide_eq_true_eq]
theorem Xn4{Ts:List (List Str)}{x y:Str}(h:∀S∈Ts,x∈S->y∈S):offN Ts x<=offN Ts y:=by
 induction Ts with
 | nil=>exact Oq _
 | cons a Ts ih=>
  rw[Ie,Ie];have:=ih λS hS=>h S (Ou _ hS);have h1:=h a Ow;by_cases z:x∈a
  ·rw[Tk z,Tk (h1 z)];omega
  ·rw[Tj z];omega
theorem Xn5{Ts:List (List Str)}{x y:Str}(h:∀S∈Ts,¬(x∈S/\y∈S)):offN Ts x+offN Ts y<=Ts.length:=by
 induction Ts with
 | nil=>exact Oq _
 | cons a Ts ih=>
  rw[Ie,Ie,Pc];have:=ih λS hS=>h S (Ou _ hS);have h1:=h a Ow;by_cases z:x∈a
  ·rw[Tk z,Tj (λq=>h1 ⟨z,q⟩)];omega
  ·rw[Tj z];split<;>omega
theorem Kw{row:List Str}{Ts:List (List Str)}(hT:∀a∈Ts,Ae row a=true):Ae row (Ih row Ts)=true:=by
 refine Fl.mpr ⟨(Dv row).filter _,λx hx=>(Fo.mp hx).1,λx hx y hy e=>?_,λx hx y hy e=>?_⟩
 ·have h1:=(Fo.mp hx).2;have h2:=Xn4 (Ts:=Ts) (x:=x) (y:=y) λS hS hxS=>(Fl.mp (hT S hS)).2.2.1 x hxS y hy e;exact Fo.mpr ⟨hy,by omega⟩
 ·have h1:=(Fo.mp hx).2;have h2:=(Fo.mp hy).2;have h3:=Xn5 (Ts:=Ts) (x:=x) (y:=y) λS hS z=>(Fl.mp (hT S hS)).2.2.2 x z.1 y z.2 e;omega
theorem N4{row:List Str}{Ts:List (List Str)}(hT:∀a∈Ts,Ae row a=true):Ap Ts (Ih row Ts)=Ee row Ts:=by
 rw[N3 (Kw hT) hT,Xfu];congr 1;refine P0 λx hx=>Xn3.mpr ⟨λh=>?_,λh=>?_⟩
 ·have:=(Fo.mp h).2;omega
 ·have:¬Ts.length<2 * offN Ts x:=λz=>h (Fo.mpr ⟨Ao.mp hx,z⟩);omega
def Kx (row:List Str) (Ts:List (List Str)) (S:List Str):Prop:=Ae row S=true/\∀S',Ae row S'=true->Ap Ts S<=Ap Ts S'
theorem N5{row S:List Str}{Ts:List (List Str)}(hT:∀a∈Ts,Ae row a=true)(hS:Ae row S=true):Ee row Ts<=Ap Ts S:=by
 rw[N3 hS hT,Xfu];exact Xft λx _=>Xn2 Ts S x
theorem N6{row S:List Str}{Ts:List (List Str)}(hT:∀a∈Ts,Ae row a=true):Kx row Ts S↔Ae row S=true/\Ap Ts S=Ee row Ts:=by
 constructor
 ·rintro ⟨h1,h2⟩;have:=h2 _ (Kw hT);rw[N4 hT] at this;have:=N5 hT h1;exact⟨h1,by omega⟩
 ·rintro ⟨h1,h2⟩;refine⟨h1,λS' h'=>?_⟩;rw[h2];exact N5 hT h'
end SH
namespace L2
open PySem PySem.Spec PyProof.Rows
def Cp (h:Heap) (d:Addr) (es:Array DictEntry) (ep:Nat):Prop:=∃o,h.get? d=some o/\o.ExactDict/\o.data = .dict es ep
theorem Cp.at{h h':Heap}{d:Addr}{es:Array DictEntry}{ep:Nat}(x:Cp h d es ep)(k:∀o,h.get? d=some o->h'.get? d=some o):Cp h' d es ep:=let ⟨o,a,b⟩:=x; ⟨o,k o a,b⟩
theorem Cp.ty{s:Shared}{d:Addr}{es:Array DictEntry}{ep:Nat}(x:Cp s.heap d es ep):s.TypeIs (.ref d) "dict" := let ⟨o,a,b,_⟩:=x; ⟨o,a,b.1⟩
section
variable {P:Program}{w:World}{A:Around}{E:Value->Shared->Prop}{s:Shared}{it d v:Addr}{i ep:Nat}{es:Array DictEntry}
theorem Xn6{Q:Option Value->Shared->Prop}(st:s.heap.IsKeyIter it d i es.size ep)(hm:Cp s.heap d es ep)(lt:i<es.size)
  (q:∀h',h'.IsKeyIter it d (i+1) es.size ep->Heap.SameBut it s.heap h'->Q (some es[i].key) {s with heap:=h'}):wpAny (model P w) A (pyNext (.ref it)) Q E s:=by
 have ty:=st.typeIs;obtain⟨o,h1,h2,h3⟩:=id st;obtain⟨u,g1,g2,g3⟩:=id hm;unfold pyNext;refine Te (wpAny_attempt ?_);refine wpAny_callSpecial?_slot (name:=Str.ofString "__next__") ty PySem.F.slot_dict_keyiterator_next ?_;refine wpAny_call_entry PySem.F.slot_dict_keyiterator_next ty PySem.F.entry_dict_keyiterator_next ?_ (PySem.F.args_dict_keyiterator_next_1 _);refine Te (Tf (Te (Te ?_)));refine Te (wpAny_typeNameOfWhole_keyiter ty (Tf (Te (wpAny_fieldsOf h1 h3 ?_))));have no:Builtin.Dict_items.ownsTuple "dict_keyiterator" = false:=by decide
 simp only[no,Pf,if_false];show wpAny _ _ (if (Value.ref d==Value.none)=true then _ else _) _ _ s;refine wpAny_ite_split (λz=>absurd z O4) (λ_=>?_);refine Te (Tf (Te (wpAny_dictEntries g1 g3 ?_)));rw[Tj (by simp)];refine Te (Tf (Te (wpAny_dictEpoch g1 g3 ?_)));rw[Tj (by simp)];refine Tf ?_;simp only[show ¬((i:Int)<0) from by omega,if_false,Qh,R1 lt];refine Te (Te (wpAny_typeNameOfWhole_keyiter ty (Tf ?_)));refine Te (wpAny_isOneOf_keyiter ty ?_);show wpAny _ _ (setField (.ref it) 1 (rawInt ((i:Int)+1)) >>= _) _ _ s;refine Te (wpAny_setField h1 h3 (by simp) ?_);have st':(s.heap.update it (Obj.mapFields (·.setIfInBounds 1 (rawInt ((i:Int)+1))))).IsKeyIter it d (i+1) es.size ep:=by
  refine⟨_,Heap.get?_update_self _ h1 (Obj.isFreed_of_fields (Obj.data_mapFields h3 _)),?_,?_⟩
  ·rw[Obj.cls_mapFields];exact h2
  ·rw[Obj.data_mapFields h3];simp[rawInt]
 refine Te (wpAny_holding (Te ?_));refine wpAny_isOneOf_keyiter (s:={s with heap:=_}) st'.typeIs ?_;exact Tf (Tf ⟨_,rfl,Tf (q _ st' (Tt ..))⟩)
theorem Xn7{Q:Option Value->Shared->Prop}(hh:A.handled=none)(st:s.heap.IsKeyIter it d i es.size ep)(hm:Cp s.heap d es ep)(ge:es.size<=i)
  (q:∀h',Heap.ExtBut it s.heap h'->Q none {s with heap:=h'}):wpAny (model P w) A (pyNext (.ref it)) Q E s:=by
 have ty:=st.typeIs;obtain⟨o,h1,h2,h3⟩:=id st;obtain⟨u,g1,g2,g3⟩:=id hm;unfold pyNext;refine Te (wpAny_attempt ?_);refine wpAny_callSpecial?_slot (name:=Str.ofString "__next__") ty PySem.F.slot_dict_keyiterator_next ?_;refine wpAny_call_entry PySem.F.slot_dict_keyiterator_next ty PySem.F.entry_dict_keyiterator_next ?_ (PySem.F.args_dict_keyiterator_next_1 _);refine Te (Tf (Te (Te ?_)));refine Te (wpAny_typeNameOfWhole_keyiter ty (Tf (Te (wpAny_fieldsOf h1 h3 ?_))));have no:Builtin.Dict_items.ownsTuple "dict_keyiterator" = false:=by decide
 simp only[no,Pf,if_false];show wpAny _ _ (if (Value.ref d==Value.none)=true then _ else _) _ _ s;refine wpAny_ite_split (λz=>absurd z O4) (λ_=>?_);refine Te (Tf (Te (wpAny_dictEntries g1 g3 ?_)));rw[Tj (by simp)];refine Te (Tf (Te (wpAny_dictEpoch g1 g3 ?_)));rw[Tj (by simp)];refine Tf ?_;simp only[show ¬((i:Int)<0) from by omega,if_false,Qh,Array.getElem?_eq_none ge];refine Te (Te (wpAny_typeNameOfWhole_keyiter ty (Tf ?_)));show wpAny _ _ (setField (.ref it) 0 .none >>= _) _ _ s;refine Te (wpAny_setField h1 h3 (by simp) ?_);refine Te ?_;simp only[newExc,newTuple];refine Te (wpAny_newObj_type ?_ (by size_fits));refine Te (m:=firstArgMember _ _) (wpAny_of_eq (a:=Value.none) (by first | rfl | (simp only[firstArgMember];rfl)) ?_);refine wpAny_newObj_type ?_ (by size_fits);simp only[raiseNew];refine Te (wpAny_handled ?_);rw[show A.in1.handled=none from hh];refine Te (Tf (wpAny_throw ?_));refine Te (wpAny_isInstance (b:=true) (T := "StopIteration") ⟨_,Heap.get?_push_size _ rfl,rfl⟩ isSubtype_stop ?_);exact Tf (q _ (((Tt ..).extBut.push _).push _))
theorem Xn8{Q:Option Value->Shared->Prop}(st:s.heap.IsValIter it d i es.size ep)(hm:Cp s.heap d es ep)(lt:i<es.size)
  (q:∀h',h'.IsValIter it d (i+1) es.size ep->Heap.SameBut it s.heap h'->Q (some es[i].val) {s with heap:=h'}):wpAny (model P w) A (pyNext (.ref it)) Q E s:=by
 have ty:=st.typeIs;obtain⟨o,h1,h2,h3⟩:=id st;obtain⟨u,g1,g2,g3⟩:=id hm;unfold pyNext;refine Te (wpAny_attempt ?_);refine wpAny_callSpecial?_slot (name:=Str.ofString "__next__") ty PySem.F.slot_dict_valueiterator_next ?_;refine wpAny_call_entry PySem.F.slot_dict_valueiterator_next ty PySem.F.entry_dict_valueiterator_next ?_ (PySem.F.args_dict_valueiterator_next_1 _);refine Te (Tf (Te (Te ?_)));refine Te (wpAny_typeNameOfWhole_valiter ty (Tf (Te (wpAny_fieldsOf h1 h3 ?_))));have no:Builtin.Dict_items.ownsTuple "dict_valueiterator" = false:=by decide
 simp only[no,Pf,if_false];show wpAny _ _ (if (Value.ref d==Value.none)=true then _ else _) _ _ s;refine wpAny_ite_split (λz=>absurd z O4) (λ_=>?_);refine Te (Tf (Te (wpAny_dictEntries g1 g3 ?_)));rw[Tj (by simp)];refine Te (Tf (Te (wpAny_dictEpoch g1 g3 ?_)));rw[Tj (by simp)];refine Tf ?_;simp only[show ¬((i:Int)<0) from by omega,if_false,Qh,R1 lt];refine Te (Te (wpAny_typeNameOfWhole_valiter ty (Tf ?_)));refine Te (wpAny_isOneOf_valiter ty ?_);show wpAny _ _ (setField (.ref it) 1 (rawInt ((i:Int)+1)) >>= _) _ _ s;refine Te (wpAny_setField h1 h3 (by simp) ?_);have st':(s.heap.update it (Obj.mapFields (·.setIfInBounds 1 (rawInt ((i:Int)+1))))).IsValIter it d (i+1) es.size ep:=by
  refine⟨_,Heap.get?_update_self _ h1 (Obj.isFreed_of_fields (Obj.data_mapFields h3 _)),?_,?_⟩
  ·rw[Obj.cls_mapFields];exact h2
  ·rw[Obj.data_mapFields h3];simp[rawInt]
 refine Te (wpAny_holding (Te ?_));refine wpAny_isOneOf_valiter (s:={s with heap:=_}) st'.typeIs (Te ?_);refine wpAny_isOneOf_valiter (s:={s with heap:=_}) st'.typeIs ?_;exact Tf (Tf ⟨_,rfl,Tf (q _ st' (Tt ..))⟩)
theorem Xn9{Q:Option Value->Shared->Prop}(hh:A.handled=none)(st:s.heap.IsValIter it d i es.size ep)(hm:Cp s.heap d es ep)(ge:es.size<=i)
  (q:∀h',Heap.ExtBut it s.heap h'->Q none {s with heap:=h'}):wpAny (model P w) A (pyNext (.ref it)) Q E s:=by
 have ty:=st.typeIs;obtain⟨o,h1,h2,h3⟩:=id st;obtain⟨u,g1,g2,g3⟩:=id hm;unfold pyNext;refine Te (wpAny_attempt ?_);refine wpAny_callSpecial?_slot (name:=Str.ofString "__next__") ty PySem.F.slot_dict_valueiterator_next ?_;refine wpAny_call_entry PySem.F.slot_dict_valueiterator_next ty PySem.F.entry_dict_valueiterator_next ?_ (PySem.F.args_dict_valueiterator_next_1 _);refine Te (Tf (Te (Te ?_)));refine Te (wpAny_typeNameOfWhole_valiter ty (Tf (Te (wpAny_fieldsOf h1 h3 ?_))));have no:Builtin.Dict_items.ownsTuple "dict_valueiterator" = false:=by decide
 simp only[no,Pf,if_false];show wpAny _ _ (if (Value.ref d==Value.none)=true then _ else _) _ _ s;refine wpAny_ite_split (λz=>absurd z O4) (λ_=>?_);refine Te (Tf (Te (wpAny_dictEntries g1 g3 ?_)));rw[Tj (by simp)];refine Te (Tf (Te (wpAny_dictEpoch g1 g3 ?_)));rw[Tj (by simp)];refine Tf ?_;simp only[show ¬((i:Int)<0) from by omega,if_false,Qh,Array.getElem?_eq_none ge];refine Te (Te (wpAny_typeNameOfWhole_valiter ty (Tf ?_)));show wpAny _ _ (setField (.ref it) 0 .none >>= _) _ _ s;refine Te (wpAny_setField h1 h3 (by simp) ?_);refine Te ?_;simp only[newExc,newTuple];refine Te (wpAny_newObj_type ?_ (by size_fits));refine Te (m:=firstArgMember _ _) (wpAny_of_eq (a:=Value.none) (by first | rfl | (simp only[firstArgMember];rfl)) ?_);refine wpAny_newObj_type ?_ (by size_fits);simp only[raiseNew];refine Te (wpAny_handled ?_);rw[show A.in1.handled=none from hh];refine Te (Tf (wpAny_throw ?_));refine Te (wpAny_isInstance (b:=true) (T := "StopIteration") ⟨_,Heap.get?_push_size _ rfl,rfl⟩ isSubtype_stop ?_);exact Tf (q _ (((Tt ..).extBut.push _).push _))
theorem Xoa{Q:Value->Shared->Prop}(nd:(d==sysModules)=false)(hm:Cp s.heap d es ep)
  (q:Q (.ref s.heap.objs.size) {s with heap:=s.heap.push {cls:=.type "dict_keyiterator",data:=.fields #[.ref d,.int 0 0,.int es.size 0,.int ep 0]} }):wpAny (model P w) A (pyIter (.ref d)) Q E s:=by
 have ty:=hm.ty;obtain⟨u,g1,g2,g3⟩:=id hm;refine wpAny_pyIter_slot ty PySem.F.slot_dict_iter (wpAny_call_entry PySem.F.slot_dict_iter ty PySem.F.entry_dict_iter ?_ (PySem.F.args_dict_iter_1 _));unfold Builtin.«dict.__iter__» Builtin.Dict.dictSlotNone;refine Te (Te (wpAny_notOrdered_dict ty ?_));refine Tf ?_;show wpAny _ _ (Builtin.Dict.showsAll d >>= _) _ _ s;unfold Builtin.Dict.showsAll;rw[Tj (by rw[nd];decide)];refine Te (Tf (Te (wpAny_dictEntries g1 g3 (Te (wpAny_dictEpoch g1 g3 ?_)))));refine Te (wpAny_newObj_type (Tf ⟨_,rfl, "dict_keyiterator",_,⟨_,Heap.get?_push_size _ rfl,rfl⟩,PySem.F.slot_dict_keyiterator_next.lookup,?_⟩));simpa [rawInt] using q
theorem Xob{Q:Value->Shared->Prop}(hv:s.heap.IsValuesView v d)(hm:Cp s.heap d es ep)
  (q:Q (.ref s.heap.objs.size) {s with heap:=s.heap.push {cls:=.type "dict_valueiterator",data:=.fields #[.ref d,.int 0 0,.int es.size 0,.int ep 0]} }):wpAny (model P w) A (pyIter (.ref v)) Q E s:=by
 have ty:=hv.typeIs;obtain⟨x,x1,x2,x3⟩:=id hv;obtain⟨u,g1,g2,g3⟩:=id hm;refine wpAny_pyIter_slot ty PySem.F.slot_dict_values_iter (wpAny_call_entry PySem.F.slot_dict_values_iter ty PySem.F.entry_dict_values_iter ?_ (PySem.F.args_dict_values_iter_1 _));unfold Builtin.«dict_values.__iter__»;refine Te (Tf (Te ?_));unfold Builtin.Dict_items.dictOf;refine Te (wpAny_field x1 x3 (x:=.ref d) rfl (Tf (Te ?_)));unfold Builtin.Dict_items.newIterator;refine Te (wpAny_dictEntries g1 g3 (Te (wpAny_dictEpoch g1 g3 ?_)));have no:Builtin.Dict_items.ownsTuple "dict_valueiterator" = false:=by decide
 simp only[no,Pf,if_false];refine wpAny_newObj_type (Tf ⟨_,rfl, "dict_valueiterator",_,⟨_,Heap.get?_push_size _ rfl,rfl⟩,PySem.F.slot_dict_valueiterator_next.lookup,?_⟩);simpa [rawInt] using q
theorem Xoc(nd:(d==sysModules)=false):MeetsIn P w (Builtin.«dict.values» ⟨[.ref d],[]⟩) (λ_ R s=>(∃es ep,Cp s.heap d es ep)/\R (.ok (.ret (.ref s.heap.objs.size))) {s with heap:=s.heap.push {cls:=.type "dict_values",data:=.fields #[.ref d]} }):=
 .of_wp λA R s ⟨⟨es,ep,hm⟩,h⟩=>by
  refine Te ?_;unfold Builtin.Dict.noArgs;refine Te (wpAny_notOrdered_dict hm.ty (Tf ?_));show wpAny _ _ (Builtin.Dict.showsAll d >>= _) _ _ s;unfold Builtin.Dict.showsAll;rw[Tj (by rw[nd];decide)];exact Te (Tf (Te (wpAny_newObj_type (Tf ⟨_,rfl,h⟩))))
theorem Xod(hh:A.handled=none)(ne:d≠it):Walks P w A it [it,d] [it] es.size (λi v=>∃e,es[i]? = some e/\v=e.val) (λi h=>h.IsValIter it d i es.size ep/\Cp h d es ep) where
 sub:=λb hb=>by simp at hb;simp[hb]
 frame:=λ_ _ _ st hk=>⟨st.1.at λo e=>hk it (by simp) o e,st.2.at λo e=>hk d (by simp) o e⟩
 item:=λi s Q E hi st hQ=>Xn8 st.1 st.2 hi λh' st' sb=>hQ es[i].val h' s.toks ⟨es[i],by simp[hi],rfl⟩ ⟨st',st.2.at λo e=>sb.extBut d o ne e⟩ λb o hb e=>sb.extBut b o (λz=>hb (by simp[z])) e
 done:=λs Q E st hQ=>Xn9 hh st.1 st.2 (Oq _) λh' k=>hQ h' s.toks λb o hb e=>k b o (λz=>hb (by simp[z])) e
 self:=λ_ _ _ _ st hQ=>wpAny_pyIter_valiter st.1 hQ
end
def D1 (o:Obj) (i:Nat):Addr:=match o.data with
 | .dict es _=>match es[i]? with
  | some e=>match e.key with
   | .ref a=>a
   | _=>0
  | none=>0
 | _=>0
def ItT (d:Addr) (o:Obj) (kvs:List (List Key×V)):It:=
 ⟨λi H=>H d=some (.frz o (.dT kvs))/\i<kvs.length,λi H x H'=>H'=H/\x = .ref (D1 o i),λi H=>H d=some (.frz o (.dT kvs))/\kvs.length<=i⟩
theorem Xoe{d:Addr}{o:Obj}{kvs:List (List Key×V)}{H:Hp}{i:Nat}(h:H d=some (.frz o (.dT kvs)))(hi:i<kvs.length):(ItT d o kvs).go i H/\∀x H3,(ItT d o kvs).yld i H x H3->H3=H/\x = .ref (D1 o i):=⟨⟨h,hi⟩,λ_ _ y=>y⟩
theorem Xof{d:Addr}{o:Obj}{kvs:List (List Key×V)}{H:Hp}(h:H d=some (.frz o (.dT kvs))):(ItT d o kvs).stop kvs.length H:=⟨h,Oq _⟩
theorem N7{P:Program}{w:World}{o:Obj}{es:Array DictEntry}{ep:Nat}{xs:List (List Key×Addr×Value)}(hd:o.data = .dict es ep)(he:es.toList=xs.map (entryOfKey (tupleKind (Bi P w)))){i:Nat}(hi:i<xs.length)(hs:i<es.size):
  es[i].key = .ref (xs[i]).2.1/\es[i].val=(xs[i]).2.2/\D1 o i=(xs[i]).2.1:=by
 have e:es[i]? = some (entryOfKey (tupleKind (Bi P w)) xs[i]):=by
  rw[<-Rh,he,O2,Op hi];rfl
 have e2:es[i]=entryOfKey (tupleKind (Bi P w)) xs[i]:=by
  rw[R1 hs] at e;exact Pa e
 refine⟨by rw[e2];rfl,by rw[e2];rfl,?_⟩;unfold D1;rw[hd];dsimp only;rw[e];rfl
theorem N8{α β : Type}{F : α -> β->Prop}:∀{l:List α} {m:List β},Paired F l m->∀{i:Nat} (h1:i<l.length) (h2:i<m.length),F l[i] m[i]
 | _,_,.cons r t,0,_,_=>r
 | _,_,.cons r t,i+1,h1,h2=>N8 t (i:=i) (by simpa using h1) (by simpa using h2)
theorem Xog{P:Program}{w:World}{K:PySem.W.Frag}{tg:Expr}(d it:Addr)(o:Obj)(es:Array DictEntry)(ep:Nat)(hd:o.data = .dict es ep)(kvs:List (List Key×V))(hne:d≠it):
  Turn P w K tg (ItT d o kvs) [it] it (λi h=>h.IsKeyIter it d i kvs.length ep) where
 mem:=by simp
 obj:=λi h st b hb=>by
  have e:b=it:=by simpa using hb
  subst e;obtain⟨o,e,c,d⟩:=st;exact⟨o,e,λv z=>by rw[d] at z;cases z⟩
 keep:=λi h h' st k=>by
  obtain⟨o,e,r⟩:=st;exact⟨o,k it (by simp) o e,r⟩
 item:=by
  intro X hP hw hK hc i pins s σ H E I hf st hg;subst hP hw hK;obtain⟨hH,hi⟩:=hg;obtain⟨ho,hz,hm,xs,rv,o',es',ep',ho',hex,hd',he,_⟩:=I.hok d _ hH;rw[ho] at ho';cases ho';rw[hd] at hd';cases hd';have hlen:kvs.length=xs.length:=Paired.length rv;have hsz:es.size=kvs.length:=by rw[<-Ov,he,Oo,hlen]
  obtain⟨f0,f1,f2,f3,f4,f5⟩:=hf it (by simp);rw[<-hsz] at st;have hie:i<es.size:=by omega
  obtain⟨k1,_,k3⟩:=N7 hd he (i:=i) (by omega) hie;refine Xn6 st ⟨o,ho,hex,hd⟩ hie λh' st' sb=>?_;have I1:Inv X pins σ H {s with heap:=h'}:=I.turned (t':=s.toks) (λb o hb e=>(sb.2 b hb).trans e) f0 f1 f3 f4 f5;obtain⟨o2,e2,c2,d2⟩:=id st';rw[k1];refine⟨_,rfl,Gr (s:={s with heap:=h'}) e2 c2 d2 (by decide) ⟨.ref _,H,I1,rfl,⟨rfl,by rw[k3]⟩,?_,λb hb=>(hf b hb).1⟩⟩;rw[<-hsz];exact st'
 done:=by
  intro X hP hw hK hc i pins s σ H E I hf st hg;subst hP hw hK;obtain⟨hH,hi⟩:=hg;obtain⟨ho,hz,hm,xs,rv,o',es',ep',ho',hex,hd',he,_⟩:=I.hok d _ hH;rw[ho] at ho';cases ho';rw[hd] at hd';cases hd';have hlen:kvs.length=xs.length:=Paired.length rv;have hsz:es.size=kvs.length:=by rw[<-Ov,he,Oo,hlen]
  obtain⟨f0,f1,f2,f3,f4,f5⟩:=hf it (by simp);rw[<-hsz] at st;exact Xn7 (I.ok.hd hc) st ⟨o,ho,hex,hd⟩ (by omega) λh' eb=>⟨rfl,I.turned (t':=s.toks) (λb o hb e=>eb b o hb e) f0 f1 f3 f4 f5⟩
 self:=λA i s Q E st h=>wpAny_pyIter_keyiter st h
section
variable {X:Cx}{tg:Expr}
theorem Inv.freezeT{pins:List (Addr×Obj)}{σ:St}{H:Hp}{s:Shared}{d:Addr}{kvs:List (List Key×V)}{o:Obj}(I:Inv X pins σ H s)(hH:H d=some (.dT kvs))(ho:s.heap.get? d=some o):Inv X pins σ (upd H d (.frz o (.dT kvs))) s:=by
 have ne:∀{b:Addr} {u:HO},H b=some u->(HO.dT kvs≠u)->b≠d:=λ{b u} e n=>Il e hH (λz=>n z.symm);refine⟨I.ok,I.os,I.bare,⟨I.base.keep,I.base.slot,λb ob e n hx=>?_,I.base.there,λb xs e=>?_,λb ob u e=>?_,λb ps e=>?_⟩,I.loc,I.cell,?_,λx c e=>?_,λp hp'=>?_,λb ob e=>?_,I.len⟩
 ·have q:=I.base.free b ob e n hx;rw[Ad (λz=>by rw[z,hH] at q;cases q)];exact q
 ·have q:=I.base.tups b xs e;rw[Ad (ne q (by simp))];exact q
 ·have q:=I.base.frzs b ob u e;rw[Ad (ne q (by simp))];exact q
 ·obtain⟨more,q⟩:=I.base.tbls b ps e;exact⟨more,by rw[Ad (ne q (by simp))];exact q⟩
 ·rw[Ad (λz=>by have:=I.free;rw[z,hH] at this;cases this)];exact I.free
 ·have q:=I.freeC x c e;rw[Ad (λz=>by rw[z,hH] at q;cases q)];exact q
 ·obtain⟨e,n,r⟩:=I.pin p hp';exact⟨e,by rw[Ad (λz=>by rw[z,hH] at n;cases n)];exact n,r⟩
 ·by_cases hb:b=d
  ·subst hb;rw[Ac] at e;cases e;exact⟨ho,(I.hok b _ hH).stay (λ_ _ _ q=>q) (λc q=>by rw[Ad (ne q (by simp))];exact q) λc xs q=>by rw[Ad (ne q (by simp))];exact q⟩
  ·rw[Ad hb] at e;exact(I.hok b ob e).stay (λ_ _ _ q=>q) (λc q=>by rw[Ad (ne q (by simp))];exact q) λc xs q=>by rw[Ad (ne q (by simp))];exact q
def Xoh (tl:TE):TI:=fun σ H R=>tl σ H λx H1=>∃d kvs,x = .ref d/\H1 d=some (.dT kvs)/\∀o,(∀i p,kvs[i]? = some p->H1 (D1 o i)=some (.tup (p.1.map kV)))->R (ItT d o kvs) (upd H1 d (.frz o (.dT kvs)))
theorem Xoi{l:Expr}{tl:TE}(hl:PE X l tl):PI X tg l (Xoh tl):=by
 intro pins s σ H R I h;refine thn (hl pins s σ H _ I h) λv s1 ⟨x,H1,I1,r1,q1⟩=>?_;obtain⟨d,kvs,e,hH,q⟩:=q1;subst e;cases r1;obtain⟨hz,hm,xs,rv,o,es,ep,ho,hex,hd,he,nd⟩:=I1.hok d _ hH;have hlen:kvs.length=xs.length:=Paired.length rv;have hsz:es.size=kvs.length:=by rw[<-Ov,he,Oo,hlen]
 refine Xoa hm ⟨o,ho,hex,hd⟩ ?_;have I2:=I1.freezeT hH ho;refine⟨s1.heap.objs.size,[s1.heap.objs.size],_,_,_,rfl,I2.kept (t':=s1.toks) λb o e=>Tr _ e,Xog d _ o es ep hd kvs (O1 (Tq ho)),⟨_,Heap.get?_push_size _ rfl,rfl,by rw[hsz];rfl⟩,λb hb=>?_,q o λi p hp=>?_⟩
 ·have e:b=s1.heap.objs.size:=by simpa using hb
  subst e;exact I2.fpOk (Oq _) (I2.hok.fresh (Oq _))
 ·obtain⟨hi,rfl⟩:=Pb.mp hp;obtain⟨_,_,k3⟩:=N7 hd he (i:=i) (by omega) (by omega);rw[k3];exact(N8 rv hi (by omega)).2.1
end
def Xfv (tk tv:TE) (D:Addr):TM:=fun σ H Q=>tk σ H λk H1=>tv σ H1 λv H2=>∃kvs ky b,k = .ref b/\H2 b=some (.tup (ky.map kV))/\H2 D=some (.dT kvs)/\kvs.length<sizeLine/\Q σ (upd H2 D (.dT (Bk kvs ky v)))
theorem Xoj{Y:Cx}{kx vx:Expr}{tk tv:TE}{D:Addr}(hu:Y.A.units+1<cLine)(hk:PE Y kx tk)(hv:PE Y vx tv):PM Y (do
  let kv <-eval kx Y.env
  let vv <-holding [kv] (eval vx Y.env)
  standAt {kx.pos with endLine:=vx.pos.endLine,endCol:=vx.pos.endCol}
  holding [kv,vv] (dictSet D kv vv)) (Xfv tk tv D):=by
 intro pins s σ H Q I h;refine Te (thn (hk pins s σ H _ I h) λkv s1 ⟨k,H1,I1,rk,q1⟩=>Te (wpAny_holding (thn (hv pins s1 σ H1 _ I1 q1) λvv s2 ⟨v,H2,I2,rv,kvs,ky,b,ek,eb,hD,hl,q⟩=>Te (wpAny_standAt (wpAny_holding ?_)))));subst ek;cases (show kv=Value.ref b from rk);obtain⟨z,hd,xs,rel,dd⟩:=Xbi I2.hok hD;have hz:xs.length<=sizeLine:=by rw[<-Paired.length rel];exact z
 have hl':(Bk kvs ky v).length<=sizeLine:=by have:=Gy kvs ky v;omega
 refine wpAny_dictSet_heap (hsz:=hz) (by exact Nat.lt_of_succ_lt hu) (G0 I2.hok eb) dd λh' dd' hs=>⟨σ,_,?_,q⟩;obtain⟨u,es,ep,hq,h2,h3,h4,_,h5⟩:=dd';refine Ix I2 (by rw[hD];exact True.intro) hs ⟨u,hq⟩ ⟨hl',hd,_,(rel.put ky eb rv).keeps λc ys ec=>?_,u,es,ep,hq,h2,h3,h4,h5⟩;rw[Ad (Il ec hD (λz=>nomatch z))];exact ec
theorem Xok{X:Cx}:Acc X newDict {cls:=.type "dict",data:=.dict #[]} (.dT []):=⟨λs Q E' h=>wpAny_newObj_type h,λpins σ H s I=>I.laid (a:=s.heap.objs.size) (o:=.dT []) (t':=s.toks) (λ_ _ q=>Tr _ q) (Oq _) (Xhp s.heap I.big)⟩
theorem Xol{X:Cx}{N:List Str}{cap:List (Option Nat)}{scope:Scope}{tg iter kx vx:Expr}{ifs:List Expr}{g:TG}{tt:TT}{tk tv:TE}{wi:TI}{pos:Pos}(C:CompScope X N cap scope)(hcalm:X.calm=true)(hu:∀s0 H0 ex,(X.comp N scope s0 H0 ex).A.units+1<cLine)(hi:PI X tg iter wi)
  (hg:∀s0 H0 ex,PG (X.comp N scope s0 H0 ex) tg g) (ht:∀s0 H0 ex,PIfs (X.comp N scope s0 H0 ex) ifs tt) (hk:∀s0 H0 ex,PE (X.comp N scope s0 H0 ex) kx tk) (hv:∀s0 H0 ex,PE (X.comp N scope s0 H0 ex) vx tv)
  (hs:∀x,foldedSetIterable iter X.env x=pure x:=by intro _;rfl):PE X (.DictComp kx vx [⟨tg,iter,ifs,0⟩] scope pos) (Jo cap (.dT []) wi g tt (Xfv tk tv)):=
 Jp Xok rfl rfl C hcalm Xcq hi (λit D env=>compTurn_dict kx vx tg iter ifs scope pos it D env) hg ht (λD s0 H0 ex=>Xoj (hu s0 H0 ex) (hk s0 H0 ex) (hv s0 H0 ex)) hs
def Fp (v d:Addr):HO:=.ext λh=>h.IsValuesView v d
section
variable {X:Cx}
theorem Xom:MtR X "dict.values" (λx vs H Q=>∃d kvs,x = .ref d/\vs=[]/\H d=some (.dT kvs)/\∀v,H v=none->Q (.ref v) (upd H v (Fp v d))):=by
 intro pins s σ H x vs v us Q I rx rv h;obtain⟨d,kvs,rfl,rfl,hH,q⟩:=h;cases rx;cases rv;obtain⟨hz,hm,xs,rv,o,es,ep,ho,hex,hd,he,nd⟩:=I.hok d _ hH;have hr:Cp s.heap d es ep:=⟨o,ho,hex,hd⟩;refine call_meetsIn PySem.F.slot_dict_values hr.ty PySem.F.entry_dict_values (PySem.F.args_dict_values_1 _) (Xoc hm) ⟨⟨es,ep,hr⟩,?_⟩;refine⟨.ref s.heap.objs.size,_,I.laid (a:=s.heap.objs.size) (o:=Fp s.heap.objs.size d) (t':=s.toks) (λ_ _ q=>Tr _ q) (Oq _) ⟨⟨_,Heap.get?_push_size _ rfl,rfl,rfl⟩,⟨_,Heap.get?_push_size _ rfl⟩,λh1 h2 z k=>?_⟩,rfl,q _ (I.hok.fresh (Oq _))⟩;obtain⟨o,e,r⟩:=z;exact⟨o,k o e,r⟩
theorem Xon(hc:X.calm=true):Br X (.builtin "min") (λxs H Q=>∃(v d:Addr) (kvs:List (List Key×V)) (f:Nat->Int),xs=[.ref v]/\H v=some (Fp v d)/\H d=some (.dT kvs)/\0<kvs.length/\(∀(i:Nat) (p:List Key×V),kvs[i]? = some p->p.2=V.int (f i)) /\
  ∀M:Int,(∃i,i<kvs.length/\f i=M)->(∀i,i<kvs.length->M<=f i)->Q (.int M) H):=by
 intro pins s σ H xs us Q I r h;obtain⟨v,d,kvs,f,rfl,hv,hH,h0,hf,q⟩:=h;obtain⟨u,rfl,ru⟩:=B4 r;cases ru;obtain⟨hz,hm,ys,rv,o,es,ep,ho,hex,hd,he,nd⟩:=I.hok d _ hH;have hlen:kvs.length=ys.length:=Paired.length rv;have hsz:es.size=kvs.length:=by rw[<-Ov,he,Oo,hlen]
 have hview:s.heap.IsValuesView v d:=(I.hok v _ hv).1;refine call_min_walk (Xob hview ⟨o,ho,hex,hd⟩ ?_);have ne:d≠s.heap.objs.size:=O1 (Tq ho);have hval:∀(i:Nat) (v:Value),(∃e:DictEntry,es[i]? = some e/\v=e.val)->∃t,v = .int (f i) t:=λi v ⟨e,h1,h2⟩=>by
  obtain⟨hi,rfl⟩:=Array.getElem?_eq_some_iff.mp h1;obtain⟨_,k2,_⟩:=N7 hd he (i:=i) (by omega) hi;have r2:=(N8 rv (i:=i) (by omega) (by omega)).2.2;rw[hf i _ (Op (by omega))] at r2;obtain⟨t,e⟩:=(show ∃t,_=Value.int _ t from r2);exact⟨t,by rw[h2,k2,e]⟩
 refine⟨s.heap.objs.size,_,_,_,_,_,_,rfl,Xod (A:=X.A.in1) (es:=es) (ep:=ep) (show X.A.in1.handled=none from I.ok.hd hc) ne,⟨⟨_,Heap.get?_push_size _ rfl,rfl,rfl⟩,⟨o,Tr _ ho,hex,hd⟩⟩,λb hb=>?_,by omega,CmpOf.ints_lt f hval,λw' h' tk hP k=>?_⟩
 ·rcases O6.mp hb with e | e
  ·rw[e];simp[Heap.push]
  ·rw[Ot.mp e];exact Pd (Tq ho) (by simp[Heap.push])
 ·obtain⟨t,rfl⟩:=hval _ _ hP;obtain⟨b1,b2⟩:=argBest_lt f (es.size - 1);refine⟨.int _,H,I.kept (t':=tk) λb o e=>k b o (λz=>?_) (Tr _ e),⟨t,rfl⟩,q _ ⟨_,by omega,rfl⟩ λi hi=>b2 i (by omega)⟩;have z':b=s.heap.objs.size:=by simpa using z
  exact absurd (Tq e) (by rw[z'];exact P3 _)
end
end L2
namespace SH
open PySem PySem.Spec PyProof.Rows L2
def kOf (S:List Str):List Key:=S.map λx=>(Sum.inr x:Key)
theorem N9(S:List Str):(kOf S).map kV=S.map V.str:=by unfold kOf;rw[Pp];rfl
theorem Xoo{S S':List Str}(h:kOf S=kOf S'):S=S':=by
 unfold kOf at h;exact Sa (λa b e=>Q4 e) |>.mp h
def kvT (Us:List (List Str)) (f:List Str->Int):List (List Key×V):=Us.map λS=>(kOf S,V.int (f S))
theorem Oa(f:List Str->Int)(S:List Str):∀(Us:List (List Str)),Av (kvT Us f) (kOf S)=if S∈Us then some (.int (f S)) else none
 | []=>rfl
 | U::Us=>by
  have ih:=Oa f S Us;unfold kvT Av at ih ⊢;rw[Pg,Q5];by_cases e:U=S
  ·subst e;simp
  ·have e1:decide (kOf U=kOf S)=false:=Tm λz=>e (Xoo z);rw[e1];dsimp only;rw[ih];by_cases m:S∈Us
   ·rw[Tk m,Tk (Ou _ m)]
   ·rw[Tj m,Tj (λz=>(O6.mp z).elim (λq=>e q.symm) m)]
theorem Ii(Us:List (List Str))(f:List Str->Int):(kvT Us f).length=Us.length:=by unfold kvT;rw[Oo]
theorem Xfw(a:List Str):¬B6 a a=true:=λh=>by unfold B6 at h;rw[Xeq] at h;cases h
theorem Xop(a b c:List Str)(h:B6 a b=true)(g:B6 b c=true):B6 a c=true:=Xer h g
theorem Xoq{Us:List (List Str)}(h:Us.Pairwise λa b=>B6 a b=true):Us.Nodup:=h.imp (S:=λa b=>a≠b) λ{a b} q (e:a=b)=>Xfw a (by rw[<-e] at q;exact q)
theorem Xor{U W:List (List Str)}(h:U.Pairwise λa b=>B6 a b=true)(g:W.Pairwise λa b=>B6 a b=true)(e:∀S,S∈U↔S∈W):U=W:=Kq Xfw Xop h g e
theorem Ky{α β : Type}(g : α -> β)(d : β)(l:List α){j:Nat}(h:j<l.length):(l.map g).getD j d=g l[j]:=by rw[List.getD,O2,Op h];rfl
def spLeast (C T:Addr) (pos:Pos):Sp:=λvs H Q E=>∃(r c:Addr) (row:List Str) (ps:List Addr) (Ts:List (List Str)),vs=[.ref r,.ref c]/\CrAt H T pos r c row ps Ts /\
 ((∀S∈Ts,Ae row S=true)->∀(D:Addr) (qs:List Addr) (Ls:List (List Str)) (H':Hp),H D=none->H' D=some (.lst (qs.map V.ref))->Tups H' qs Ls->(∀S,S∈Ls↔Kx row Ts S)->(Ls.Pairwise λa b=>B6 a b=true)->qs.length<=64->Am T pos qIn H'->But T H H'->Q (.ref D) H') /\
 ((∃S∈Ts,Ae row S=false)->∀H',Am T pos qIn H'->But T H H'->E (.ref C) none H')
abbrev NLe:List Str:=["row", "crowd", "totals", "fewest"]
abbrev NLe1:List Str:=["plot", "crowd"]
abbrev NLe2:List Str:=["plot", "fewest", "totals"]
def ltP (a b:List Str):Prop:=a.length<b.length\/(a.length=b.length/\ltL a b=true)
theorem Xfx(a:List Str):¬ltP a a:=λh=>by
 rcases h with h | ⟨_,h⟩
 ·omega
 ·rw[Hr] at h;cases h
theorem Xos{a b c:List Str}(h:ltP a b)(g:ltP b c):ltP a c:=by
 rcases h with h | ⟨h1,h2⟩
 ·rcases g with g | ⟨g1,g2⟩
  ·exact .inl (by omega)
  ·exact .inl (by omega)
 ·rcases g with g | ⟨g1,g2⟩
  ·exact .inl (by omega)
  ·exact .inr ⟨by omega,Ke _ _ _ h2 g2⟩
structure IsPL (row:List Str) (Ts:List (List Str)):Prop where
 pw:Ts.Pairwise ltP
 mem:∀T,T∈Ts↔Ae row T=true
theorem IsPL.nd{row:List Str}{A:List (List Str)}(h:IsPL row A):A.Nodup:=h.pw.imp λ{a b} (q:ltP a b)=>λ(e:a=b)=>Xfx b (e ▸ q)
theorem IsPL.len{row:List Str}{A:List (List Str)}(h:IsPL row A)(h2:∀y∈row,row.count y=2)(h3:Bt row)(hl:(dit row).length<=14):A.length<=64:=by
 have nd:=h.nd;have q:=Nc (L:=A.filter λS=>decide (S≠[])) h2 h3 hl (nd.filter _) λS hS=>by
  obtain⟨s1,s2⟩:=O0.mp hS;exact⟨Tn s2,(h.mem S).mp s1⟩
 have e:(A.filter λS=>decide (S≠[])).length+1 ≥ A.length:=by
  have:=List.length_eq_countP_add_countP (p:=λS:List Str=>decide (S≠[])) (l:=A);rw[Q3,Q3] at this;have c:(A.filter λS=>decide ¬decide (S≠[])=true).length<=1:=by
   have nd2:(A.filter λS=>decide ¬decide (S≠[])=true).Nodup:=nd.filter _;refine Pr (Ka (b:=[[]]) nd2 λx hx=>?_) (Oq 1);have:=(O0.mp hx).2;simp at this;simp[this]
  omega
 omega
def spPlotsO:Sp:=λvs H Q _=>∃(r:Addr) (row:List Str),vs=[.ref r]/\H r=some (.lst (row.map V.str))/\Row2 row/\Bt row/\(dit row).length<=14 /\
 ∀(l:Addr) (ps:List Addr) (Ts:List (List Str)) (H':Hp),H l=none->H' l=some (.lst (ps.map V.ref))->Tups H' ps Ts->IsPL row Ts->Same H H'->Q (.ref l) H'
structure Lay (row:List Str) (n:Nat) (Us:List (List Str)):Prop where
 pw:Us.Pairwise λa b=>ltL a b=true
 mem:∀T,T∈Us↔Ae row T=true/\T.length=n
theorem Xot{row:List Str}{n:Nat}{Us Ts:List (List Str)}(h2:∀y∈row,row.count y=2)(L:Lay row n Us)(c:Cov row Us Us.length Ts)(ok:∀T∈Ts,Ae row T=true/\T.length=n+1){Ts':List (List Str)}(p:Ts'.Perm Ts)(pw:Ts'.Pairwise λa b=>ltL a b=true):Lay row (n+1) Ts':=by
 refine⟨pw,λT=>⟨λh=>ok T (p.mem_iff.mp h),λ⟨h,hl⟩=>p.mem_iff.mpr ?_⟩⟩;have ne:T≠[]:=λe=>by rw[e] at hl;cases hl
 obtain⟨x,hx,hs⟩:=Xmo h2 h ne;obtain⟨p1,p2,_⟩:=Fl.mp h;have hlen:=Xmp p1 hx;have hm:(T.filter λy=>decide (y≠x))∈Us:=(L.mem _).mpr ⟨hs,by omega⟩;obtain⟨i,hi,e⟩:=Po.mp hm;have e':Us.getD i []=T.filter λy=>decide (y≠x):=by rw[<-e];simp[List.getD,hi]
 have:=c i hi x (p2 x hx);rw[e',Xet p1 hx] at this;exact this (λz=>by have:=(O0.mp z).2;simp at this) h
structure Upto (row:List Str) (n:Nat) (Ts:List (List Str)):Prop where
 pw:Ts.Pairwise ltP
 mem:∀T,T∈Ts↔Ae row T=true/\T.length<=n
theorem Upto.next{row:List Str}{n:Nat}{Ts Us:List (List Str)}(U:Upto row n Ts)(L:Lay row (n+1) Us):Upto row (n+1) (Ts++Us):=by
 refine⟨Ph.mpr ⟨U.pw,?_,λa ha b hb=>?_⟩,λT=>?_⟩
 ·refine L.pw.imp_of_mem λ{a b} ha hb h=>.inr ⟨?_,h⟩;rw[((L.mem a).mp ha).2,((L.mem b).mp hb).2]
 ·have h1:=((U.mem a).mp ha).2;have h2:=((L.mem b).mp hb).2;exact .inl (by omega)
 ·rw[Oz,U.mem,L.mem];constructor
  ·rintro (⟨h,l⟩ | ⟨h,l⟩)
   ·exact⟨h,by omega⟩
   ·exact⟨h,by omega⟩
  ·rintro ⟨h,l⟩;by_cases q:T.length<=n
   ·exact .inl ⟨h,q⟩
   ·exact .inr ⟨h,by omega⟩
theorem Upto.all{row:List Str}{Ts:List (List Str)}(U:Upto row (dit row).length Ts):IsPL row Ts:=⟨U.pw,λT=>(U.mem T).trans ⟨λh=>h.1,λh=>⟨h,Kd h⟩⟩⟩
theorem Xou(row:List Str):Upto row 0 [[]]:=⟨by simp,λT=>by
 rw[Ot];exact⟨λe=>by rw[e];exact⟨Ho row,Oq _⟩,λ⟨_,h⟩=>Py.mp (by omega)⟩⟩
theorem Xov(row:List Str):Lay row 0 [[]]:=⟨by simp,λT=>by
 rw[Ot];exact⟨λe=>by rw[e];exact⟨Ho row,rfl⟩,λ⟨_,h⟩=>Py.mp h⟩⟩
def crsAt (row:List Str) (x:Str) (ys:List Str):List (Str×Str):=(ys.filter λy=>decide (lieR row x y = "cross")).map λy=>(x,y)
def Ob:Sp:=λvs H Q _=>∃(l:Addr) (ps:List Addr) (Ts:List (List Str)),vs=[.ref l]/\H l=some (.lst (ps.map V.ref))/\Tups H ps Ts/\(∀S∈Ts,S.length<=1000)/\ps.length<=1000/\∀H',Same H H'->Q (.bl true) H'
theorem Xow{a b:List Str}(h:B6 a b=true):ltP a b:=by
 unfold B6 Co at h;by_cases e:a.length=b.length
 ·rw[Tk e] at h;exact .inr ⟨e,h⟩
 ·rw[Tj e] at h;exact .inl (Tn h)
def OkT (a:List Str):Prop:=(∀y∈a,okN y)/\a.length<=24
def Xqs (C T:Addr) (pos:Pos):Sp:=λvs H Q E=>∃(r p q:Addr) (row a b:List Str),vs=[.ref r,.ref p,.ref q]/\H r=some (.lst (row.map V.str))/\Row2 row/\Bt row/\(dit row).length<=14/\H p=some (.tup (a.map V.str))/\H q=some (.tup (b.map V.str)) /\
 OkT a/\OkT b/\Am T pos qIn H /\
 (Ae row a=true->Ae row b=true->∀(D:Addr) (ps:List Addr) (Ts:List (List Str)) (H':Hp),H D=none->H' D=some (.lst (ps.map V.ref))->Tups H' ps Ts->(∀S,S∈Ts↔Ae row S=true/\btw a b S=true)->(Ts.Pairwise λx y=>B6 x y=true)->ps.length<=64->Am T pos qIn H'->But T H H'->Q (.ref D) H') /\
 ((Ae row a=false\/Ae row b=false)->∀H',Same H H'->E (.ref C) none H')
def Xqt:Sp:=λvs H Q _=>∃(l p q:Addr) (ps:List Addr) (Ts:List (List Str)) (a b:List Str),vs=[.ref l,.ref p,.ref q]/\H l=some (.lst (ps.map V.ref))/\Tups H ps Ts/\ps.length<=1000/\(∀S∈Ts,S.length<=24)/\H p=some (.tup (a.map V.str))/\H q=some (.tup (b.map V.str))/\a.length<=24/\b.length<=24 /\
 ∀(D:Addr) (qs:List Addr) (H':Hp),H D=none->H' D=some (.lst (qs.map V.ref))->Tups H' qs (Ts.filter (btw a b))->Same H H'->Q (.ref D) H'
def Xqu (T:Addr) (pos:Pos):Sp:=λvs H Q _=>∃(r p q:Addr) (row a b:List Str) (v:V),vs=[.ref r,.ref p,.ref q,v]/\H r=some (.lst (row.map V.str))/\Row2 row/\Bt row/\(dit row).length<=14/\H p=some (.tup (a.map V.str))/\H q=some (.tup (b.map V.str)) /\
 OkT a/\OkT b/\Am T pos qIn H/\((v = .non/\(Ae row a=false\/Ae row b=false)) \/ ∃(u:Addr) (c:List Str),v = .ref u/\H u=some (.tup (c.map V.str))/\OkT c/\¬(Ae row a=true/\Ae row b=true/\Ae row c=true))/\∀H',Same H H'->Q (.bl true) H'
def spIslTo:Sp:=λvs H Q _=>∃(dr sc:Addr) (m:Nat),vs=[.ref dr,.int m]/\m<=14/\DrawOk H dr sc /\
 ∀(l:Addr) (row:List Str) (n st:Nat) (late:Bool) (H':Hp),H l=none->n<=14->st<26->H' l=some (.lst (row.map V.str))->row.Perm (Bh st late n++Bh st late n)->Bt row->DrawOk H' dr sc->But dr H H'->Q (.ref l) H'
end SH
namespace L2
open PySem PySem.Spec PyProof.Rows
section
variable {X:Cx}
theorem Xox(hc:X.calm=true):Br X (.builtin "min") (λxs H Q=>∃(a:Addr) (ns:List Int),xs=[.ref a]/\H a=some (.lst (ns.map V.int))/\0<ns.length/\∀M:Int,M∈ns->(∀n∈ns,M<=n)->Q (.int M) H):=by
 intro pins s σ H xs us Q I r h;obtain⟨a,ns,rfl,ha,h0,q⟩:=h;obtain⟨u,rfl,ru⟩:=B4 r;cases ru;obtain⟨its,rv,p,hz⟩:=I.list (SqL.of ha);have hl:=rv.length;rw[Oo] at hl;refine call_min_walk (wpAny_pyIter_list p.isList ?_);have hlt:a≠s.heap.objs.size:=by
  obtain⟨o,ho,_⟩:=p.isList;exact O1 (Tq ho)
 have hlt2:a<s.heap.objs.size:=by
  obtain⟨o,ho,_⟩:=p.isList;exact Tq ho
 have hval:∀(i:Nat) (v:Value),its.toArray[i]? = some v->∃t,v = .int (ns.getD i 0) t:=λi v hP=>by
  have hv:its[i]? = some v:=by simpa using hP
  have hi:i<its.length:=(Pb.mp hv).1;have g:(ns.map V.int)[i]? = some (.int (ns[i]'(by omega))):=by
   rw[O2,Op (by omega)];rfl
  obtain⟨u,hu,ru⟩:=rv.get g;rw[hv] at hu;cases hu;obtain⟨t,e⟩:=ru;exact⟨t,by rw[e];congr 1;simp[List.getD,(by omega:i<ns.length)]⟩
 refine⟨s.heap.objs.size,_,_,_,_,_,_,rfl,Walks.list (A:=X.A.in1) (show X.A.in1.handled=none from I.ok.hd hc) s.heap.objs.size a hlt its.toArray,⟨⟨_,Heap.get?_push_size _ rfl,rfl,rfl⟩,p.isList.push _⟩,λb hb=>?_,by simp;omega,CmpOf.ints_lt (λi=>ns.getD i 0) hval,λw' h' tk hP k=>?_⟩
 ·rcases O6.mp hb with e | e
  ·rw[e];simp[Heap.push]
  ·rw[Ot.mp e];exact Pd hlt2 (by simp[Heap.push])
 ·obtain⟨t,rfl⟩:=hval _ _ hP;have hsz:its.toArray.size=ns.length:=by rw[Ox];exact hl.symm
  rw[hsz] at hP ⊢;obtain⟨b1,b2⟩:=argBest_lt (λi=>ns.getD i 0) (ns.length - 1);refine⟨.int _,H,I.kept (t':=tk) λb o e=>k b o (λz=>?_) (Tr _ e),⟨t,rfl⟩,q _ ?_ λn hn=>?_⟩
  ·have z':b=s.heap.objs.size:=by simpa using z
   exact absurd (Tq e) (by rw[z'];exact P3 _)
  ·generalize argBest (λi j=>decide (ns.getD i 0<ns.getD j 0)) (ns.length - 1)=m at b1;have:m<ns.length:=by omega
   rw[show ns.getD m 0=ns[m] by simp[List.getD,this]];exact Pn this
  ·obtain⟨i,hi,rfl⟩:=Po.mp hn;have:=b2 i (by omega)
   rwa [show ns.getD i 0=ns[i] by simp[List.getD,hi]] at this
end
end L2
namespace SH
open PySem PySem.Spec PyProof.Rows L2
theorem Oc{H:Hp}{row:List Str}:∀(qs:List Addr),(∀q∈qs,∃t,H q=some (.tup (t.map V.str))/\Ae row t=true)->∃Ts,Tups H qs Ts/\∀S∈Ts,Ae row S=true
 | [],_=>⟨[],Tups.nil H,λS hS=>by simp at hS⟩
 | q::qs,h=>by
  obtain⟨t,h1,h2⟩:=h q Ow;obtain⟨Ts,g1,g2⟩:=Oc qs λq' hq=>h q' (Ou _ hq);refine⟨t::Ts,Tups.cons h1 g1,λS hS=>?_⟩;rcases O6.mp hS with e | e
  ·rw[e];exact h2
  ·exact g2 S e
theorem Xfy{H:Hp}{ps:List Addr}{Ts:List (List Str)}(h:Tups H ps Ts)(n:Nat):Tups H (ps.take n) (Ts.take n):=by
 refine⟨by rw[O3,O3,h.1],λi hi=>?_⟩;rw[O3] at hi;have:=h.2 i (by omega);rw[List.getD,List.getD,R6 (by omega),R6 (by omega)];exact this
def Lt (H:Hp) (Xs:List (Addr×List Addr×List (List Str))):Prop:=∀t∈Xs,H t.1=some (.lst (t.2.1.map V.ref))/\Tups H t.2.1 t.2.2
theorem Lt.same{H H':Hp}{Xs:List (Addr×List Addr×List (List Str))}(h:Lt H Xs)(s:Same H H'):Lt H' Xs:=λt ht=>⟨s _ _ (h t ht).1,(h t ht).2.same s⟩
theorem Lt.butT{H H':Hp}{Xs:List (Addr×List Addr×List (List Str))}{T:Addr}{pos:Pos}(h:Lt H Xs)(t:Am T pos qIn H)(b:But T H H'):Lt H' Xs:=λx hx=>⟨b _ _ (h x hx).1 (Am.ne t (h x hx).1 λz=>by simp),(h x hx).2.1,λi hi=>b _ _ ((h x hx).2.2 i hi) (Am.ne t ((h x hx).2.2 i hi) λz=>by simp)⟩
theorem Lt.butD{H H':Hp}{Xs:List (Addr×List Addr×List (List Str))}{dr sc:Addr}(h:Lt H Xs)(d:DrawOk H dr sc)(b:But dr H H')(n:∀x∈Xs,x.1≠dr):Lt H' Xs:=λx hx=>⟨b _ _ (h x hx).1 (n x hx),(h x hx).2.1,λi hi=>b _ _ ((h x hx).2.2 i hi) (d.ntup _ _ ((h x hx).2.2 i hi))⟩
theorem Lt.put{H:Hp}{Xs:List (Addr×List Addr×List (List Str))}{D:Addr}{xs ys:List V}(h:Lt H Xs)(hD:H D=some (.lst xs))(n:∀x∈Xs,x.1≠D):Lt (upd H D (.lst ys)) Xs:=λx hx=>⟨by rw[Ad (n x hx)];exact(h x hx).1,(h x hx).2.1,λi hi=>by
 have e:=(h x hx).2.2 i hi;rw[Ad (λz=>by rw[z,hD] at e;cases e)];exact e⟩
theorem Lt.cons{H:Hp}{Xs:List (Addr×List Addr×List (List Str))}{a:Addr}{ps:List Addr}{Ts:List (List Str)}(h:H a=some (.lst (ps.map V.ref)))(t:Tups H ps Ts)(q:Lt H Xs):Lt H ((a,ps,Ts)::Xs):=λx hx=>by
 rcases O6.mp hx with e | e
 ·rw[e];exact⟨h,t⟩
 ·exact q x e
theorem _root_.SH.CrAt.put{H:Hp}{T:Addr}{pos:Pos}{r c:Addr}{row:List Str}{ps:List Addr}{Ts:List (List Str)}{D:Addr}{xs ys:List V}(h:CrAt H T pos r c row ps Ts)(hD:H D=some (.lst xs))(n1:r≠D)(n2:c≠D):CrAt (upd H D (.lst ys)) T pos r c row ps Ts:=
 ⟨by rw[Ad n1];exact h.hr,h.r2,h.n3,h.d,SH.Am.but h.tab hD λb o e n=>by rw[Ad n];exact e,by rw[Ad n2];exact h.hc,⟨h.ht.1,λi hi=>by
  have e:=h.ht.2 i hi;rw[Ad (λz=>by rw[z,hD] at e;cases e)];exact e⟩,h.pl,h.co⟩
theorem _root_.SH.CrAt.butD{H H':Hp}{T dr sc:Addr}{pos:Pos}{r c:Addr}{row:List Str}{ps:List Addr}{Ts:List (List Str)}(h:CrAt H T pos r c row ps Ts)(d:DrawOk H dr sc)(b:But dr H H')(n1:r≠dr)(n2:c≠dr):CrAt H' T pos r c row ps Ts:=by
 obtain⟨xs,h1⟩:=d.at;exact⟨b _ _ h.hr n1,h.r2,h.n3,h.d,SH.Am.but h.tab h1 b,b _ _ h.hc n2,⟨h.ht.1,λi hi=>b _ _ (h.ht.2 i hi) (d.ntup _ _ (h.ht.2 i hi))⟩,h.pl,h.co⟩
def spBest:Sp:=λvs H Q _=>∃(l c:Addr) (ps:List Addr) (Ts:List (List Str)) (cs:List Addr) (Us:List (List Str)),vs=[.ref l,.ref c]/\H l=some (.lst (ps.map V.ref))/\Tups H ps Ts/\0<ps.length/\ps.length<=64/\H c=some (.lst (cs.map V.ref))/\Tups H cs Us/\cs.length<=200/\(∀S∈Us,S.Nodup/\S.length<16)/\(∀S∈Ts,S.Nodup/\S.length<16) /\
 ∀(D:Addr) (qs:List Addr) (M:Int) (H':Hp),H D=none->H' D=some (.lst (qs.map V.ref))->M∈Ts.map (Ap Us)->(∀n∈Ts.map (Ap Us),M<=n)->Tups H' qs (Ts.filter λS=>decide (Ap Us S=M))->Same H H'->Q (.ref D) H'
def Od (T:Addr) (pos:Pos):Sp:=λvs H Q _=>∃(r c:Addr) (row:List Str) (ps:List Addr) (Ts:List (List Str)),vs=[.ref r,.ref c]/\CrAt H T pos r c row ps Ts/\(∃S∈Ts,Ae row S=false)/\∀H',Am T pos qIn H'->But T H H'->Q (.bl true) H'
theorem Xfz{row:List Str}{Ts Us:List (List Str)}(hT:∀S,S∈Ts↔Ae row S=true)(hU:∀S∈Us,Ae row S=true){M:Int}(h1:M∈Ts.map (Ap Us))(h2:∀n∈Ts.map (Ap Us),M<=n):M=Ee row Us:=by
 obtain⟨S,hS,rfl⟩:=Pe.mp h1;have a:=N5 hU ((hT S).mp hS);have b:=h2 _ (Pe.mpr ⟨_,(hT _).mpr (Kw hU),rfl⟩);rw[N4 hU] at b;omega
theorem Xf0{row:List Str}{Ts Us Ls:List (List Str)}(g:IsPL row Ts)(hU:∀S∈Us,Ae row S=true)(pw:Ls.Pairwise λx y=>B6 x y=true)(h:∀S,S∈Ls↔Kx row Us S){M:Int}(h1:M∈Ts.map (Ap Us))(h2:∀n∈Ts.map (Ap Us),M<=n):(Ts.filter λS=>decide (Ap Us S=M))=Ls:=
 Kq Xfx (λ_ _ _=>Xos) (g.pw.filter _) (pw.imp λh=>Xow h) λS=>by rw[h,N6 hU,O0,g.mem,decide_eq_true_eq,Xfz g.mem hU h1 h2]
abbrev NBe:List Str:=["_law_some", "_law_crowd_here", "_law_sums"]
abbrev NBe1:List Str:=["_law_plot", "_law_crowd_here"]
abbrev NBe2:List Str:=["_law_at", "_law_some", "_law_sums"]
abbrev NRf6:List Str:=["_law_row_here", "_law_crowd_here", "_law_refused_here"]
end SH
namespace K26
open PySem PySem.Spec PyProof.Rows L2 SH
def top (i:Nat):Stmt:=PySem.Challenge.pw_shoretold_k26_whole_least_plots_of_a_cro.main.body.getD i (.Pass ⟨0,0,0,0⟩)
abbrev sAsk:Stmt:=top 5
abbrev sDitches:Stmt:=top 6
abbrev sEnds:Stmt:=top 7
abbrev sSpans:Stmt:=top 8
abbrev sLieOf:Stmt:=top 9
abbrev sCross:Stmt:=top 10
abbrev sTold:Stmt:=top 12
abbrev s_in_order:Stmt:=top 13
abbrev s_plots:Stmt:=top 14
abbrev s_parting:Stmt:=top 16
abbrev s_ask_crowd:Stmt:=top 18
abbrev s_counts:Stmt:=top 19
abbrev s_steps_to:Stmt:=top 20
abbrev s_least:Stmt:=top 21
abbrev s_toll:Stmt:=top 22
abbrev s_told_paper:Stmt:=top 23
abbrev s__law_apart:Stmt:=top 25
abbrev s__law_total:Stmt:=top 26
abbrev sBegin:Stmt:=top 27
abbrev sPick:Stmt:=top 28
abbrev sPut:Stmt:=top 29
abbrev sWhere:Stmt:=top 30
abbrev sWord:Stmt:=top 31
abbrev sBarred:Stmt:=top 32
abbrev sRow:Stmt:=top 33
abbrev sNames:Stmt:=top 34
abbrev sIsland:Stmt:=top 35
abbrev s__law_island_to:Stmt:=top 36
abbrev s__law_bars:Stmt:=top 37
abbrev s__law_fits:Stmt:=top 38
abbrev s__law_plots:Stmt:=top 39
abbrev s__law_one:Stmt:=top 40
abbrev s__law_crowd:Stmt:=top 41
abbrev s__law_tuple:Stmt:=top 42
abbrev s__law_all_texts:Stmt:=top 43
abbrev s__law_stranger:Stmt:=top 44
abbrev s__law_refused:Stmt:=top 45
abbrev s__law_best:Stmt:=top 46
abbrev s_law:Stmt:=top 47
abbrev NWo:List Str:=["_law_where_here", "_law_one_here", "_law_other", "_law_low", "_law_high", "_law_inner"]
abbrev NBc:List Str:=["_law_one_here", "_law_name", "_law_where_here"]
abbrev NFl1:List Str:=["_law_one_here", "_law_name"]
abbrev NFi:List Str:=["_law_bars_here", "_law_plot", "_law_one_here", "_law_other", "_law_word_here"]
abbrev NBr:List Str:=["_law_row_here", "_law_where_here", "_law_told", "_law_one_here", "_law_other", "_law_word_here"]
section
variable {P:Program}{w:World}{K:PySem.W.Frag}{mg:Str->Option Value}{base:Heap}
theorem Xoy:FnScope ["row", "name"] ["row", "name"] (defScope sAsk):=⟨rfl,rfl,rfl,by decide +kernel,rfl,by decide +kernel,by decide +kernel⟩
theorem Xoz{f C:Addr}{fd:FuncData}(F:Fun K "ask_ditch" "ask_ditch" sAsk f fd)(hC:mg "NoDitch" = some (.ref C))(hc:PySem.W.excIn K C bmV "ValueError.__new__" = true):
  FnOk P w K mg base (CX1 P w) 1 f fd ["row", "name"] (Mz C):=by
 refine F.ok1 Xoy (λvs H Q E h=>?_) (λcdv A outer s H vs Q E hr h=>?_)
 ·obtain⟨r,row,x,rfl,_⟩:=h;rfl
 ·obtain⟨r,row,x,rfl,hR,⟨hx1,hx2⟩,kq,ke⟩:=h;refine⟨_,Ai (Bz (Ay Ln (pv 1) (pv 0) (by rfl))
   (Ai (Xbu (C:=C) (E:=E) hc rfl leaves1 (by rfl) hC (Aa (Xb0 (Ja (by decide +kernel) (Xjf (pv 1) (Ja (by decide +kernel) Xbz)))) Ab))) B3),?_⟩
  refine⟨_,rfl,_,rfl,r,_,rfl,.inl (SqL.of hR),rfl,Ew row,_,rfl,?_⟩;rw[Ev];by_cases hx:x∈row
  ·refine Xh0 hx ?_;exact kq hx H (Same.refl H)
  ·rw[Tm hx];refine Fb ?_;refine⟨_,rfl,x,rfl,by omega,(λc h=>Rq (hx2 c h) (by decide)),λz=>?_⟩;exact⟨by show 1<=sizeLine;decide,ke hx H (Same.refl H)⟩
theorem Xo0:FnScope ["row"] ["row"] (defScope sDitches):=⟨rfl,rfl,rfl,by decide +kernel,rfl,by decide +kernel,by decide +kernel⟩
theorem Xo1{f:Addr}{fd:FuncData}(F:Fun K "ditches" "ditches" sDitches f fd)(T:Bl mg):FnOk P w K mg base CX0 1 f fd ["row"] spDitches:=by
 refine F.ok Xo0 (λvs H Q E h=>?_) (λcdv A outer s H vs Q E hr h=>?_)
 ·obtain⟨r,row,rfl,_⟩:=h;rfl
 ·obtain⟨r,row,rfl,hR,hl,k⟩:=h;refine⟨_,Ai (Ar (Ba (Jd rfl) (by rfl) T.sorted (by rfl) (Aa (Df (G8 rfl) (by rfl) T.set (by rfl) (Aa (pv 0) Ab)) Ab))),?_⟩;refine⟨_,rfl,r,row,rfl,.inl (SqL.of hR),by unfold scanBound;omega,λa na=>?_⟩;have hdl:=G7 row;refine⟨a,ddup row,rfl,Ac,by omega,λl ls nl hp hs=>?_⟩;have s1:Same H (upd H a (Et P w a (ddup row))):=(Same.refl H).step na;refine k l _ (s1.free nl) ?_ (s1.step nl);rw[Ac,F0 hp hs];rfl
theorem Xf1:FnScope NEn ["row", "name"] (defScope sEnds):=⟨rfl,rfl,rfl,by decide +kernel,rfl,by decide +kernel,by decide +kernel⟩
theorem Xo2{f C:Addr}{fd:FuncData}(F:Fun K "ends" "ends" sEnds f fd)(T:Bl mg)(FA:Fn P w K mg base (CX1 P w) 1 "ask_ditch" ["row", "name"] (Mz C)):
  FnOk P w K mg base (CX1 P w) 2 f fd ["row", "name"] (M0 C):=by
 refine F.ok1 Xf1 (λvs H Q E h=>?_) (λcdv A outer s H vs Q E hr h=>?_)
 ·obtain⟨r,row,x,rfl,_⟩:=h;rfl
 ·obtain⟨r,row,x,rfl,hR,hx,hl,kq,ke⟩:=h;refine⟨_,Ag (Ei (Aj FA hr rfl pass1 (Aa (pv 0) (Aa (pv 1) Ab))))
   (Ag (Jq (i:=2) (N:=NEc) (cap:=[none,none,some 1]) (CompScope.of (defScope sEnds) NEn rfl rfl rfl (by decide +kernel)) rfl Xf1.nd rfl rfl
    (Xjd (by rfl) T.enum (Aa (pv 0) Ab))
    (λ_ _ _=>Jk K 2 rfl rfl (Ch (Au (i:=0) (show NEc.Nodup by decide +kernel) rfl (Or.inl rfl) (Or.inr rfl)) (Ch (Au (i:=1) (show NEc.Nodup by decide +kernel) rfl (Or.inl rfl) (Or.inr rfl)) Ft)))
    (λ_ _ _=>Ds (Ay Cs (pv 1) (pv 2) (Bc _))) (λ_ _ _=>pv 0))
   (Ai (Ar (B0 (Aa (Ax Bj (pv 2) Af (λ_ _=>rfl)) (Aa (Ax Bj (pv 2) Af (λ_ _=>rfl)) Ab)))))),?_⟩
  refine⟨_,rfl,_,rfl,r,row,x,rfl,hR,hx,λhin H1 s1=>?_,ke⟩;obtain⟨a,b,hab,kq⟩:=kq hin;refine⟨_,rfl,r,rfl,⟨_,SqL.of (s1 _ _ hR)⟩,?_⟩;refine Xjn (K:=K) (p:=0) (q:=1) (by decide) (SqL.of (s1 _ _ hR)) (by rw[Oo,Ti];omega) (λi=>decide (row.getD i Str.empty=x)) (λi=>.int i) ?_ ?_ ?_
  ·intro i v H2 Q' hv s2 k;obtain⟨y,rfl,hy⟩:∃y,v=V.str y/\row.getD i Str.empty=y:=by
    rw[O2] at hv;cases q:row[i]? with
    | none=>rw[q] at hv;cases hv
    | some y=>rw[q] at hv;exact⟨y,(Pa hv).symm,by simp[List.getD,q]⟩
   refine⟨_,rfl,_,rfl,rfl,_,rfl,?_⟩;have:=k H2 (Same.refl _);rw[hy] at this;have e:decide (V.str y=V.str x)=decide (y=x):=by
    by_cases z:y=x
    ·rw[z];simp
    ·rw[Tm z,Tm (λq=>z (by injection q))]
   rw[e];exact this
  ·intro i v H2 Q' hv hk s2 k;exact⟨_,rfl,k H2 (Same.refl _)⟩
  ·intro D H2 nD s2 hD;have hD':H2 D=some (.lst [.int a,.int b]):=by
    rw[hD,Oo];have:=congrArg (List.map V.int) ((My row x).trans hab);rw[Pp] at this;rw[show ((List.range row.length).filter λi=>decide (row.getD i Str.empty=x)).map (λi:Nat=>V.int (i:Int))=_ from this];rfl
   refine⟨_,rfl,_,_,_,_,rfl,rfl,SqL.of hD',rfl,_,rfl,_,_,_,_,rfl,rfl,SqL.of hD',rfl,by show 2<=sizeLine;decide,λp np=>?_⟩;have s3:=s1.trans s2;exact kq p _ (s3.free np) Ac (s3.step np)
theorem Xo3:FnScope ["row"] ["row"] (defScope sSpans):=⟨rfl,rfl,rfl,by decide +kernel,rfl,by decide +kernel,by decide +kernel⟩
theorem Xo4{f C:Addr}{fd:FuncData}(F:Fun K "spans" "spans" sSpans f fd)(FD:Fn P w K mg base CX0 1 "ditches" ["row"] spDitches)(FE:Fn P w K mg base (CX1 P w) 2 "ends" ["row", "name"] (M0 C)):
  FnOk P w K mg base CX0 3 f fd ["row"] spSpans:=by
 refine F.ok Xo3 (λvs H Q E h=>?_) (λcdv A outer s H vs Q E hr h=>?_)
 ·obtain⟨r,row,rfl,_⟩:=h;rfl
 ·obtain⟨r,row,rfl,hR,R2,k⟩:=h;have hr1:Room 1 _:=hr.mono (by decide);refine⟨_,Ai (Ar (Mh (N:=NSp) (cap:=[none,some 0]) (CompScope.of (defScope sSpans) ["row"] rfl rfl rfl (by decide +kernel)) rfl
   (Bq (Aj FD hr1 (by rfl) Ak (Aa (pv 0) Ab))) (λ_ _ _=>Au (i:=0) (show NSp.Nodup by decide +kernel) rfl (Or.inl rfl) (Or.inr rfl)) (λ_ _ _=>Cf)
   (λ_ _ _=>pv 0) (λ_ _ _=>Aj (by exact FE) (by exact hr) (by rfl) Hf (Aa (pv 1) (Aa (pv 0) Ab))))),?_⟩
  have hl:=R2.len;refine⟨_,rfl,r,row,rfl,hR,hl,λdi H1 ndi hdi s1=>?_⟩;refine⟨di,rfl,⟨_,SqL.of hdi⟩,λD nD=>?_⟩;have hn:∀i,i<(dit row).length->((dit row).map V.str).getD i .non = .str ((dit row).getD i Str.empty):=λi hi=>Bs V.str Str.empty _ hi;have hR1:=s1 _ _ hR;have hdl:=F3 row;refine⟨wN (dit row).length λi σ2 H2=>(∃v, σ2=[v,some (.ref r)])/\Same H1 H2/\∃kvs,H2 D=some (.dK kvs)/\Spn H2 kvs row ((dit row).take i),⟨(dit row).length,by simp,Pq _,⟨none,rfl⟩,(Same.refl H1).step nD,[],Ac,⟨rfl,λx hx=>by simp at hx⟩⟩,?_⟩;rintro i m σ1 H2 ⟨rfl,hi,⟨v,rfl⟩,s2,kvs,hD,sp⟩;by_cases hlt:i<(dit row).length
  ·have hlt':i<((dit row).map V.str).length:=by rw[Oo];exact hlt
   obtain⟨g1,g2⟩:=C6 (K:=K) (SqL.of (s2 _ _ hdi)) hlt';refine .inr ⟨g1,λx H3 y=>?_⟩;obtain⟨e1,e2⟩:=g2 x H3 y;subst e1 e2;rw[hn i hlt];generalize hx:(dit row).getD i Str.empty=x;have hxd:x∈dit row:=by rw[<-hx];exact Ea hlt
   have hxr:=Ao.mp hxd;have htk:(dit row).take (i+1)=(dit row).take i++[x]:=by
    rw[O8 hlt,<-hx];simp[List.getD,hlt]
   have hnx:x∉(dit row).take i:=by
    have nd:=F2 row;have h2:((dit row).take (i+1)).Nodup:=nd.sublist (P1 ..);rw[htk] at h2;exact λz=>(Qb.mp h2).2.2 x z x (by simp) rfl
   refine⟨_,rfl,_,rfl,_,rfl,r,row,x,rfl,s2 _ _ hR1,R2.ok x hxr,by omega,λ_=>⟨_,_,Fg (R2.two x hxr),λl H4 nl hl4 s4=>?_⟩,λz=>absurd hxr z⟩;have hD4:=s4 _ _ hD;have kl:kvs.length<=60:=by
    have:=sp.len;rw[O3] at this;omega
   refine⟨kvs,Sum.inr x,rfl,hD4,by rw[Ti];omega,?_⟩;refine wskip hlt ⟨⟨_,rfl⟩,λb u e=>?_,_,Ac,?_⟩
   ·rw[Ad (Aw e nD)];exact s4 _ _ (s2 b u e)
   ·rw[htk];refine sp.snoc hnx ?_ λb xs e=>?_
    ·rw[Ad (λz=>by rw[z,hD4] at hl4;cases hl4)];exact hl4
    ·have e4:=s4 _ _ e;rw[Ad (λz=>by rw[z,hD4] at e4;cases e4)];exact e4
  ·have ei:i=(dit row).length:=by omega
   subst ei;refine .inl ⟨by have:=C7 (K:=K) (SqL.of (s2 _ _ hdi));rwa [Oo] at this,?_⟩;rw[P9] at sp;exact k D kvs H2 (s1.free nD) hD sp (s1.trans s2)
theorem Oe:FnScope NLo ["here", "there"] (defScope sLieOf):=⟨rfl,rfl,rfl,by decide +kernel,rfl,by decide +kernel,by decide +kernel⟩
theorem Xo5{f:Addr}{fd:FuncData}(F:Fun K "lie_of" "lie_of" sLieOf f fd):FnOk P w K mg base CX0 2 f fd ["here", "there"] spLieOf:=by
 refine F.ok Oe (λvs H Q E h=>?_) (λcdv A outer s H vs Q E hr h=>?_)
 ·obtain⟨p,q,a,b,c,e,rfl,_⟩:=h;rfl
 ·obtain⟨p,q,a,b,c,e,rfl,hp,hq,l4,k⟩:=h;refine⟨_,Ag (Bz (Ay (Xc1 (hu3 hr)) (pv 0) (pv 1) (Bc _)) (Ai (Ar Bn)) B3)
   (Ag (An (i:=2) Oe.nd rfl (Or.inl rfl) (Xau Ct Ct (Ax (D8 K (by rfl)) (pv 1) Af (λ_ _=>rfl)) (Ax (D8 K (by rfl)) (pv 0) Af (λ_ _=>rfl)) (Ax (D8 K (by rfl)) (pv 1) Af (λ_ _=>rfl))))
   (Ag (An (i:=3) Oe.nd rfl (Or.inl rfl) (Xau Ct Ct (Ax (D8 K (by rfl)) (pv 1) Af (λ_ _=>rfl)) (Ax (D8 K (by rfl)) (pv 0) Af (λ_ _=>rfl)) (Ax (D8 K (by rfl)) (pv 1) Af (λ_ _=>rfl))))
   (Ag (Bz (Ay Lb (pv 2) (pv 3) (Bc _)) (Ai (Ar Bn)) B3)
   (Ag (Bz (Io (pv 2)) (Ai (Ar Bn)) B3)
   (Ai (Ar (Gq (Xgv Ct Ct (Ax (D8 K (by rfl)) (pv 0) Af (λ_ _=>rfl)) (Ax (D8 K (by rfl)) (pv 1) Af (λ_ _=>rfl)) (Ax (D8 K (by rfl)) (pv 0) Af (λ_ _=>rfl))) Bn Bn))))))),?_⟩
  have d2:∀{r:Addr} {x y:Int},H r=some (.tup [.int x,.int y])->DAt H (.tuple [.int x,.int y]) (.ref r):=λ{r x y} h=>Ml h (Xjv [x,y]);refine⟨_,rfl,_,rfl,.tuple [.int a,.int b],.tuple [.int c,.int e],d2 hp,d2 hq,rfl,rfl,(by show min (max 0 (max 0 0)+1) (max 0 (max 0 0)+1)<=3;decide),_,rfl,?_⟩;have ee:PyData.eqv (.tuple [.int a,.int b]) (.tuple [.int c,.int e])=decide (a=c/\b=e):=by
   rw[Qo,Mo _ _ rfl rfl];simp
  rw[ee];have kk:=k H (Same.refl H);refine Be (λh1=>?_) (λh1=>?_)
  ·unfold lieT at kk;rw[Tk (Tn h1)] at kk;exact kk
  ·have h1:=Tp h1;dsimp only[K3,K4,K7,Bp];refine M3 (x:=c) (y:=a) (z:=e) (λQ' h=>⟨_,rfl,q,_,_,_,rfl,rfl,SqT.of hq,rfl,h⟩) (λQ' h=>⟨_,rfl,p,_,_,_,rfl,rfl,SqT.of hp,rfl,h⟩) (λQ' h=>⟨_,rfl,q,_,_,_,rfl,rfl,SqT.of hq,rfl,h⟩) ?_;refine M3 (x:=c) (y:=b) (z:=e) (λQ' h=>⟨_,rfl,q,_,_,_,rfl,rfl,SqT.of hq,rfl,h⟩) (λQ' h=>⟨_,rfl,p,_,_,_,rfl,rfl,SqT.of hp,rfl,h⟩) (λQ' h=>⟨_,rfl,q,_,_,_,rfl,rfl,SqT.of hq,rfl,h⟩) ?_;refine⟨_,rfl,_,rfl,rfl,_,rfl,?_⟩;rw[La];refine Be (λh2=>?_) (λh2=>?_)
   ·rw[Xkk h1 (by simpa using h2)] at kk;exact kk
   ·refine⟨_,rfl,_,rfl,?_⟩;refine Be (λh3=>?_) (λh3=>?_)
    ·rw[Xkl h1 (by simpa using h2) h3] at kk;exact kk
    ·rw[Xkm l4 h1 (by simpa using h2) h3] at kk;dsimp only[K3,Xag,tIf,Lc];refine M3 (x:=a) (y:=c) (z:=b) (λQ' h=>⟨_,rfl,p,_,_,_,rfl,rfl,SqT.of hp,rfl,h⟩) (λQ' h=>⟨_,rfl,q,_,_,_,rfl,rfl,SqT.of hq,rfl,h⟩) (λQ' h=>⟨_,rfl,p,_,_,_,rfl,rfl,SqT.of hp,rfl,h⟩) ⟨_,rfl,?_⟩;refine Be (λh4=>?_) (λh4=>?_)
     ·rw[Tk h4] at kk;exact kk
     ·rw[Tj (by rw[h4];exact O4)] at kk;exact kk
theorem Xf2:FnScope NCr ["row"] (defScope sCross):=⟨rfl,rfl,rfl,by decide +kernel,rfl,by decide +kernel,by decide +kernel⟩
theorem Xo6{f:Addr}{fd:FuncData}(F:Fun K "crossings" "crossings" sCross f fd)(FS:Fn P w K mg base CX0 3 "spans" ["row"] spSpans)(FO:Fn P w K mg base CX0 2 "lie_of" ["here", "there"] spLieOf):
  FnOk P w K mg base CX0 4 f fd ["row"] M4:=by
 refine F.ok Xf2 (λvs H Q E h=>?_) (λcdv A outer s H vs Q E hr h=>?_)
 ·obtain⟨r,row,rfl,_⟩:=h;rfl
 ·obtain⟨r,row,rfl,hR,R2,k⟩:=h;have hu:=En hr;have hr2:Room 2 _:=hr.mono (by decide);refine⟨_,Ag (An (i:=1) Xf2.nd rfl (Or.inr rfl) (Aj FS hr (by rfl) Ak (Aa (pv 0) Ab)))
   (Ai (Ar (Xju (N:=NCc) (cap:=[none,none,some 1]) (CompScope.of (defScope sCross) NCr rfl rfl rfl (by decide +kernel)) rfl
    (F7 (pv 1)) (λ_ _ _=>Au (i:=0) (show NCc.Nodup by decide +kernel) rfl (Or.inl rfl) (Or.inr rfl)) (λ_ _ _=>Cf)
    (λ_ _ _=>F7 (pv 2)) (λ_ _ _=>Au (i:=1) (show NCc.Nodup by decide +kernel) rfl (Or.inl rfl) (Or.inr rfl))
    (λ_ _ _=>Ds (E7 (Ay Xat (pv 0) (pv 1) (Bc _)) (E6 (Ay Cs (Aj (by exact FO) (by exact hr2) (by rfl) Ak (Aa (Cl hu (pv 2) (pv 0) (λ_ _=>rfl)) (Aa (Cl hu (pv 2) (pv 1) (λ_ _=>rfl)) Ab))) Bn (Bc _)))).pt)
    (λ_ _ _=>B0 (Aa (pv 0) (Aa (pv 1) Ab)))))),?_⟩
  have hl:=R2.len;have hdl:=F3 row;refine⟨_,rfl,r,row,rfl,hR,R2,λd kvs H1 nd hd sp s1=>?_⟩;refine⟨_,rfl,d,kvs,rfl,.inl ⟨hd,λo D nD=>?_⟩⟩;generalize hH2:upd H1 d (.frz o (.dK kvs))=H2 at nD;have s2:Same H H2:=λb u e=>by rw[<-hH2,Ad (Aw e nd)];exact s1 b u e
  have hd2:H2 d=some (.frz o (.dK kvs)):=by rw[<-hH2];exact Ac
  have sp2:Spn H2 kvs row (dit row):=⟨sp.keys,λx hx=>let ⟨l,h1,h2⟩:=sp.val x hx; ⟨l,h1,by rw[<-hH2,Ad (λz=>by rw[z,hd] at h2;cases h2)];exact h2⟩⟩;have kl:=sp2.len;have go:∀i H3,i<(dit row).length->Same H2 H3->(Itd d o kvs).go i H3/\∀x H4,(Itd d o kvs).yld i H3 x H4->H4=H3/\x = .str ((dit row).getD i Str.empty):=λi H3 hi s3=>by
   have:=G4 (kvs:=kvs) (s3 _ _ hd2) (by omega:i<kvs.length);rw[sp2.at i hi] at this;exact this
  have stp:∀H3,Same H2 H3->(Itd d o kvs).stop (dit row).length H3:=λH3 s3=>by
   have:=G5 (kvs:=kvs) (s3 _ _ hd2)
   rwa [kl] at this
  let ns:=dit row
  let ok:Nat->Nat->Bool:=λi j=>decide (ltS (ns.getD i Str.empty) (ns.getD j Str.empty))&&decide (lieR row (ns.getD i Str.empty) (ns.getD j Str.empty) = "cross")
  let part:Nat->List PyData:=λi=>((List.range ns.length).filter (ok i)).map λj=>prD (ns.getD i Str.empty,ns.getD j Str.empty)
  have hpl:∀i,(part i).length<=60:=λi=>by
   show (List.map _ _).length<=60;rw[Oo];refine Pr (Pt ..) ?_;rw[P2];show (dit row).length<=60;omega
  have hacc:∀i,((List.range i).flatMap part).length<=60 * i:=λi=>by
   induction i with
   | zero=>simp
   | succ i ih=>
    rw[Qc,Sn,Oy];have:=hpl i;simp only[S6,List.flatMap_nil,Qa];omega
  refine Xjx (H0:=H2) (xs0:=[]) (n:=ns.length) (λi=>.str (ns.getD i Str.empty)) (λi=>(List.range i).flatMap part) nD ((Same.refl H2).step nD) Ac F5 (fun σ1=>∃v0 v1, σ1=[v0,v1,some (.ref d)]) ⟨none,none,rfl⟩ go stp ?_ ?_
  ·rintro i σ1 xs H3 Q' hi ⟨v0,v1,rfl⟩ s3 hD hal kk;have hxi:=Ea hi;refine⟨_,rfl,d,kvs,rfl,.inr ⟨o,s3 _ _ hd2,?_⟩⟩;refine Xc5 (H0:=H2) (n:=ns.length) (λj=>.str (ns.getD j Str.empty)) (ok i) (λj=>prD (ns.getD i Str.empty,ns.getD j Str.empty)) ((List.range i).flatMap part) nD s3 hD hal ?_ go stp ?_ ?_ ?_
   ·have:=hacc i;have h2:i<60:=by have:i<(dit row).length:=hi;omega
    have h3:ns.length<=60:=by show (dit row).length<=60;omega
    rw[Ti];omega
   ·intro j H4 Q2 hj s4 k2;have hxj:=Ea hj;refine⟨_,rfl,_,rfl,_,_,rfl,rfl,_,rfl,?_⟩;refine Be (λq1=>?_) (λq1=>?_)
    ·obtain⟨l1,g1,t1⟩:=(sp2.mono s4).get (.inr ⟨o,s4 _ _ hd2⟩) hxi;obtain⟨l2,g2,t2⟩:=(sp2.mono s4).get (.inr ⟨o,s4 _ _ hd2⟩) hxj;refine⟨_,rfl,_,rfl,d,_,rfl,g1,_,rfl,_,rfl,d,_,rfl,g2,l1,l2,_,_,_,_,rfl,t1,t2,lie4 (R2.two _ (Ao.mp hxi)) (R2.two _ (Ao.mp hxj)),λH5 s5=>?_⟩;refine⟨rfl,_,rfl,?_⟩;rw[Jw];have:=k2 H5 s5;have e1:ok i j=decide (lieR row (ns.getD i Str.empty) (ns.getD j Str.empty) = "cross"):=by
      show (decide _&&decide _)=_;have q1':decide (ltS (ns.getD i Str.empty) (ns.getD j Str.empty))=true:=q1;rw[q1',Qx]
     rw[e1] at this;exact this
    ·have:=k2 H4 (Same.refl _);have e1:ok i j=false:=by
      show (decide _&&decide _)=_;have q1':decide (ltS (ns.getD i Str.empty) (ns.getD j Str.empty))=false:=q1;rw[q1',Qv]
     rw[e1] at this;exact this
   ·intro j xs' H4 Q2 hj hk s4 hD4 k2;refine⟨_,rfl,_,rfl,by show 2<=sizeLine;decide,λp np=>?_⟩;exact k2 _ _ ((Same.refl H4).step np) (Xc4 hD4 np (Mj [ns.getD i Str.empty,ns.getD j Str.empty]))
   ·intro σ' H4 xs' e s4 hD4 hal4;refine kk σ' H4 xs' ?_ s4 hD4 ?_
    ·have l1 : σ'.length=3:=by
      have:=congrArg List.length (e none);simpa using this
     match σ',l1,e with
     | [w0,w1,w2],_,e=>
      have:=e none;simp at this;exact⟨w0,w1,by rw[this.2]⟩
    ·rw[Qc,Sn,S6,List.flatMap_nil,Qa];exact hal4
  ·intro σ' H3 xs s3 hD hal;refine k D xs H3 (s2.free nD) hD ?_ (s2.trans s3);have e:(List.range ns.length).flatMap part=(crs row).map prD:=by
    have e1:crs row=(List.range ns.length).flatMap λi=>((List.range ns.length).filter (ok i)).map λj=>(ns.getD i Str.empty,ns.getD j Str.empty):=by
     have em:dit row=(List.range ns.length).map λi=>ns.getD i Str.empty:=by
      have:=Cy Str.empty (λ_=>true) (dit row);rw[Ps.mpr (λ_ _=>rfl),Ps.mpr (λ_ _=>rfl)] at this;exact this.symm
     show (dit row).flatMap _=_
     conv=>lhs;rw[em]
     rw[List.flatMap_map];congr 1;funext i;have:=Cy Str.empty (λy=>decide (ltS (ns.getD i Str.empty) y)&&decide (lieR row (ns.getD i Str.empty) y = "cross")) (dit row);rw[<-em,<-this,Pp];rfl
    rw[e1,List.map_flatMap];congr 1;funext i;rw[Pp];rfl
   rw[<-e];exact hal
theorem Xo7:FnScope ["names"] ["names"] (defScope sTold):=⟨rfl,rfl,rfl,by decide +kernel,rfl,by decide +kernel,by decide +kernel⟩
theorem Xo8{f:Addr}{fd:FuncData}(F:Fun K "told" "told" sTold f fd)(T:Bl mg):FnOk P w K mg base CX0 1 f fd ["names"] (spTold K):=by
 refine F.ok Xo7 (λvs H Q E h=>?_) (λcdv A outer s H vs Q E hr h=>?_)
 ·obtain⟨p,ss,rfl,_⟩:=h;rfl
 ·obtain⟨p,ss,rfl,hR,hl,k⟩:=h;refine⟨_,Ai (Ar (Df Xa9 (by rfl) T.tuple (by rfl) (Aa (Ba (Jd rfl) (by rfl) T.sorted (by rfl) (Aa (Df (G8 rfl) (by rfl) T.set (by rfl) (Aa (pv 0) Ab)) Ab)) Ab))),?_⟩;refine⟨_,rfl,p,ss,rfl,hR,by unfold scanBound;omega,λa na=>?_⟩;have hdl:=G7 ss;refine⟨a,ddup ss,rfl,Ac,by omega,λl ls nl hp hs=>?_⟩;have s1:Same H (upd H a (Et P w a (ddup ss))):=(Same.refl H).step na;refine⟨l,_,rfl,.inl ⟨SqL.of Ac,λt nt=>?_⟩⟩;have s2:=s1.step (o:=.lst (ls.map V.str)) nl;refine k t _ (s2.free nt) ?_ (s2.step nt);rw[Ac,F0 hp hs];rfl
theorem Xo9:FnScope ["some"] ["some"] (defScope s_in_order):=⟨rfl,rfl,rfl,by decide +kernel,rfl,by decide +kernel,by decide +kernel⟩
theorem Xpa{f T:Addr}{fd:FuncData}(F:FunT K "in_order" s_in_order f fd T)(B:Bl mg)(hbm:BmOk mg base):FnOk P w K mg base CX0 4 f fd ["some"] (spInOrder T (lamPos s_in_order)):=by
 refine F.ok Xo9 (λvs H Q E h=>?_) (λc0 hhd A outer s H vs Q E hr h=>?_)
 ·obtain⟨l,ps,Ts,rfl,_⟩:=h;rfl
 ·obtain⟨l,ps,Ts,rfl,hl,hT,nd,h64,tab,k⟩:=h;refine⟨_,Ai (Ar (Xmk (show (A.deeper (envOfC "in_order" (defScope s_in_order) s.heap.objs.size f (.ref c0))).units+1+1<cLine by have:=hr.un;omega) (by rfl) B.sorted (by rfl) (Aa (pv 0) Ab) (Xg2 (Xka (T:=T) (c0:=c0) (q:=qIn) hbm rfl rfl rfl hhd rfl) Xg1))),?_⟩;refine⟨_,rfl,⟨tab,λf' c pm ctv H' nf hf hc tab' kp=>?_⟩⟩;have nlT:∀b o,H b=some o->(∀z,o ≠ .tbl z)->b≠T:=λb o e n z=>by
   rcases tab with q | ⟨_,q,_⟩<;>(rw[z,q] at e;cases e;exact n _ rfl)
  have hT':Tups H' ps Ts:=⟨hT.1,λi hi=>kp _ _ (hT.2 i hi) (nlT _ _ (hT.2 i hi) λz=>by simp)⟩;refine⟨l,f',ps,Ts,rfl,rfl,kp _ _ hl (nlT _ _ hl λz=>by simp),hT',nd,h64,?_,λD p H2 nD g so sm hD=>?_⟩
  ·refine Xml (k:=0) (x := "plot") hf hc ⟨rfl,rfl,rfl,by decide +kernel,rfl,by decide +kernel,by decide +kernel⟩ hr (λu=>rfl) λA1 outer1 s1 H1 i hi sm hr1=>?_;refine⟨_,B0 (Aa (Ba Cv (by rfl) B.len boot_len (Aa (pv 0) Ab)) (Aa (pv 0) Ab)),λQ1 kk=>?_⟩;have hp:=sm _ _ (hT'.2 i hi);refine⟨_,rfl,ps.getD i 0,_,rfl,.inr (SqT.of hp),_,rfl,by show 2<=sizeLine;decide,λt nt=>?_⟩;refine kk t _ ?_ (Same.upd0 nt);rw[Ac,Oo]
  ·obtain⟨pm',so'⟩:=Xnm (Ts:=Ts) (by rw[<-hT.1];exact g) (by rw[<-hT.1];exact so);refine k D _ _ H2 ?_ hD ((Xnn hT' g).same sm) pm' so' (SH.Am.same tab' sm) λb o e n=>sm _ _ (kp b o e n);cases e:H D with
   | none=>rfl
   | some o=>
    by_cases z:D=T
    ·rcases tab' with q | ⟨_,q,_⟩<;>(rw[<-z,nD] at q;cases q)
    ·rw[kp D o e z] at nD;cases nD
theorem Ij:FnScope NPp ["row"] (defScope s_plots):=⟨rfl,rfl,rfl,by decide +kernel,rfl,by decide +kernel,by decide +kernel⟩
theorem Xpb{f T:Addr}{fd:FuncData}(F:Fun K "plots" "plots" s_plots f fd)(FS:Fn P w K mg base CX0 3 "spans" ["row"] spSpans)(FO:Fn P w K mg base CX0 2 "lie_of" ["here", "there"] spLieOf)(FT:Fn P w K mg base CX0 1 "told" ["names"] (spTold K))(FC:Fn P w K mg base CX0 4 "crossings" ["row"] M4)
  (FI:Fn P w K mg base CX0 4 "in_order" ["some"] (spInOrder T (lamPos s_in_order))):FnOk P w K mg base CX0 5 f fd ["row"] (spPlotsA T (lamPos s_in_order)):=by
 refine F.ok Ij (λvs H Q E h=>?_) (λcdv A outer s H vs Q E hr h=>?_)
 ·obtain⟨r,row,rfl,_⟩:=h;rfl
 ·obtain⟨r,row,rfl,hR,R2,h3,h14,tab,k⟩:=h;have hu:=En hr;have hr1:Room 1 _:=hr.mono (by decide);have hr2:Room 2 _:=hr.mono (by decide);have hr3:Room 3 _:=hr.mono (by decide);refine⟨_,Ag (An (i:=1) Ij.nd rfl (Or.inr rfl) (Aj FS hr3 (by rfl) Ak (Aa (pv 0) Ab)))
   (Ag (An (i:=2) Ij.nd rfl (Or.inr rfl) (Mh (N:=NPo) (cap:=[none,some 1]) (CompScope.of (defScope s_plots) NPp rfl rfl rfl (by decide +kernel)) rfl
    (F7 (pv 1)) (λ_ _ _=>Au (i:=0) (show NPo.Nodup by decide +kernel) rfl (Or.inr rfl) (Or.inl rfl)) (λ_ _ _=>Cf) (λ_ _ _=>pv 0)
    (λs0 H0 ex=>Cz (N:=NPi) (cap:=[none,some 0,some 1]) (CompScope.of _ NPo rfl rfl rfl (by kernel_rfl)) rfl
     (F7 (pv 1)) (λ_ _ _=>Au (i:=0) (show NPi.Nodup by decide +kernel) rfl (Or.inl rfl) (Or.inr rfl))
     (λ_ _ _=>Ds (Ay (Xco K (by rfl)) (Aj (by exact FO) (by exact hr2) (by rfl) Ak (Aa (Cl hu (pv 2) (pv 1) (λ_ _=>rfl)) (Aa (Cl hu (pv 2) (pv 0) (λ_ _=>rfl)) Ab))) (B0 (Aa Bn (Aa Bn Ab))) (by rfl)))
     (λ_ _ _=>pv 0))))
   (Ag (Xfi (i:=3) (N:=NPs) (cap:=[none,some 2]) (CompScope.of (defScope s_plots) NPp rfl rfl rfl (by decide +kernel)) rfl Ij.nd rfl rfl
    (F7 (pv 2)) (λ_ _ _=>Au (i:=0) (show NPs.Nodup by decide +kernel) rfl (Or.inl rfl) (Or.inr rfl)) (λ_ _ _=>Cf)
    (λ_ _ _=>Aj (by exact FT) (by exact hr1) (by rfl) Ak (Aa (Cl hu (pv 1) (pv 0) (λ_ _=>rfl)) Ab)))
   (Ag (Xfi (i:=4) (N:=NPd) (cap:=[none,none,some 2]) (CompScope.of (defScope s_plots) NPp rfl rfl rfl (by decide +kernel)) rfl Ij.nd rfl rfl
    (Bq (Aj FC hr (by rfl) Ak (Aa (pv 0) Ab))) (λ_ _ _=>Jk K 2 rfl rfl (Ch (Au (i:=0) (show NPd.Nodup by decide +kernel) rfl (Or.inl rfl) (Or.inr rfl)) (Ch (Au (i:=1) (show NPd.Nodup by decide +kernel) rfl (Or.inl rfl) (Or.inr rfl)) Ft))) (λ_ _ _=>Cf)
    (λ_ _ _=>Aj (by exact FT) (by exact hr1) (by rfl) Ak (Aa (Aq B8 (Cl hu (pv 2) (pv 0) (λ_ _=>rfl)) (Cl hu (pv 2) (pv 1) (λ_ _=>rfl))) Ab)))
   (Ai (Ar (Aj FI hr (by rfl) Ak (Aa (Aq B8 (Aq B8 (B1 (Aa (B0 Ab) Ab)) (pv 3)) (pv 4)) Ab))))))),?_⟩
  have hl:=R2.len;have hdl:=F3 row;refine⟨_,rfl,r,row,rfl,hR,R2,λd kvs H1 nd hd sp s1=>?_⟩;refine⟨_,rfl,d,kvs,rfl,.inl ⟨hd,λo D nD=>?_⟩⟩;generalize hH2:upd H1 d (.frz o (.dK kvs))=H2 at nD;have s2:Same H H2:=λb u e=>by rw[<-hH2,Ad (Aw e nd)];exact s1 b u e
  have hd2:H2 d=some (.frz o (.dK kvs)):=by rw[<-hH2];exact Ac
  have sp2:Spn H2 kvs row (dit row):=⟨sp.keys,λx hx=>let ⟨l,h1,h2⟩:=sp.val x hx; ⟨l,h1,by rw[<-hH2,Ad (λz=>by rw[z,hd] at h2;cases h2)];exact h2⟩⟩;have kl:=sp2.len;have go:∀i H3,i<(dit row).length->Same H2 H3->(Itd d o kvs).go i H3/\∀x H4,(Itd d o kvs).yld i H3 x H4->H4=H3/\x = .str ((dit row).getD i Str.empty):=λi H3 hi s3=>by
   have:=G4 (kvs:=kvs) (s3 _ _ hd2) (by omega:i<kvs.length);rw[sp2.at i hi] at this;exact this
  have stp:∀H3,Same H2 H3->(Itd d o kvs).stop (dit row).length H3:=λH3 s3=>by
   have:=G5 (kvs:=kvs) (s3 _ _ hd2)
   rwa [kl] at this
  refine⟨wN (dit row).length λi σ2 H3=>(∃v, σ2=[v,some (.ref d)])/\Same H2 H3/\∃kv2,H3 D=some (.dK kv2)/\Offs H3 kv2 row ((dit row).take i),⟨(dit row).length,by simp,Pq _,⟨none,rfl⟩,(Same.refl H2).step nD,[],Ac,⟨rfl,λx hx=>by simp at hx⟩⟩,?_⟩;rintro i m σ1 H3 ⟨rfl,hi,⟨v,rfl⟩,s3,kv2,hD,ofs⟩;by_cases hlt:i<(dit row).length
  ·obtain⟨g1,g2⟩:=go i H3 hlt s3;refine .inr ⟨g1,λx H4 y=>?_⟩;obtain⟨e1,e2⟩:=g2 x H4 y;subst e1 e2;generalize hx:(dit row).getD i Str.empty=x;have hxd:x∈dit row:=by rw[<-hx];exact Ea hlt
   have hxr:=Ao.mp hxd;have htk:(dit row).take (i+1)=(dit row).take i++[x]:=by
    rw[O8 hlt,<-hx];simp[List.getD,hlt]
   have hnx:x∉(dit row).take i:=by
    have nd:=F2 row;have h2:((dit row).take (i+1)).Nodup:=nd.sublist (P1 ..);rw[htk] at h2;exact λz=>(Qb.mp h2).2.2 x z x (by simp) rfl
   refine⟨_,rfl,_,rfl,d,kvs,rfl,.inr ⟨o,s3 _ _ hd2,?_⟩⟩;refine Fd (n:=(dit row).length) (by rw[Ti];omega) (λj=>.str ((dit row).getD j Str.empty)) (λj=>upB row x ((dit row).getD j Str.empty)) (λj=>.str ((dit row).getD j Str.empty)) ?_ ?_ ?_ ?_ ?_
   ·exact λj H5 hj s5=>go j H5 hj (s3.trans s5)
   ·exact λH5 s5=>stp H5 (s3.trans s5)
   ·intro j H5 Q' hj s5 kk;have s25:=s3.trans s5;have hxj:=Ea hj;obtain⟨l1,gg1,t1⟩:=(sp2.mono s25).get (.inr ⟨o,s25 _ _ hd2⟩) hxd;obtain⟨l2,gg2,t2⟩:=(sp2.mono s25).get (.inr ⟨o,s25 _ _ hd2⟩) hxj;refine⟨_,rfl,_,rfl,d,_,rfl,gg1,_,rfl,_,rfl,d,_,rfl,gg2,l1,l2,_,_,_,_,rfl,t1,t2,lie4 (R2.two x hxr) (R2.two _ (Ao.mp hxj)),λH6 s6=>?_⟩;refine⟨by show 2<=sizeLine;decide,λt nt=>?_⟩;refine⟨t,[Str.ofString "same",Str.ofString "within"].map V.str,rfl,.inr (SqT.of Ac),rfl,Ew _,_,rfl,?_⟩;rw[Tj (by decide),Ev];have e:=Xnw (row:=row) (x:=x) (y:=(dit row).getD j Str.empty) (R2.two x hxr) (R2.two _ (Ao.mp hxj));unfold lieR at e;rw[e];exact kk _ (s6.step nt)
   ·intro j H5 Q' hj hk s5 kk;exact⟨_,rfl,kk H5 (Same.refl _)⟩
   ·intro l H5 nl s5 hl5;have hl5':H5 l=some (.lst (((dit row).filter (upB row x)).map V.str)):=by
     rw[hl5,<-Cy Str.empty (upB row x) (dit row),Pp];rfl
    have hD5:=s5 _ _ hD;have kl2:kv2.length<=60:=by
     have:=ofs.len;rw[O3] at this;omega
    refine⟨kv2,Sum.inr x,rfl,hD5,by rw[Ti];omega,?_⟩;refine wskip hlt ⟨⟨_,rfl⟩,λb u e=>?_,_,Ac,?_⟩
    ·rw[Ad (Aw e nD)];exact s5 _ _ (s3 b u e)
    ·rw[htk];refine ofs.snoc hnx ?_ λb xs e=>?_
     ·rw[Ad (λz=>by rw[z,hD5] at hl5';cases hl5')];exact hl5'
     ·have e4:=s5 _ _ e;rw[Ad (λz=>by rw[z,hD5] at e4;cases e4)];exact e4
  ·have ei:i=(dit row).length:=by omega
   subst ei;refine .inl ⟨stp H3 s3,?_⟩;rw[P9] at ofs;have s03:=s2.trans s3;refine⟨_,rfl,D,kv2,rfl,.inl ⟨hD,λo2 L nL=>?_⟩⟩;generalize hH4:upd H3 D (.frz o2 (.dK kv2))=H4 at nL;have nD0:H D=none:=s2.free nD;have s4:Same H H4:=λb u e=>by rw[<-hH4,Ad (Aw e nD0)];exact s03 b u e
   have hD4:H4 D=some (.frz o2 (.dK kv2)):=by rw[<-hH4];exact Ac
   have of4:Offs H4 kv2 row (dit row):=⟨ofs.keys,λx hx=>let ⟨l,h1,h2⟩:=ofs.val x hx; ⟨l,h1,by rw[<-hH4,Ad (λz=>by rw[z,hD] at h2;cases h2)];exact h2⟩⟩;have kl2:=of4.len;have fl:∀x,((dit row).filter (upB row x)).length<=14:=λx=>Pr (Pt ..) (by omega);refine Xc5 (H0:=H4) (xs0:=[]) (n:=(dit row).length) (λj=>.str ((dit row).getD j Str.empty)) (λ_=>true) (λj=>tupD ((dit row).filter (upB row ((dit row).getD j Str.empty)))) [] nL ((Same.refl H4).step nL) Ac F5 (by rw[Ti,Q7];omega) ?_ ?_ ?_ ?_ ?_
   ·intro j H5 hj s5;have:=G4 (kvs:=kv2) (s5 _ _ hD4) (by omega:j<kv2.length);rw[of4.at j hj] at this;exact this
   ·intro H5 s5;have:=G5 (kvs:=kv2) (s5 _ _ hD4)
    rwa [kl2] at this
   ·exact λj H5 Q' hj s5 kk=>kk H5 (Same.refl _)
   ·intro j xs H5 Q' hj _ s5 hL5 kk;obtain⟨l,gg,hl5⟩:=(of4.mono s5).get (.inr ⟨o2,s5 _ _ hD4⟩) (Ea hj);refine⟨_,rfl,_,rfl,D,_,rfl,gg,l,_,rfl,.inl (SqL.of hl5),by have:=fl ((dit row).getD j Str.empty);omega,λt H6 nt ht s6=>?_⟩;rw[J3 ((Dv row).filter _)] at ht;refine kk _ H6 s6 (Gc ?_);have hL6:=s6 _ _ hL5;unfold hid;rw[Tj (λz=>by rw[z,hL6] at ht;cases ht)];exact ht
   ·intro σ' H5 xs e s5 hL5 hal;have e1:([]:List PyData)++((List.range (dit row).length).filter λ_=>true).map (λj=>tupD ((dit row).filter (upB row ((dit row).getD j Str.empty))))=((dit row).map λa=>(dit row).filter (upB row a)).map tupD:=by
     have:=Cy Str.empty (λ_=>true) (dit row);rw[Ps.mpr (λ_ _=>rfl),Ps.mpr (λ_ _=>rfl)] at this;have q:=congrArg (List.map λa=>tupD ((dit row).filter (upB row a))) this;rw[Pp] at q;rw[Ro,Ps.mpr (λ_ _=>rfl),Pp];exact q
    rw[e1] at hal;obtain⟨ps1,rfl,ht1⟩:=Nq hal;have ht1:Tups H5 ps1 _:=ht1.same (Hi L H5);have s05:=s4.trans s5;refine⟨_,rfl,r,row,rfl,s05 _ _ hR,R2,λcl xs2 H6 ncl hcl hal6 s6=>?_⟩;refine⟨cl,rfl,⟨_,SqL.of hcl⟩,λM nM=>?_⟩;have hxl:xs2.length=(crs row).length:=by
     have:=F6 hal6;simpa using this
    have of6:=(of4.mono s5).mono s6;have hD6:=s6 _ _ (s5 _ _ hD4);have c49:=Xdr R2.two h3 (by omega);refine⟨wN (crs row).length λi σ2 H7=>(∃u v, σ2=[u,v,some (.ref D)])/\Same H6 H7/\∃qs:List Addr,H7 M=some (.lst (qs.map V.ref))/\Tups H7 qs (((crs row).take i).map λq=>(dit row).filter λy=>upB row q.1 y||upB row q.2 y),⟨(crs row).length,by simp,Pq _,⟨none,none,rfl⟩,(Same.refl H6).step nM,[],Ac,Tups.nil _⟩,?_⟩;rintro i m σ1 H7 ⟨rfl,hi,⟨u,v,rfl⟩,s7,qs,hM,htq⟩;by_cases hlt:i<(crs row).length
    ·obtain⟨g1,g2⟩:=C6 (K:=K) (SqL.of (s7 _ _ hcl)) (by omega:i<xs2.length);refine .inr ⟨g1,λx H8 y=>?_⟩;obtain⟨e1,e2⟩:=g2 x H8 y;subst e1 e2;obtain⟨v1,hv,hdat⟩:=Mi (i:=i) (d:=prD ((crs row)[i])) hal6 (by rw[O2,Op hlt];rfl);have hq:=Pn hlt;generalize hqe:(crs row)[i]=q at hdat hq;obtain⟨hq1,hq2,_,_⟩:=Hz hq;have ev:xs2.getD i .non=v1:=by simp[List.getD,hv]
     rw[ev];unfold prD DAt at hdat;obtain⟨pp,ys,rfl,hpp,hys⟩:=hdat;obtain rfl:=Hl (ss:=[q.1,q.2]) hys;have hpp6:=Hi cl H6 _ _ hpp;have htk:(crs row).take (i+1)=(crs row).take i++[q]:=by
      rw[O8 hlt,hqe]
     obtain⟨l1,gg1,hl1⟩:=(of6.mono s7).get (.inr ⟨o2,s7 _ _ hD6⟩) (Ao.mpr hq1);obtain⟨l2,gg2,hl2⟩:=(of6.mono s7).get (.inr ⟨o2,s7 _ _ hD6⟩) (Ao.mpr hq2);have f1:=fl q.1;have f2:=fl q.2;refine⟨pp,_,rfl,SqT.of (s7 _ _ hpp6),rfl,_,_,rfl,_,_,rfl,rfl,?_⟩;refine⟨_,rfl,_,rfl,D,_,rfl,gg1,_,rfl,_,rfl,D,_,rfl,gg2,l1,l2,_,_,rfl,rfl,hl1,hl2,by rw[Oo,Oo,Ti];omega,λc nc=>?_⟩;refine⟨c,(dit row).filter (upB row q.1)++(dit row).filter (upB row q.2),rfl,.inl (by rw[O5];exact SqL.of Ac),by rw[Oy];omega,λt H9 nt ht s9=>?_⟩;have s79:Same H8 H9:=((Same.refl H8).step nc).trans s9;have hM9:=s79 _ _ hM;have et:told ((dit row).filter (upB row q.1)++(dit row).filter (upB row q.2))=(dit row).filter λy=>upB row q.1 y||upB row q.2 y:=by
      refine Xev (M6 _) ((Dv row).filter _) λz=>?_;rw[Xkp,Oz,O0,O0,O0,Rx,<-and_or_left]
     rw[et] at ht;have hql:qs.length<=49:=by
      have:=htq.1;rw[Oo,O3] at this;omega
     refine⟨_,hM9,by rw[Oo,Ti];omega,?_⟩;have keepM:∀b w,H9 b=some (.tup w)->upd H9 M (.lst (qs.map V.ref++[.ref t])) b=some (.tup w):=λb w e=>by
      rw[Ad (λz=>by rw[z,hM9] at e;cases e)];exact e
     refine wskip hlt ⟨⟨_,_,rfl⟩,λb w e=>?_,qs++[t],by rw[Ac,O5];rfl,?_⟩
     ·rw[Ad (Aw e nM)];exact s79 _ _ (s7 b w e)
     ·rw[htk,O5];refine Tups.app ⟨htq.1,λj hj=>keepM _ _ (s79 _ _ (htq.2 j hj))⟩ (Tups.cons (keepM _ _ ht) (Tups.nil _))
    ·have ei:i=(crs row).length:=by omega
     subst ei;refine .inl ⟨by have:=C7 (K:=K) (SqL.of (s7 _ _ hcl));rwa [hxl] at this,?_⟩;rw[P9] at htq;have s57:=s6.trans s7;have hL7:=s57 _ _ hL5;have ht7:=ht1.same s57;have s07:=s05.trans s57;refine⟨Pq _,λe0 ne0=>⟨by show 1<=sizeLine;decide,λz nz=>?_⟩⟩;generalize hHa:upd H7 e0 (.tup [])=Ha at nz;have sa:Same H7 Ha:=by rw[<-hHa];exact(Same.refl H7).step ne0
     have he0:Ha e0=some (.tup (([]:List Str).map V.str)):=by rw[<-hHa];exact Ac
     generalize hHb:upd Ha z (.lst [.ref e0])=Hb;have sb:Same Ha Hb:=by rw[<-hHb];exact(Same.refl Ha).step nz
     have hz:Hb z=some (.lst [.ref e0]):=by rw[<-hHb];exact Ac
     have l1:ps1.length=(dit row).length:=by have:=ht1.1;simpa using this
     have l2:qs.length=(crs row).length:=by have:=htq.1;simpa using this
     have s7b:=sa.trans sb;refine⟨_,rfl,z,L,_,_,rfl,rfl,hz,s7b _ _ hL7,by rw[Oo,Qd,Ti];omega,λc1 n1=>?_⟩;generalize hHc:upd Hb c1 (.lst ([.ref e0]++ps1.map V.ref))=Hc;have sc:Same Hb Hc:=by rw[<-hHc];exact(Same.refl Hb).step n1
     have hc1:Hc c1=some (.lst ([.ref e0]++ps1.map V.ref)):=by rw[<-hHc];exact Ac
     have s7c:=s7b.trans sc;refine⟨_,rfl,c1,M,_,_,rfl,rfl,hc1,s7c _ _ hM,by rw[Oy,Oo,Oo,Qd,Ti];omega,λc2 n2=>?_⟩;generalize hHd:upd Hc c2 (.lst (([.ref e0]++ps1.map V.ref)++qs.map V.ref))=Hd;have sd:Same Hc Hd:=by rw[<-hHd];exact(Same.refl Hc).step n2
     have hc2:Hd c2=some (.lst ((e0::(ps1++qs)).map V.ref)):=by
      rw[<-hHd,Ac,Pg,O5];rfl
     have s7d:=s7c.trans sd;have s0d:=s07.trans s7d;have hTs:Tups Hd (e0::(ps1++qs)) ([]::cands row):=Tups.cons ((sb.trans (sc.trans sd)) _ _ he0) (Tups.app (ht7.same s7d) (htq.same s7d));refine⟨c2,e0::(ps1++qs),[]::cands row,rfl,hc2,hTs,Xnv R2.two,by rw[Pc,Oy];omega,SH.Am.same tab s0d,λD' ps' Ts' H' nD' hD' hT' pm so tab' bt=>?_⟩;refine k D' ps' Ts' H' (s0d.free nD') hD' hT' (λS=>(pm.mem_iff).trans (Xnt R2.two h3 S)) so ?_ tab' λb w e n=>bt _ _ (s0d _ _ e) n;rw[hT'.1,pm.length_eq,<-hTs.1,Pc,Oy];omega
theorem Xpc:FnScope ["one", "other"] ["one", "other"] (defScope s_parting):=⟨rfl,rfl,rfl,by decide +kernel,rfl,by decide +kernel,by decide +kernel⟩
theorem Xpd{f:Addr}{fd:FuncData}(F:Fun K "parting" "parting" s_parting f fd)(T:Bl mg):FnOk P w K mg base CX0 1 f fd ["one", "other"] spParting:=by
 refine F.ok Xpc (λvs H Q E h=>?_) (λcdv A outer s H vs Q E hr h=>?_)
 ·obtain⟨p,q,a,b,rfl,_⟩:=h;rfl
 ·obtain⟨p,q,a,b,rfl,hP,hQ,na,nb,la,lb,k⟩:=h;refine⟨_,Ai (Ar (Ba (Jd rfl) (by rfl) T.sorted (by rfl) (Aa (Aq Xnj (Df (G8 rfl) (by rfl) T.set (by rfl) (Aa (pv 0) Ab)) (Df (G8 rfl) (by rfl) T.set (by rfl) (Aa (pv 1) Ab))) Ab))),?_⟩;refine⟨_,rfl,p,a,rfl,.inr (SqT.of hP),by unfold scanBound;omega,λa1 n1=>?_⟩;refine⟨_,rfl,q,b,rfl,.inr (SqT.of (ku hQ n1)),by unfold scanBound;omega,λa2 n2=>?_⟩;have pa:=Jz na;have pb:=Jz nb;refine⟨a1,a2,_,_,rfl,rfl,ku Ac n2,Ac,G6 a,G6 b,by rw[pa.length_eq];exact la,by rw[pb.length_eq];exact lb,λc zs nc ndz lz mz=>?_⟩;refine⟨c,zs,rfl,Ac,by omega,λl ls nl pl so=>?_⟩;refine k l _ ?_ ?_ ?_
  ·exact(((Same.refl H).step n1).step n2).free ((Same.refl _).step nc |>.free nl)
  ·rw[Ac,F0 pl so,xor_srt na nb ndz λy=>by rw[mz,pa.mem_iff,pb.mem_iff]]
  ·exact((((Same.refl H).step n1).step n2).step nc).step nl
theorem Og:FnScope NAc ["row", "crowd"] (defScope s_ask_crowd):=⟨rfl,rfl,rfl,by decide +kernel,rfl,by decide +kernel,by decide +kernel⟩
theorem Xpe{f C T:Addr}{fd:FuncData}(F:Fun K "ask_crowd" "ask_crowd" s_ask_crowd f fd)(hC:mg "NoPlot" = some (.ref C))(hc:PySem.W.excIn K C bmV "ValueError.__new__" = true)(FP:Fn P w K mg base CX0 5 "plots" ["row"] (spPlotsA T (lamPos s_in_order))):
  FnOk P w K mg base (CX1 P w) 6 f fd ["row", "crowd"] (spAskCrowd C T (lamPos s_in_order)):=by
 refine F.ok1 Og (λvs H Q E h=>?_) (λcdv A outer s H vs Q E hr h=>?_)
 ·obtain⟨r,c,row,ps,Ts,rfl,_⟩:=h;rfl
 ·obtain⟨r,c,row,ps,Ts,rfl,hR,R2,h3,hd,tab,hc1,hT,hpl,co,kq,ke⟩:=h;refine⟨_,Ag (An (i:=2) Og.nd rfl (Or.inl rfl) (Aj FP hr (by rfl) Ak (Aa (pv 0) Ab)))
   (Ai (Cr PassesOwn.leaving rfl (Bq (pv 1)) (Au (i:=3) Og.nd rfl (Or.inl rfl))
    (Ai (Bz (Ay (Xdz (hu4 hr)) (pv 3) (pv 2) (by rfl))
     (Ai (Xbu (C:=C) (E:=E) hc rfl leaves1 (by rfl) hC (Aa (Xb0 (Ja (by decide +kernel) (Xj5 hr (pv 3) (Ja (by decide +kernel) Xbz)))) Ab))) B3)))),?_⟩
  refine⟨_,rfl,r,row,rfl,hR,R2,h3,hd,tab,λL qs Us H1 nL hL hU hall pw hle tab1 bt=>?_⟩;have keep:∀{b:Addr} {o:HO},H b=some o->(∀z,o ≠ .tbl z)->H1 b=some o:=λe n=>bt _ _ e (Am.ne tab e n);have hc2:=keep hc1 λz=>by simp
  have hT1:Tups H1 ps Ts:=⟨hT.1,λi hi=>keep (hT.2 i hi) λz=>by simp⟩;have okU:∀S∈Us,∀y∈S,okN y:=λS hS y hy=>R2.ok y ((Da ((hall S).mp hS)).1 y hy);refine⟨_,rfl,c,rfl,⟨_,SqL.of hc2⟩,?_⟩;refine Ek (K:=K) (a:=c) (xs:=ps.map V.ref) (λi σ H2=>∃v, σ=[some (.ref r),some (.ref c),some (.ref L),v]/\Same H1 H2/\∀j,j<i->j<ps.length->Ae row (Ts.getD j [])=true) ?_ ?_ ?_ ?_
  ·exact⟨_,rfl,Same.refl _,λj h=>absurd h (Qg _)⟩
  ·rintro i σ H2 _ ⟨v,rfl,s2,_⟩;exact SqL.of (s2 _ _ hc2)
  ·rintro i x σ H2 hx ⟨v,rfl,s2,ho⟩;obtain⟨hi,rfl⟩:=Xny hx;have hm:=SH.Tups.at hT1 hi;have ha:=s2 _ _ (hT1.2 i hi);obtain⟨ok,ln⟩:=co _ hm;generalize hS:Ts.getD i []=S at ha hm ok ln;refine⟨_,rfl,_,rfl,tupD S,Us.map tupD,Gc ha,Dp (s2 _ _ hL) (hU.same s2),C0 _ (Gb ok),Hh _ (Xfl okU),by show PyData.depthAll (S.map PyData.str)+1<=3;rw[J5];decide,_,rfl,?_⟩;rw[isin okU ok];refine Be (λq=>?_) (λq=>?_)
   ·have nq:S∉Us:=by simpa using q
    refine⟨_,rfl,_,S,rfl,ha,ln,Xkz ok,λz=>⟨by show 1<=sizeLine;decide,?_⟩⟩;refine ke ⟨S,hm,?_⟩ H2 (SH.Am.same tab1 s2) λb o e n=>s2 _ _ (bt _ _ e n);cases e:Ae row S with
    | false=>rfl
    | true=>exact absurd ((hall S).mpr e) nq
   ·have yq:S∈Us:=by simpa using q
    refine⟨_,rfl,s2,λj hj hjl=>?_⟩;by_cases e:j=i
    ·subst e;rw[hS];exact(hall S).mp yq
    ·exact ho j (by omega) hjl
  ·rintro σ H2 ⟨v,rfl,s2,ho⟩;refine kq (λS hS=>?_) H2 (SH.Am.same tab1 s2) λb o e n=>s2 _ _ (bt _ _ e n);obtain⟨j,hj,rfl⟩:=Po.mp hS;have hj':j<ps.length:=by rw[hT.1];exact hj
   have:=ho j (by rw[Oo];exact hj') hj'
   rwa [show Ts.getD j []=Ts[j] by simp[List.getD,hj]] at this
theorem Xf3:FnScope NCo ["row", "crowd"] (defScope s_counts):=⟨rfl,rfl,rfl,by decide +kernel,rfl,by decide +kernel,by decide +kernel⟩
theorem Xpf{f C T:Addr}{fd:FuncData}(F:Fun K "counts" "counts" s_counts f fd)(B:Bl mg)(FA:Fn P w K mg base (CX1 P w) 6 "ask_crowd" ["row", "crowd"] (spAskCrowd C T (lamPos s_in_order)))(FD:Fn P w K mg base CX0 1 "ditches" ["row"] spDitches):
  FnOk P w K mg base (CX1 P w) 7 f fd ["row", "crowd"] (Nz C T (lamPos s_in_order)):=by
 refine F.ok1 Xf3 (λvs H Q E h=>?_) (λcdv A outer s H vs Q E hr h=>?_)
 ·obtain⟨r,c,row,ps,Ts,rfl,_⟩:=h;rfl
 ·obtain⟨r,c,row,ps,Ts,rfl,hA,kq,ke⟩:=h;have hu:=En hr;have hr1:Room 1 _:=hr.mono (by decide);refine⟨_,Ag (Ei (Aj FA hr (by rfl) pass1 (Aa (pv 0) (Aa (pv 1) Ab))))
   (Ag (An (i:=2) Xf3.nd rfl (Or.inr rfl) (Mh (N:=NCo1) (cap:=[none,some 1]) (CompScope.of (defScope s_counts) NCo rfl rfl rfl (by decide +kernel)) rfl
    (Bq (Aj FD hr1 (by rfl) Ak (Aa (pv 0) Ab))) (λ_ _ _=>Au (i:=0) (show NCo1.Nodup by decide +kernel) rfl (Or.inr rfl) (Or.inl rfl)) (λ_ _ _=>Cf) (λ_ _ _=>pv 0)
    (λs0 H0 ex=>Ba (Ji K (by rfl)) (by rfl) B.len boot_len (Aa (Cz (N:=NCo2) (cap:=[none,some 0]) (CompScope.of _ NCo1 rfl rfl rfl (by kernel_rfl)) rfl
     (Xmr K (by rfl) (pv 1)) (λ_ _ _=>Au (i:=0) (show NCo2.Nodup by decide +kernel) rfl (Or.inl rfl) (Or.inr rfl)) (λ_ _ _=>Ds (Ay (Xco K (by rfl)) (pv 1) (pv 0) (by rfl))) (λ_ _ _=>pv 0)) Ab))))
   (Ai (Ar (Cz (N:=NCo3) (cap:=[none,some 1,some 2]) (CompScope.of (defScope s_counts) NCo rfl rfl rfl (by decide +kernel)) rfl
    (F7 (pv 2)) (λ_ _ _=>Au (i:=0) (show NCo3.Nodup by decide +kernel) rfl (Or.inl rfl) (Or.inr rfl)) (λ_ _ _=>Cf)
    (λ_ _ _=>B0 (Aa (pv 0) (Aa (Aq Xal (Ba (Ji K (by rfl)) (by rfl) B.len boot_len (Aa (pv 1) Ab)) (Cl hu (pv 2) (pv 0) (λ_ _=>rfl))) (Aa (Cl hu (pv 2) (pv 0) (λ_ _=>rfl)) Ab)))))))),?_⟩
  refine⟨_,rfl,_,rfl,r,c,row,ps,Ts,rfl,hA.hr,hA.r2,hA.n3,hA.d,hA.tab,hA.hc,hA.ht,hA.pl,hA.co,λall H1 tab1 b1=>?_,ke⟩;have b1:But T H H1:=b1;have A1:=hA.but tab1 b1;have hrl:=hA.r2.len;have hdl:=F3 row;have hpl:=hA.pl;have hd13:=hA.d;refine⟨_,rfl,r,row,rfl,A1.hr,by omega,λnl H2 nnl hnl s2=>?_⟩;refine⟨nl,rfl,⟨_,SqL.of hnl⟩,λD nD=>?_⟩;have A2:=A1.same s2;have go:∀i H3,i<(dit row).length->Same H2 H3->(Itl K nl).go i H3/\∀x H4,(Itl K nl).yld i H3 x H4->H4=H3/\x = .str ((dit row).getD i Str.empty):=λi H3 hi s3=>by
   have:=C6 (K:=K) (SqL.of (s3 _ _ hnl)) (by rw[Oo];exact hi);rw[Bs V.str Str.empty (dit row) hi] at this;exact this
  refine⟨wN (dit row).length λi σ2 H3=>(∃v, σ2=[v,some (.ref c)])/\Same H2 H3/\H3 D=some (.dK (kvN ((dit row).take i) (offN Ts))),⟨(dit row).length,by simp,Pq _,⟨none,rfl⟩,(Same.refl H2).step nD,Ac⟩,?_⟩;rintro i m σ1 H3 ⟨rfl,hi,⟨v,rfl⟩,s3,hD⟩;by_cases hlt:i<(dit row).length
  ·obtain⟨g1,g2⟩:=go i H3 hlt s3;refine .inr ⟨g1,λx H4 y=>?_⟩;obtain⟨e1,e2⟩:=g2 x H4 y;subst e1 e2;generalize hx:(dit row).getD i Str.empty=x;have htk:(dit row).take (i+1)=(dit row).take i++[x]:=by
    rw[O8 hlt,<-hx];simp[List.getD,hlt]
   have hnx:x∉(dit row).take i:=by
    have nd:=F2 row;have h2:((dit row).take (i+1)).Nodup:=nd.sublist (P1 ..);rw[htk] at h2;exact λz=>(Qb.mp h2).2.2 x z x (by simp) rfl
   have A3:=A2.same s3;refine⟨_,rfl,_,rfl,c,rfl,⟨_,SqL.of A3.hc⟩,?_⟩;refine Fd (n:=ps.length) (by rw[Ti];omega) (λj=>.ref (ps.getD j 0)) (λj=>decide (x∈Ts.getD j [])) (λj=>.ref (ps.getD j 0)) ?_ ?_ ?_ ?_ ?_
   ·intro j H5 hj s5;have:=C6 (K:=K) (SqL.of (s5 _ _ A3.hc)) (by rw[Oo];exact hj);rw[Bs V.ref 0 ps hj] at this;exact this
   ·intro H5 s5;have:=C7 (K:=K) (SqL.of (s5 _ _ A3.hc))
    rwa [Oo] at this
   ·intro j H5 Q' hj s5 kk;refine⟨_,rfl,_,rfl,ps.getD j 0,_,rfl,.inr (SqT.of (s5 _ _ (A3.ht.2 j hj))),rfl,Ew _,_,rfl,?_⟩;rw[Tj (by decide),Ev];exact kk H5 (Same.refl _)
   ·intro j H5 Q' hj hk s5 kk;exact⟨_,rfl,kk H5 (Same.refl _)⟩
   ·intro O H5 nO s5 hO;refine⟨O,_,rfl,.inl (SqL.of hO),?_⟩;have eN:(((List.range ps.length).filter λj=>decide (x∈Ts.getD j [])).map λj=>V.ref (ps.getD j 0)).length=offN Ts x:=by
     have:=congrArg List.length (Cy ([]:List Str) (λS=>decide (x∈S)) Ts);rw[Oo] at this ⊢;rw[A3.ht.1];exact this
    rw[eN];have hD5:=s5 _ _ hD;have kl2:(kvN ((dit row).take i) (offN Ts)).length<=60:=by
     unfold kvN;rw[Oo,O3];omega
    refine⟨_,Sum.inr x,rfl,hD5,by rw[Ti];omega,?_⟩;refine wskip hlt ⟨⟨_,rfl⟩,λb u e=>?_,?_⟩
    ·rw[Ad (Aw e nD)];exact s5 _ _ (s3 b u e)
    ·rw[Ac,Fx _ (by rw[N2,Tj hnx]),htk];unfold kvN;rw[O5];rfl
  ·have ei:i=(dit row).length:=by omega
   subst ei;refine .inl ⟨by have:=C7 (K:=K) (SqL.of (s3 _ _ hnl));rwa [Oo] at this,?_⟩;rw[P9] at hD;have s23:=s2.trans s3;have nD1:H1 D=none:=s2.free nD;refine⟨_,rfl,D,_,rfl,.inl ⟨hD,λo2=>?_⟩⟩;have s4:Same H1 (upd H3 D (.frz o2 (.dK (kvN (dit row) (offN Ts))))):=λb u e=>by rw[Ad (Aw e nD1)];exact s23 b u e
   have hD4:upd H3 D (.frz o2 (.dK (kvN (dit row) (offN Ts)))) D=some (.frz o2 (.dK (kvN (dit row) (offN Ts)))):=Ac;generalize upd H3 D (.frz o2 (.dK (kvN (dit row) (offN Ts))))=H4 at s4 hD4;have kl:(kvN (dit row) (offN Ts)).length=(dit row).length:=by unfold kvN;rw[Oo]
   have atK:∀j,j<(dit row).length->((kvN (dit row) (offN Ts)).map λp=>kV p.1).getD j .non = .str ((dit row).getD j Str.empty):=λj hj=>by
    unfold kvN;rw[Pp];exact Bs V.str Str.empty (dit row) hj
   refine Xfn (n:=(dit row).length) (by rw[Ti];omega) (λj=>.str ((dit row).getD j Str.empty)) (λj=>v3 ((dit row).getD j Str.empty,(Ts.length:Int) - offN Ts ((dit row).getD j Str.empty),(offN Ts ((dit row).getD j Str.empty):Int))) (fun σ=>∃v, σ=[v,some (.ref c),some (.ref D)]) ⟨_,rfl⟩ ?_ ?_ ?_ ?_
   ·intro j H5 hj s5;have:=G4 (kvs:=kvN (dit row) (offN Ts)) (s5 _ _ hD4) (by omega:j<(kvN (dit row) (offN Ts)).length);rw[atK j hj] at this;exact this
   ·intro H5 s5;have:=G5 (kvs:=kvN (dit row) (offN Ts)) (s5 _ _ hD4)
    rwa [kl] at this
   ·rintro j σ1 H5 Q1 Q0 hj ⟨v,rfl⟩ s5 kk;have hm:(dit row).getD j Str.empty∈dit row:=Ea hj;generalize (dit row).getD j Str.empty=x at kk hm;have gg:DGet H5 D (.str x) (some (.int (offN Ts x:Int))):=DGet.rd (.inr ⟨o2,s5 _ _ hD4⟩) (by rw[N2,Tk hm]);have A5:=A1.same (s4.trans s5);have htl:((ps.map V.ref).length:Int)=(Ts.length:Int):=by rw[Oo,hA.ht.1]
    dsimp only[Bp,Eo];rw[Tk rfl];refine⟨_,rfl,_,rfl,c,_,rfl,.inl (SqL.of A5.hc),_,rfl,_,rfl,D,_,rfl,gg,_,_,rfl,rfl,_,rfl,_,rfl,D,_,rfl,gg,by show 3<=sizeLine;decide,λt nt=>?_⟩;rw[htl];exact kk _ t _ ⟨_,rfl⟩ Ac ((Same.refl H5).step nt)
   ·intro L qs H5 nL s5 hL hq;have s15:=s4.trans s5;refine kq all L qs H5 ?_ hL ?_ (SH.Am.same tab1 s15) λb o e n=>s15 _ _ (b1 _ _ e n)
    ·cases q:H L with
     | none=>rfl
     | some o=>
      by_cases z:L=T
      ·have t4:=SH.Am.same tab1 s4;rcases t4 with t | ⟨_,t,_⟩<;>(rw[<-z,nL] at t;cases t)
      ·rw[s4 _ _ (b1 _ _ q z)] at nL;cases nL
    ·have e:(List.range (dit row).length).map (λj=>v3 ((dit row).getD j Str.empty,(Ts.length:Int) - offN Ts ((dit row).getD j Str.empty),(offN Ts ((dit row).getD j Str.empty):Int)))=(Fm row Ts).map v3:=by
      have q:=congrArg (List.map λx=>v3 (x,(Ts.length:Int) - offN Ts x,(offN Ts x:Int))) (Cy Str.empty (λ_=>true) (dit row));rw[Ps.mpr (λ_ _=>rfl),Ps.mpr (λ_ _=>rfl),Pp] at q;unfold Fm;rw[Pp];exact q
     rw[e] at hq;exact hq
abbrev NSt:List Str:=["one", "plot"]
theorem Xpg:FnScope ["crowd", "plot"] ["crowd", "plot"] (defScope s_steps_to):=⟨rfl,rfl,rfl,by decide +kernel,rfl,by decide +kernel,by decide +kernel⟩
theorem Xph{f:Addr}{fd:FuncData}(F:Fun K "steps_to" "steps_to" s_steps_to f fd)(B:Bl mg)(FP:Fn P w K mg base CX0 1 "parting" ["one", "other"] spParting):FnOk P w K mg base CX0 2 f fd ["crowd", "plot"] spSteps:=by
 refine F.ok Xpg (λvs H Q E h=>?_) (λcdv A outer s H vs Q E hr h=>?_)
 ·obtain⟨c,p,ps,Ts,b,rfl,_⟩:=h;rfl
 ·obtain⟨c,p,ps,Ts,b,rfl,hc,hT,hp,hl,hS,bn,bl,k⟩:=h;have hr1:Room 1 _:=hr.mono (by decide);refine⟨_,Ai (Ar (Ba (Nx rfl) (by rfl) B.sum (by rfl) (Aa (Cz (N:=NSt) (cap:=[none,some 1]) (CompScope.of (defScope s_steps_to) ["crowd", "plot"] rfl rfl rfl (by decide +kernel)) rfl
   (Bq (pv 0)) (λ_ _ _=>Au (i:=0) (show NSt.Nodup by decide +kernel) rfl (Or.inl rfl) (Or.inr rfl)) (λ_ _ _=>Cf)
   (λ_ _ _=>Ba (Ji K (by rfl)) (by rfl) B.len boot_len (Aa (Aj (by exact FP) (by exact hr1) (by rfl) Ak (Aa (pv 0) (Aa (pv 1) Ab))) Ab))) Ab))),?_⟩
  refine⟨_,rfl,c,rfl,⟨_,SqL.of hc⟩,?_⟩;refine Jj (n:=ps.length) (by rw[Ti];omega) (λi=>.ref (ps.getD i 0)) (λi=>.int ((Bx (Ts.getD i []) b).length:Int)) ?_ ?_ ?_ ?_
  ·intro j H2 hj s2;have:=C6 (K:=K) (SqL.of (s2 _ _ hc)) (show j<(ps.map V.ref).length by rw[Oo];exact hj)
   rwa [Bs V.ref 0 ps hj] at this
  ·intro H2 s2;have:=C7 (K:=K) (SqL.of (s2 _ _ hc))
   rwa [Oo] at this
  ·intro j H2 Q' hj s2 kk;obtain⟨an,al⟩:=hS _ (SH.Tups.at hT hj);refine⟨_,rfl,_,rfl,ps.getD j 0,p,Ts.getD j [],b,rfl,s2 _ _ (hT.2 j hj),s2 _ _ hp,an,bn,al,bl,λl H3 nl hl3 s3=>?_⟩;refine⟨l,_,rfl,.inl (SqL.of hl3),?_⟩;have:=kk H3 s3
   rwa [Oo]
  ·intro D H2 nD s2 hD;rw[Xfm hT] at hD;refine⟨D,_,rfl,hD,by rw[Oo,<-hT.1];omega,λn hn=>?_,k H2 s2⟩;obtain⟨S,hS',rfl⟩:=Pe.mp hn;have h1:=Xfd S b;have h2:=(hS S hS').2;omega
theorem Oh:FnScope NLe ["row", "crowd"] (defScope s_least):=⟨rfl,rfl,rfl,by decide +kernel,rfl,by decide +kernel,by decide +kernel⟩
theorem Xpi{f C T:Addr}{fd:FuncData}(F:Fun K "least" "least" s_least f fd)(B:Bl mg)(FA:Fn P w K mg base (CX1 P w) 6 "ask_crowd" ["row", "crowd"] (spAskCrowd C T (lamPos s_in_order)))(FP:Fn P w K mg base CX0 5 "plots" ["row"] (spPlotsA T (lamPos s_in_order)))(FS:Fn P w K mg base CX0 2 "steps_to" ["crowd", "plot"] spSteps):
  FnOk P w K mg base (CX1 P w) 7 f fd ["row", "crowd"] (spLeast C T (lamPos s_in_order)):=by
 refine F.ok1 Oh (λvs H Q E h=>?_) (λcdv A outer s H vs Q E hr h=>?_)
 ·obtain⟨r,c,row,ps,Ts,rfl,_⟩:=h;rfl
 ·obtain⟨r,c,row,ps,Ts,rfl,hA,kq,ke⟩:=h;have hu:=En hr;have hr2:Room 2 _:=hr.mono (by decide);have hr5:Room 5 _:=hr.mono (by decide);refine⟨_,Ag (Ei (Aj FA hr (by rfl) pass1 (Aa (pv 0) (Aa (pv 1) Ab))))
   (Ag (An (i:=2) Oh.nd rfl (Or.inr rfl) (Xol (N:=NLe1) (cap:=[none,some 1]) (CompScope.of (defScope s_least) NLe rfl rfl rfl (by decide +kernel)) rfl (λ_ _ _=>hu)
    (Bq (Aj FP hr5 (by rfl) Ak (Aa (pv 0) Ab))) (λ_ _ _=>Au (i:=0) (show NLe1.Nodup by decide +kernel) rfl (Or.inl rfl) (Or.inr rfl)) (λ_ _ _=>Cf) (λ_ _ _=>pv 0)
    (λ_ _ _=>Aj (by exact FS) (by exact hr2) (by rfl) Ak (Aa (pv 1) (Aa (pv 0) Ab)))))
   (Ag (An (i:=3) Oh.nd rfl (Or.inr rfl) (Ba (Xon rfl) (by rfl) B.min (by rfl) (Aa (Xhf PySem.F.plainAttrs_dict PySem.F.slot_dict_values PySem.F.type_dict_values Xom (pv 2)) Ab)))
   (Ai (Ar (Cz (N:=NLe2) (cap:=[none,some 3,some 2]) (CompScope.of (defScope s_least) NLe rfl rfl rfl (by decide +kernel)) rfl
    (Xoi (pv 2)) (λ_ _ _=>Au (i:=0) (show NLe2.Nodup by decide +kernel) rfl (Or.inl rfl) (Or.inr rfl)) (λ_ _ _=>Ds (Ay Cs (Cl hu (pv 2) (pv 0) (λ_ _=>rfl)) (pv 1) (Bc _))) (λ_ _ _=>pv 0)))))),?_⟩
  refine⟨_,rfl,_,rfl,r,c,row,ps,Ts,rfl,hA.hr,hA.r2,hA.n3,hA.d,hA.tab,hA.hc,hA.ht,hA.pl,hA.co,λall H1 tab1 b1=>?_,ke⟩;have b1:But T H H1:=b1;have A1:=hA.but tab1 b1;have hpl:=hA.pl;have hd13:=hA.d;refine⟨_,rfl,r,row,rfl,A1.hr,hA.r2,hA.n3,hA.d,A1.tab,λpl us Us H2 npl hpl2 hU hall pw hle tab2 b2=>?_⟩;have b2:But T H1 H2:=b2;have A2:=A1.but tab2 b2;have sh:∀S,Ae row S=true->S.Nodup/\S.length<16:=λS hS=>⟨Kt hS,by have:=Kd hS;omega⟩;have ndU:=Xoq pw;have hlU:=hU.1;have atU:∀i,i<us.length->Ae row (Us.getD i [])=true:=λi hi=>(hall _).mp (SH.Tups.at hU hi);refine⟨pl,rfl,⟨_,SqL.of hpl2⟩,λD nD=>?_⟩;have go:∀i H3,i<us.length->Same H2 H3->(Itl K pl).go i H3/\∀x H4,(Itl K pl).yld i H3 x H4->H4=H3/\x = .ref (us.getD i 0):=λi H3 hi s3=>by
   have:=C6 (K:=K) (SqL.of (s3 _ _ hpl2)) (by rw[Oo];exact hi);rw[Bs V.ref 0 us hi] at this;exact this
  refine⟨wN us.length λi σ2 H3=>(∃v, σ2=[v,some (.ref c)])/\Same H2 H3/\H3 D=some (.dT (kvT (Us.take i) (Ap Ts))),⟨us.length,by simp,Pq _,⟨none,rfl⟩,(Same.refl H2).step nD,Ac⟩,?_⟩;rintro i m σ1 H3 ⟨rfl,hi,⟨v,rfl⟩,s3,hD⟩;by_cases hlt:i<us.length
  ·obtain⟨g1,g2⟩:=go i H3 hlt s3;refine .inr ⟨g1,λx H4 y=>?_⟩;obtain⟨e1,e2⟩:=g2 x H4 y;subst e1 e2;have hlt':i<Us.length:=by omega
   have hS:=atU i hlt;have ht3:=s3 _ _ (hU.2 i hlt);have htk:Us.take (i+1)=Us.take i++[Us.getD i []]:=by
    rw[O8 hlt'];simp[List.getD,hlt']
   generalize Us.getD i []=S at hS ht3 htk;have hnx:S∉Us.take i:=by
    have h2:(Us.take (i+1)).Nodup:=ndU.sublist (P1 ..);rw[htk] at h2;exact λz=>(Qb.mp h2).2.2 S z S (by simp) rfl
   have A3:=A2.same s3;refine⟨_,rfl,_,rfl,_,rfl,c,us.getD i 0,ps,Ts,S,rfl,A3.hc,A3.ht,ht3,hpl,λS' h'=>sh S' (all S' h'),(sh S hS).1,(sh S hS).2,λH5 s5=>?_⟩;have hD5:=s5 _ _ hD;have kl2:(kvT (Us.take i) (Ap Ts)).length<=64:=by
    rw[Ii,O3];omega
   refine⟨_,kOf S,us.getD i 0,rfl,by rw[N9];exact s5 _ _ ht3,hD5,by rw[Ti];omega,?_⟩;refine wskip hlt ⟨⟨_,rfl⟩,λb u e=>?_,?_⟩
   ·rw[Ad (Aw e nD)];exact s5 _ _ (s3 b u e)
   ·rw[Ac,Fx _ (by rw[Oa,Tj hnx]),htk];unfold kvT;rw[O5];rfl
  ·have ei:i=us.length:=by omega
   subst ei;refine .inl ⟨by have:=C7 (K:=K) (SqL.of (s3 _ _ hpl2));rwa [Oo] at this,?_⟩;rw[hlU,P9] at hD;have nD1:H1 D=none:=by
    cases q:H1 D with
    | none=>rfl
    | some o=>
     by_cases z:D=T
     ·rcases tab2 with t | ⟨_,t,_⟩<;>(rw[<-z,nD] at t;cases t)
     ·rw[b2 _ _ q z] at nD;cases nD
   dsimp only[Bp];refine⟨_,rfl,.inr (.inr (.inl ⟨rfl,.inr ⟨_,hD⟩⟩)),D,_,rfl,rfl,hD,λvw nvw=>?_⟩;have s4:Same H3 (upd H3 vw (Fp vw D)):=(Same.refl H3).step nvw;have hv4:upd H3 vw (Fp vw D) vw=some (Fp vw D):=Ac;dsimp only;generalize upd H3 vw (Fp vw D)=H4 at s4 hv4;have hD4:=s4 _ _ hD;have h0:0<Us.length:=Se ((hall []).mpr (Ho row));refine⟨vw,D,_,λj=>Ap Ts (Us.getD j []),rfl,hv4,hD4,by rw[Ii];exact h0,λj p hp=>?_,λM hM hlow=>?_⟩
   ·unfold kvT at hp;rw[O2] at hp;obtain⟨S,h1,rfl⟩:=Option.map_eq_some_iff.mp hp;show V.int (Ap Ts S)=V.int (Ap Ts (Us.getD j []));rw[show Us.getD j []=S by rw[List.getD,h1];rfl]
   rw[Ii] at hM hlow;have hlow:∀q,q<Us.length->M<=Ap Ts (Us.getD q []):=hlow;have hM:∃q,q<Us.length/\Ap Ts (Us.getD q [])=M:=hM;have least:∀S,Ae row S=true->(Kx row Ts S↔Ap Ts S=M):=λS hS=>by
    obtain⟨j,hj,rfl⟩:=hM;constructor
    ·intro h;have h1:=h.2 _ (atU j (by omega));obtain⟨q,hq,rfl⟩:=Po.mp ((hall S).mpr hS);have h2:=hlow q hq;rw[show Us.getD q []=Us[q] by simp[List.getD,hq]] at h2;exact Int.le_antisymm h1 h2
    ·intro h;refine⟨hS,λS' h'=>?_⟩;rw[h];obtain⟨q,hq,rfl⟩:=Po.mp ((hall S').mpr h');have h2:=hlow q hq
     rwa [show Us.getD q []=Us[q] by simp[List.getD,hq]] at h2
   dsimp only[Bp];refine⟨_,rfl,D,_,rfl,hD4,λo2 hk=>?_⟩;have s24:=s3.trans s4;have s5:Same H2 (upd H4 D (.frz o2 (.dT (kvT Us (Ap Ts))))):=λb u e=>by rw[Ad (Aw e nD)];exact s24 b u e
   have hD5:upd H4 D (.frz o2 (.dT (kvT Us (Ap Ts)))) D=some (.frz o2 (.dT (kvT Us (Ap Ts)))):=Ac;have hk5:∀j,j<Us.length->upd H4 D (.frz o2 (.dT (kvT Us (Ap Ts)))) (D1 o2 j)=some (.tup ((Us.getD j []).map V.str)):=λj hj=>by
    have:=hk j (kOf Us[j],V.int (Ap Ts Us[j])) (by unfold kvT;rw[O2,Op hj];rfl);rw[N9] at this;rw[Ad (λz=>by rw[z,hD4] at this;cases this),show Us.getD j []=Us[j] by simp[List.getD,hj]];exact this
   generalize upd H4 D (.frz o2 (.dT (kvT Us (Ap Ts))))=H5 at s5 hD5 hk5;refine Fd (n:=Us.length) (by rw[Ti];omega) (λj=>.ref (D1 o2 j)) (λj=>decide (Ap Ts (Us.getD j [])=M)) (λj=>.ref (D1 o2 j)) ?_ ?_ ?_ ?_ ?_
   ·intro j H6 hj s6;exact Xoe (s6 _ _ hD5) (by rw[Ii];exact hj)
   ·intro H6 s6;have:=Xof (s6 _ _ hD5)
    rwa [Ii] at this
   ·intro j H6 Q' hj s6 kk;have hm:Us.getD j []∈Us:=SH.Tups.at hU (by omega);have gg:DGet H6 D (.ref (D1 o2 j)) (some (.int (Ap Ts (Us.getD j [])))):=.inr ⟨_,kOf (Us.getD j []),_,.inr ⟨o2,s6 _ _ hD5⟩,rfl,by rw[N9];exact s6 _ _ (hk5 j hj),by rw[Oa,Tk hm]⟩;refine⟨_,rfl,_,rfl,D,_,rfl,gg,_,rfl,rfl,?_⟩;have e:decide (V.int (Ap Ts (Us.getD j []))=V.int M)=decide (Ap Ts (Us.getD j [])=M):=by
     by_cases z:Ap Ts (Us.getD j [])=M
     ·rw[z,Tl rfl,Tl rfl]
     ·rw[Tm z,Tm (λq=>z (by injection q))]
    rw[e];exact⟨_,rfl,kk H6 (Same.refl _)⟩
   ·intro j H6 Q' hj hk s6 kk;exact⟨_,rfl,kk H6 (Same.refl _)⟩
   ·intro L H6 nL s6 hL;have s26:=s5.trans s6;refine kq all L (((List.range Us.length).filter λj=>decide (Ap Ts (Us.getD j [])=M)).map (D1 o2)) (Us.filter λS=>decide (Ap Ts S=M)) H6 ?_ ?_ ?_ ?_ ?_ ?_ (SH.Am.same tab2 s26) λb o e n=>s26 _ _ (b2 _ _ (b1 _ _ e n) n)
    ·cases q:H L with
     | none=>rfl
     | some o=>
      by_cases z:L=T
      ·have t4:=SH.Am.same tab2 s5;rcases t4 with t | ⟨_,t,_⟩<;>(rw[<-z,nL] at t;cases t)
      ·rw[s5 _ _ (b2 _ _ (b1 _ _ q z) z)] at nL;cases nL
    ·rw[hL,Pp];rfl
    ·have e:=Cy ([]:List Str) (λS=>decide (Ap Ts S=M)) Us;rw[<-e];refine⟨by rw[Oo,Oo],λj hj=>?_⟩;rw[Oo] at hj;have hm:=Pn hj;have hlt:=P6.mp (O0.mp hm).1;rw[Ky _ _ _ hj,Ky _ _ _ hj];exact s6 _ _ (hk5 _ hlt)
    ·intro S;rw[O0,hall,decide_eq_true_eq];constructor
     ·rintro ⟨h1,h2⟩;exact(least S h1).mpr h2
     ·intro h;exact⟨h.1,(least S h.1).mp h⟩
    ·exact pw.filter _
    ·rw[Oo];exact Pr (Pt ..) (by rw[P2];omega)
theorem Xpj:FnScope ["row", "crowd"] ["row", "crowd"] (defScope s_toll):=⟨rfl,rfl,rfl,by decide +kernel,rfl,by decide +kernel,by decide +kernel⟩
theorem Xpk{f C T:Addr}{fd:FuncData}(F:Fun K "toll" "toll" s_toll f fd)(B:Bl mg)(FC:Fn P w K mg base (CX1 P w) 8 "told_paper" ["row", "crowd"] (N0 C T (lamPos s_in_order))):
  FnOk P w K mg base (CX1 P w) 9 f fd ["row", "crowd"] (N1 C T (lamPos s_in_order)):=by
 refine F.ok1 Xpj (λvs H Q E h=>?_) (λcdv A outer s H vs Q E hr h=>?_)
 ·obtain⟨r,c,row,ps,Ts,rfl,_⟩:=h;rfl
 ·obtain⟨r,c,row,ps,Ts,rfl,hA,kq,ke⟩:=h;have hd13:=hA.d;have hpl:Ts.length<=200:=by rw[<-hA.ht.1];exact hA.pl
  refine⟨_,Ai (Ar (Ba (Nx rfl) (by rfl) B.sum (by rfl) (Aa (Cz (N:=NTo1) (cap:=[none,none]) (CompScope.of (defScope s_toll) ["row", "crowd"] rfl rfl rfl (by decide +kernel)) rfl
   (Bq (Aj FC hr (by rfl) pass1 (Aa (pv 0) (Aa (pv 1) Ab))))
   (λ_ _ _=>Jk K 2 rfl rfl (Ch (Au (i:=0) (show NTo1.Nodup by decide +kernel) rfl (Or.inl rfl) (Or.inr rfl)) (Ch (Au (i:=1) (show NTo1.Nodup by decide +kernel) rfl (Or.inl rfl) (Or.inr rfl)) Ft)))
   (λ_ _ _=>Cf) (λ_ _ _=>pv 1)) Ab))),?_⟩
  refine⟨_,rfl,_,rfl,r,c,row,ps,Ts,rfl,hA,λall D qs H1 nD hD hq tab1 b1=>?_,ke⟩;have b1:But T H H1:=b1;have hql:qs.length=(dit row).length:=by
   have:=hq.1
   rwa [Oo,Kv] at this
  refine⟨D,rfl,⟨_,SqL.of hD⟩,?_⟩;refine Xfo (n:=qs.length) (by rw[Ti];omega) (λj=>.ref (qs.getD j 0)) (λj=>.int (((B7 row Ts).map (·.2)).getD j 0)) (fun σ=>∃u v, σ=[u,v]) ⟨_,_,rfl⟩ ?_ ?_ ?_ ?_
  ·intro j H5 hj s5;have:=C6 (K:=K) (SqL.of (s5 _ _ hD)) (by rw[Oo];exact hj);rw[Bs V.ref 0 qs hj] at this;exact this
  ·intro H5 s5;have:=C7 (K:=K) (SqL.of (s5 _ _ hD))
   rwa [Oo] at this
  ·rintro j σ1 H5 Q1 Q0 hj ⟨u,v,rfl⟩ s5 kk;obtain⟨t,ht,hp⟩:=hq.at hj;have e:((B7 row Ts).map (·.2)).getD j 0=t.2:=by
    rw[List.getD,O2,ht];rfl
   rw[e] at kk;refine⟨_,_,rfl,SqT.of (s5 _ _ hp),rfl,_,_,rfl,_,_,rfl,rfl,?_⟩;dsimp only[Eo];rw[Tk rfl];exact⟨_,rfl,kk _ _ ⟨_,_,rfl⟩ (Same.refl H5)⟩
  ·intro L H5 nL s5 hL;have e:(List.range qs.length).map (λj=>V.int (((B7 row Ts).map (·.2)).getD j 0))=((B7 row Ts).map (·.2)).map V.int:=by
    have q:=Cy (0:Int) (λ_=>true) ((B7 row Ts).map (·.2));rw[Ps.mpr (λ_ _=>rfl),Ps.mpr (λ_ _=>rfl),Oo,Kv] at q;have q2:=congrArg (List.map V.int) q;rw[Pp] at q2;rw[hql];exact q2
   rw[e] at hL;refine⟨L,_,rfl,hL,by rw[Oo,Kv];omega,λn hn=>?_,kq all H5 (SH.Am.same tab1 s5) λb o e n=>s5 _ _ (b1 _ _ e n)⟩;have:=Xnz hpl n hn;omega
theorem Xpl:FnScope ["row", "crowd"] ["row", "crowd"] (defScope s_told_paper):=⟨rfl,rfl,rfl,by decide +kernel,rfl,by decide +kernel,by decide +kernel⟩
theorem Xpm{f C T:Addr}{fd:FuncData}(F:Fun K "told_paper" "told_paper" s_told_paper f fd)(B:Bl mg)(FC:Fn P w K mg base (CX1 P w) 7 "counts" ["row", "crowd"] (Nz C T (lamPos s_in_order))):
  FnOk P w K mg base (CX1 P w) 8 f fd ["row", "crowd"] (N0 C T (lamPos s_in_order)):=by
 refine F.ok1 Xpl (λvs H Q E h=>?_) (λcdv A outer s H vs Q E hr h=>?_)
 ·obtain⟨r,c,row,ps,Ts,rfl,_⟩:=h;rfl
 ·obtain⟨r,c,row,ps,Ts,rfl,hA,kq,ke⟩:=h;have hd13:=hA.d;refine⟨_,Ai (Ar (Cz (N:=NPa1) (cap:=[none,none,none]) (CompScope.of (defScope s_told_paper) ["row", "crowd"] rfl rfl rfl (by decide +kernel)) rfl
   (Bq (Aj FC hr (by rfl) pass1 (Aa (pv 0) (Aa (pv 1) Ab))))
   (λ_ _ _=>Jk K 3 rfl rfl (Ch (Au (i:=0) (show NPa1.Nodup by decide +kernel) rfl (Or.inl rfl) (Or.inr rfl)) (Ch (Au (i:=1) (show NPa1.Nodup by decide +kernel) rfl (Or.inl rfl) (Or.inr rfl)) (Ch (Au (i:=2) (show NPa1.Nodup by decide +kernel) rfl (Or.inl rfl) (Or.inr rfl)) Ft))))
   (λ_ _ _=>Cf) (λ_ _ _=>B0 (Aa (pv 0) (Aa (Ba (Xav rfl) (by rfl) B.min (by rfl) (Aa (pv 1) (Aa (pv 2) Ab))) Ab))))),?_⟩
  refine⟨_,rfl,_,rfl,r,c,row,ps,Ts,rfl,hA,λall D qs H1 nD hD hq tab1 b1=>?_,ke⟩;have b1:But T H H1:=b1;have hql:qs.length=(dit row).length:=by
   have:=hq.1
   rwa [Oo,Xfp] at this
  refine⟨D,rfl,⟨_,SqL.of hD⟩,?_⟩;refine Xfn (n:=qs.length) (by rw[Ti];omega) (λj=>.ref (qs.getD j 0)) (λj=>((B7 row Ts).map v2).getD j []) (fun σ=>∃u v w, σ=[u,v,w]) ⟨_,_,_,rfl⟩ ?_ ?_ ?_ ?_
  ·intro j H5 hj s5;have:=C6 (K:=K) (SqL.of (s5 _ _ hD)) (by rw[Oo];exact hj);rw[Bs V.ref 0 qs hj] at this;exact this
  ·intro H5 s5;have:=C7 (K:=K) (SqL.of (s5 _ _ hD))
   rwa [Oo] at this
  ·rintro j σ1 H5 Q1 Q0 hj ⟨u,v,w,rfl⟩ s5 kk;obtain⟨t,ht,hp⟩:=hq.at hj;have e:((B7 row Ts).map v2).getD j []=v2 (t.1,if t.2.2<t.2.1 then t.2.2 else t.2.1):=by
    unfold B7;rw[Pp,List.getD,O2,ht];rfl
   rw[e] at kk;refine⟨_,_,rfl,SqT.of (s5 _ _ hp),rfl,_,_,rfl,_,_,rfl,_,_,rfl,rfl,?_⟩;dsimp only[Eo];rw[Tk rfl];refine⟨_,rfl,_,rfl,_,rfl,_,_,rfl,by show 2<=sizeLine;decide,λp np=>?_⟩;exact kk _ p _ ⟨_,_,_,rfl⟩ Ac ((Same.refl H5).step np)
  ·intro L us H5 nL s5 hL hus;refine kq all L us H5 ?_ hL ?_ (SH.Am.same tab1 s5) λb o e n=>s5 _ _ (b1 _ _ e n)
   ·cases q:H L with
    | none=>rfl
    | some o=>
     by_cases z:L=T
     ·rcases tab1 with t | ⟨_,t,_⟩<;>(rw[<-z,nL] at t;cases t)
     ·rw[b1 _ _ q z] at nL;cases nL
   ·have e:(List.range qs.length).map (λj=>((B7 row Ts).map v2).getD j [])=(B7 row Ts).map v2:=by
     have q:=Cy ([]:List V) (λ_=>true) ((B7 row Ts).map v2);rw[Ps.mpr (λ_ _=>rfl),Ps.mpr (λ_ _=>rfl),Oo,Kv] at q;rw[hql];exact q
    rw[e] at hus;exact hus
theorem Xf4:FnScope NAp ["_law_one_here", "_law_other"] (defScope s__law_apart):=⟨rfl,rfl,rfl,by decide +kernel,rfl,by decide +kernel,by decide +kernel⟩
theorem Xpn{f:Addr}{fd:FuncData}(F:Fun K "_law_apart" "_law_apart" s__law_apart f fd)(T:Bl mg):FnOk P w K mg base CX0 1 f fd ["_law_one_here", "_law_other"] spApart:=by
  refine F.ok Xf4 (λvs H Q E h=>?_) (λcdv A outer s H vs Q E hr h=>?_)
  . obtain⟨p,q,a,b,rfl,_⟩:=h;rfl
  . obtain⟨p,q,a,b,rfl,hP,hQ,la,lb,k⟩:=h;refine⟨_,Ag (Jq (i:=2) (N:=NAp1) (cap:=[none,some 1]) (CompScope.of (defScope s__law_apart) NAp rfl rfl rfl (by decide +kernel)) rfl Xf4.nd rfl rfl
          (K8 (pv 0)) (λ_ _ _=>Au (i:=0) (show NAp1.Nodup by decide +kernel) rfl (Or.inl rfl) (Or.inr rfl))
          (λ_ _ _=>Ds (Ay (Xcp K (by rfl)) (pv 0) (pv 1) (by rfl))) (λ_ _ _=>pv 0))
      (Ai (Ar (Ba Xj0 (by rfl) T.sorted (by rfl) (Aa (Aq B8 (pv 2)
        (Cz (N:=NAp2) (cap:=[none,some 0]) (CompScope.of (defScope s__law_apart) NAp rfl rfl rfl (by decide +kernel)) rfl
          (K8 (pv 1)) (λ_ _ _=>Au (i:=0) (show NAp2.Nodup by decide +kernel) rfl (Or.inl rfl) (Or.inr rfl))
          (λ_ _ _=>Ds (Ay (Xcp K (by rfl)) (pv 0) (pv 1) (by rfl))) (λ_ _ _=>pv 0))) Ab)))),?_⟩
    refine⟨_,rfl,p,rfl,⟨_,SqT.of hP⟩,?_⟩;refine Fd (n:=a.length) (by rw[Ti];omega) (λi=>(a.map V.str).getD i .non) (λi => !decide (a.getD i Str.empty∈b)) (λi=>.str (a.getD i Str.empty)) ?_ ?_ ?_ ?_ ?_
    . intro i H3 hi s3;exact L1 (SqT.of (s3 _ _ hP)) (by rw[Oo];exact hi)
    . intro H3 s3;have:=L3 (K:=K) (SqT.of (s3 _ _ hP))
      rwa [Oo] at this
    . intro i H3 Q' hi s3 kk;rw[Bs V.str Str.empty _ hi];refine⟨_,rfl,_,rfl,q,_,rfl,.inr (SqT.of (s3 _ _ hQ)),rfl,Ew b,_,rfl,?_⟩;rw[Tk rfl,Ev];exact kk H3 (Same.refl _)
    . intro i H3 Q' hi hk s3 kk;rw[Bs V.str Str.empty _ hi];exact⟨_,rfl,kk H3 (Same.refl _)⟩
    . intro D H3 nD s3 hD;have hD':H3 D=some (.lst ((a.filter λx => !decide (x∈b)).map V.str)):=by
        rw[hD,<-Cy Str.empty (λx => !decide (x∈b)) a,Pp];rfl
      have la':(a.filter λx => !decide (x∈b)).length<=24:=Pr (Pt ..) la;refine⟨_,rfl,_,rfl,q,rfl,⟨_,SqT.of (s3 _ _ hQ)⟩,?_⟩;refine Fd (n:=b.length) (by rw[Ti];omega) (λi=>(b.map V.str).getD i .non) (λi => !decide (b.getD i Str.empty∈a)) (λi=>.str (b.getD i Str.empty)) ?_ ?_ ?_ ?_ ?_
      . intro i H4 hi s4;exact L1 (SqT.of (s4 _ _ (s3 _ _ hQ))) (by rw[Oo];exact hi)
      . intro H4 s4;have:=L3 (K:=K) (SqT.of (s4 _ _ (s3 _ _ hQ)))
        rwa [Oo] at this
      . intro i H4 Q' hi s4 kk;rw[Bs V.str Str.empty _ hi];refine⟨_,rfl,_,rfl,p,_,rfl,.inr (SqT.of (s4 _ _ (s3 _ _ hP))),rfl,Ew a,_,rfl,?_⟩;rw[Tk rfl,Ev];exact kk H4 (Same.refl _)
      . intro i H4 Q' hi hk s4 kk;rw[Bs V.str Str.empty _ hi];exact⟨_,rfl,kk H4 (Same.refl _)⟩
      . intro D2 H4 nD2 s4 hD2;have hD2':H4 D2=some (.lst ((b.filter λx => !decide (x∈a)).map V.str)):=by
          rw[hD2,<-Cy Str.empty (λx => !decide (x∈a)) b,Pp];rfl
        have lb':(b.filter λx => !decide (x∈a)).length<=24:=Pr (Pt ..) lb;refine⟨D,D2,_,_,rfl,rfl,s4 _ _ hD',hD2',by rw[Oo,Oo,Ti];omega,λl nl=>?_⟩;refine⟨l,_,rfl,by rw[Ac,<-O5],by rw[Oy];omega,λl2 nl2=>?_⟩;refine k l2 _ ?_ Ac ?_
        . exact((s3.trans s4).step nl).free nl2
        . exact((s3.trans s4).step nl).step nl2
abbrev NTt:List Str:=["_law_one_here", "_law_plot"]
theorem Xpo:FnScope ["_law_crowd_here", "_law_plot"] ["_law_crowd_here", "_law_plot"] (defScope s__law_total):=⟨rfl,rfl,rfl,by decide +kernel,rfl,by decide +kernel,by decide +kernel⟩
theorem Xpp{f:Addr}{fd:FuncData}(F:Fun K "_law_total" "_law_total" s__law_total f fd)(B:Bl mg)(FP:Fn P w K mg base CX0 1 "_law_apart" ["_law_one_here", "_law_other"] spApart):FnOk P w K mg base CX0 2 f fd ["_law_crowd_here", "_law_plot"] spSteps:=by
 refine F.ok Xpo (λvs H Q E h=>?_) (λcdv A outer s H vs Q E hr h=>?_)
 ·obtain⟨c,p,ps,Ts,b,rfl,_⟩:=h;rfl
 ·obtain⟨c,p,ps,Ts,b,rfl,hc,hT,hp,hl,hS,bn,bl,k⟩:=h;have hr1:Room 1 _:=hr.mono (by decide);refine⟨_,Ai (Ar (Ba (Nx rfl) (by rfl) B.sum (by rfl) (Aa (Cz (N:=NTt) (cap:=[none,some 1]) (CompScope.of (defScope s__law_total) ["_law_crowd_here", "_law_plot"] rfl rfl rfl (by decide +kernel)) rfl
   (Bq (pv 0)) (λ_ _ _=>Au (i:=0) (show NTt.Nodup by decide +kernel) rfl (Or.inl rfl) (Or.inr rfl)) (λ_ _ _=>Cf)
   (λ_ _ _=>Ba (Ji K (by rfl)) (by rfl) B.len boot_len (Aa (Aj (by exact FP) (by exact hr1) (by rfl) Ak (Aa (pv 0) (Aa (pv 1) Ab))) Ab))) Ab))),?_⟩
  refine⟨_,rfl,c,rfl,⟨_,SqL.of hc⟩,?_⟩;refine Jj (n:=ps.length) (by rw[Ti];omega) (λi=>.ref (ps.getD i 0)) (λi=>.int ((Bx (Ts.getD i []) b).length:Int)) ?_ ?_ ?_ ?_
  ·intro j H2 hj s2;have:=C6 (K:=K) (SqL.of (s2 _ _ hc)) (show j<(ps.map V.ref).length by rw[Oo];exact hj)
   rwa [Bs V.ref 0 ps hj] at this
  ·intro H2 s2;have:=C7 (K:=K) (SqL.of (s2 _ _ hc))
   rwa [Oo] at this
  ·intro j H2 Q' hj s2 kk;obtain⟨an,al⟩:=hS _ (SH.Tups.at hT hj);refine⟨_,rfl,_,rfl,ps.getD j 0,p,Ts.getD j [],b,rfl,s2 _ _ (hT.2 j hj),s2 _ _ hp,by omega,by omega,λl H3 nl hl3 s3=>?_⟩;refine⟨l,_,rfl,.inl (SqL.of hl3),?_⟩;have:=kk H3 s3
   rwa [Oo]
  ·intro D H2 nD s2 hD;rw[Xfm hT] at hD;refine⟨D,_,rfl,hD,by rw[Oo,<-hT.1];omega,λn hn=>?_,k H2 s2⟩;obtain⟨S,hS',rfl⟩:=Pe.mp hn;have h1:=Xfd S b;have h2:=(hS S hS').2;omega
theorem Xpq:FnScope ["_law_script"] ["_law_script"] (defScope sBegin):=⟨rfl,rfl,rfl,by decide +kernel,rfl,by decide +kernel,by decide +kernel⟩
theorem Xpr{f:Addr}{fd:FuncData}(F:Fun K "_law_begin" "_law_begin" sBegin f fd)(T:Bl mg):FnOk P w K mg base CX0 1 f fd ["_law_script"] (Mq K):=by
 refine F.ok Xpq (λvs H Q E h=>?_) (λcdv A outer s H vs Q E hr h=>?_)
 ·obtain⟨a,ns,rfl,_⟩:=h;rfl
 ·obtain⟨a,ns,rfl,hS,hl,k⟩:=h;refine⟨_,Ai (Ar (B1 (Aa (Df Xa8 rfl T.list boot_list (Aa (C5 Dh (pv 0) Dg (Cu Af)) Ab)) (Aa Af (Aa Af (Aa Af (Aa Af Ab))))))),?_⟩;refine⟨_,rfl,_,rfl,a,_,rfl,hS,λp hp=>?_⟩;have cut:B5 (ns.map V.int) none (some 63)=ns.map V.int:=by
   unfold B5;rw[HT.sIx_none,R0,show (some (63:Int))=some ((63:Nat):Int) from rfl,HT.sIx_nat];exact Pu (by rw[Oo];omega)
  rw[cut];refine⟨p,_,rfl,.inl (SqL.of Ac),λq hq=>?_⟩;refine⟨by show 5<=sizeLine;decide,λdr hdr=>?_⟩;have npq:p≠q:=Aw (o:=.lst (ns.map V.int)) Ac hq;have nqd:q≠dr:=Aw (o:=.lst (ns.map V.int)) Ac hdr;have hqH:H q=none:=by rw[Ad npq.symm] at hq;exact hq
  have hpd:p≠dr:=Aw (H:=upd (upd H p (.lst (ns.map V.int))) q (.lst (ns.map V.int))) (o:=.lst (ns.map V.int)) (by rw[Ad npq,Ac]) hdr;have hdH:H dr=none:=by rw[Ad nqd.symm,Ad hpd.symm] at hdr;exact hdr
  refine k dr q _ hdH hqH ⟨⟨ns,0,0,1,0,Ac,by rw[Ad nqd,Ac],Pq _,hl,by decide,by decide⟩⟩ ((((Same.refl H).upd hp).upd hqH).upd hdH)
theorem Oi:FnScope NP ["_law_draw", "_law_many"] (defScope sPick):=⟨rfl,rfl,rfl,by decide +kernel,rfl,by decide +kernel,by decide +kernel⟩
theorem Xps{f:Addr}{fd:FuncData}(F:Fun K "_law_pick" "_law_pick" sPick f fd)(T:Bl mg):FnOk P w K mg base CX0 1 f fd ["_law_draw", "_law_many"] Xc9:=by
 refine F.ok Oi (λvs H Q E h=>?_) (λcdv A outer s H vs Q E hr h=>?_)
 ·obtain⟨dr,sc,n,rfl,_⟩:=h;rfl
 ·obtain⟨dr,sc,n,rfl,hn0,hn1,⟨ns,p,c,m,k,hd,hs,hp,hl,hm0,hm1⟩,kk⟩:=h;have nds:dr≠sc:=by
   intro e;subst e;rw[hd] at hs;cases ns with
   | nil=>cases hs
   | cons a r=>cases hs
  refine Xjj (fun σ' H'=>∃x y p c m, σ'=[some (.ref dr),some (.int n),x,y]/\H' dr=some (.lst [.ref sc,.int (p:Nat),.int c,.int m,.int k])/\p<=ns.length/\0<=m/\m<1000000007/\∀b o,H b=some o->b≠dr->H' b=some o) ?_ ?_
  ·-- the rest
   refine⟨_,Ag (Bz (Ay Xas (Ax Bj (pv 0) Af (λ_ _=>rfl)) (pv 1) (Bc _))
     (Ag (An (i:=3) Oi.nd rfl (Or.inl rfl) (Aq Fv (Ax Bj (pv 0) Af (λ_ _=>rfl)) (pv 1)))
     (Ag (Ej (Aq Xan (Ax Bj (pv 0) Af (λ_ _=>rfl)) (pv 1)) (E8 (pv 0) Af Fa))
     (Ai (Ar (pv 3))))) B3)
    (Ag (Ej (Aq Ci (Ax Bj (pv 0) Af (λ_ _=>rfl)) Af) (E8 (pv 0) Af Fa))
    (Ag (Ej (Aq Fv (Aq Ci (Aq Ci (Aq Xao (Ax Bj (pv 0) Af (λ_ _=>rfl)) Af) (Aq Xam Af (Ax Bj (pv 0) Af (λ_ _=>rfl)))) Af) Af) (E8 (pv 0) Af Fa))
    (Ai (Ar (Aq Fv (Aq Xan (Ax Bj (pv 0) Af (λ_ _=>rfl)) Af) (pv 1)))))),?_⟩
   rintro σ' H' ⟨x,y,p,c,m,rfl,hd',hp',hm0',hm1',kp⟩;refine⟨_,rfl,dr,_,_,_,rfl,rfl,SqL.of hd',rfl,_,rfl,_,_,rfl,rfl,_,rfl,?_⟩;refine Be (λhc=>?_) (λhc=>?_)
   ·-- got
    refine⟨_,rfl,dr,_,_,_,rfl,rfl,SqL.of hd',rfl,_,rfl,_,_,rfl,rfl,hn0,?_⟩;refine⟨_,rfl,dr,_,_,_,rfl,rfl,SqL.of hd',rfl,_,rfl,_,_,rfl,rfl,⟨hn0,by omega⟩,?_⟩;refine⟨_,rfl,dr,_,_,2,rfl,rfl,hd',rfl,?_⟩;refine⟨_,rfl,?_⟩;refine kk _ _ (Sd _ (by omega)) (Ru _ hn0) ⟨⟨ns,p,c / n,m,k,Ac,?_,hp',hl,hm0',hm1'⟩⟩ λb o e hb=>by rw[Ad hb];exact kp b o e hb
    rw[Ad nds.symm];exact kp _ _ hs nds.symm
   ·refine⟨_,rfl,dr,_,_,_,rfl,rfl,SqL.of hd',rfl,_,_,rfl,rfl,?_⟩;refine⟨_,rfl,dr,_,_,4,rfl,rfl,hd',rfl,?_⟩;refine⟨_,rfl,dr,_,_,_,rfl,rfl,SqL.of Ac,rfl,_,_,rfl,rfl,cpow3 hm0' hm1',?_⟩;refine⟨_,rfl,dr,_,_,_,rfl,rfl,SqL.of Ac,rfl,_,_,rfl,rfl,.inl ⟨by decide,by decide⟩,_,_,rfl,rfl,_,_,rfl,rfl,_,_,rfl,rfl,(by show (0:Int)<1000000007;decide),?_⟩;refine⟨_,rfl,dr,_,_,3,rfl,rfl,Ac,rfl,?_⟩;refine⟨_,rfl,dr,_,_,_,rfl,rfl,SqL.of Ac,rfl,_,_,rfl,rfl,⟨by decide,by decide⟩,_,rfl,_,_,rfl,rfl,hn0,?_⟩;refine kk _ _ (Sd _ (by omega)) (Ru _ hn0) ⟨⟨ns,p,c,_,k+1,Ac,?_,hp',hl,Sd _ (by decide),Ru _ (by decide)⟩⟩ λb o e hb=>by rw[Ad hb,Ad hb];exact kp b o e hb
    rw[Ad nds.symm,Ad nds.symm];exact kp _ _ hs nds.symm
  ·intro nx hnx;refine⟨_,Bz (E7 (Ay Ct (Ax Bj (pv 0) Af (λ_ _=>rfl)) (pv 1) (Bc _)) (E6 (Ay Ct (Ax Bj (pv 0) Af (λ_ _=>rfl)) (Ba Cv (by rfl) T.len boot_len (Aa (Ax Bj (pv 0) Af (λ_ _=>rfl)) Ab)) (Bc _)))).pt
     (Ag (An (i:=2) Oi.nd rfl (Or.inl rfl) (Ax Bj (Ax Bj (pv 0) Af (λ_ _=>rfl)) (Ax Bj (pv 0) Af (λ_ _=>rfl)) (λ_ _=>rfl)))
     (Ag (Ej (Aq Ci (Ax Bj (pv 0) Af (λ_ _=>rfl)) Af) (E8 (pv 0) Af Fa))
     (Ag (Ej Af (E8 (pv 0) Af Fa))
     (Ai (Bz (Ay Xas (pv 2) (Aq Xao Af Af) (Bc _))
      (Ai (Ej (pv 2) (E8 (pv 0) Af Fa)))
      (Ai (Ej (Aq Fv (Aq Ci (Ax Bj (pv 0) Af (λ_ _=>rfl)) (pv 2)) Af) (E8 (pv 0) Af Fa)))))))) B3,?_⟩
   refine⟨_,rfl,dr,_,_,_,rfl,rfl,SqL.of hd,rfl,_,rfl,_,_,rfl,rfl,_,rfl,?_⟩;have skip:nx [some (.ref dr),some (.int n),none,none] H:=hnx _ _ ⟨none,none,p,c,m,rfl,hd,hp,hm0,hm1,λb o e _=>e⟩;refine Be (λ_=>?_) (λ_=>Cd skip);refine⟨_,rfl,dr,_,_,_,rfl,rfl,SqL.of hd,rfl,_,rfl,dr,_,_,_,rfl,rfl,SqL.of hd,rfl,sc,_,rfl,.inl (SqL.of hs),_,_,rfl,rfl,_,rfl,?_⟩;refine Be (λhlt=>?_) (λ_=>skip);have hlt':(p:Int)<((ns.map V.int).length:Nat):=Tn hlt;rw[Oo] at hlt';have hpl:p<ns.length:=by omega
   have hat:(ns.map V.int)[p]? = some (.int (ns[p]'hpl)):=by rw[O2,Op hpl];rfl
   refine⟨_,rfl,dr,_,_,_,rfl,rfl,SqL.of hd,rfl,_,rfl,dr,_,_,_,rfl,rfl,SqL.of hd,rfl,sc,_,_,_,rfl,rfl,SqL.of hs,D6 hat,?_⟩;refine⟨_,rfl,dr,_,_,_,rfl,rfl,SqL.of hd,rfl,_,_,rfl,rfl,?_⟩;refine⟨_,rfl,dr,_,_,1,rfl,rfl,hd,rfl,?_⟩;refine⟨_,rfl,dr,_,_,2,rfl,rfl,Ac,rfl,?_⟩;refine⟨_,rfl,_,_,rfl,rfl,⟨by decide,by decide,by decide⟩,_,_,rfl,rfl,_,rfl,?_⟩;refine Be (λ_=>?_) (λ_=>?_)
   ·refine⟨_,rfl,_,rfl,dr,_,_,2,rfl,rfl,Ac,rfl,?_⟩;refine hnx _ _ ⟨_,none,p+1,_,m,rfl,Ac,hpl,hm0,hm1,λb o e hb=>by rw[Ad hb,Ad hb,Ad hb];exact e⟩
   ·refine⟨_,rfl,dr,_,_,_,rfl,rfl,SqL.of Ac,rfl,_,rfl,_,_,rfl,rfl,_,_,rfl,rfl,(by show (0:Int)<1000000007;decide),?_⟩;refine⟨_,rfl,dr,_,_,3,rfl,rfl,Ac,rfl,?_⟩;refine hnx _ _ ⟨_,none,p+1,_,_,rfl,Ac,hpl,Sd _ (by decide),Ru _ (by decide),λb o e hb=>by rw[Ad hb,Ad hb,Ad hb];exact e⟩
theorem Xf5:FnScope NPut ["_law_row_here", "_law_name", "_law_at", "_law_to"] (defScope sPut):=⟨rfl,rfl,rfl,by decide +kernel,rfl,by decide +kernel,by decide +kernel⟩
theorem Xpt{f:Addr}{fd:FuncData}(F:Fun K "_law_put" "_law_put" sPut f fd):FnOk P w K mg base CX0 1 f fd ["_law_row_here", "_law_name", "_law_at", "_law_to"] Mr:=by
 refine F.ok Xf5 (λvs H Q E h=>?_) (λcdv A outer s H vs Q E hr h=>?_)
 ·obtain⟨r,row,x,a,b,rfl,_⟩:=h;rfl
 ·obtain⟨r,row,x,a,b,rfl,hR,hl,hab,hb,k⟩:=h;refine⟨_,Ag (An (i:=4) Xf5.nd rfl (Or.inl rfl) (Aq B8 (Aq B8 (C5 Dh (pv 0) Dg (Cu (pv 2))) (B1 (Aa (pv 1) Ab))) (C5 Dh (pv 0) (Cu (pv 2)) (Cu (pv 3)))))
   (Ai (Ar (Aq B8 (Aq B8 (pv 4) (B1 (Aa (pv 1) Ab))) (C5 Dh (pv 0) (Cu (pv 3)) Dg)))),?_⟩
  have h24:∀n,n<=100000->n<=sizeLine:=λn h=>by rw[Ti];omega
  refine⟨_,rfl,_,rfl,_,rfl,r,_,rfl,SqL.of hR,λp1 n1=>?_⟩;rw[Jg _ _ _ (by omega)];refine⟨_,rfl,by show 1<=sizeLine;decide,λp2 n2=>?_⟩;refine⟨p1,p2,_,_,rfl,rfl,ku Ac n2,Ac,h24 _ (by simp;omega),λp3 n3=>?_⟩;refine⟨_,rfl,_,rfl,_,rfl,_,rfl,_,rfl,r,_,rfl,SqL.of (ku (ku (ku hR n1) n2) n3),λp4 n4=>?_⟩;rw[Xjk _ _ _ _ hab hb];refine⟨p3,p4,_,_,rfl,rfl,ku Ac n4,Ac,h24 _ (by simp;omega),λp5 n5=>?_⟩;refine⟨_,rfl,_,rfl,by show 1<=sizeLine;decide,λp6 n6=>?_⟩;refine⟨p5,p6,_,_,rfl,rfl,ku Ac n6,Ac,h24 _ (by simp;omega),λp7 n7=>?_⟩;refine⟨_,rfl,_,rfl,_,rfl,r,_,rfl,SqL.of (ku (ku (ku (ku (ku (ku (ku hR n1) n2) n3) n4) n5) n6) n7),λp8 n8=>?_⟩;rw[Jh _ _ _ hb];refine⟨p7,p8,_,_,rfl,rfl,ku Ac n8,Ac,h24 _ (by simp;omega),λp9 n9=>?_⟩;have s8:=((((((((Same.refl H).go n1 n2).go n2 n3).go n3 n4).go n4 n5).go n5 n6).go n6 n7).go n7 n8).go n8 n9;refine k p9 _ (s8.free n9) (Ac.trans ?_) (s8.step n9);unfold Ez;simp
theorem Oj:FnScope NWh ["_law_row_here"] (defScope sWhere):=⟨rfl,rfl,rfl,by decide +kernel,rfl,by decide +kernel,by decide +kernel⟩
theorem Xpu{f:Addr}{fd:FuncData}(F:Fun K "_law_where" "_law_where" sWhere f fd)(T:Bl mg):FnOk P w K mg base CX0 1 f fd ["_law_row_here"] Jv:=by
 refine F.ok Oj (λvs H Q E h=>?_) (λcdv A outer s H vs Q E hr h=>?_)
 ·obtain⟨r,row,rfl,_⟩:=h;rfl
 ·obtain⟨r,row,rfl,hR,hl,k⟩:=h;have hu:=En hr;refine⟨_,Ag (An (i:=1) Oj.nd rfl (Or.inl rfl) Xhr)
   (Ag (Cr PassesOwn.never rfl (Fu rfl T.range (Aa (Ba Cv (by rfl) T.len boot_len (Aa (pv 0) Ab)) Ab)) (Au (i:=2) Oj.nd rfl (Or.inl rfl))
    (Ai (Xho hu (pv 1) (Ax Bj (pv 0) (pv 2) (λ_ _=>rfl))
     (Aq B8 (Xhw hu (pv 1) (Ax Bj (pv 0) (pv 2) (λ_ _=>rfl)) (B1 Ab) ⟨rfl,rfl,rfl,rfl⟩) (B1 (Aa (pv 2) Ab))) rfl)))
   (Ai (Ar (pv 1)))),?_⟩
  intro d nd;have s0:Same H (upd H d (.dK [])):=(Same.refl H).step nd;refine⟨_,rfl,r,_,rfl,.inl (SqL.of (s0 _ _ hR)),((row.map V.str).length:Int),rfl,by omega,by rw[Oo];omega,?_⟩;have hn:((row.map V.str).length:Int).toNat=row.length:=by rw[Oo];simp
  rw[hn];refine Gu (lo:=0) (n:=row.length) (λi σ H2=>∃kvs v, σ=[some (.ref r),some (.ref d),v]/\Same H H2/\H2 d=some (.dK kvs)/\Wh H2 kvs (row.take i)) ?_ ?_ ?_
  ·exact⟨[],none,rfl,s0,Ac,⟨λk hk=>by simp at hk,λx hx=>by simp at hx,λ_ _=>rfl,by simp,by simp⟩⟩
  ·rintro i σ H2 hi ⟨kvs,v,rfl,s2,hd,wh⟩;have hat:(row.map V.str)[i]? = some (.str (row[i]'hi)):=by rw[O2,Op hi];rfl
   have hat':atI (row.map V.str) (0+(i:Int))=some (.str (row[i]'hi)):=by rw[Sx];exact D6 hat
   have tk:row.take (i+1)=row.take i++[row[i]'hi]:=by rw[O8 hi]
   have kl:=wh.len;rw[O3] at kl;have ll:(plc (row.take i) (row[i]'hi)).length<=1000:=by
    rw[Ms];have:=List.count_le_length (a:=row[i]'hi) (l:=row.take i);rw[O3] at this;omega
   have h24:∀n,n<=100000->n<=sizeLine:=λn h=>by rw[Ti];omega
   refine⟨_,rfl,d,rfl,.inl ⟨kvs,.inl hd⟩,_,rfl,_,rfl,r,_,_,_,rfl,rfl,SqL.of (s2 _ _ hR),hat',by show 0<=sizeLine;decide,λp1 n1=>?_⟩;refine⟨_,DGet.k (k:=Sum.inr (row[i]'hi)) (ku hd n1),?_⟩;obtain⟨q,xs,e1,hq,hxs⟩:∃q xs,(Av kvs (Sum.inr (row[i]'hi):Key)).getD (V.ref p1)=V.ref q/\upd H2 p1 (.lst []) q=some (.lst (xs.map V.int))/\plc (row.take i) (row[i]'hi)=xs:=by
    by_cases hx:row[i]'hi∈row.take i
    ·obtain⟨l,e1,e2⟩:=wh.val _ hx;exact⟨l,_,by rw[e1];rfl,ku e2 n1,rfl⟩
    ·refine⟨p1,[],by rw[wh.none _ hx];rfl,Ac,?_⟩;have:(plc (row.take i) (row[i]'hi)).length=0:=by rw[Ms];exact Rt.mpr hx
     exact Py.mp this
   have hlx:xs.length<=1000:=by rw[<-hxs];exact ll
   rw[e1];refine⟨_,rfl,by show 1<=sizeLine;decide,λp2 n2=>?_⟩;refine⟨q,p2,_,_,rfl,rfl,ku hq n2,Ac,h24 _ (by simp;omega),λp3 n3=>?_⟩;refine⟨_,rfl,_,rfl,_,rfl,r,_,_,_,rfl,rfl,SqL.of (ku (ku (ku (s2 _ _ hR) n1) n2) n3),hat',?_⟩;have hd2:=ku (u:=.lst [V.int (0+(i:Int))]) (ku (u:=.lst []) hd n1) n2;have hd3:=ku (u:=.lst (xs.map V.int++[V.int (0+(i:Int))])) hd2 n3;refine⟨d,_,rfl,DPut.k (k:=Sum.inr (row[i]'hi)) hd3 (by rw[Ti];omega),_,_,rfl,?_,Ac,?_⟩
   ·have s3:=((s2.go n1 n2).go n2 n3).step (o:=.lst (xs.map V.int++[V.int (0+(i:Int))])) n3;exact s3.upd nd
   ·rw[tk];refine wh.snoc _ p3 ?_ λb ys e=>?_
    ·have ne:p3≠d:=(Aw hd2 n3).symm;rw[Ad ne,Ac,Mt,Tk rfl,hxs,O5,O3,Q8 (R5 hi)];simp
    ·have ne:b≠d:=λz=>by rw[z,hd] at e;cases e
     rw[Ad ne];exact ku (ku (ku e n1) n2) n3
  ·rintro σ H2 ⟨kvs,v,rfl,s2,hd,wh⟩;rw[P9] at wh;exact⟨_,rfl,k d kvs H2 nd hd wh s2⟩
theorem Kz:FnScope NWo ["_law_where_here", "_law_one_here", "_law_other"] (defScope sWord):=⟨rfl,rfl,rfl,by decide +kernel,rfl,by decide +kernel,by decide +kernel⟩
theorem Xpv{f:Addr}{fd:FuncData}(F:Fun K "_law_word" "_law_word" sWord f fd)(T:Bl mg):FnOk P w K mg base CX0 1 f fd ["_law_where_here", "_law_one_here", "_law_other"] spWord:=by
 refine F.ok Kz (λvs H Q E h=>?_) (λcdv A outer s H vs Q E hr h=>?_)
 ·obtain⟨d,l1,l2,kvs,x,y,a,b,c,e,rfl,_⟩:=h;rfl
 ·obtain⟨d,l1,l2,kvs,x,y,a,b,c,e,rfl,hd,v1,v2,h1,h2,k⟩:=h;have hu:=En hr;refine⟨_,Ag (Ej (Cl hu (pv 0) (pv 1) (λ_ _=>rfl)) (Xif rfl (Ch (Au (i:=3) Kz.nd rfl (Or.inr rfl)) (Ch (Au (i:=4) Kz.nd rfl (Or.inr rfl)) Ft))))
   (Ag (Jq (i:=5) (N:=["_law_at", "_law_high", "_law_low"]) (cap:=[none,some 4,some 3]) (CompScope.of (defScope sWord) NWo rfl rfl rfl (by decide +kernel)) rfl Kz.nd rfl rfl
     (Bq (Cl hu (pv 0) (pv 2) (λ_ _=>rfl))) (λ_ _ _=>Au (i:=0) (show (["_law_at", "_law_high", "_law_low"]:List Str).Nodup by decide +kernel) rfl (Or.inl rfl) (Or.inr rfl))
     (λ_ _ _=>Ds (E7 (Ay Ct (pv 2) (pv 0) (Bc _)) (E6 (Ay Ct (pv 0) (pv 1) (Bc _)))).pt) (λ_ _ _=>pv 0))
   (Ag (Bz (Fs (Ay Cs (pv 1) (pv 2) (Bc _)) (Gp (Ay Xgu (Ba Cv (by rfl) T.len boot_len (Aa (pv 5) Ab)) Af (Bc _)))).pt
    (Ai (Ar (Ax Fw (B0 (Aa Bn (Aa Bn (Aa Bn Ab)))) (Ba Cv (by rfl) T.len boot_len (Aa (pv 5) Ab)) (λ_ _=>rfl)))) B3)
   (Ai (Ar (Gq (E7 (Ay Ct (Ax Bj (Cl hu (pv 0) (pv 2) (λ_ _=>rfl)) Af (λ_ _=>rfl)) (pv 3) (Bc _)) (E6 (Ay Ct (pv 4) (Ax Bj (Cl hu (pv 0) (pv 2) (λ_ _=>rfl)) Af (λ_ _=>rfl)) (Bc _)))).pt Bn Bn))))),?_⟩
  refine⟨_,rfl,_,rfl,d,_,rfl,DGet.rd hd v1,l1,_,rfl,SqL.of h1,rfl,?_⟩;refine⟨_,_,rfl,_,_,rfl,rfl,?_⟩;refine⟨_,rfl,_,rfl,d,_,rfl,DGet.rd hd v2,l2,rfl,⟨_,SqL.of h2⟩,?_⟩;refine G3 (n:=2) (λi=>([V.int c,V.int e]:List V).getD i .non) (λD i σ2 H2=>∃v, σ2=[v,some (.int b),some (.int a)]/\Same H H2/\H2 D=some (.lst ((inn a b (([c,e]:List Int).take i)).map V.int))) ?_ ?_ ?_ ?_ ?_
  ·intro D hD;exact⟨none,rfl,(Same.refl H).step hD,Ac⟩
  ·rintro D i σ2 H2 hD hi ⟨v,rfl,s2,hl⟩;exact C6 (SqL.of (s2 _ _ h2)) hi
  ·rintro D σ2 H2 hD ⟨v,rfl,s2,hl⟩;exact C7 (SqL.of (s2 _ _ h2))
  ·rintro D i σ2 H2 hD hi ⟨v,rfl,s2,hl⟩;obtain⟨t,ht1,ht2⟩:∃t,([V.int c,V.int e]:List V).getD i .non = .int t/\([c,e]:List Int).take (i+1)=([c,e]:List Int).take i++[t]:=by
    match i,hi with
    | 0,_=>exact⟨c,rfl,rfl⟩
    | 1,_=>exact⟨e,rfl,rfl⟩
   rw[ht1];have hil:(inn a b (([c,e]:List Int).take i)).length<=2:=Pr (Mu ..) (by rw[O3];simp;omega);refine⟨_,rfl,_,rfl,_,_,rfl,rfl,_,rfl,?_⟩;refine Be (λq1=>?_) (λq1=>Cd (wskip hi ⟨_,rfl,s2,?_⟩))
   ·refine⟨_,rfl,_,rfl,_,_,rfl,rfl,_,rfl,?_⟩;refine Be (λq2=>?_) (λq2=>wskip hi ⟨_,rfl,s2,?_⟩)
    ·refine⟨_,rfl,wput hi hl (by rw[Oo,Ti];omega) ⟨_,rfl,?_,?_⟩⟩
     ·intro b' o e';rw[Ad (Aw e' hD)];exact s2 b' o e'
     ·rw[Ac,ht2];unfold inn;rw[Pk,O5,Pw,Tk (by rw[q1,q2];rfl)];rfl
    ·rw[hl,ht2];unfold inn;rw[Pk,Pw,Tj (by rw[q1,q2];decide)];simp
   ·rw[hl,ht2];unfold inn;rw[Pk,Pw,Tj (by rw[q1];simp)];simp
  ·rintro D σ2 H2 hD ⟨v,rfl,s2,hl⟩;have hl':H2 D=some (.lst ((inn a b [c,e]).map V.int)):=hl;have hil:(inn a b [c,e]).length<=2:=Mu ..;have three:∀p,H2 p=none->atI ([V.str "same",V.str "cross",V.str "around"]:List V) (((inn a b [c,e]).map V.int).length:Int)=some (.str (words3.getD (inn a b [c,e]).length "apart")):=λp _=>by
    rw[Oo];generalize (inn a b [c,e]).length=n at hil
    match n,hil with
    | 0,_=>rfl
    | 1,_=>rfl
    | 2,_=>rfl
   have ret3:(decide (x=y)||decide (0<(inn a b [c,e]).length))=true->∀p,H2 p=none->∀H',Same H H'->Q (.str (words3.getD (inn a b [c,e]).length "apart")) H':=λhc p _ H' s'=>by
    have:=k H' s';unfold Dw at this;rw[Tk hc] at this;exact this
   refine⟨_,rfl,_,rfl,rfl,_,rfl,?_⟩;refine Be (λq1=>?_) (λq1=>?_)
   ·refine Fb ⟨by show 3<=sizeLine;decide,λp hp=>?_⟩;refine⟨_,rfl,D,_,rfl,.inl (SqL.of (ku hl' hp)),p,_,_,_,rfl,rfl,SqT.of Ac,three p hp,?_⟩;refine ret3 ?_ p hp _ (s2.step hp);have q1':decide (x=y)=true:=by
     have:=Tn q1;injection this with this
     exact Tl this
    rw[q1'];rfl
   ·refine⟨_,rfl,D,_,rfl,.inl (SqL.of hl'),_,_,rfl,rfl,_,rfl,?_⟩;have q1':decide (x=y)=false:=by
     have:=Tp q1;exact Tm λz=>this (by rw[z])
    refine Be (λq2=>?_) (λq2=>?_)
    ·have q2':0<(inn a b [c,e]).length:=by
      have:=Tn q2;rw[Oo] at this;omega
     refine⟨by show 3<=sizeLine;decide,λp hp=>?_⟩;refine⟨_,rfl,D,_,rfl,.inl (SqL.of (ku hl' hp)),p,_,_,_,rfl,rfl,SqT.of Ac,three p hp,?_⟩;exact ret3 (by rw[Tl q2',Td]) p hp _ (s2.step hp)
    ·have q2':¬ 0<(inn a b [c,e]).length:=by
      have:=Tp q2;rw[Oo] at this;omega
     have last:∀z:Str,(if c<a/\b<e then ("within" : Str) else "apart")=z->Q (.str z) H2:=λz hz=>by
      have:=k H2 s2;unfold Dw at this;rw[Tj (by rw[q1',Tm q2'];decide),hz] at this;exact this
     refine⟨_,rfl,_,rfl,d,_,rfl,DGet.rd (Rd.same hd s2) v2,l2,_,_,_,rfl,rfl,SqL.of (s2 _ _ h2),rfl,_,rfl,_,_,rfl,rfl,_,rfl,?_⟩;refine Be (λq3=>?_) (λq3=>?_)
     ·refine⟨_,rfl,_,rfl,_,rfl,d,_,rfl,DGet.rd (Rd.same hd s2) v2,l2,_,_,_,rfl,rfl,SqL.of (s2 _ _ h2),rfl,_,_,rfl,rfl,_,rfl,?_⟩;refine Be (λq4=>?_) (λq4=>?_)
      ·exact last _ (Tk ⟨Tn q3,Tn q4⟩)
      ·exact last _ (Tj λz=>Tp q4 z.2)
     ·exact Cd (last _ (Tj λz=>Tp q3 z.1))
theorem Ik:FnScope NBa ["_law_row_here", "_law_name"] (defScope sBarred):=⟨rfl,rfl,rfl,by decide +kernel,rfl,by decide +kernel,by decide +kernel⟩
theorem Xpw{f:Addr}{fd:FuncData}(F:Fun K "_law_barred" "_law_barred" sBarred f fd)(T:Bl mg)(FW:Fn P w K mg base CX0 1 "_law_where" ["_law_row_here"] Jv)
  (FO:Fn P w K mg base CX0 1 "_law_word" ["_law_where_here", "_law_one_here", "_law_other"] spWord):FnOk P w K mg base CX0 2 f fd ["_law_row_here", "_law_name"] spBarredN:=by
 refine F.ok Ik (λvs H Q E h=>?_) (λcdv A outer s H vs Q E hr h=>?_)
 ·obtain⟨r,row,x,rfl,_⟩:=h;rfl
 ·obtain⟨r,row,x,rfl,hR,hl,h2,hx,k⟩:=h;have hu:=En hr;refine⟨_,Ag (An (i:=2) Ik.nd rfl (Or.inr rfl) (Aj FW hr rfl Ak (Aa (pv 0) Ab)))
   (Ag (Jq (i:=3) (N:=NBc) (cap:=[none,some 1,some 2]) (CompScope.of (defScope sBarred) NBa rfl rfl rfl (by decide +kernel)) rfl Ik.nd rfl rfl
     (Xil (pv 2)) (λ_ _ _=>Au (i:=0) (show NBc.Nodup by decide +kernel) rfl (Or.inl rfl) (Or.inr rfl))
     (λ_ _ _=>Ds (Ay Cs (Aj FO hr rfl Ak (Aa (pv 2) (Aa (pv 1) (Aa (pv 0) Ab)))) Bn (Bc _))) (λ_ _ _=>pv 0))
   (Ag (Cr PassesOwn.never rfl (Fu rfl T.range (Aa (Ba Cv (by rfl) T.len boot_len (Aa (pv 3) Ab)) Ab)) (Au (i:=4) Ik.nd rfl (Or.inl rfl))
    (Ai (Cr PassesOwn.never rfl (Bq (C5 Dh (pv 3) (Cu (Aq Ci (pv 4) Af)) Dg)) (Au (i:=5) Ik.nd rfl (Or.inl rfl))
     (Ai (Bz (Ay Cs (Aj FO hr rfl Ak (Aa (pv 2) (Aa (Ax Bj (pv 3) (pv 4) (λ_ _=>rfl)) (Aa (pv 5) Ab)))) Bn (Bc _)) (Ai (Ar D4)) B3)))))
   (Ai (Ar D4)))),?_⟩
  refine⟨_,rfl,r,row,rfl,hR,hl,λd kvs H1 nd hd wh s1=>?_⟩;refine⟨_,rfl,d,kvs,rfl,hd,λo=>?_⟩;generalize hH2:upd H1 d (.frz o (.dK kvs))=H2;have s2:Same H H2:=λb u e=>by rw[<-hH2,Ad (Aw e nd)];exact s1 b u e
  have hd2:H2 d=some (.frz o (.dK kvs)):=by rw[<-hH2];exact Ac
  have wh2:Wh H2 kvs row:=⟨wh.keys,λy hy=>let ⟨l,e1,e2⟩:=wh.val y hy; ⟨l,e1,by rw[<-hH2,Ad (λz=>by rw[z,hd] at e2;cases e2)];exact e2⟩,wh.none,wh.nd,wh.len⟩;have hkl:=wh.len;refine G3 (n:=kvs.length) (λi=>(kvs.map λp=>kV p.1).getD i .non) (λD i σ2 H3=>∃(v:Option V) (ms:List Str), σ2=[v,some (.str x),some (.ref d)]/\Same H2 H3/\H3 D=some (.lst (ms.map V.str))/\(∀m∈ms,m∈row)/\ms.length<=i/\∀(j:Nat) (y:Str),j<i->(kvs.map λp=>kV p.1).getD j .non = .str y->Az row x y->y∈ms) ?_ ?_ ?_ ?_ ?_
  ·intro D hD;exact⟨none,[],rfl,(Same.refl H2).step hD,Ac,by simp,Oq _,λj y h=>absurd h (Qg _)⟩
  ·rintro D i σ2 H3 hD hi ⟨v,ms,rfl,s3,hm,hin,hml,hall⟩;exact G4 (s3 _ _ hd2) hi
  ·rintro D σ2 H3 hD ⟨v,ms,rfl,s3,hm,hin,hml,hall⟩;exact G5 (s3 _ _ hd2)
  ·rintro D i σ2 H3 hD hi ⟨v,ms,rfl,s3,hm,hin,hml,hall⟩;obtain⟨y,hy1,hy2⟩:∃y,(kvs.map λp=>kV p.1).getD i .non = .str y/\y∈row:=by
    obtain⟨y,e1,e2⟩:=wh.keys (kvs[i]'hi).1 (Pe.mpr ⟨kvs[i]'hi,Pn hi,rfl⟩);refine⟨y,?_,e2⟩;simp only[List.getD,O2,Op hi,Q6,Option.getD_some];rw[e1];rfl
   rw[hy1];obtain⟨l1,e1,g1⟩:=wh2.pl hx (h2 x hx);obtain⟨l2,e2,g2⟩:=wh2.pl hy2 (h2 y hy2);refine⟨_,rfl,_,rfl,_,rfl,d,l1,l2,kvs,x,y,_,_,_,_,rfl,.inr ⟨o,s3 _ _ hd2⟩,e1,e2,s3 _ _ g1,s3 _ _ g2,λH4 s4=>?_⟩;have s24:=s3.trans s4;refine⟨rfl,_,rfl,?_⟩;rw[<-Ga (h2 x hx) (h2 y hy2)];refine Be (λhc=>?_) (λhc=>wskip hi ⟨_,ms,rfl,s24,s4 _ _ hm,hin,by omega,λj z hj hz kz=>?_⟩);rotate_left
   ·by_cases ej:j=i
    ·subst ej;rw[hy1] at hz;injection hz with hz
     subst hz;exact absurd (by rw[show lieR row x y = "cross" from kz]) (Xdo hc)
    ·exact hall j z (by omega) hz kz
   refine⟨_,rfl,wput hi (s4 _ _ hm) (by rw[Oo,Ti];omega) ⟨_,ms++[y],rfl,?_,by rw[Ac,O5];rfl,?_,by rw[Oy,Qd];omega,λj z hj hz kz=>?_⟩⟩
   ·intro b u e;rw[Ad (Aw e hD)];exact s24 b u e
   ·intro m hm;rcases Oz.mp hm with z | z
    ·exact hin m z
    ·rw[Ot.mp z];exact hy2
   ·by_cases ej:j=i
    ·subst ej;rw[hy1] at hz;injection hz with hz
     subst hz;simp
    ·exact P4 _ (hall j z (by omega) hz kz)
  ·rintro D σ2 H3 hD ⟨v,ms,rfl,s3,hm,hin,hml,hall⟩;refine⟨_,rfl,D,_,rfl,.inl (SqL.of hm),((ms.map V.str).length:Int),rfl,by omega,by rw[Oo];omega,?_⟩;have hn:((ms.map V.str).length:Int).toNat=ms.length:=by rw[Oo];simp
   rw[hn];refine Gu (lo:=0) (n:=ms.length) (λi σ H4=>∃v1 v2, σ=[some (.ref r),some (.str x),some (.ref d),some (.ref D),v1,v2]/\Same H3 H4/\∀(p q:Nat) (y z:Str),p<i->p<q->ms[p]? = some y->ms[q]? = some z->¬Az row y z) ?_ ?_ ?_
   ·exact⟨none,none,rfl,Same.refl _,λp q y z h=>absurd h (Qg _)⟩
   ·rintro i σ H4 hi ⟨v1,v2,rfl,s4,ho⟩;refine⟨_,rfl,_,rfl,_,_,rfl,rfl,_,rfl,D,_,rfl,SqL.of (s4 _ _ hm),λp np=>?_⟩;have e0:(0:Int)+(i:Int)+1=((i+1:Nat):Int):=by omega
    rw[e0,Jh _ _ _ (by omega)];have s5:Same H3 (upd H4 p (.lst ((ms.drop (i+1)).map V.str))):=s4.step np;refine⟨p,rfl,⟨_,SqL.of Ac⟩,?_⟩;refine Ek (K:=K) (a:=p) (xs:=(ms.drop (i+1)).map V.str) (λj σ H5=>∃v2, σ=[some (.ref r),some (.str x),some (.ref d),some (.ref D),some (.int (0+(i:Int))),v2]/\Same (upd H4 p (.lst ((ms.drop (i+1)).map V.str))) H5/\∀(q:Nat) (z:Str),q<j->ms[i+1+q]? = some z->¬Az row (ms[i]'hi) z) ?_ ?_ ?_ ?_
    ·exact⟨_,rfl,Same.refl _,λq z h=>absurd h (Qg _)⟩
    ·rintro j σ H5 _ ⟨v2,rfl,s6,hi2⟩;exact SqL.of (s6 _ _ Ac)
    ·rintro j y σ H5 hj ⟨v2,rfl,s6,hi2⟩;obtain⟨z,rfl,hz,hzj⟩:∃z,y=V.str z/\z∈ms/\ms[i+1+j]? = some z:=by
      rw[O2] at hj;cases q:(ms.drop (i+1))[j]? with
      | none=>rw[q] at hj;cases hj
      | some z=>
       rw[q] at hj;exact⟨z,(Pa hj).symm,P7 (Rm q),by rw[<-q,Sb]⟩
     have s36:=s5.trans s6;have hat:(ms.map V.str)[i]? = some (.str (ms[i]'hi)):=by rw[O2,Op hi];rfl
     have hat':atI (ms.map V.str) (0+(i:Int))=some (.str (ms[i]'hi)):=by rw[Sx];exact D6 hat
     obtain⟨l1,e1,g1⟩:=wh2.pl (hin _ (Pn hi)) (h2 _ (hin _ (Pn hi)));obtain⟨l2,e2,g2⟩:=wh2.pl (hin _ hz) (h2 _ (hin _ hz));have s26:=s3.trans s36;refine⟨_,rfl,_,rfl,_,rfl,D,_,_,_,rfl,rfl,SqL.of (s36 _ _ hm),hat',_,rfl,d,l1,l2,kvs,_,z,_,_,_,_,rfl,.inr ⟨o,s26 _ _ hd2⟩,e1,e2,s26 _ _ g1,s26 _ _ g2,λH6 s7=>?_⟩;refine⟨rfl,_,rfl,?_⟩;rw[<-Ga (h2 _ (hin _ (Pn hi))) (h2 _ (hin _ hz))];refine Be (λ_=>?_) (λhc=>?_)
     ·exact k true H6 (λe=>by cases e) ((s2.trans s3).trans (s36.trans s7))
     ·refine⟨_,rfl,s6.trans s7,λq u hq hu=>?_⟩;by_cases eq:q=j
      ·subst eq;rw[hzj] at hu;have hu:=Pa hu;subst hu;exact λkz=>absurd (by rw[show lieR row (ms[i]'hi) z = "cross" from kz]) (Xdo hc)
      ·exact hi2 q u (by omega) hu
    ·rintro σ H5 ⟨v2,rfl,s6,hi2⟩;refine⟨_,_,rfl,s5.trans s6,λp q y z hp hpq hy hz=>?_⟩;by_cases ep:p=i
     ·subst ep;rw[Op hi] at hy;rw[<-Pa hy];refine hi2 (q - (p+1)) z ?_ (by rw[show p+1+(q - (p+1))=q by omega];exact hz);have:=(Pb.mp hz).1;rw[Oo,P8];omega
     ·exact ho p q y z (by omega) hpq hy hz
   ·rintro σ H4 ⟨v1,v2,rfl,s4,ho⟩;refine k false H4 (λ_ y hy z hz k1 k2 k3=>?_) ((s2.trans s3).trans s4);have mem:∀u∈row,Az row x u->u∈ms:=λu hu ku=>by
     obtain⟨l,e,_⟩:=wh.val u hu;obtain⟨j,hj,ej⟩:=Po.mp (Iy e);rw[Oo] at hj;refine hall j u hj ?_ ku;rw[Qj] at ej;simp only[List.getD,O2,Op hj,Q6,Option.getD_some];rw[ej];rfl
    obtain⟨p,hp,ep⟩:=Po.mp (mem y hy k1);obtain⟨q,hq,eq⟩:=Po.mp (mem z hz k2);have ep':ms[p]? = some y:=by rw[Op hp,ep]
    have eq':ms[q]? = some z:=by rw[Op hq,eq]
    rcases Nat.lt_trichotomy p q with h | h | h
    ·exact ho p q y z hp h ep' eq' k3
    ·subst h;rw[ep'] at eq';have e:=Pa eq';subst e;exact E1 (h2 y hy) k3
    ·exact ho q p z y hq h eq' ep' (Dx (h2 y hy) (h2 z hz) k3)
theorem Ef:FnScope NRo ["_law_draw", "_law_names_here"] (defScope sRow):=⟨rfl,rfl,rfl,by decide +kernel,rfl,by decide +kernel,by decide +kernel⟩
theorem Xpx{f:Addr}{fd:FuncData}(F:Fun K "_law_row" "_law_row" sRow f fd)(T:Bl mg)(FP:FnPick P w K mg base)(FPut:Fn P w K mg base CX0 1 "_law_put" ["_law_row_here", "_law_name", "_law_at", "_law_to"] Mr)
  (FB:Fn P w K mg base CX0 2 "_law_barred" ["_law_row_here", "_law_name"] spBarredN):FnOk P w K mg base CX0 3 f fd ["_law_draw", "_law_names_here"] spRowN:=by
 refine F.ok Ef (λvs H Q E h=>?_) (λcdv A outer s H vs Q E hr h=>?_)
 ·obtain⟨dr,sc,nl,ns,rfl,_⟩:=h;rfl
 ·obtain⟨dr,sc,nl,ns,rfl,dk,hN,nnd,hnd,hnl,k⟩:=h;have hr1:Room 1 _:=hr.mono (by decide);have h24:∀m,m<=100000->m<=sizeLine:=λm h=>by rw[Ti];omega
  refine⟨_,Ag (Bz (Ay Cs (Aj FP hr1 rfl Ak (Aa (pv 0) (Aa Af Ab))) Af (Bc _))
    (Ag (An (i:=2) Ef.nd rfl (Or.inl rfl) (Aj FP hr1 rfl Ak (Aa (pv 0) (Aa (Aq Ci (Ba Cv (by rfl) T.len boot_len (Aa (pv 1) Ab)) Af) Ab))))
    (Ai (Ar (Aq B8 (Aq B8 (pv 1) (Xbv (C5 Dh (pv 1) Dg (Cu (pv 2))))) (Xbv (C5 Dh (pv 1) (Cu (pv 2)) Dg)))))) B3)
   (Ag (An (i:=3) Ef.nd rfl (Or.inl rfl) (B1 Ab))
   (Ag (Cr PassesOwn.never rfl (Bq (pv 1)) (Au (i:=4) Ef.nd rfl (Or.inl rfl))
    (Ag (An (i:=5) Ef.nd rfl (Or.inl rfl) (Aj FP hr1 rfl Ak (Aa (pv 0) (Aa (Aq Ci (Ba Cv (by rfl) T.len boot_len (Aa (pv 3) Ab)) Af) Ab))))
    (Ag (An (i:=6) Ef.nd rfl (Or.inl rfl) (Aq Ci (pv 5) (Aj FP hr1 rfl Ak (Aa (pv 0) (Aa (Aq Xal (Aq Ci (Ba Cv (by rfl) T.len boot_len (Aa (pv 3) Ab)) Af) (pv 5)) Ab)))))
    (Ag (An (i:=7) Ef.nd rfl (Or.inl rfl) (Aj FPut hr1 rfl Ak (Aa (pv 3) (Aa (pv 4) (Aa (pv 5) (Aa (pv 6) Ab))))))
    (Ag (Bz (Io (Aj FB hr rfl Ak (Aa (pv 7) (Aa (pv 4) Ab))))
     (Ai (An (i:=7) Ef.nd rfl (Or.inl rfl) (Aq B8 (Aq B8 (C5 Dh (pv 3) Dg (Cu (pv 5))) (B1 (Aa (pv 4) (Aa (pv 4) Ab)))) (C5 Dh (pv 3) (Cu (pv 5)) Dg)))) B3)
    (Ai (An (i:=3) Ef.nd rfl (Or.inl rfl) (pv 7))))))))
   (Ai (Ar (pv 3))))),?_⟩
  refine⟨_,rfl,dr,sc,4,rfl,by decide,by decide,dk,λr1 H1 _ _ d1 b1=>?_⟩;refine⟨rfl,_,rfl,?_⟩;have b1:But dr H H1:=b1;have hN1:=b1 _ _ hN nnd;refine Be (λ_=>?_) (λ_=>?_)
  ·-- the grid
   refine⟨_,rfl,_,rfl,nl,_,rfl,.inl (SqL.of hN1),_,_,rfl,rfl,dr,sc,_,rfl,by omega,by rw[Oo];omega,d1,λc H2 c0 c1 d2 b2=>?_⟩;obtain⟨c,rfl⟩:=Pz c0;rw[Oo] at c1;have hc:c<=ns.length:=by omega
   have b12:=But.trans b1 b2;have hN2:=b2 _ _ hN1 nnd;obtain⟨xs,hdr⟩:=d2.at;refine⟨_,rfl,_,rfl,_,rfl,_,rfl,nl,_,rfl,SqL.of hN2,λp1 n1=>?_⟩;rw[Jg _ _ _ hc];refine⟨p1,_,rfl,SqL.of Ac,λp2 n2=>?_⟩;refine⟨nl,p2,_,_,rfl,rfl,ku (ku hN2 n1) n2,Ac,h24 _ (by simp;omega),λp3 n3=>?_⟩;refine⟨_,rfl,_,rfl,_,rfl,nl,_,rfl,SqL.of (ku (ku (ku hN2 n1) n2) n3),λp4 n4=>?_⟩;rw[Jh _ _ _ hc];refine⟨p4,_,rfl,SqL.of Ac,λp5 n5=>?_⟩;refine⟨p3,p5,_,_,rfl,rfl,ku (ku Ac n4) n5,Ac,h24 _ (by simp;omega),λp6 n6=>?_⟩;have s5:=(((((Same.refl H2).go n1 n2).go n2 n3).go n3 n4).go n4 n5).go n5 n6;have f6:=s5.free n6;have hpm:(ns++(ns.take c).reverse++(ns.drop c).reverse).Perm (ns++ns):=by
    rw[Pj];refine Qe ns ?_;refine((List.reverse_perm _).append (List.reverse_perm _)).trans ?_;rw[Pi]
   refine k p6 (ns++(ns.take c).reverse++(ns.drop c).reverse) _ (b12.free hdr f6) (Ac.trans (by simp)) hpm (noThree_grid hnd c λz hz=>F9 hnd hpm z ?_) (d2.same (s5.step n6)) (b12.same (s5.step n6));exact hpm.mem_iff.mpr (P4 _ hz)
  ·-- dug one by one
   refine⟨by show 0<=sizeLine;decide,λp np=>?_⟩;obtain⟨xs1,hdr1⟩:=d1.at;have s0:Same H1 (upd H1 p (.lst [])):=(Same.refl H1).step np;refine⟨_,rfl,nl,rfl,⟨_,SqL.of (s0 _ _ hN1)⟩,?_⟩;refine Ek (K:=K) (a:=nl) (xs:=ns.map V.str) (λi σ H2=>∃(v2 v4 v5 v6 v7:Option V) (q:Addr) (row:List Str), σ=[some (.ref dr),some (.ref nl),v2,some (.ref q),v4,v5,v6,v7]/\H2 q=some (.lst (row.map V.str))/\H q=none/\q≠dr/\row.Perm (ns.take i++ns.take i)/\Bt row/\DrawOk H2 dr sc/\But dr H H2) ?_ ?_ ?_ ?_
   ·exact⟨_,_,_,_,_,p,[],rfl,Ac,b1.free hdr1 np,(Aw hdr1 np).symm,by simp,Xk2,d1.same s0,b1.same s0⟩
   ·rintro i σ H2 _ ⟨v2,v4,v5,v6,v7,q,row,rfl,hq,nq,nqd,hp,hno,d2,b2⟩;exact SqL.of (b2 _ _ hN nnd)
   ·rintro i y σ H2 hi ⟨v2,v4,v5,v6,v7,q,row,rfl,hq,nq,nqd,hp,hno,d2,b2⟩;have hil:i<ns.length:=by
     have:=(Pb.mp hi).1
     rwa [Oo] at this
    obtain⟨x,rfl,hx⟩:∃x,y=V.str x/\ns[i]? = some x:=by
     rw[O2] at hi;cases z:ns[i]? with
     | none=>rw[z] at hi;cases hi
     | some x=>rw[z] at hi;exact⟨x,(Pa hi).symm,rfl⟩
    have tk:ns.take (i+1)=ns.take i++[x]:=by
     rw[O8 hil];rw[Op hil] at hx;rw[Pa hx]
    have hrl:row.length<=28:=by
     have:=hp.length_eq;rw[Oy,O3] at this;omega
    have ndT:(ns.take i++[x]).Nodup:=by rw[<-tk];exact hnd.sublist (P1 ..)
    refine⟨_,rfl,_,rfl,q,_,rfl,.inl (SqL.of hq),_,_,rfl,rfl,dr,sc,_,rfl,by omega,by rw[Oo];omega,d2,λa H3 a0 a1 d3 b3=>?_⟩;obtain⟨a,rfl⟩:=Pz a0;rw[Oo] at a1;have hq3:=b3 _ _ hq nqd;refine⟨_,rfl,_,rfl,_,rfl,q,_,rfl,.inl (SqL.of hq3),_,_,rfl,rfl,_,rfl,_,_,rfl,rfl,dr,sc,_,rfl,by rw[Oo];omega,by rw[Oo];omega,d3,λc H4 c0 c1 d4 b4=>?_⟩;obtain⟨c,rfl⟩:=Pz c0;rw[Oo] at c1;refine⟨_,_,rfl,rfl,?_⟩;have eac:(a:Int)+(c:Int)=((a+c:Nat):Int):=by omega
    dsimp only;rw[eac];have hac:a+c<=row.length:=by omega
    have hq4:=b4 _ _ hq3 nqd;have b24:=But.trans b2 (But.trans b3 b4);obtain⟨xs4,hdr4⟩:=d4.at;refine⟨_,rfl,_,rfl,_,rfl,_,rfl,q,row,x,a,a+c,rfl,hq4,by omega,by omega,hac,λl H5 nl5 hl5 s5=>?_⟩;have d5:=d4.same s5;have b25:=b24.same s5;have nlH:=b24.free hdr4 nl5;have nld:l≠dr:=(Aw hdr4 nl5).symm;have hperm:(Ez row x a (a+c)).Perm ((ns.take i++[x])++(ns.take i++[x])):=Xdd hp (Xda row x a (a+c) (by omega));have hll:(Ez row x a (a+c)).length<=1000:=by
     have:=hperm.length_eq;rw[Oy,Oy,O3,Qd] at this;omega
    refine⟨_,rfl,_,rfl,l,_,x,rfl,hl5,hll,F9 ndT hperm,hperm.mem_iff.mpr (by simp),λbb H6 hbb s6=>?_⟩;have d6:=d5.same s6;have b26:=b25.same s6;refine⟨bb,rfl,?_⟩;have two0:∀y∈row,row.count y=2:=F9 (hnd.sublist (P1 ..)) hp;refine Be (λ_=>?_) (λhbf=>?_)
    ·have hq6:=s6 _ _ (s5 _ _ hq4);refine⟨_,rfl,_,rfl,_,rfl,q,_,rfl,SqL.of hq6,λp1 n1=>?_⟩;rw[Jg _ _ _ (by omega)];refine⟨_,rfl,_,rfl,by show 2<=sizeLine;decide,λp2 n2=>?_⟩;refine⟨p1,p2,_,_,rfl,rfl,ku Ac n2,Ac,h24 _ (by simp;omega),λp3 n3=>?_⟩;refine⟨_,rfl,_,rfl,_,rfl,q,_,rfl,SqL.of (ku (ku (ku hq6 n1) n2) n3),λp4 n4=>?_⟩;rw[Jh _ _ _ (by omega)];refine⟨p3,p4,_,_,rfl,rfl,ku Ac n4,Ac,h24 _ (by simp;omega),λp5 n5=>?_⟩;have s4':=((((Same.refl H6).go n1 n2).go n2 n3).go n3 n4).go n4 n5;have f5:=s4'.free n5;obtain⟨xs6,hdr6⟩:=d6.at;have pN:(row.take a++[x,x]++row.drop a).Perm (x::x::row):=by
      have e:row.take a++[x,x]++row.drop a=row.take a++x::x::row.drop a:=by simp
      rw[e];refine Rs.trans (List.Perm.cons x (Rs.trans (List.Perm.cons x ?_)));rw[Pi]
     have pM:=Xdd hp pN;have twoN:=F9 ndT pM;refine⟨_,rfl,_,_,_,_,_,p5,row.take a++[x,x]++row.drop a,rfl,Ac.trans (by simp),b26.free hdr6 f5,(Aw hdr6 f5).symm,by rw[tk];exact pM,?_,d6.same (s4'.step n5),b26.same (s4'.step n5)⟩;refine Xdm (x:=x) hno two0 twoN (λy hy=>?_) (λp hp=>Xk5 hp) (λy hy z hz ky=>absurd ky (Xk4 (twoN x (by simp)) (twoN y hy)));have:=pN.mem_iff.mp hy;simp only[O6] at this;rcases this with h | h | h
     ·exact .inl h
     ·exact .inl h
     ·exact .inr h
    ·refine⟨_,rfl,_,_,_,_,_,l,_,rfl,s6 _ _ hl5,nlH,nld,by rw[tk];exact hperm,?_,d6,b26⟩;refine Xdm (x:=x) hno two0 (F9 ndT hperm) (λy hy=>?_) (λp hp=>Xk3 (by omega) hp) (hbb hbf);have:=(Xda row x a (a+c) (by omega)).mem_iff.mp hy;simp only[O6] at this;rcases this with h | h | h
     ·exact .inl h
     ·exact .inl h
     ·exact .inr h
   ·rintro σ H2 ⟨v2,v4,v5,v6,v7,q,row,rfl,hq,nq,nqd,hp,hno,d2,b2⟩;rw[Oo,P9] at hp;exact⟨_,rfl,k q row H2 nq hq hp hno d2 b2⟩
theorem E5:FnScope NNa ["_law_draw", "_law_many"] (defScope sNames):=⟨rfl,rfl,rfl,by decide +kernel,rfl,by decide +kernel,by decide +kernel⟩
theorem Xpy{f:Addr}{fd:FuncData}(F:Fun K "_law_names" "_law_names" sNames f fd)(T:Bl mg)(FP:FnPick P w K mg base):FnOk P w K mg base CX0 2 f fd ["_law_draw", "_law_many"] Mw:=by
 refine F.ok E5 (λvs H Q E h=>?_) (λcdv A outer s H vs Q E hr h=>?_)
 ·obtain⟨dr,sc,n,rfl,_⟩:=h;rfl
 ·obtain⟨dr,sc,n,rfl,hn,dk,k⟩:=h;refine⟨_,Ag (An (i:=2) E5.nd rfl (Or.inl rfl) Bn)
   (Ag (An (i:=3) E5.nd rfl (Or.inl rfl) (Aj FP hr rfl Ak (Aa (pv 0) (Aa Af Ab))))
   (Ag (An (i:=4) E5.nd rfl (Or.inl rfl) (Iq Cs (Aj FP hr rfl Ak (Aa (pv 0) (Aa Af Ab))) Af (Bc _)))
   (Ag (An (i:=5) E5.nd rfl (Or.inl rfl) (B1 Ab))
   (Ag (Cr PassesOwn.never rfl (Fu rfl T.range (Aa (pv 1) Ab)) (Au (i:=6) E5.nd rfl (Or.inl rfl))
    (Ag (An (i:=7) E5.nd rfl (Or.inl rfl) (Ax Xha (pv 2) (Aq Fv (Aq Ci (pv 3) (pv 6)) Af) (λ_ _=>rfl)))
    (Ag (An (i:=8) E5.nd rfl (Or.inl rfl) (Aq Xii Bn (Aq Fv (Aq Ci (pv 3) (Aq Xam (pv 6) (pv 6))) Af)))
    (Ai (Ei (Iu PySem.F.plainAttrs_list PySem.F.slot_list_append PySem.F.type_list_append Gx (pv 5)
     (Aa (Gq (Io (pv 4)) (Aq Ir (Aq Ir (pv 8) (pv 7)) Bn) (Aq Ir (pv 7) (pv 8))) Ab)))))))
   (Ai (Ar (pv 5))))))),?_⟩
  refine⟨_,rfl,dr,sc,26,rfl,by decide,by decide,dk,λr1 H1 r10 r11 d1 b1=>?_⟩;refine⟨_,rfl,dr,sc,2,rfl,by decide,by decide,d1,λr2 H2 r20 r21 d2 b2=>?_⟩;refine⟨rfl,?_⟩;refine⟨by show 0<=sizeLine;decide,λl nl=>?_⟩;obtain⟨st,rfl⟩:=Pz r10;have hst:st<26:=by omega
  generalize hlt:decide (V.int r2=V.int 1)=late;have b12:But dr H H2:=But.trans b1 b2;obtain⟨xs,hdr⟩:=d2.at;have nlH:H l=none:=b12.free hdr nl;obtain⟨nld,nls⟩:=d2.ne nl;refine⟨_,rfl,(n:Int),rfl,by omega,by omega,?_⟩;rw[Qh];refine Gu (lo:=0) (n:=n) (λi σ H3=>∃v1 v2 v3, σ=[some (.ref dr),some (.int n),some (.str Ff),some (.int st),some (.bl late),some (.ref l),v1,v2,v3]/\H3 l=some (.lst ((Bh st late i).map V.str))/\DrawOk H3 dr sc/\But dr H H3) ?_ ?_ ?_
  ·exact⟨none,none,none,rfl,Ac,d2.upd nld nls,b12.upd nlH⟩
  ·rintro i σ H3 hi ⟨v1,v2,v3,rfl,hl3,d3,b3⟩;have e26:((st:Int)+(0+(i:Int))) % 26=(((st+i) % 26:Nat):Int):=by omega
   have h26:(st+i) % 26<26:=S5 _ (by decide);have eii:((0:Int)+(i:Int)) * (0+(i:Int))=((i * i:Nat):Int):=by rw[Sx];exact(Int.natCast_mul i i).symm
   have h7:(st+i * i) % 7<7:=S5 _ (by decide);have e7:((st:Int)+((i * i:Nat):Int)) % 7=(((st+i * i) % 7:Nat):Int):=by
    generalize i * i=j;omega
   refine⟨_,rfl,_,rfl,_,rfl,_,_,rfl,rfl,_,_,rfl,rfl,(by show (0:Int)<26;decide),_,_,_,rfl,rfl,(by show 26<=sizeLine;decide),by rw[e26];exact Xkd h26,?_⟩;refine⟨_,rfl,_,rfl,_,rfl,_,_,rfl,rfl,.inl ⟨by omega,by omega⟩,_,_,rfl,rfl,_,_,rfl,rfl,(by show (0:Int)<7;decide),?_⟩;have e77:((st:Int)+((0:Int)+(i:Int)) * (0+(i:Int))) % 7=(((st+i * i) % 7:Nat):Int):=by rw[eii,e7]
   refine⟨_,_,rfl,rfl,by rw[e77];omega,by rw[e77];omega,by show 1<=1000;decide,?_⟩;rw[e77,Qh];have hrl:(repS "m" ((st+i * i) % 7)).length<=6:=by
    rw[Lx];have:(Str.ofString "m").length=1:=rfl;rw[this];omega
   have hsl:(signOf ((st+i) % 26)).length=1:=rfl;have hnl:(Bh st late i).length=i:=by unfold Bh;simp
   have hsnoc:Bh st late (i+1)=Bh st late i++[Hk st late i]:=by unfold Bh;rw[Qc,O5];rfl
   have h24:∀m,m<=100000->m<=sizeLine:=λm h=>by rw[Ti];omega
   have fin:∀z:Str,Hk st late i=z->Iv (.ref l) [.str z] H3 λ_ H4=>∃v1 v2 v3,[some (V.ref dr),some (.int n),some (.str Ff),some (.int st),some (.bl late),some (.ref l),some (.int (0+(i:Int))),some (.str (signOf ((st+i) % 26))),some (.str (repS "m" ((st+i * i) % 7)))]=[some (.ref dr),some (.int n),some (.str Ff),some (.int st),some (.bl late),some (.ref l),v1,v2,v3]/\H4 l=some (.lst ((Bh st late (i+1)).map V.str))/\DrawOk H4 dr sc/\But dr H H4:=λz hz=>by
    refine⟨l,_,_,rfl,rfl,hl3,by rw[Oo,hnl,Ti];omega,_,_,_,rfl,?_,d3.upd nld nls,b3.upd nlH⟩;rw[Ac,hsnoc,O5,<-hz];rfl
   refine⟨_,rfl,.inl ⟨rfl,_,SqL.of hl3⟩,_,rfl,late,rfl,?_⟩;refine Be (λhL=>?_) (λhL=>?_)
   ·refine⟨_,rfl,_,rfl,_,_,rfl,rfl,h24 _ (by show (repS "m" ((st+i * i) % 7)).length+1<=100000;omega),_,_,rfl,rfl,h24 _ ?_,fin _ (by unfold Hk;rw[Tk hL];rfl)⟩;rw[Fc];show (repS "m" ((st+i * i) % 7)).length+1+1<=100000;omega
   ·exact⟨_,rfl,_,rfl,_,_,rfl,rfl,h24 _ (by show 1+(repS "m" ((st+i * i) % 7)).length<=100000;omega),fin _ (by unfold Hk;rw[Tj (by rw[hL];decide)];rfl)⟩
  ·rintro σ H3 ⟨v1,v2,v3,rfl,hl3,d3,b3⟩;exact⟨_,rfl,k l st late H3 nlH hst hl3 nls d3 b3⟩
theorem Ol:FnScope NIs ["_law_draw", "_law_most"] (defScope sIsland):=⟨rfl,rfl,rfl,by decide +kernel,rfl,by decide +kernel,by decide +kernel⟩
theorem Xpz{f:Addr}{fd:FuncData}(F:Fun K "_law_island" "_law_island" sIsland f fd)(T:Bl mg)(FP:FnPick P w K mg base)(FN:Fn P w K mg base CX0 2 "_law_names" ["_law_draw", "_law_many"] Mw)
  (FR:Fn P w K mg base CX0 3 "_law_row" ["_law_draw", "_law_names_here"] spRowN):FnOk P w K mg base CX0 4 f fd ["_law_draw", "_law_most"] spIslandN:=by
 refine F.ok Ol (λvs H Q E h=>?_) (λcdv A outer s H vs Q E hr h=>?_)
 ·obtain⟨dr,sc,m,rfl,_⟩:=h;rfl
 ·obtain⟨dr,sc,m,rfl,hm,dk,k⟩:=h;have hr1:Room 1 _:=hr.mono (by decide);have hr2:Room 2 _:=hr.mono (by decide);refine⟨_,Ag (An (i:=2) Ol.nd rfl (Or.inl rfl) (Aq Ci Af (Aj FP hr1 rfl Ak (Aa (pv 0) (Aa Af Ab)))))
   (Ag (An (i:=3) Ol.nd rfl (Or.inl rfl) (Ax Fw (B0 (Aa (Aj FP hr1 rfl Ak (Aa (pv 0) (Aa Af Ab))) (Aa (pv 2) (Aa (Aj FP hr1 rfl Ak (Aa (pv 0) (Aa (Aq Ci (pv 1) Af) Ab))) Ab))))
    (Aj FP hr1 rfl Ak (Aa (pv 0) (Aa Af Ab))) (λ_ _=>rfl)))
   (Ai (Ar (Aj FR hr rfl Ak (Aa (pv 0) (Aa (Aj FN hr2 rfl Ak (Aa (pv 0) (Aa (Ba (Xav rfl) (by rfl) T.min boot_min (Aa (pv 3) (Aa (pv 1) Ab))) Ab))) Ab)))))),?_⟩
  refine⟨_,rfl,dr,sc,5,rfl,by decide,by decide,dk,λr1 H1 r10 _ d1 b1=>⟨_,_,rfl,rfl,?_⟩⟩;refine⟨_,rfl,dr,sc,5,rfl,by decide,by decide,d1,λr2 H2 r20 _ d2 b2=>?_⟩;refine⟨_,rfl,_,rfl,_,rfl,_,_,rfl,rfl,dr,sc,_,rfl,by omega,by omega,d2,λr3 H3 r30 _ d3 b3=>?_⟩;have b1:But dr H H1:=b1;have b13:But dr H H3:=But.trans b1 (But.trans b2 b3);refine⟨by show 3<=sizeLine;decide,λp np=>?_⟩;obtain⟨ne1,ne2⟩:=d3.ne np;obtain⟨xs3,hdr3⟩:=d3.at;have npH:=b13.free hdr3 np;refine⟨_,rfl,dr,sc,3,rfl,by decide,by decide,d3.upd ne1 ne2,λr4 H4 r40 r41 d4 b4=>?_⟩;have b4:But dr (L2.upd H3 p (.tup [.int r2,.int (2+r1),.int r3])) H4:=b4;have hp4:=b4 p _ Ac ne1;have b14:But dr H H4:=But.trans (b13.upd npH) b4;obtain⟨mm,hmm0,hmm⟩:∃mm:Int,0<=mm/\atI ([.int r2,.int (2+r1),.int r3]:List V) r4=some (.int mm):=by
   obtain⟨i,rfl⟩:=Pz r40;have hi:i<3:=by omega
   match i,hi with
   | 0,_=>exact⟨r2,r20,rfl⟩
   | 1,_=>exact⟨2+r1,by omega,rfl⟩
   | 2,_=>exact⟨r3,r30,rfl⟩
  refine⟨p,_,_,_,rfl,rfl,SqT.of hp4,hmm,?_⟩;obtain⟨n,hn,hnm⟩:∃n:Nat,(if (m:Int)<mm then (m:Int) else mm)=(n:Int)/\n<=m:=by
   obtain⟨j,rfl⟩:=Pz hmm0;by_cases hj:(m:Int)<(j:Int)
   ·exact⟨m,Tk hj,Oq _⟩
   ·exact⟨j,Tj hj,by omega⟩
  refine⟨_,rfl,_,rfl,_,rfl,_,rfl,_,_,rfl,?_⟩;rw[hn];refine⟨dr,sc,n,rfl,by omega,d4,λl st late H5 nl hst hl5 nls d5 b5=>?_⟩;obtain⟨xs4,hdr4⟩:=d4.at;have nld:l≠dr:=(Aw hdr4 nl).symm;have b15:=But.trans b14 b5;refine⟨dr,sc,l,_,rfl,d5,hl5,nld,Mv hst (by omega),by unfold Bh;simp;omega,λl2 row H6 nl2 hl6 hp hno d6 b6=>?_⟩;obtain⟨xs5,hdr5⟩:=d5.at;exact k l2 row n st late H6 (b15.free hdr5 nl2) hnm hst hl6 hp hno d6 (But.trans b15 b6)
theorem Xp0:FnScope ["_law_draw", "_law_most"] ["_law_draw", "_law_most"] (defScope s__law_island_to):=⟨rfl,rfl,rfl,by decide +kernel,rfl,by decide +kernel,by decide +kernel⟩
theorem Xp1{f:Addr}{fd:FuncData}(F:Fun K "_law_island_to" "_law_island_to" s__law_island_to f fd)(T:Bl mg)(FP:FnPick P w K mg base)(FI:Fn P w K mg base CX0 4 "_law_island" ["_law_draw", "_law_most"] spIslandN):FnOk P w K mg base CX0 5 f fd ["_law_draw", "_law_most"] spIslTo:=by
 refine F.ok Xp0 (λvs H Q E h=>?_) (λcdv A outer s H vs Q E hr h=>?_)
 ·obtain⟨dr,sc,m,rfl,_⟩:=h;rfl
 ·obtain⟨dr,sc,m,rfl,hm,d,k⟩:=h;have hr1:Room 1 _:=hr.mono (by decide);refine⟨_,Ai (Ar (Aj FI hr (by rfl) Ak (Aa (pv 0) (Aa (Ax Fw (B0 (Aa (pv 1) (Aa Af Ab)))
   (Df Xaw (by rfl) T.int (by rfl) (Aa (Iq Cs (Aj FP hr1 (by rfl) Ak (Aa (pv 0) (Aa Af Ab))) Af (Bc _)) Ab)) (λ_ _=>rfl)) Ab)))),?_⟩
  refine⟨_,rfl,_,rfl,by show 2<=sizeLine;decide,λt nt=>?_⟩;obtain⟨n1,n2⟩:=d.ne nt;refine⟨_,rfl,dr,sc,8,rfl,by decide,by decide,d.upd n1 n2,λg H4 _ _ d4 b4=>?_⟩;have b4:But dr (L2.upd H t (.tup [.int m,.int 14])) H4:=b4;have ht4:=b4 t _ Ac n1;have b04:But dr H H4:=But.trans ((But.refl dr H).upd nt) b4;have fin:∀mm:Nat,mm<=14->spIslandN [.ref dr,.int mm] H4 Q E0:=λmm hmm=>⟨dr,sc,mm,rfl,hmm,d4,λl row n st late H' nl hn hst hl hp h3 d' b'=>by
   obtain⟨xs,hd⟩:=d4.at;exact k l row n st late H' (b04.free hd nl) (Pr hn hmm) hst hl hp h3 d' (b04.trans b')⟩
  refine⟨rfl,.inr ⟨_,rfl,?_⟩⟩;cases decide (V.int g=V.int 1) with
  | true=>exact⟨t,_,_,_,rfl,rfl,SqT.of ht4,rfl,fin 14 (by decide)⟩
  | false=>exact⟨t,_,_,_,rfl,rfl,SqT.of ht4,rfl,fin m hm⟩
theorem Gn:FnScope NBr ["_law_row_here"] (defScope s__law_bars):=⟨rfl,rfl,rfl,by decide +kernel,rfl,by decide +kernel,by decide +kernel⟩
theorem Xp2{f:Addr}{fd:FuncData}(F:Fun K "_law_bars" "_law_bars" s__law_bars f fd)(T:Bl mg)(FW:Fn P w K mg base CX0 1 "_law_where" ["_law_row_here"] Jv)
  (FO:Fn P w K mg base CX0 1 "_law_word" ["_law_where_here", "_law_one_here", "_law_other"] spWord):FnOk P w K mg base CX0 2 f fd ["_law_row_here"] spBars:=by
 refine F.ok Gn (λvs H Q E h=>?_) (λcdv A outer s H vs Q E hr h=>?_)
 ·obtain⟨r,row,rfl,_⟩:=h;rfl
 ·obtain⟨r,row,rfl,hR,R2,k⟩:=h;refine⟨_,Ag (An (i:=1) Gn.nd rfl (Or.inl rfl) (Aj FW hr (by rfl) Ak (Aa (pv 0) Ab)))
   (Ag (An (i:=2) Gn.nd rfl (Or.inl rfl) (B1 Ab))
   (Ag (Cr PassesOwn.never rfl (Bq (Ba (Xcf rfl) (by rfl) T.sorted (by rfl) (Aa (pv 1) Ab))) (Au (i:=3) Gn.nd rfl (Or.inl rfl))
    (Ai (Cr PassesOwn.never rfl (Bq (Ba (Xcf rfl) (by rfl) T.sorted (by rfl) (Aa (pv 1) Ab))) (Au (i:=4) Gn.nd rfl (Or.inl rfl))
     (Ag (An (i:=5) Gn.nd rfl (Or.inl rfl) (Aj FO hr (by rfl) Ak (Aa (pv 1) (Aa (pv 3) (Aa (pv 4) Ab)))))
     (Ai (Bz (Fs (Ay Cs (pv 5) Bn (Bc _)) (Gp (E7 (Ay Cs (pv 5) Bn (Bc _)) (E6 (Ay Xat (pv 3) (pv 4) (Bc _)))).pt)).pt
      (Ai (Ei (Iu PySem.F.plainAttrs_list PySem.F.slot_list_append PySem.F.type_list_append Gx (pv 2) (Aa (B0 (Aa (pv 3) (Aa (pv 4) (Aa (pv 5) Ab)))) Ab)))) B3))))))
   (Ai (Ar (pv 2))))),?_⟩
  have hrl:=R2.len;have hdl:=F3 row;refine⟨_,rfl,r,row,rfl,hR,by omega,λd kvs H1 nd hd wh s1=>?_⟩;obtain⟨ss,hss,hsn,hsm⟩:=wh.names;have hsl:ss.length<=60:=by
   have h1:=congrArg List.length hss;rw[Oo,Oo] at h1;have:=wh.len;omega
  refine⟨by show 0<=sizeLine;decide,λu nu=>?_⟩;refine⟨_,rfl,d,kvs,ss,rfl,.inl (ku hd nu),hss,by omega,λsn ls nsn hp1 hs1=>?_⟩;rw[Xcl hp1 hs1 hsn hsm];have hnu:∀{xs:List V},upd (upd H1 u (.lst [])) sn (.lst xs) u=some (.lst []):=λ{xs}=>ku Ac nsn;have s2:Same H1 (upd (upd H1 u (.lst [])) sn (.lst ((dit row).map V.str))):=((Same.refl H1).step nu).step nsn;have hsn2:upd (upd H1 u (.lst [])) sn (.lst ((dit row).map V.str)) sn=some (.lst ((dit row).map V.str)):=Ac;have nsu:sn≠u:=(Aw (H:=upd H1 u (.lst [])) Ac nsn).symm;have hu2:upd (upd H1 u (.lst [])) sn (.lst ((dit row).map V.str)) u=some (.lst []):=hnu;generalize upd (upd H1 u (.lst [])) sn (.lst ((dit row).map V.str))=H2 at s2 hsn2 hu2;have hlq:∀(i j:Nat),i<=60->∀x,((C9 row i++C3 row x ((dit row).take j)).map trD).length<=5000:=λi j hi x=>by
   rw[Oo,Oy];have h1:=Xky row i;have h2:=Xdi row x ((dit row).take j);rw[O3] at h2;have h3:i * (dit row).length<=60 * 60:=Nat.mul_le_mul hi (by omega);omega
  have hbase:∀b o,H1 b=some o->hid u H2 b=some o:=λb o e=>F8 (s2 _ _ e) (Aw e nu);refine⟨sn,rfl,⟨_,SqL.of hsn2⟩,?_⟩;refine Ek (K:=K) (a:=sn) (xs:=(dit row).map V.str) (λi σ H9=>∃v3 v4 v5, σ=[some (.ref r),some (.ref d),some (.ref u),v3,v4,v5]/\Same (hid u H2) H9/\∃xs,H9 u=some (.lst xs)/\DAll (hid u H9) ((C9 row i).map trD) xs) ?_ ?_ ?_ ?_
  ·exact⟨none,none,none,rfl,Hi u H2,[],hu2,F5⟩
  ·rintro i σ H9 _ ⟨v3,v4,v5,rfl,s9,_⟩;exact SqL.of (s9 _ _ (F8 hsn2 nsu))
  ·rintro i y σ H9 hi ⟨v3,v4,v5,rfl,s9,xs,hu9,hal⟩;have hil:i<(dit row).length:=by
    have:=(Pb.mp hi).1
    rwa [Oo] at this
   obtain⟨x,rfl,hx⟩:∃x,y=V.str x/\(dit row).getD i Str.empty=x:=by
    rw[O2,Op hil] at hi;exact⟨_,(Pa hi).symm,by simp[List.getD,hil]⟩
   have hxr:x∈row:=Ao.mp (by rw[<-hx];exact Ea hil);refine⟨_,rfl,d,kvs,ss,rfl,.inl (s9 _ _ (hbase _ _ hd)),hss,by omega,λsn2 ls2 nsn2 hp2 hs2=>?_⟩;rw[Xcl hp2 hs2 hsn hsm];have s10:Same H9 (upd H9 sn2 (.lst ((dit row).map V.str))):=(Same.refl H9).step nsn2;have hsn10:upd H9 sn2 (.lst ((dit row).map V.str)) sn2=some (.lst ((dit row).map V.str)):=Ac;have nsu2:sn2≠u:=(Aw hu9 nsn2).symm;generalize upd H9 sn2 (.lst ((dit row).map V.str))=H10 at s10 hsn10;have hal10:=DAll.same (Hj (D:=u) s10) _ _ hal;have hu10:=s10 _ _ hu9;have b10:=s9.trans s10;refine⟨sn2,rfl,⟨_,SqL.of hsn10⟩,?_⟩;refine Ek (K:=K) (a:=sn2) (xs:=(dit row).map V.str) (λj σ H11=>∃v4 v5, σ=[some (.ref r),some (.ref d),some (.ref u),some (.str x),v4,v5]/\Same (hid u H10) H11/\∃xs,H11 u=some (.lst xs)/\DAll (hid u H11) ((C9 row i++C3 row x ((dit row).take j)).map trD) xs) ?_ ?_ ?_ ?_
   ·exact⟨v4,v5,rfl,Hi u H10,xs,hu10,by simpa [C3] using hal10⟩
   ·rintro j σ H11 _ ⟨v4,v5,rfl,s11,_⟩;exact SqL.of (s11 _ _ (F8 hsn10 nsu2))
   ·rintro j z σ H11 hj ⟨v4,v5,rfl,s11,xs,hu11,hal11⟩;have hjl:j<(dit row).length:=by
     have:=(Pb.mp hj).1
     rwa [Oo] at this
    obtain⟨y,rfl,hy⟩:∃x,z=V.str x/\(dit row).getD j Str.empty=x:=by
     rw[O2,Op hjl] at hj;exact⟨_,(Pa hj).symm,by simp[List.getD,hjl]⟩
    have hyr:y∈row:=Ao.mp (by rw[<-hy];exact Ea hjl);have c1:=R2.two x hxr;have c2:=R2.two y hyr;have bb:∀b o,H1 b=some o->H11 b=some o:=λb o e=>s11 _ _ (F8 (b10 _ _ (hbase b o e)) (Aw e nu));obtain⟨l1,e1,g1⟩:=wh.two' hxr c1;obtain⟨l2,e2,g2⟩:=wh.two' hyr c2;refine⟨_,rfl,_,rfl,_,rfl,d,l1,l2,kvs,x,y,_,_,_,_,rfl,.inl (bb _ _ hd),e1,e2,bb _ _ g1,bb _ _ g2,λH12 s12=>?_⟩;rw[<-Ga c1 c2];have hu12:=s12 _ _ hu11;have hal12:=DAll.same (Hj (D:=u) s12) _ _ hal11;have b12:=s11.trans s12;have hps:=Xkx row x hjl;rw[hy] at hps;have stay:Cn row x y=false->∃v4 v5,[some (V.ref r),some (.ref d),some (.ref u),some (.str x),some (.str y),some (.str (lieR row x y))]=[some (.ref r),some (.ref d),some (.ref u),some (.str x),v4,v5]/\Same (hid u H10) H12/\∃xs,H12 u=some (.lst xs)/\DAll (hid u H12) ((C9 row i++C3 row x ((dit row).take (j+1))).map trD) xs:=λhk=>by
     refine⟨_,_,rfl,b12,xs,hu12,?_⟩;rw[hps,hk,Tj O4,Qa];exact hal12
    have app:Cn row x y=true->Xaf (tBM K "list" Iv (Eh 2) (El (Lh (El (Eh 3) (El (Eh 4) (El (Eh 5) E9)))) E9)) {nx:=fun σ H=>∃v4 v5, σ=[some (.ref r),some (.ref d),some (.ref u),some (.str x),v4,v5]/\Same (hid u H10) H/\∃xs,H u=some (.lst xs)/\DAll (hid u H) ((C9 row i++C3 row x ((dit row).take (j+1))).map trD) xs,rt:=Q} [some (V.ref r),some (.ref d),some (.ref u),some (.str x),some (.str y),some (.str (lieR row x y))] H12:=λhk=>by
     refine⟨_,rfl,.inl ⟨rfl,_,SqL.of hu12⟩,_,rfl,_,rfl,_,rfl,by show 3<=sizeLine;decide,λp np=>?_⟩;have hxl:xs.length<=5000:=by
      rw[F6 hal12];exact hlq i j (by omega) x
     refine⟨u,_,_,rfl,rfl,ku hu12 np,by rw[Ti];omega,?_⟩;refine⟨_,_,rfl,?_,xs++[.ref p],Ac,?_⟩
     ·intro b o e;have nb:b≠u:=λz=>by rw[z] at e;unfold hid at e;rw[Tk rfl] at e;cases e
      rw[Ad nb,Ad (Aw (b12 _ _ e) np)];exact b12 _ _ e
     ·rw[Xc3,hps,hk,Tk rfl,<-Pj,O5];refine Js (DAll.same (Hj (D:=u) ((Same.refl H12).step np)) _ _ hal12) ?_;exact Xc4 hu12 np (Mj [x,y,lieR row x y])
    refine⟨_,rfl,rfl,_,rfl,?_⟩;rw[Jw];refine Be (λq1=>?_) (λq1=>?_)
    ·exact Fb (app (by unfold Cn;rw[q1];rfl))
    ·refine⟨_,rfl,rfl,_,rfl,?_⟩;rw[Jw];refine Be (λq2=>?_) (λq2=>?_)
     ·refine⟨_,rfl,_,rfl,_,_,rfl,rfl,_,rfl,?_⟩;refine Be (λq3=>?_) (λq3=>?_)
      ·refine app ?_;unfold Cn;have q3':decide (ltS x y)=true:=q3;rw[q2,q3',R9,Td]
      ·refine stay ?_;unfold Cn;have q3':decide (ltS x y)=false:=q3;rw[q1,q3',Bool.and_false,S8]
     ·refine Cd (stay ?_);unfold Cn;rw[q1,q2,Qv,S8]
   ·rintro σ H11 ⟨v4,v5,rfl,s11,xs,hu11,hal11⟩;rw[Oo,P9] at hal11;refine⟨_,_,_,rfl,λb o e=>?_,xs,hu11,?_⟩
    ·have nb:b≠u:=λz=>by rw[z] at e;unfold hid at e;rw[Tk rfl] at e;cases e
     exact s11 _ _ (F8 (b10 _ _ e) nb)
    ·rw[Xkw row hil,hx];exact hal11
  ·rintro σ H9 ⟨v3,v4,v5,rfl,s9,xs,hu9,hal⟩;rw[Oo,Xkv] at hal;refine⟨_,rfl,k u xs H9 (s1.free nu) hu9 (DAll.same (Hi u H9) _ _ hal) (λb o e=>s9 _ _ (hbase _ _ (s1 _ _ e)))⟩
theorem K0:FnScope NFi ["_law_bars_here", "_law_plot"] (defScope s__law_fits):=⟨rfl,rfl,rfl,by decide +kernel,rfl,by decide +kernel,by decide +kernel⟩
theorem Xp3{f:Addr}{fd:FuncData}(F:Fun K "_law_fits" "_law_fits" s__law_fits f fd):FnOk P w K mg base CX0 1 f fd ["_law_bars_here", "_law_plot"] M9:=by
 refine F.ok K0 (λvs H Q E h=>?_) (λcdv A outer s H vs Q E hr h=>?_)
 ·obtain⟨b,p,xs,bs,ss,rfl,_⟩:=h;rfl
 ·obtain⟨b,p,xs,bs,ss,rfl,hB,hal,hP,k⟩:=h;refine⟨_,Ag (Cr PassesOwn.never rfl (Bq (pv 0)) (Xai (n:=3) rfl (Ch (Au (i:=2) K0.nd rfl (Or.inl rfl)) (Ch (Au (i:=3) K0.nd rfl (Or.inl rfl)) (Ch (Au (i:=4) K0.nd rfl (Or.inl rfl)) Ft))))
    (Ai (Bz (E7 (Ay Lm (pv 2) (pv 1) (by rfl)) (E6 (Ay Lb (Iq Lm (pv 3) (pv 1) (by rfl)) (Iq Cs (pv 4) Bn (Bc _)) (Bc _)))).pt (Ai (Ar D4)) B3)))
   (Ai (Ar D4)),?_⟩
  refine⟨_,rfl,b,rfl,⟨_,SqL.of hB⟩,?_⟩;have hxl:xs.length=bs.length:=by rw[F6 hal,Oo]
  refine Ek (K:=K) (a:=b) (xs:=xs) (λi σ H2=>∃v2 v3 v4, σ=[some (.ref b),some (.ref p),v2,v3,v4]/\Same H H2/\C2 (bs.take i) ss=true) ?_ ?_ ?_ ?_
  ·exact⟨none,none,none,rfl,Same.refl H,rfl⟩
  ·rintro i σ H2 _ ⟨v2,v3,v4,rfl,s2,_⟩;exact SqL.of (s2 _ _ hB)
  ·rintro i y σ H2 hi ⟨v2,v3,v4,rfl,s2,hf⟩;have hil:i<xs.length:=(Pb.mp hi).1;have hib:i<bs.length:=by omega
   obtain⟨v,hv,dv⟩:=Mi hal (show (bs.map trD)[i]? = some (trD bs[i]) by rw[O2,Op hib];rfl);rw[hi] at hv;cases hv;obtain⟨q,rfl,hq⟩:=Xku dv;have htk:bs.take (i+1)=bs.take i++[bs[i]]:=O8 hib;generalize bs[i]=t at *;have hfs:C2 (bs.take (i+1)) ss = !(decide (t.1∈ss) && !decide (decide (t.2.1∈ss)=decide (t.2.2 = "within"))):=by
    rw[htk];unfold C2 at hf ⊢;rw[List.all_append,hf,Qx];simp
   have bad:(decide (t.1∈ss) && !decide (decide (t.2.1∈ss)=decide (t.2.2 = "within")))=true->C2 bs ss=false:=λhb=>by
    rw[Ry];intro z;have hz:C2 (bs.take (i+1)) ss=true:=by
     unfold C2 at z ⊢;rw[Pl] at z ⊢;exact λx hx=>z x (Px hx)
    rw[hfs,hb] at hz;cases hz
   refine⟨q,_,rfl,SqT.of (s2 _ _ hq),rfl,_,_,rfl,_,_,rfl,_,_,rfl,rfl,?_⟩;refine⟨_,rfl,_,rfl,p,_,rfl,.inr (SqT.of (s2 _ _ hP)),rfl,Ew ss,_,rfl,?_⟩;rw[Tj (by decide),Ev];refine Be (λq1=>?_) (λq1=>?_)
   ·refine⟨_,rfl,_,rfl,p,_,rfl,.inr (SqT.of (s2 _ _ hP)),rfl,Ew ss,_,rfl,rfl,rfl,_,rfl,?_⟩;rw[Tj (by decide),Ev,Jw];have eb:(!decide (V.bl (decide (t.2.1∈ss))=V.bl (decide (t.2.2 = "within")))) = !decide (decide (t.2.1∈ss)=decide (t.2.2 = "within")):=by
     congr 1;rw[Qo,decide_eq_true_eq,decide_eq_true_eq];exact⟨λz=>by injection z,λz=>by rw[z]⟩
    rw[eb];refine Be (λq2=>?_) (λq2=>?_)
    ·have:=k H2 s2;rw[bad (by rw[q1,q2];rfl)] at this;exact this
    ·exact⟨_,_,_,rfl,s2,by rw[hfs,q1,q2];rfl⟩
   ·exact Cd ⟨_,_,_,rfl,s2,by rw[hfs,q1];rfl⟩
  ·rintro σ H2 ⟨v2,v3,v4,rfl,s2,hf⟩;rw[hxl,P9] at hf;have:=k H2 s2;rw[hf] at this;exact this
theorem C4:FnScope NPl ["_law_row_here"] (defScope s__law_plots):=⟨rfl,rfl,rfl,by decide +kernel,rfl,by decide +kernel,by decide +kernel⟩
theorem Xp4{f:Addr}{fd:FuncData}(F:Fun K "_law_plots" "_law_plots" s__law_plots f fd)(T:Bl mg)(FFi:Fn P w K mg base CX0 1 "_law_fits" ["_law_bars_here", "_law_plot"] M9)
  (FBr:Fn P w K mg base CX0 2 "_law_bars" ["_law_row_here"] spBars):FnOk P w K mg base CX0 3 f fd ["_law_row_here"] spPlotsO:=by
 refine F.ok C4 (λvs H Q E h=>?_) (λcdv A outer s H vs Q E hr h=>?_)
 ·obtain⟨r,row,rfl,_⟩:=h;rfl
 ·obtain⟨r,row,rfl,hR,R2,h3,h14,k⟩:=h;have hu4:_+4<cLine:=Ss (Nat.add_le_add_left (by decide:4<=64) _) hr.units;have hr1:Room 1 _:=hr.mono (by decide);have hr2:Room 2 _:=hr.mono (by decide);refine⟨_,Ag (An (i:=1) C4.nd rfl (Or.inl rfl) (Aj FBr hr2 (by rfl) Ak (Aa (pv 0) Ab)))
   (Ag (An (i:=2) C4.nd rfl (Or.inl rfl) (Xkt (i:=0) rfl (by rfl) T.sorted (by rfl) T.set (pv 0)))
   (Ag (An (i:=3) C4.nd rfl (Or.inl rfl) (B1 (Aa (B0 Ab) Ab)))
   (Ag (An (i:=4) C4.nd rfl (Or.inl rfl) (B1 (Aa (B0 Ab) Ab)))
   (Ag (Cr PassesOwn.never rfl (Fu rfl T.range (Aa (Ba Cv (by rfl) T.len boot_len (Aa (pv 2) Ab)) Ab)) (Au (i:=5) C4.nd rfl (Or.inl rfl))
    (Ag (An (i:=6) C4.nd rfl (Or.inl rfl) (B1 Ab))
    (Ag (Cr PassesOwn.never rfl (Bq (pv 4)) (Au (i:=7) C4.nd rfl (Or.inl rfl))
     (Ai (Cr PassesOwn.never rfl (Bq (pv 2)) (Au (i:=8) C4.nd rfl (Or.inl rfl))
      (Ag (An (i:=9) C4.nd rfl (Or.inl rfl) (Df Xa9 (by rfl) T.tuple (by rfl) (Aa (Ba Xlc (by rfl) T.sorted (by rfl) (Aa (Aq Xj2 (pv 7) (B0 (Aa (pv 8) Ab))) Ab)) Ab)))
      (Ai (Bz (E7 (Ay Ln (pv 8) (pv 7) (by rfl)) (E6 (Ay (Xdz hu4) (pv 9) (pv 6) (by rfl)))).pt
       (Ai (An (i:=6) C4.nd rfl (Or.inl rfl) (Aq B8 (pv 6) (Aq Xhi (B1 (Aa (pv 9) Ab)) (Df Xaw (by rfl) T.int (by rfl) (Aa (Aj FFi hr1 (by rfl) Ak (Aa (pv 1) (Aa (pv 9) Ab))) Ab))))))
       B3))))))
    (Ag (An (i:=4) C4.nd rfl (Or.inl rfl) (Ba Xll (by rfl) T.sorted (by rfl) (Aa (pv 6) Ab)))
    (Ai (An (i:=3) C4.nd rfl (Or.inl rfl) (Aq B8 (pv 3) (pv 4))))))))
   (Ai (Ar (pv 3))))))),?_⟩
  have hrl:=R2.len;have hdl:=F3 row;refine⟨_,rfl,r,row,rfl,hR,R2,λb xs0 H1 nb hb hall s1=>?_⟩;refine⟨_,rfl,r,row,rfl,.inl (SqL.of (s1 _ _ hR)),R2.len,λnl H2 nn hn2 s2=>?_⟩;have hb2:=s2 _ _ hb;have hall2:=DAll.same s2 _ _ hall;have s12:=s1.trans s2;refine⟨by show 0<=sizeLine;decide,λe1 ne1=>?_⟩;refine⟨by show 1<=sizeLine;decide,λtl0 ntl0=>?_⟩;refine⟨by show 0<=sizeLine;decide,λe2 ne2=>?_⟩;refine⟨by show 1<=sizeLine;decide,λly0 nly0=>?_⟩;generalize hH3:upd (upd (upd (upd H2 e1 (.tup [])) tl0 (.lst [.ref e1])) e2 (.tup [])) ly0 (.lst [.ref e2])=H3;have f1:Same H2 H3:=by
   rw[<-hH3];exact((((Same.refl H2).step ne1).step ntl0).step ne2).step nly0
  have ht3:H3 tl0=some (.lst ([e1].map V.ref)):=by
   rw[<-hH3];exact ku (ku Ac ne2) nly0
  have hy3:H3 ly0=some (.lst ([e2].map V.ref)):=by
   rw[<-hH3];exact Ac
  have hP1:Tups H3 [e1] [[]]:=Tups.cons (by rw[<-hH3];exact ku (ku (ku Ac ntl0) ne2) nly0) (Tups.nil _);have hP2:Tups H3 [e2] [[]]:=Tups.cons (by rw[<-hH3];exact ku Ac nly0) (Tups.nil _);have ntl:H tl0=none:=s12.free (((Same.refl H2).step ne1).free ntl0);clear hH3;have hn3:=f1 _ _ hn2;refine⟨_,rfl,nl,_,rfl,.inl (SqL.of hn3),(((dit row).map V.str).length:Int),rfl,by omega,by rw[Oo];omega,?_⟩;have hnn:(((dit row).map V.str).length:Int).toNat=(dit row).length:=by rw[Oo];simp
  rw[hnn];refine Gu (lo:=0) (n:=(dit row).length) (λi σ H4=>∃(v5 v6 v7 v8 v9:Option V) (tl ly:Addr) (ps qs:List Addr) (Vs Us:List (List Str)), σ=[some (.ref r),some (.ref b),some (.ref nl),some (.ref tl),some (.ref ly),v5,v6,v7,v8,v9]/\Same H3 H4/\H tl=none/\H4 tl=some (.lst (ps.map V.ref))/\H4 ly=some (.lst (qs.map V.ref))/\ps.length<=1+63 * i/\Tups H4 ps Vs/\Upto row i Vs/\Tups H4 qs Us/\SH.Lay row i Us) ?_ ?_ ?_
  ·exact⟨_,_,_,_,_,tl0,ly0,[e1],[e2],[[]],[[]],rfl,Same.refl _,ntl,ht3,hy3,by simp,hP1,Xou row,hP2,Xov row⟩
  ·rintro i σ H4 hi ⟨v5,v6,v7,v8,v9,tl,ly,ps,qs,Vs,Us,rfl,s4,nt4,ht4,hy4,hpl,hPs,hVs,hQs,hUs⟩;refine⟨by show 0<=sizeLine;decide,λf0 nf0=>?_⟩;have g1:Same H4 (upd H4 f0 (.lst [])):=(Same.refl H4).step nf0;have hf0:Fresh row (upd H4 f0 (.lst [])) f0 [] []:=⟨Ac,rfl,.nil,λ_ h=>by cases h⟩;generalize upd H4 f0 (.lst [])=H5 at g1 hf0;have s35:=s4.trans g1;have hn5:=s35 _ _ hn3;have hb5:=s35 _ _ (f1 _ _ hb2);have ha5:=DAll.same s35 _ _ (DAll.same f1 _ _ hall2);have hQ5:=hQs.same g1;refine⟨_,rfl,ly,rfl,⟨_,SqL.of (g1 _ _ hy4)⟩,?_⟩;refine Ek (K:=K) (a:=ly) (xs:=qs.map V.ref) (λj σ H6=>∃(v7 v8 v9:Option V) (f:Addr) (xs:List V) (Ts:List (List Str)), σ=[some (.ref r),some (.ref b),some (.ref nl),some (.ref tl),some (.ref ly),some (.int (0+(i:Int))),some (.ref f),v7,v8,v9]/\Same H5 H6/\Fresh row H6 f xs Ts/\(∀T∈Ts,T.length=i+1)/\Cov row Us j Ts) ?_ ?_ ?_ ?_
   ·exact⟨_,_,_,f0,[],[],rfl,Same.refl _,hf0,(λ_ h=>by cases h),λj hj=>absurd hj (Qg _)⟩
   ·rintro j σ H6 _ ⟨v7,v8,v9,f,xs,Ts,rfl,s6,hf,hfl,hcv⟩;exact SqL.of (s6 _ _ (g1 _ _ hy4))
   ·rintro j y σ H6 hj ⟨v7,v8,v9,f,xs,Ts,rfl,s6,hf,hfl,hcv⟩;obtain⟨q,rfl,hjl,hqj⟩:∃q,y=V.ref q/\j<qs.length/\qs.getD j 0=q:=by
     rw[O2] at hj;cases z:qs[j]? with
     | none=>rw[z] at hj;cases hj
     | some q=>rw[z] at hj;exact⟨q,(Pa hj).symm,(Pb.mp z).1,by simp[List.getD,z]⟩
    have hqs:=hQ5.2 j hjl;rw[hqj] at hqs;have hjU:j<Us.length:=by rw[<-hQ5.1];exact hjl
    have hUj:Us.getD j []∈Us:=by
     have:Us.getD j []=Us[j]:=by simp[List.getD,hjU]
     rw[this];exact Pn hjU
    obtain⟨hip,hil⟩:=(hUs.mem _).mp hUj;generalize hss:Us.getD j []=ss at hqs hip hil;have hssl:=Kd hip;obtain⟨hsr,hslt⟩:=Da hip;refine⟨_,rfl,nl,rfl,⟨_,SqL.of (s6 _ _ hn5)⟩,?_⟩;refine Ek (K:=K) (a:=nl) (xs:=(dit row).map V.str) (λm σ H7=>∃(v8 v9:Option V) (f:Addr) (xs:List V) (Ts:List (List Str)), σ=[some (.ref r),some (.ref b),some (.ref nl),some (.ref tl),some (.ref ly),some (.int (0+(i:Int))),some (.ref f),some (.ref q),v8,v9]/\Same H5 H7/\Fresh row H7 f xs Ts/\(∀T∈Ts,T.length=i+1)/\Cov row Us j Ts/\∀m',m'<m->(dit row).getD m' Str.empty∉ss->Ae row (srt (ss++[(dit row).getD m' Str.empty]))=true->srt (ss++[(dit row).getD m' Str.empty])∈Ts) ?_ ?_ ?_ ?_
    ·exact⟨_,_,f,xs,Ts,rfl,s6,hf,hfl,hcv,λm' hm'=>absurd hm' (Qg _)⟩
    ·rintro m σ H7 _ ⟨v8,v9,f,xs,Ts,rfl,s7,hf,hfl,hcv,hcm⟩;exact SqL.of (s7 _ _ hn5)
    ·rintro m y σ H7 hm ⟨v8,v9,f,xs,Ts,rfl,s7,hf,hfl,hcv,hcm⟩;obtain⟨x,rfl,hx,hxm⟩:∃x,y=V.str x/\x∈row/\(dit row).getD m Str.empty=x:=by
      rw[O2] at hm;cases z:(dit row)[m]? with
      | none=>rw[z] at hm;cases hm
      | some x=>rw[z] at hm;exact⟨x,(Pa hm).symm,Ao.mp (Rm z),by simp[List.getD,z]⟩
     have step:∀Ts':List (List Str),(∀T∈Ts,T∈Ts')->(x∉ss->Ae row (srt (ss++[x]))=true->srt (ss++[x])∈Ts')->∀m',m'<m+1->(dit row).getD m' Str.empty∉ss->Ae row (srt (ss++[(dit row).getD m' Str.empty]))=true->srt (ss++[(dit row).getD m' Str.empty])∈Ts':=λTs' sub new m' hm' a1 a2=>by
      by_cases e:m'=m
      ·subst e;rw[hxm] at a1 a2 ⊢;exact new a1 a2
      ·exact sub _ (hcm m' (by omega) a1 a2)
     refine⟨_,rfl,_,rfl,by show 1<=sizeLine;decide,λt1 nt1=>?_⟩;have s8:Same H5 (upd H7 t1 (.tup [.str x])):=s7.step nt1;have k78:Same H7 (upd H7 t1 (.tup [.str x])):=(Same.refl H7).step nt1;refine⟨q,t1,_,_,rfl,rfl,s8 _ _ hqs,Ac,by rw[Oo,Ti];show ss.length+1<=_;omega,λp1 H9 s9 hp1=>?_⟩;have hp1':H9 p1=some (.tup ((ss++[x]).map V.str)):=by rw[hp1,O5];rfl
     refine⟨p1,_,rfl,hp1',by rw[Oy];show ss.length+1<64;omega,λl2 nl2=>?_⟩;refine⟨l2,_,rfl,.inl ⟨SqL.of Ac,λov nov=>?_⟩⟩;have k7:Same H7 (upd (upd H9 l2 (.lst ((srt (ss++[x])).map V.str))) ov (.tup ((srt (ss++[x])).map V.str))):=((k78.trans s9).step nl2).step nov;have hov:upd (upd H9 l2 (.lst ((srt (ss++[x])).map V.str))) ov (.tup ((srt (ss++[x])).map V.str)) ov=some (.tup ((srt (ss++[x])).map V.str)):=Ac;generalize upd (upd H9 l2 (.lst ((srt (ss++[x])).map V.str))) ov (.tup ((srt (ss++[x])).map V.str))=HA at k7 hov;have s5A:=s7.trans k7;have hfA:=hf.same k7;have okr:∀y∈srt (ss++[x]),okN y:=λy hy=>by
      rcases Oz.mp (He.mp hy) with z | z
      ·exact R2.ok y (hsr y z)
      ·rw[Ot.mp z];exact R2.ok x hx
     have okT:∀T∈Ts,∀y∈T,okN y:=λT hT y hy=>R2.ok y ((Da (hf.ok T hT).2).1 y hy);have dep:PyData.depth (tupD (srt (ss++[x])))<=3:=by
      have:=Xkr (srt (ss++[x])) (srt (ss++[x]))
      rwa [Nat.min_self] at this
     have xsl:xs.length=Ts.length:=by rw[F6 hfA.all,Oo]
     have hlt:=Nc R2.two h3 h14 hf.nd hf.ok;dsimp only[Bp];refine⟨_,rfl,_,rfl,q,_,rfl,.inr (SqT.of (s5A _ _ hqs)),rfl,Ew ss,_,rfl,?_⟩;rw[Tk rfl,Ev];refine Be (λhc=>?_) (λhc=>Cd ⟨_,_,f,xs,Ts,rfl,s5A,hfA,hfl,hcv,step Ts (λ_ h=>h) λz=>absurd (by simpa using hc) z⟩);have hxs:x∉ss:=by simpa using hc
     refine⟨_,rfl,_,rfl,tupD (srt (ss++[x])),Ts.map tupD,Gc hov,Xc0 hfA.at' hfA.all,C0 _ (Gb okr),Hh _ (plainAll_map tupD Ts λT hT=>Gb (okT T hT)),dep,_,rfl,?_⟩;refine Be (λhd=>?_) (λhd=>⟨_,_,f,xs,Ts,rfl,s5A,hfA,hfl,hcv,step Ts (λ_ h=>h) λ_ _=>?_⟩);rotate_left
     ·have hd:((Ts.map tupD).any λe=>PyData.eqv e (tupD (srt (ss++[x]))))=true:=by simpa using hd
      rw[Rr] at hd;obtain⟨e,he,hq⟩:=hd;obtain⟨T,hT,rfl⟩:=Pe.mp he;have hq:PyData.eqv (.tuple (T.map PyData.str)) (.tuple ((srt (ss++[x])).map PyData.str))=true:=hq;rw[J6 (okT T hT) okr] at hq;rw[<-Tn hq];exact hT
     have hnew:srt (ss++[x])∉Ts:=λhm=>by
      have:((Ts.map tupD).any λe=>PyData.eqv e (tupD (srt (ss++[x]))))=true:=by
       rw[Rr];refine⟨_,Pe.mpr ⟨_,hm,rfl⟩,?_⟩;show PyData.eqv (.tuple _) (.tuple _)=true;rw[J6 okr okr];exact Tl rfl
      rw[this] at hd;exact absurd hd (by decide)
     refine⟨_,rfl,_,rfl,by show 1<=sizeLine;decide,λc nc=>?_⟩;have kA:Same HA (upd HA c (.lst [.ref ov])):=(Same.refl HA).step nc;refine⟨_,rfl,_,rfl,b,ov,xs0,bars row,srt (ss++[x]),rfl,kA _ _ (s5A _ _ hb5),DAll.same kA _ _ (DAll.same s5A _ _ ha5),kA _ _ hov,λHB sB=>?_⟩;have hcB:=sB _ _ (show upd HA c (.lst [.ref ov]) c=_ from Ac);refine .inr ⟨_,rfl,?_⟩;cases hfit:C2 (bars row) (srt (ss++[x])) with
     | false=>
      refine⟨c,_,_,rfl,rfl,hcB,by simp,by simp,by simp,λc2 nc2=>?_⟩;have e0:(if True then (List.replicate ((if (false:Bool)=true then (1:Int) else 0)).toNat [V.ref ov]).flatten else ([]:List V))=[]:=by simp
      have kB:Same HA (upd HB c2 (.lst [])):=(kA.trans sB).step nc2;refine⟨f,c2,xs,[],rfl,rfl,kB _ _ hfA.at',Ac,by rw[Ti];simp;omega,λg ng=>?_⟩;have kC:Same HA (upd (upd HB c2 (.lst [])) g (.lst (xs++[]))):=kB.step ng;refine⟨_,_,g,xs++[],Ts,rfl,s5A.trans kC,⟨Ac,?_,hf.nd,hf.ok⟩,hfl,hcv,step Ts (λ_ h=>h) λ_ z=>absurd ((Xmq R2.two z).symm.trans hfit) (by decide)⟩;exact(congrArg (DAll _ _) (Qa xs)).mpr (DAll.same kC _ _ hfA.all)
     | true=>
      refine⟨c,_,_,rfl,rfl,hcB,by simp,by simp,by show 1 * 1<=sizeLine;decide,λc2 nc2=>?_⟩;have kB:Same HA (upd HB c2 (.lst [V.ref ov])):=(kA.trans sB).step nc2;refine⟨f,c2,xs,[V.ref ov],rfl,rfl,kB _ _ hfA.at',Ac,by rw[Ti];simp;omega,λg ng=>?_⟩;have kC:Same HA (upd (upd HB c2 (.lst [V.ref ov])) g (.lst (xs++[V.ref ov]))):=kB.step ng;refine⟨_,_,g,xs++[V.ref ov],Ts++[srt (ss++[x])],rfl,s5A.trans kC,⟨Ac,?_,?_,?_⟩,?_,λi' hi' z hz a1 a2=>P4 _ (hcv i' hi' z hz a1 a2),step _ (λ_ h=>P4 _ h) λ_ _=>by simp⟩
      ·rw[O5];exact Js (DAll.same kC _ _ hfA.all) (Gc (kC _ _ hov))
      ·rw[Qb];exact⟨hf.nd,by simp,λa ha b hb e=>hnew (by rw[Ot.mp hb] at e;exact e ▸ ha)⟩
      ·intro T hT;rcases Oz.mp hT with z | z
       ·exact hf.ok T z
       ·rw[Ot.mp z];exact⟨Xle,Xld R2.two hip hx hxs hfit⟩
      ·intro T hT;rcases Oz.mp hT with z | z
       ·exact hfl T z
       ·rw[Ot.mp z,(Cg _).length_eq,Oy,hil];rfl
    ·rintro σ H7 ⟨v8,v9,f,xs,Ts,rfl,s7,hf,hfl,hcv,hcm⟩;refine⟨_,_,_,f,xs,Ts,rfl,s7,hf,hfl,λi' hi' z hz a1 a2=>?_⟩;by_cases e:i'=j
     ·subst e;rw[hss] at a1 a2 ⊢;obtain⟨m',hm',e'⟩:=Po.mp (Ao.mpr hz);have e2:(dit row).getD m' Str.empty=z:=by rw[<-e'];simp[List.getD,hm']
      have:=hcm m' (by rw[Oo];exact hm');rw[e2] at this;exact this a1 a2
     ·exact hcv i' (by omega) z hz a1 a2
   ·rintro σ H6 ⟨v7,v8,v9,f,xs,Ts,rfl,s6,hf,hfl,hcv⟩;have hlt:=Nc R2.two h3 h14 hf.nd hf.ok;obtain⟨fs,rfl,hfs⟩:=Nq hf.all;have hfl0:=hfs.1;refine⟨_,rfl,f,fs,Ts,rfl,hf.at',hfs,λz=>(hf.ok _ z).1 rfl,hf.nd,by omega,λly' fs' Ts' nly' hfs' hpm hpw=>?_⟩;have g6:Same H6 (upd H6 ly' (.lst (fs'.map V.ref))):=(Same.refl H6).step nly';have s46:=(g1.trans s6).trans g6;rw[Oo,hQ5.1] at hcv;have hL':=Xot R2.two hUs hcv (λT hT=>⟨(hf.ok T hT).2,hfl T hT⟩) hpm hpw;have hP':=hfs'.same g6;have hly':upd H6 ly' (.lst (fs'.map V.ref)) ly'=some (.lst (fs'.map V.ref)):=Ac;generalize upd H6 ly' (.lst (fs'.map V.ref))=H8 at g6 s46 hP' hly';have hfl1:=hfs'.1;have hfl':=hpm.length_eq;refine⟨_,rfl,_,rfl,tl,ly',_,_,rfl,rfl,s46 _ _ ht4,hly',by rw[Oo,Oo,Ti];omega,λtl' ntl'=>?_⟩;have g8:Same H8 (upd H8 tl' (.lst (ps.map V.ref++fs'.map V.ref))):=(Same.refl H8).step ntl';have e8:upd H8 tl' (.lst (ps.map V.ref++fs'.map V.ref)) tl'=some (.lst ((ps++fs').map V.ref)):=by rw[Ac,O5]
    refine⟨_,_,_,_,_,tl',ly',ps++fs',fs',Vs++Ts',Ts',rfl,(s4.trans s46).trans g8,?_,e8,g8 _ _ hly',by rw[Oy];omega,(hPs.same (s46.trans g8)).app (hP'.same g8),hVs.next hL',hP'.same g8,hL'⟩;exact s12.free (f1.free (s4.free (s46.free ntl')))
  ·rintro σ H4 ⟨v5,v6,v7,v8,v9,tl,ly,ps,qs,Vs,Us,rfl,s4,nt4,ht4,hy4,hpl,hPs,hVs,hQs,hUs⟩;exact⟨_,rfl,k tl ps Vs H4 nt4 ht4 hPs hVs.all ((s12.trans f1).trans s4)⟩
theorem Xp5:FnScope ["_law_draw", "_law_some"] ["_law_draw", "_law_some"] (defScope s__law_one):=⟨rfl,rfl,rfl,by decide +kernel,rfl,by decide +kernel,by decide +kernel⟩
theorem Xp6{f:Addr}{fd:FuncData}(F:Fun K "_law_one" "_law_one" s__law_one f fd)(T:Bl mg)(FP:FnPick P w K mg base):FnOk P w K mg base CX0 2 f fd ["_law_draw", "_law_some"] spOne:=by
 refine F.ok Xp5 (λvs H Q E h=>?_) (λcdv A outer s H vs Q E hr h=>?_)
 ·obtain⟨dr,sc,l,xs,rfl,_⟩:=h;rfl
 ·obtain⟨dr,sc,l,xs,rfl,d,hl,nld,h0,h1,k⟩:=h;have hr1:Room 1 _:=hr.mono (by decide);refine⟨_,Ai (Ar (Ax Bj (pv 1) (Aj FP hr1 (by rfl) Ak (Aa (pv 0) (Aa (Ba Cv (by rfl) T.len boot_len (Aa (pv 1) Ab)) Ab))) (λ_ _=>rfl))),?_⟩;refine⟨_,rfl,_,rfl,_,rfl,l,_,rfl,.inl (SqL.of hl),dr,sc,_,rfl,by omega,by omega,d,λgi H4 g0 g1 d4 b4=>?_⟩;have b4:But dr H H4:=b4;obtain⟨gi,rfl⟩:=Pz g0;have hgi:gi<xs.length:=by omega
  have hat:atI xs (gi:Int)=some (xs.getD gi .non):=D6 (by rw[Op hgi];simp[List.getD,hgi]);exact⟨l,_,_,_,rfl,rfl,SqL.of (b4 _ _ hl nld),hat,k gi H4 hgi d4 b4⟩
theorem Fq:FnScope NCw ["_law_draw", "_law_some"] (defScope s__law_crowd):=⟨rfl,rfl,rfl,by decide +kernel,rfl,by decide +kernel,by decide +kernel⟩
theorem Xp7{f:Addr}{fd:FuncData}(F:Fun K "_law_crowd" "_law_crowd" s__law_crowd f fd)(B:Bl mg)(FP:FnPick P w K mg base)(FO:Fn P w K mg base CX0 2 "_law_one" ["_law_draw", "_law_some"] spOne):FnOk P w K mg base CX0 3 f fd ["_law_draw", "_law_some"] spCrowdL:=by
  refine F.ok Fq (λvs H Q E h=>?_) (λcdv A outer s H vs Q E hr h=>?_)
  . obtain⟨dr,sc,l,ps,rfl,_⟩:=h;rfl
  . obtain⟨dr,sc,l,ps,rfl,d0,hl,nld,h0,h1,k⟩:=h;have hr1:Room 1 _:=hr.mono (by decide);refine⟨_,Ag (An (i:=2) Fq.nd rfl (Or.inl rfl) (Ax Fw (B0 (Aa (Aj FP hr1 (by rfl) Ak (Aa (pv 0) (Aa Af Ab))) (Aa (Aj FP hr1 (by rfl) Ak (Aa (pv 0) (Aa Af Ab))) (Aa Af Ab))))
          (Ax Fw (B0 (Aa Af (Aa Af (Aa Af (Aa Af (Aa Af (Aa Af (Aa Af Ab)))))))) (Aj FP hr1 (by rfl) Ak (Aa (pv 0) (Aa Af Ab))) (λ_ _=>rfl)) (λ_ _=>rfl)))
      (Ag (An (i:=3) Fq.nd rfl (Or.inl rfl) (Aj FO hr (by rfl) Ak (Aa (pv 0) (Aa (pv 1) Ab))))
      (Ag (An (i:=4) Fq.nd rfl (Or.inl rfl) (Aj FP hr1 (by rfl) Ak (Aa (pv 0) (Aa Af Ab))))
      (Ag (An (i:=5) Fq.nd rfl (Or.inl rfl) (B1 Ab))
      (Ag (Cr PassesOwn.never rfl (Fu rfl B.range (Aa (pv 2) Ab)) (Au (i:=6) Fq.nd rfl (Or.inl rfl))
        (Ag (An (i:=7) Fq.nd rfl (Or.inl rfl) (Aj FO hr (by rfl) Ak (Aa (pv 0) (Aa (pv 1) Ab))))
        (Ai (Ei (Iu PySem.F.plainAttrs_list PySem.F.slot_list_append PySem.F.type_list_append Gx (pv 5) (Aa (Gq (Ay Ct (Aj FP hr1 (by rfl) Ak (Aa (pv 0) (Aa Af Ab))) (pv 4) (Bc _)) (pv 3) (pv 7)) Ab))))))
      (Ai (Ar (pv 5))))))),?_⟩
    refine⟨_,rfl,dr,sc,4,rfl,by decide,by decide,d0,λm1 H1 m10 m11 d1 b1=>?_⟩;refine⟨_,rfl,dr,sc,12,rfl,by decide,by decide,d1,λm2 H2 m20 m21 d2 b2=>?_⟩;have b1:But dr H H1:=b1;have b02:But dr H H2:=But.trans b1 b2;refine⟨by show 3<=sizeLine;decide,λt1 n1=>?_⟩;obtain⟨x1,y1⟩:=d2.ne n1;obtain⟨xs2,hd2⟩:=d2.at;have n1H:=b02.free hd2 n1;have d3:=d2.upd (o:=.tup [.int m1,.int m2,.int 60]) x1 y1;have b03:=b02.upd (o:=.tup [.int m1,.int m2,.int 60]) n1H;have ht1:upd H2 t1 (.tup [.int m1,.int m2,.int 60]) t1=some (.tup [.int m1,.int m2,.int 60]):=Ac;dsimp only[Lh,El,E9,tC];generalize upd H2 t1 (.tup [.int m1,.int m2,.int 60])=H3 at d3 b03 ht1;refine⟨by show 7<=sizeLine;decide,λt2 n2=>?_⟩;obtain⟨x2,y2⟩:=d3.ne n2;obtain⟨xs3,hd3⟩:=d3.at;have n2H:=b03.free hd3 n2;refine⟨_,rfl,dr,sc,7,rfl,by decide,by decide,d3.upd x2 y2,λj H4 j0 j1 d4 b4=>?_⟩;have b4:But dr (upd H3 t2 (.tup [.int 0,.int 0,.int 1,.int 1,.int 1,.int 1,.int 2])) H4:=b4;have ht24:=b4 t2 _ Ac x2;have ht14:=b4 t1 _ (ku ht1 n2) x1;have b04:But dr H H4:=But.trans (b03.upd n2H) b4;obtain⟨u,hu,hu3⟩:∃u:Int,atI ([.int 0,.int 0,.int 1,.int 1,.int 1,.int 1,.int 2]:List V) j=some (.int u)/\0<=u/\u<3:=by
      obtain⟨j,rfl⟩:=Pz j0;have hj:j<7:=by omega
      match j,hj with
      | 0,_=>exact⟨0,rfl,by decide,by decide⟩
      | 1,_=>exact⟨0,rfl,by decide,by decide⟩
      | 2,_=>exact⟨1,rfl,by decide,by decide⟩
      | 3,_=>exact⟨1,rfl,by decide,by decide⟩
      | 4,_=>exact⟨1,rfl,by decide,by decide⟩
      | 5,_=>exact⟨1,rfl,by decide,by decide⟩
      | 6,_=>exact⟨2,rfl,by decide,by decide⟩
    refine⟨t2,_,_,_,rfl,rfl,SqT.of ht24,hu,?_⟩;obtain⟨m,hm,hm60⟩:∃m:Nat,atI ([.int m1,.int m2,.int 60]:List V) u=some (.int m)/\m<=60:=by
      obtain⟨u,rfl⟩:=Pz hu3.1;obtain⟨m1,rfl⟩:=Pz m10;obtain⟨m2,rfl⟩:=Pz m20;have hj:u<3:=by omega
      match u,hj with
      | 0,_=>exact⟨m1,rfl,by omega⟩
      | 1,_=>exact⟨m2,rfl,by omega⟩
      | 2,_=>exact⟨60,rfl,by decide⟩
    refine⟨t1,_,_,_,rfl,rfl,SqT.of ht14,hm,?_⟩;have hl4:=b04 _ _ hl nld;have lp:(ps.map V.ref).length=ps.length:=Oo ..;refine⟨_,rfl,_,rfl,dr,sc,l,_,rfl,d4,hl4,nld,by omega,by omega,λia H5 hia d5 b5=>?_⟩;rw[lp] at hia;rw[Bs V.ref 0 ps hia];have b05:But dr H H5:=But.trans b04 b5;refine⟨_,rfl,dr,sc,3,rfl,by decide,by decide,d5,λof H6 _ _ d6 b6=>?_⟩;have b06:But dr H H6:=But.trans b05 b6;refine⟨by show 0<=sizeLine;decide,λc nc=>?_⟩;obtain⟨x3,y3⟩:=d6.ne nc;obtain⟨xs6,hd6⟩:=d6.at;have ncH:=b06.free hd6 nc;refine⟨_,rfl,(m:Int),rfl,by omega,by omega,?_⟩;rw[Qh];refine Gu (lo:=0) (n:=m) (λi σ H7=>∃(v6 v7:Option V) (qs:List Addr), σ=[some (.ref dr),some (.ref l),some (.int m),some (.ref (ps.getD ia 0)),some (.int of),some (.ref c),v6,v7]/\H7 c=some (.lst (qs.map V.ref))/\qs.length=i/\(∀q∈qs,q∈ps)/\DrawOk H7 dr sc/\But dr H H7) ?_ ?_ ?_
    . exact⟨none,none,[],rfl,Ac,rfl,λq hq=>(nomatch hq),d6.upd x3 y3,b06.upd ncH⟩
    . rintro i σ H7 hi ⟨v6,v7,qs,rfl,hc7,ql,qm,d7,b7⟩;refine⟨_,rfl,_,rfl,dr,sc,l,_,rfl,d7,b7 _ _ hl nld,nld,by omega,by omega,λib H8 hib d8 b8=>?_⟩;rw[lp] at hib;rw[Bs V.ref 0 ps hib];have b8:But dr H7 H8:=b8;have hc8:=b8 _ _ hc7 x3;refine⟨_,rfl,.inl ⟨rfl,_,SqL.of hc8⟩,_,rfl,dr,sc,4,rfl,by decide,by decide,d8,λg H9 _ _ d9 b9=>?_⟩;have b9:But dr H8 H9:=b9;have hc9:=b9 _ _ hc8 x3;have b79:But dr H H9:=But.trans b7 (But.trans b8 b9);have mem:∀t,t<ps.length->ps.getD t 0∈ps:=λt ht=>by
        have:ps.getD t 0=ps[t]:=by simp[List.getD,ht]
        rw[this];exact Pn ht
      have fin:∀a,a∈ps->Iv (.ref c) [.ref a] H9 λ_ H'=>∃(v6 v7:Option V) (qs:List Addr),[some (V.ref dr),some (.ref l),some (.int m),some (.ref (ps.getD ia 0)),some (.int of),some (.ref c),some (.int (0+(i:Int))),some (.ref (ps.getD ib 0))]=[some (.ref dr),some (.ref l),some (.int m),some (.ref (ps.getD ia 0)),some (.int of),some (.ref c),v6,v7]/\H' c=some (.lst (qs.map V.ref))/\qs.length=i+1/\(∀q∈qs,q∈ps)/\DrawOk H' dr sc/\But dr H H':=λa ha=>by
        refine⟨c,_,_,rfl,rfl,hc9,by rw[Oo,Ti];omega,_,_,qs++[a],rfl,by rw[Ac,O5];rfl,by rw[Oy,ql];rfl,λq hq=>?_,d9.upd x3 y3,b79.upd ncH⟩;rcases Oz.mp hq with z | z
        . exact qm q z
        . rw[Ot.mp z];exact ha
      refine⟨_,rfl,_,_,rfl,rfl,_,rfl,?_⟩;refine Be (λ_=>⟨_,rfl,fin _ (mem _ hia)⟩) (λ_=>⟨_,rfl,fin _ (mem _ hib)⟩)
    . rintro σ H7 ⟨v6,v7,qs,rfl,hc7,ql,qm,d7,b7⟩;exact⟨_,rfl,k c qs H7 ncH hc7 qm (by omega) d7 b7⟩
theorem Xp8:FnScope ["_law_found"] ["_law_found"] (defScope s__law_tuple):=⟨rfl,rfl,rfl,by decide +kernel,rfl,by decide +kernel,by decide +kernel⟩
theorem Xp9{f:Addr}{fd:FuncData}(F:Fun K "_law_tuple" "_law_tuple" s__law_tuple f fd)(T:Bl mg):FnOk P w K mg base CX0 1 f fd ["_law_found"] spTuple:=by
 refine F.ok Xp8 (λvs H Q E h=>?_) (λcdv A outer s H vs Q E hr h=>?_)
 ·obtain⟨v,ss,rfl,_⟩:=h;rfl
 ·obtain⟨v,ss,rfl,hv,hl,k⟩:=h;obtain⟨a,xs,rfl,hR,hs⟩:=Mm hv;rw[Hl hs] at hR;refine⟨_,Ai (Ar (Xae (Ba L0 (by rfl) T.isi boot_isinstance (Aa (pv 0) (Aa (K2 (v:=.ty "tuple") (by rfl) T.tuple (by rfl) rfl) Ab)))
   (Xad (Ba (Xbx rfl) (by rfl) T.all (by rfl) (Aa (Cz (N:=["_law_one_here"]) (cap:=[none]) (CompScope.of (defScope s__law_tuple) ["_law_found"] rfl rfl rfl (by decide +kernel)) rfl
    (K8 (pv 0)) (λ_ _ _=>Au (i:=0) (show (["_law_one_here"]:List Str).Nodup by decide +kernel) rfl (Or.inl rfl) (Or.inr rfl)) (λ_ _ _=>Cf)
    (λ_ _ _=>Ba (Xjl K rfl) (by rfl) T.isi boot_isinstance (Aa (pv 0) (Aa (K2 (v:=.ty "str") (by rfl) T.str boot_str rfl) Ab)))) Ab))))),?_⟩
  refine⟨_,rfl,_,_,_,_,true,rfl,.tup hR,rfl,Mx K "tuple",true,rfl,Fb ?_⟩;refine⟨_,rfl,a,rfl,⟨_,SqT.of hR⟩,?_⟩;refine Jj (n:=ss.length) (by rw[Ti];omega) (λi=>(ss.map V.str).getD i .non) (λ_=>.bl true) ?_ ?_ ?_ ?_
  ·intro i H2 hi s2;exact L1 (SqT.of (s2 _ _ hR)) (by rw[Oo];exact hi)
  ·intro H2 s2;have:=L3 (K:=K) (SqT.of (s2 _ _ hR))
   rwa [Oo] at this
  ·intro i H2 Q' hi s2 kk;rw[Bs V.str Str.empty ss hi];exact⟨_,rfl,_,_,_,_,true,rfl,.str _,rfl,Mx K "str",kk H2 (Same.refl _)⟩
  ·intro D H2 nD s2 hD;refine⟨D,List.replicate ss.length true,rfl,?_,?_⟩
   ·rw[hD,List.map_const',P2,List.map_replicate]
   ·have e:(List.replicate ss.length true).all id=true:=by
     rw[Pl];intro b hb;rw[(List.mem_replicate.mp hb).2];rfl
    rw[e];exact k H2 s2
theorem Xqa:FnScope ["_law_found"] ["_law_found"] (defScope s__law_all_texts):=⟨rfl,rfl,rfl,by decide +kernel,rfl,by decide +kernel,by decide +kernel⟩
theorem Xqb{f:Addr}{fd:FuncData}(F:Fun K "_law_all_texts" "_law_all_texts" s__law_all_texts f fd)(T:Bl mg)(FT:Fn P w K mg base CX0 1 "_law_tuple" ["_law_found"] spTuple):FnOk P w K mg base CX0 2 f fd ["_law_found"] Ob:=by
 refine F.ok Xqa (λvs H Q E h=>?_) (λcdv A outer s H vs Q E hr h=>?_)
 ·obtain⟨l,ps,Ts,rfl,_⟩:=h;rfl
 ·obtain⟨l,ps,Ts,rfl,hl,hT,hS,hp,k⟩:=h;have hr1:Room 1 _:=hr.mono (by decide);refine⟨_,Ai (Ar (Xae (Ba L0 (by rfl) T.isi boot_isinstance (Aa (pv 0) (Aa (K2 (v:=.ty "list") (by rfl) T.list boot_list rfl) Ab)))
   (Xad (Ba (Xbx rfl) (by rfl) T.all (by rfl) (Aa (Cz (N:=["_law_one_here"]) (cap:=[none]) (CompScope.of (defScope s__law_all_texts) ["_law_found"] rfl rfl rfl (by decide +kernel)) rfl
    (Bq (pv 0)) (λ_ _ _=>Au (i:=0) (show (["_law_one_here"]:List Str).Nodup by decide +kernel) rfl (Or.inl rfl) (Or.inr rfl)) (λ_ _ _=>Cf)
    (λ_ _ _=>Aj (by exact FT) (by exact hr1) (by rfl) Ak (Aa (pv 0) Ab))) Ab))))),?_⟩
  refine⟨_,rfl,_,_,_,_,true,rfl,.lst hl,rfl,Mx K "list",true,rfl,Fb ?_⟩;refine⟨_,rfl,l,rfl,⟨_,SqL.of hl⟩,?_⟩;refine Jj (n:=ps.length) (by rw[Ti];omega) (λi=>.ref (ps.getD i 0)) (λi=>.bl true) ?_ ?_ ?_ ?_
  ·intro j H2 hj s2;have:=C6 (K:=K) (SqL.of (s2 _ _ hl)) (show j<(ps.map V.ref).length by rw[Oo];exact hj)
   rwa [Bs V.ref 0 ps hj] at this
  ·intro H2 s2;have:=C7 (K:=K) (SqL.of (s2 _ _ hl))
   rwa [Oo] at this
  ·intro j H2 Q' hj s2 kk;have hj':j<Ts.length:=by rw[<-hT.1];exact hj
   have hm:Ts.getD j []∈Ts:=by
    have:Ts.getD j []=Ts[j]:=by simp[List.getD,hj']
    rw[this];exact Pn hj'
   exact⟨_,rfl,_,Ts.getD j [],rfl,Gc (s2 _ _ (hT.2 j hj)),hS _ hm,λH3 s3=>kk H3 s3⟩
  ·intro D H2 nD s2 hD;have hD':H2 D=some (.lst (((List.range ps.length).map λ_=>true).map V.bl)):=by rw[hD,Pp];rfl
   refine⟨D,_,rfl,hD',?_⟩;have e:((List.range ps.length).map λ_=>true).all id=true:=by simp
   rw[e];exact k H2 s2
theorem Xqc:FnScope ["_law_row_here"] ["_law_row_here"] (defScope s__law_stranger):=⟨rfl,rfl,rfl,by decide +kernel,rfl,by decide +kernel,by decide +kernel⟩
theorem Xqd{f:Addr}{fd:FuncData}(F:Fun K "_law_stranger" "_law_stranger" s__law_stranger f fd):FnOk P w K mg base CX0 1 f fd ["_law_row_here"] M5:=by
 refine F.ok Xqc (λvs H Q E h=>?_) (λcdv A outer s H vs Q E hr h=>?_)
 ·obtain⟨r,row,rfl,_⟩:=h;rfl
 ·obtain⟨r,row,rfl,hR,hl,k⟩:=h;have hu:=En hr;refine⟨_,Ai (Ar (Gq (Ay (Xid (Nat.lt_of_succ_lt hu)) (pv 0) (B1 Ab) (Bc _))
   (Aq Ir (C5 Xjg (Ax Bj (pv 0) Af (λ_ _=>rfl)) Dg (Cu Af)) Bn) Bn)),?_⟩
  refine⟨_,rfl,by show 0<=sizeLine;decide,λp np=>?_⟩;have s1:Same H (upd H p (.lst [])):=(Same.refl H).step np;refine⟨r,p,_,_,rfl,rfl,SqL.of (s1 _ _ hR),SqL.of Ac,Xke row,by simp,_,rfl,?_⟩;have e:Dt (row.map V.str) []=decide (row=[]):=Xib row [];rw[e];cases row with
  | nil=>exact k _ s1
  | cons y r'=>
   refine Fb ?_;refine⟨_,rfl,r,_,_,_,rfl,rfl,SqL.of (s1 _ _ hR),(show atI ((y::r').map V.str) ((0:Nat):Int)=some (.str y) from D6 rfl),_,rfl,y,rfl,rfl,⟨_,rfl⟩,by have:=hl y Ow;omega,?_⟩;refine⟨_,_,rfl,rfl,?_,k _ s1⟩;have h1:=Txt.slice_le y none (some 7);have h2:=hl y Ow;have h3:(Str.ofString "q").length=1:=rfl;rw[Ti,h3];omega
theorem Om:FnScope NRf6 ["_law_row_here", "_law_crowd_here"] (defScope s__law_refused):=⟨rfl,rfl,rfl,by decide +kernel,rfl,by decide +kernel,by decide +kernel⟩
theorem Xqe{f C T fa:Addr}{fd fda:FuncData}(F:Fun K "_law_refused" "_law_refused" s__law_refused f fd)(hC:mg "NoPlot" = some (.ref C))
  (hma:mg "least" = some (.ref fa)) (hka:PySem.W.keepIn K (.ref fa)=true) (hba:Binds K fda ["row", "crowd"] []) (FA:FnOk P w K mg base (CX1 P w) 7 fa fda ["row", "crowd"] (spLeast C T (lamPos s_in_order))) (e1:PySem.W.exmOne K (.ref C) (.ref C)=some true):
  FnOk P w K mg base CX0 8 f fd ["_law_row_here", "_law_crowd_here"] (Od T (lamPos s_in_order)):=by
 refine F.ok Om (λvs H Q E h=>?_) (λcdv A outer s H vs Q E hr h=>?_)
 ·obtain⟨r,c,row,ps,Ts,rfl,_⟩:=h;rfl
 ·obtain⟨r,c,row,ps,Ts,rfl,hA,bad,k⟩:=h;refine⟨_,Ag (An (i:=2) Om.nd rfl (Or.inl rfl) D4)
   (Ag (Xjz (Cc:=C) rfl rfl (by rfl) hC
     (λpn R=>Ai (Ei (Xia FA hr (by rfl) hma hka hba .nil (Aa (pv 0) (Aa (pv 1) Ab)))))
     (λpn ex=>Ai (An (i:=2) Om.nd rfl (Or.inl rfl) D4)))
   (Ai (Ar (pv 2)))),?_⟩
  refine⟨λC1 σ1 H1=>C1=C /\ σ1=[some (.ref r),some (.ref c),some (.bl false)]/\Am T (lamPos s_in_order) qIn H1/\But T H H1,?_,?_⟩
  ·have nog:¬ ∀S∈Ts,Ae row S=true:=λz=>by
    obtain⟨S,h1,h2⟩:=bad;rw[z S h1] at h2;cases h2
   exact⟨_,rfl,_,rfl,r,c,row,ps,Ts,rfl,hA,λz=>absurd z nog,λ_ H' t b=>⟨C,rfl,rfl,rfl,t,b⟩⟩
  ·rintro C1 σ1 H1 ⟨rfl,rfl,t1,b1⟩;exact⟨e1,_,rfl,k H1 t1 b1⟩
theorem Xf6:FnScope NBe ["_law_some", "_law_crowd_here"] (defScope s__law_best):=⟨rfl,rfl,rfl,by decide +kernel,rfl,by decide +kernel,by decide +kernel⟩
theorem Xqf{f:Addr}{fd:FuncData}(F:Fun K "_law_best" "_law_best" s__law_best f fd)(B:Bl mg)(FT:Fn P w K mg base CX0 2 "_law_total" ["_law_crowd_here", "_law_plot"] spSteps):
  FnOk P w K mg base CX0 3 f fd ["_law_some", "_law_crowd_here"] spBest:=by
 refine F.ok Xf6 (λvs H Q E h=>?_) (λcdv A outer s H vs Q E hr h=>?_)
 ·obtain⟨l,c,ps,Ts,cs,Us,rfl,_⟩:=h;rfl
 ·obtain⟨l,c,ps,Ts,cs,Us,rfl,hl,hT,hp0,hp64,hc,hU,hcl,shU,shT,k⟩:=h;refine⟨_,Ag (An (i:=2) Xf6.nd rfl (Or.inr rfl) (Cz (N:=NBe1) (cap:=[none,some 1]) (CompScope.of (defScope s__law_best) NBe rfl rfl rfl (by decide +kernel)) rfl
    (Bq (pv 0)) (λ_ _ _=>Au (i:=0) (show NBe1.Nodup by decide +kernel) rfl (Or.inl rfl) (Or.inr rfl)) (λ_ _ _=>Cf) (λ_ _ _=>Aj (by exact FT) (by exact hr) (by rfl) Ak (Aa (pv 1) (Aa (pv 0) Ab)))))
   (Ai (Ar (Cz (N:=NBe2) (cap:=[none,some 0,some 2]) (CompScope.of (defScope s__law_best) NBe rfl rfl rfl (by decide +kernel)) rfl
    (Fu (by rfl) B.range (Aa (Ba Cv (by rfl) B.len boot_len (Aa (pv 0) Ab)) Ab)) (λ_ _ _=>Au (i:=0) (show NBe2.Nodup by decide +kernel) rfl (Or.inl rfl) (Or.inr rfl))
    (λ_ _ _=>Ds (Ay Cs (Ax (Xcn K (by rfl)) (pv 2) (pv 0) (λ_ _=>rfl)) (Ba (Xox (by rfl)) (by rfl) (by exact B.min) (by rfl) (Aa (pv 2) Ab)) (Bc _)))
    (λ_ _ _=>Ax (Xcn K (by rfl)) (pv 1) (pv 0) (λ_ _=>rfl))))),?_⟩
  have hps:=hT.1;refine⟨_,rfl,l,rfl,⟨_,SqL.of hl⟩,?_⟩;refine Xfo (n:=ps.length) (by rw[Ti];omega) (λj=>.ref (ps.getD j 0)) (λj=>.int (Ap Us (Ts.getD j []))) (fun σ=>∃v, σ=[v,some (.ref c)]) ⟨_,rfl⟩ ?_ ?_ ?_ ?_
  ·intro j H5 hj s5;have:=C6 (K:=K) (SqL.of (s5 _ _ hl)) (by rw[Oo];exact hj);rw[Bs V.ref 0 ps hj] at this;exact this
  ·intro H5 s5;have:=C7 (K:=K) (SqL.of (s5 _ _ hl))
   rwa [Oo] at this
  ·rintro j σ1 H5 Q1 Q0 hj ⟨v,rfl⟩ s5 kk;have hp5:=s5 _ _ (hT.2 j hj);have mS:=SH.Tups.at hT hj;generalize Ts.getD j []=S at hp5 mS kk;dsimp only[Bp,Eo];rw[Tk rfl];exact⟨_,rfl,_,rfl,c,ps.getD j 0,cs,Us,S,rfl,s5 _ _ hc,hU.same s5,hp5,hcl,shU,(shT S mS).1,(shT S mS).2,λH6 s6=>kk _ _ ⟨_,rfl⟩ s6⟩
  intro sm H2 nsm s2 hsm;have eT:(List.range ps.length).map (λj=>V.int (Ap Us (Ts.getD j [])))=(Ts.map (Ap Us)).map V.int:=by
   have q:=Cy ([]:List Str) (λ_=>true) Ts;rw[Ps.mpr (λ_ _=>rfl),Ps.mpr (λ_ _=>rfl),<-hps] at q;have q2:=congrArg (List.map λS=>V.int (Ap Us S)) q;rw[Pp] at q2;rw[Pp];exact q2
  rw[eT] at hsm;have hl2:=s2 _ _ hl;have tpos:0<(Ts.map (Ap Us)).length:=by rw[Oo,<-hps];exact hp0
  obtain⟨M,h1,h2⟩:∃M,M∈Ts.map (Ap Us)/\∀n∈Ts.map (Ap Us),M<=n:=by
   have key:∀l:List Int,l≠[]->∃M,M∈l/\∀n∈l,M<=n:=by
    intro l
    induction l with
    | nil=>intro h;exact absurd rfl h
    | cons a l ih=>
     intro _;by_cases e:l=[]
     ·subst e;exact⟨a,Ow,λn hn=>by rw[Ot.mp hn];exact S9 _⟩
     ·obtain⟨M,m1,m2⟩:=ih e;by_cases z:a<=M
      ·exact⟨a,Ow,λn hn=>by
        rcases O6.mp hn with q | q
        ·rw[q];exact S9 _
        ·have:=m2 n q;omega⟩
      ·exact⟨M,Ou _ m1,λn hn=>by
        rcases O6.mp hn with q | q
        ·rw[q];omega
        ·exact m2 n q⟩
   exact key _ (List.length_pos_iff.mp tpos)
  have isM:∀N:Int,N∈Ts.map (Ap Us)->(∀n∈Ts.map (Ap Us),N<=n)->N=M:=λN a b=>Int.le_antisymm (b M h1) (h2 N a);dsimp only[Bp];refine⟨_,rfl,l,_,rfl,.inl (SqL.of hl2),?_⟩;rw[Oo];refine⟨_,rfl,by omega,by omega,?_⟩;rw[Qh];refine Fd (n:=ps.length) (by rw[Ti];omega) (λj=>.int (0+(j:Int))) (λj=>decide (Ap Us (Ts.getD j [])=M)) (λj=>.ref (ps.getD j 0)) ?_ ?_ ?_ ?_ ?_
  ·intro j H5 hj s5;exact⟨hj,λx H3 y=>⟨y.1,y.2⟩⟩
  ·intro H5 s5;exact Oq _
  ·intro j H5 Q' hj s5 kk;have ej:(0:Int)+(j:Int)=(j:Int):=Sx _;have hjT:j<Ts.length:=by omega
   refine⟨_,rfl,_,rfl,sm,_,_,.int (Ap Us (Ts.getD j [])),rfl,rfl,SqL.of (s5 _ _ hsm),by rw[ej];exact D6 (by rw[O2,O2,Op hjT];simp[List.getD,hjT]),_,rfl,sm,_,rfl,s5 _ _ hsm,tpos,λN a b=>?_⟩;rw[isM N a b];refine⟨rfl,_,rfl,?_⟩;have e:decide (V.int (Ap Us (Ts.getD j []))=V.int M)=decide (Ap Us (Ts.getD j [])=M):=by
    by_cases z:Ap Us (Ts.getD j [])=M
    ·rw[z,Tl rfl,Tl rfl]
    ·rw[Tm z,Tm (λq=>z (by injection q))]
   rw[e];exact kk H5 (Same.refl _)
  ·intro j H5 Q' hj hok s5 kk;have ej:(0:Int)+(j:Int)=(j:Int):=Sx _;exact⟨_,rfl,_,rfl,l,_,_,.ref (ps.getD j 0),rfl,rfl,SqL.of (s5 _ _ hl2),by rw[ej];exact D6 (by rw[O2,Op hj];simp[List.getD,hj]),kk H5 (Same.refl _)⟩
  ·intro L H5 nL s5 hL;have s05:=s2.trans s5;refine k L (((List.range Ts.length).filter λj=>decide (Ap Us (Ts.getD j [])=M)).map λj=>ps.getD j 0) M H5 (s2.free nL) (by rw[hL,Pp,hps];rfl) h1 h2 ?_ s05;have e:=Cy ([]:List Str) (λS=>decide (Ap Us S=M)) Ts;rw[<-e];refine⟨by rw[Oo,Oo],λj hj=>?_⟩;rw[Oo] at hj;have hm:=Pn hj;have hlt:=P6.mp (O0.mp hm).1;rw[Ky _ _ _ hj,Ky _ _ _ hj];exact s05 _ _ (hT.2 _ (by omega))
end
end K26
set_option maxHeartbeats 8000000
namespace K26
open PySem PySem.Spec PyProof.Rows L2 SH
def K1 (K:PySem.W.Frag) (T:Addr):Sp:=λvs H Q _=>∃(a:Addr) (ns:List Int),vs=[.ref a]/\SqL K H a (ns.map V.int)/\ns.length<=63/\H T=some (.tbl #[])/\∀H',Q (.bl true) H'
section
variable {P:Program}{w:World}{K:PySem.W.Frag}{mg:Str->Option Value}{base:Heap}
abbrev NLw:List Str:=["_law_script", "_law_draw", "_law_row_here", "_law_some", "_law_crowd_here", "_law_other", "_law_kept", "_law_due", "_law_found"]
theorem Eg:FnScope NLw ["_law_script"] (defScope s_law):=⟨rfl,rfl,rfl,by decide +kernel,rfl,by decide +kernel,by decide +kernel⟩
theorem Xqg{f C T:Addr}{fd:FuncData}(F:Fun K "law" "law" s_law f fd)(B:Bl mg)(FB:Fn P w K mg base CX0 1 "_law_begin" ["_law_script"] (Mq K))
  (FI:Fn P w K mg base CX0 5 "_law_island_to" ["_law_draw", "_law_most"] spIslTo) (FPl:Fn P w K mg base CX0 3 "_law_plots" ["_law_row_here"] spPlotsO) (FS:Fn P w K mg base CX0 1 "_law_stranger" ["_law_row_here"] M5)
  (FCr:Fn P w K mg base CX0 3 "_law_crowd" ["_law_draw", "_law_some"] spCrowdL) (FBe:Fn P w K mg base CX0 3 "_law_best" ["_law_some", "_law_crowd_here"] spBest) (FA:Fn P w K mg base CX0 2 "_law_all_texts" ["_law_found"] Ob)
  (FLt:Fn P w K mg base CX0 2 "_law_total" ["_law_crowd_here", "_law_plot"] spSteps) (FRf:Fn P w K mg base CX0 8 "_law_refused" ["_law_row_here", "_law_crowd_here"] (Od T (lamPos s_in_order)))
  (FLe:Fn P w K mg base (CX1 P w) 7 "least" ["row", "crowd"] (spLeast C T (lamPos s_in_order))) (FTl:Fn P w K mg base (CX1 P w) 9 "toll" ["row", "crowd"] (N1 C T (lamPos s_in_order))):
  FnOk P w K mg base CX0 10 f fd ["_law_script"] (K1 K T):=by
 refine F.ok Eg (λvs H Q E h=>?_) (λcdv A outer s H vs Q E hr h=>?_)
 ·obtain⟨a,ns,rfl,_⟩:=h;rfl
 ·obtain⟨a,ns,rfl,hS,hlen,hTb,k⟩:=h;have hr1:Room 1 _:=hr.mono (by decide);have hr2:Room 2 _:=hr.mono (by decide);have hr3:Room 3 _:=hr.mono (by decide);have hr5:Room 5 _:=hr.mono (by decide);have hr7:Room 7 _:=hr.mono (by decide);have hr8:Room 8 _:=hr.mono (by decide);refine⟨_,Ag (An (i:=1) Eg.nd rfl (Or.inl rfl) (Aj FB hr1 (by rfl) Ak (Aa (pv 0) Ab)))
   (Ag (An (i:=2) Eg.nd rfl (Or.inl rfl) (Aj FI hr5 (by rfl) Ak (Aa (pv 1) (Aa Af Ab))))
   (Ag (An (i:=3) Eg.nd rfl (Or.inl rfl) (Aj FPl hr3 (by rfl) Ak (Aa (pv 2) Ab)))
   (Ag (An (i:=4) Eg.nd rfl (Or.inl rfl) (Aj FCr hr3 (by rfl) Ak (Aa (pv 1) (Aa (pv 3) Ab))))
   (Ag (An (i:=5) Eg.nd rfl (Or.inl rfl) (C5 Dh (Aj FCr hr3 (by rfl) Ak (Aa (pv 1) (Aa (pv 3) Ab))) Dg (Cu Af)))
   (Ag (An (i:=6) Eg.nd rfl (Or.inl rfl) (Df Xa8 (by rfl) B.list (by rfl) (Aa (pv 4) Ab)))
   (Ag (An (i:=7) Eg.nd rfl (Or.inl rfl) (Aj FBe hr3 (by rfl) Ak (Aa (pv 3) (Aa (pv 4) Ab))))
   (Ag (An (i:=8) Eg.nd rfl (Or.inl rfl) (Aj FLe hr7 (by rfl) Hf (Aa (pv 2) (Aa (pv 4) Ab))))
   (Ag (Bz ((Fs (Xgk (Io (Aj FA hr2 (by rfl) Ak (Aa (pv 8) Ab)))) (Fs (Ay (Jt (hu3 hr)) (pv 8) (pv 7) (Bc _)) (Gp (Ay (Xc1 (hu3 hr)) (pv 7) (B1 Ab) (Bc _))))).pt) (Ai (Ar D4)) B3)
   (Ag (Ei (Iu PySem.F.plainAttrs_list PySem.F.slot_list_append PySem.F.type_list_append Gx (pv 8) (Aa (B0 (Aa Bn Ab)) Ab)))
   (Ag (Bz ((Fs (Ay (Jt (hu3 hr)) (Aj FLe hr7 (by rfl) Hf (Aa (pv 2) (Aa (pv 5) Ab))) (Aj FBe hr3 (by rfl) Ak (Aa (pv 3) (Aa (pv 5) Ab))) (Bc _)) (Gp (Ay (Jt (hu3 hr)) (Aj FLe hr7 (by rfl) Hf (Aa (pv 2) (Aa (pv 4) Ab))) (pv 7) (Bc _)))).pt) (Ai (Ar D4)) B3)
   (Ag (Bz ((Fs (Ay Lb (Aj FTl hr (by rfl) Hf (Aa (pv 2) (Aa (pv 4) Ab))) (Aj FLt hr2 (by rfl) Ak (Aa (pv 4) (Aa (Ax Bj (pv 7) Af (λ_ _=>rfl)) Ab))) (Bc _)) (Gp (Ay (Jt (hu3 hr)) (pv 4) (pv 6) (Bc _)))).pt) (Ai (Ar D4)) B3)
   (Ai (Ar (Aj FRf hr8 (by rfl) Ak (Aa (pv 2) (Aa (Aq B8 (C5 Dh (pv 4) Dg (Cu Af)) (B1 (Aa (B0 (Aa (Aj FS hr1 (by rfl) Ak (Aa (pv 2) Ab)) Ab)) Ab))) Ab)))))))))))))))),?_⟩
  have nT:∀{H':Hp} {b:Addr} {o:HO},Am T (lamPos s_in_order) qIn H'->H' b=some o->(∀z,o ≠ .tbl z)->b≠T:=λtb e n z=>by
   rcases tb with q | ⟨_,q,_⟩<;>(rw[z,q] at e;cases e;exact n _ rfl)
  refine⟨_,rfl,a,ns,rfl,hS,hlen,λdr sc H1 ndr nsc d1 s1=>?_⟩;have tab1:Am T (lamPos s_in_order) qIn H1:=.inl (s1 _ _ hTb);refine⟨_,rfl,dr,sc,11,rfl,by decide,d1,λr row n st late H2 nr hn hst hR hp hno d2 b2=>?_⟩;have tab2:Am T (lamPos s_in_order) qIn H2:=by
   obtain⟨xs1,h1⟩:=d1.at;exact SH.Am.but tab1 h1 b2
  have hI:Isl row:=⟨n,st,late,by omega,hst,hp⟩;have R2:=hI.row2;have h14:=hI.dlen;have nrd:r≠dr:=(d1.ne nr).1;refine⟨_,rfl,r,row,rfl,hR,R2,hno,h14,λl ps Ts H3 nl hl3 hT3 g s3=>?_⟩;have d3:=d2.same s3;have hR3:=s3 _ _ hR;have tab3:=SH.Am.same tab2 s3;have nld:l≠dr:=(d2.ne nl).1;have hps:=hT3.1;have hTl:ps.length<=64:=by rw[hps];exact g.len R2.two hno h14
  have hlp:0<ps.length:=by rw[hps];exact Se ((g.mem []).mpr (Ho row))
  have okp:∀t,Ae row t=true->(∀y∈t,okN y)/\t.length<=14:=λt ht=>⟨λy hy=>R2.ok y ((Da ht).1 y hy),Pr (Kd ht) h14⟩;have sh:∀S,Ae row S=true->S.Nodup/\S.length<16:=λS hS=>⟨Kt hS,by have:=(okp S hS).2;omega⟩;have isP:∀q∈ps,∃t,H3 q=some (.tup (t.map V.str))/\Ae row t=true:=λq hq=>by
   obtain⟨i,hi,rfl⟩:=Po.mp hq;refine⟨Ts.getD i [],?_,(g.mem _).mp (SH.Tups.at hT3 hi)⟩;have:=hT3.2 i hi
   rwa [show ps.getD i 0=ps[i] by simp[List.getD,hi]] at this
  have atp:∀{H':Hp} {p:Addr} {t:List Str},But dr H3 H'->H3 p=some (.tup (t.map V.str))->H' p=some (.tup (t.map V.str)):=λb h=>b _ _ h (d3.ntup _ _ h);have coOf:∀Us:List (List Str),(∀S∈Us,Ae row S=true)->Ny Us:=λUs h S hS=>⟨(okp S (h S hS)).1,by have:=(okp S (h S hS)).2;omega⟩;refine⟨_,rfl,_,rfl,dr,sc,l,ps,rfl,d3,hl3,nld,hlp,by omega,λc cs H4 nc hc4 qm ql d4 b4=>?_⟩;have b4:But dr H3 H4:=b4;have ncd:c≠dr:=(d3.ne nc).1;obtain⟨Us,hU3,hUp⟩:=Oc (H:=H3) (row:=row) cs λq hq=>isP q (qm q hq);have tab4:Am T (lamPos s_in_order) qIn H4:=by
   obtain⟨xs,h⟩:=d3.at;exact SH.Am.but tab3 h b4
  have A4:CrAt H4 T (lamPos s_in_order) r c row cs Us:=⟨b4 _ _ hR3 nrd,R2,hno,h14,tab4,hc4,⟨hU3.1,λi hi=>atp b4 (hU3.2 i hi)⟩,by omega,coOf _ hUp⟩;have L4:Lt H4 [(l,ps,Ts)]:=Lt.cons (b4 _ _ hl3 nld) ⟨hps,λi hi=>atp b4 (hT3.2 i hi)⟩ λx hx=>(nomatch hx);have hl4:=b4 _ _ hl3 nld;refine⟨_,rfl,_,rfl,dr,sc,l,ps,rfl,d4,hl4,nld,hlp,by omega,λc5 cs5 H5 nc5 hc5 qm5 ql5 d5 b5=>?_⟩;have b5:But dr H4 H5:=b5;obtain⟨Os0,hO3,hOp0⟩:=Oc (H:=H3) (row:=row) cs5 λq hq=>isP q (qm5 q hq);have A5:=A4.butD d4 b5 nrd ncd;have L5:=L4.butD d4 b5 λx hx=>by rw[Ot.mp hx];exact nld
  have hO5:Tups H5 cs5 Os0:=⟨hO3.1,λi hi=>atp (b4.trans b5) (hO3.2 i hi)⟩;refine⟨_,rfl,c5,_,rfl,SqL.of hc5,λo no=>?_⟩;have ecut:B5 (cs5.map V.ref) none (some 12)=(cs5.take 12).map V.ref:=Xdj V.ref cs5 12;rw[ecut];have s6:Same H5 (upd H5 o (.lst ((cs5.take 12).map V.ref))):=(Same.refl H5).step no;have ho6:upd H5 o (.lst ((cs5.take 12).map V.ref)) o=some (.lst ((cs5.take 12).map V.ref)):=Ac;dsimp only[Bp];generalize upd H5 o (.lst ((cs5.take 12).map V.ref))=H6 at s6 ho6;have hOp:∀S∈Os0.take 12,Ae row S=true:=λS hS=>hOp0 S (Px hS);have hol:(cs5.take 12).length<=12:=by rw[O3];omega
  have A6:=A5.same s6;have L6:Lt H6 [(o,cs5.take 12,Os0.take 12),(l,ps,Ts)]:=Lt.cons ho6 (Xfy (hO5.same s6) 12) (L5.same s6);generalize cs5.take 12=os at L6 hol ho6;generalize Os0.take 12=Os at L6 hOp;refine⟨_,rfl,c,_,rfl,.inl (SqL.of A6.hc),λkl nkl=>?_⟩;have s7:Same H6 (upd H6 kl (.lst (cs.map V.ref))):=(Same.refl H6).step nkl;have hk7:upd H6 kl (.lst (cs.map V.ref)) kl=some (.lst (cs.map V.ref)):=Ac;dsimp only[Bp];generalize upd H6 kl (.lst (cs.map V.ref))=H7 at s7 hk7;have A7:=A6.same s7;have L7:Lt H7 [(kl,cs,Us),(o,os,Os),(l,ps,Ts)]:=Lt.cons hk7 A7.ht (L6.same s7);have lt7:=L7 (l,ps,Ts) (by simp);refine⟨_,rfl,_,rfl,l,c,ps,Ts,cs,Us,rfl,lt7.1,lt7.2,hlp,hTl,A7.hc,A7.ht,by omega,λS hS=>sh S (hUp S hS),λS hS=>sh S ((g.mem S).mp hS),λdu ds M H8 ndu hdu m1 m2 hds s8=>?_⟩;have A8:=A7.same s8;have eM:=Xfz g.mem hUp m1 m2;have L8:Lt H8 [(du,ds,Ts.filter λS=>decide (Ap Us S=M)),(kl,cs,Us),(o,os,Os),(l,ps,Ts)]:=Lt.cons hdu hds (L7.same s8);dsimp only[Bp];have bad:¬ ∃S∈Us,Ae row S=false:=λ⟨S,h1,h2⟩=>by rw[hUp S h1] at h2;cases h2
  have badO:¬ ∃S∈Os,Ae row S=false:=λ⟨S,h1,h2⟩=>by rw[hOp S h1] at h2;cases h2
  refine⟨_,rfl,_,rfl,r,c,row,cs,Us,rfl,A8,λ_ fo fs Ls H9 nfo hfo hfs hls pwl hfl tab9 b9=>?_,λz=>absurd z bad⟩;have b9:But T H8 H9:=b9;have A9:=A8.but tab9 b9;have L9:=L8.butT A8.tab b9;have eL:=Xf0 g hUp pwl hls m1 m2;rw[eL] at L9 hds L8;have okL:∀S∈Ls,∀y∈S,okN y:=λS hS=>(okp S ((hls S).mp hS).1).1;have hLn:Ls≠[]:=λe=>by
   have:=(hls (Ih row Us)).mpr ((N6 hUp).mpr ⟨Kw hUp,N4 hUp⟩);rw[e] at this;cases this
  dsimp only[Bp];refine⟨_,rfl,fo,fs,Ls,rfl,hfo,hfs,λS hS=>Pr (okp S ((hls S).mp hS).1).2 (by decide),by omega,λHA sA=>⟨_,rfl,Cd ?_⟩⟩;have AA:=A9.same sA;have LA:=L9.same sA;have duA:=LA (du,ds,Ls) (by simp);refine⟨_,rfl,_,rfl,.list (Ls.map tupD),.list (Ls.map tupD),Dp (sA _ _ hfo) (hfs.same sA),Dp duA.1 duA.2,C0 _ (De okL),C0 _ (De okL),Ib _ _,_,rfl,?_⟩;rw[Ia okL okL,Tl rfl];refine Cd ?_;refine⟨_,rfl,by show 0<=sizeLine;decide,λe0 ne0=>?_⟩;have sB:Same HA (upd HA e0 (.lst [])):=(Same.refl HA).step ne0;have he:upd HA e0 (.lst []) e0=some (.lst (([]:List Addr).map V.ref)):=Ac;dsimp only[E9];generalize upd HA e0 (.lst [])=HB at sB he;have AB:=AA.same sB;have LB:=LA.same sB;have okN0:∀S∈([]:List (List Str)),∀y∈S,okN y:=λS hS=>(nomatch hS);have duB:=LB (du,ds,Ls) (by simp);refine⟨.list (Ls.map tupD),.list (([]:List (List Str)).map tupD),Dp duB.1 duB.2,Dp he (Tups.nil _),C0 _ (De okL),C0 _ (De okN0),Ib _ _,_,rfl,?_⟩;rw[Ia okL okN0,Tm hLn];refine Cd ?_;have hfoB:=sB _ _ (sA _ _ hfo);refine⟨_,rfl,.inl ⟨rfl,_,SqL.of hfoB⟩,by show 1<=sizeLine;decide,λp np=>?_⟩;have sC:Same HB (upd HB p (.tup [.str "none"])):=(Same.refl HB).step np;dsimp only;generalize upd HB p (.tup [.str "none"])=HC at sC;have hfoC:=sC _ _ hfoB;refine⟨fo,_,_,rfl,rfl,hfoC,by rw[Oo,Ti];omega,?_⟩;have nf:∀{b:Addr} {o:HO},H8 b=some o->b≠fo:=λe z=>by rw[z,nfo] at e;cases e
  have AD:=(AB.same sC).put (ys:=fs.map V.ref++[.ref p]) hfoC (nf A8.hr) (nf A8.hc);have LD:=(LB.same sC).put (ys:=fs.map V.ref++[.ref p]) hfoC λx hx=>nf (L8 x hx).1;dsimp only;generalize upd HC fo (.lst (fs.map V.ref++[.ref p]))=HD at AD LD;have oD:=LD (o,os,Os) (by simp);have AoD:CrAt HD T (lamPos s_in_order) r o row os Os:=⟨AD.hr,R2,hno,h14,AD.tab,oD.1,oD.2,by omega,coOf _ hOp⟩;refine⟨_,rfl,_,rfl,r,o,row,os,Os,rfl,AoD,λ_ fo2 fs2 L2s HE nfo2 hfo2 hfs2 hls2 pwl2 hfl2 tabE bE=>?_,λz=>absurd z badO⟩;have bE:But T HD HE:=bE;have AE:=AD.but tabE bE;have LE:=LD.butT AD.tab bE;have lE:=LE (l,ps,Ts) (by simp);have oE:=LE (o,os,Os) (by simp);refine⟨_,rfl,_,rfl,l,o,ps,Ts,os,Os,rfl,lE.1,lE.2,hlp,hTl,oE.1,oE.2,by omega,λS hS=>sh S (hOp S hS),λS hS=>sh S ((g.mem S).mp hS),λd2' ds2 M2 HF nd2 hd2 m3 m4 hds2 sF=>?_⟩;rw[Xf0 g hOp pwl2 hls2 m3 m4] at hds2;have okL2:∀S∈L2s,∀y∈S,okN y:=λS hS=>(okp S ((hls2 S).mp hS).1).1;refine⟨.list (L2s.map tupD),.list (L2s.map tupD),Dp (sF _ _ hfo2) (hfs2.same sF),Dp hd2 hds2,C0 _ (De okL2),C0 _ (De okL2),Ib _ _,_,rfl,?_⟩;rw[Ia okL2 okL2,Tl rfl];refine Cd ?_;have AF:=AE.same sF;have LF:=LE.same sF;refine⟨_,rfl,_,rfl,r,c,row,cs,Us,rfl,AF,λ_ fo3 fs3 L3s HG nfo3 hfo3 hfs3 hls3 pwl3 hfl3 tabG bG=>?_,λz=>absurd z bad⟩;have bG:But T HF HG:=bG;have AG:=AF.but tabG bG;have LG:=LF.butT AF.tab bG;have e3:L3s=Ls:=Xor pwl3 pwl λS=>by rw[hls3,hls]
  rw[e3] at hfs3;have duG:=LG (du,ds,Ls) (by simp);refine⟨_,rfl,.list (Ls.map tupD),.list (Ls.map tupD),Dp hfo3 hfs3,Dp duG.1 duG.2,C0 _ (De okL),C0 _ (De okL),Ib _ _,_,rfl,?_⟩;rw[Ia okL okL,Tl rfl];refine Cd ?_;refine⟨_,rfl,_,rfl,r,c,row,cs,Us,rfl,AG,λ_ HH tabH bH=>?_,λz=>absurd z bad⟩;have bH:But T HG HH:=bH;have AH:=AG.but tabH bH;have LH:=LG.butT AG.tab bH;have duH:=LH (du,ds,Ls) (by simp);obtain⟨S,Ls',rfl⟩:∃S Ls',Ls=S::Ls':=by
   cases Ls with
   | nil=>exact absurd rfl hLn
   | cons S Ls'=>exact⟨S,Ls',rfl⟩
  obtain⟨q,ds',rfl⟩:∃q ds',ds=q::ds':=by
   have:=duH.2.1;cases ds with
   | nil=>simp at this
   | cons q ds'=>exact⟨q,ds',rfl⟩
  have hq:HH q=some (.tup (S.map V.str)):=duH.2.2 0 (by simp);have lS:=(hls S).mp Ow;have eS:=((N6 hUp).mp lS).2;refine⟨_,rfl,_,rfl,du,_,_,.ref q,rfl,rfl,SqL.of duH.1,D6 (j:=0) rfl,c,q,cs,Us,S,rfl,AH.hc,AH.ht,hq,by omega,λS hS=>sh S (hUp S hS),(sh S lS.1).1,(sh S lS.1).2,λHI sI=>?_⟩;rw[eS];refine⟨rfl,_,rfl,?_⟩;rw[Tl (show V.int (Ee row Us)=V.int (Ee row Us) from rfl)];refine Cd ?_;have AI:=AH.same sI;have kI:=(LH.same sI) (kl,cs,Us) (by simp);have okU:∀S∈Us,∀y∈S,okN y:=λS hS=>(okp S (hUp S hS)).1;refine⟨_,rfl,_,rfl,.list (Us.map tupD),.list (Us.map tupD),Dp AI.hc AI.ht,Dp kI.1 kI.2,C0 _ (De okU),C0 _ (De okU),Ib _ _,_,rfl,?_⟩;rw[Ia okU okU,Tl rfl];refine Cd ?_;refine⟨_,rfl,_,rfl,_,rfl,c,_,rfl,SqL.of AI.hc,λx1 nx1=>?_⟩;have ecut2:B5 (cs.map V.ref) none (some 59)=(cs.take 59).map V.ref:=Xdj V.ref cs 59;rw[ecut2];have sJ:Same HI (upd HI x1 (.lst ((cs.take 59).map V.ref))):=(Same.refl HI).step nx1;have hxJ:upd HI x1 (.lst ((cs.take 59).map V.ref)) x1=some (.lst ((cs.take 59).map V.ref)):=Ac;dsimp only[Eh,El,E9];generalize upd HI x1 (.lst ((cs.take 59).map V.ref))=HJ at sJ hxJ;have AJ:=AI.same sJ;have hst':=hI.stranger;refine⟨_,rfl,r,row,rfl,AJ.hr,λy hy=>(R2.ok y hy).1,λHK sK=>?_⟩;have sK:Same HJ HK:=sK;have AK:=AJ.same sK;refine⟨by show 1<=sizeLine;decide,λtp ntp=>⟨by show 1<=sizeLine;decide,λx2 nx2=>?_⟩⟩;have sL:=((Same.refl HK).go ntp nx2).step (o:=.lst [.ref tp]) nx2;have htL:upd (upd HK tp (.tup [.str (Dk row)])) x2 (.lst [.ref tp]) tp=some (.tup ([Dk row].map V.str)):=ku Ac nx2;have hx2:upd (upd HK tp (.tup [.str (Dk row)])) x2 (.lst [.ref tp]) x2=some (.lst [.ref tp]):=Ac;dsimp only;generalize upd (upd HK tp (.tup [.str (Dk row)])) x2 (.lst [.ref tp])=HL at sL htL hx2;have AL:=AK.same sL;refine⟨x1,x2,_,_,rfl,rfl,sL _ _ (sK _ _ hxJ),hx2,by rw[Oo,O3,Ti];show _+1<=_;omega,λx3 nx3=>?_⟩;have sM:Same HL (upd HL x3 (.lst ((cs.take 59).map V.ref++[.ref tp]))):=(Same.refl HL).step nx3;have hx3:upd HL x3 (.lst ((cs.take 59).map V.ref++[.ref tp])) x3=some (.lst ((cs.take 59++[tp]).map V.ref)):=by rw[Ac,O5];rfl
  dsimp only;generalize upd HL x3 (.lst ((cs.take 59).map V.ref++[.ref tp]))=HM at sM hx3;have AM:=AL.same sM;have nP:Ae row [Dk row]=false:=by
   cases e:Ae row [Dk row] with
   | false=>rfl
   | true=>exact absurd ((Da e).1 _ Ow) hst'.2
  refine⟨r,x3,row,cs.take 59++[tp],Us.take 59++[[Dk row]],rfl,⟨AM.hr,R2,hno,h14,AM.tab,hx3,Tups.app (Xfy AM.ht 59) (Tups.cons (sM _ _ htL) (Tups.nil _)),by rw[Oy,O3];show _+1<=_;omega,λS hS=>?_⟩,⟨[Dk row],by simp,nP⟩,λH' _ _=>k _⟩;rcases Oz.mp hS with z | z
  ·exact coOf _ hUp S (Px z)
  ·rw[Ot.mp z];exact⟨λy hy=>by rw[Ot.mp hy];exact hst'.1,by show 1<=24;decide⟩
end
end K26
set_option maxHeartbeats 4000000
namespace PySem.OldK
theorem of_tab{h₀ h:Heap}{T:Addr}(ht:isCodeTable h₀ T)(hT:h₀.get? T=some (PySem.W.tabObj #[]))(hT':∃ps,h.get? T=some (PySem.W.tabObj ps))(k:∀b o,b≠T->h₀.get? b=some o->h.get? b=some o):OldK h₀ h:=by
 obtain⟨ps,hps⟩:=hT';refine⟨λb o e=>?_,λb o e=>?_⟩
 ·by_cases z:b=T
  ·subst z;rw[hT] at e;cases e;exact .inr (.inl ⟨ht,rfl, #[],ps,rfl,by simpa using hps⟩)
  ·exact .inl (k b o z e)
 ·by_cases z:b=T
  ·exact⟨_,z ▸ hps⟩
  ·exact⟨o,k b o z e⟩
end PySem.OldK
namespace L2
open PySem PySem.Spec PyProof.Rows
theorem Xqh{P:Program}{w:World}{K:PySem.W.Frag}{mg mb:Str->Option Value}{CX:CXT}{k:Nat}{fa a:Addr}{fd:FuncData}{x:Str}{sp:Sp}{s₁ : Shared}{vs:List Value}{ns:List Int}{T c0:Addr}
  (hT:s₁.heap.get? T=some (PySem.W.tabObj #[])) (hTK:K.lookup T=none) (hhd:PySem.W.codeHdIn K c0 T=true) (hbm:BmOk mg s₁.heap)
  (KX:K.In s₁.heap) (hns:s₁.heap.Ns mainGlobals mg) (hb:s₁.heap.Ns builtinsNs mb) (hbb:∀x:Str,x ≠ "__name__" -> mb x=bootBuiltins x) (hlim:s₁.heap.NoLimit) (hg:s₁.gens = #[])
  (ha:s₁.heap.get? a=some {cls:=.type "list",data:=.seq vs.toArray}) (hi:IntsAre vs ns) (hl:ns.length<=sizeLine) (hr:Room k callerA)
  (F:∀base:Heap,K.In base->base.Ns mainGlobals mg->BmOk mg base->FnOk P w K mg base CX k fa fd [x] sp) (hbind:∀(s:Shared) (u:Value),BindsTo s fd ⟨[u],[]⟩ [(x,u)])
  (hsp:∀H:Hp,H T=some (.tbl #[])->SqL K H a (ns.map V.int)->sp [.ref a] H (λv _=>v = .bl true) λ_ _ _=>False)
  (hCX:∀H e s',CX [] H s₁ (λ_ _ _=>False) e s'->False):
  codeAny (model P w) callerA (.call (.ref fa) ⟨[.ref a],[]⟩) (λr s'=>r = .ok (.ret (.bool true))/\OldK s₁.heap s'.heap/\s'.os=s₁.os/\AllBare s'.gens) s₁:=by
 have rv:=Xbn hi;have lenV:=hi.length;have core:∀H:Hp,H T=some (.tbl #[])->(∀b,b≠T->H b=none \/ ∃o xs,H b=some (.frz o (.lst xs)))->SqL K H a (ns.map V.int)->HOk P w H s₁.heap->(∀b,H b≠none->b=a\/b=T)->(H a≠none->K.lookup a=none) ->
   codeAny (model P w) callerA (.call (.ref fa) ⟨[.ref a],[]⟩) (λr s'=>r = .ok (.ret (.bool true))/\OldK s₁.heap s'.heap/\s'.os=s₁.os/\AllBare s'.gens) s₁:=by
  intro H hHT hO hS hok hA hK;have base_of:∀{b:Addr} {o:Obj},s₁.heap.get? b=some o->H b=none->(Dr s₁.heap H).get? b=some o:=λe n=>Xgg e n;have noA:∀{b:Addr} {o:Obj} {es:Array DictEntry} {ep:Nat},s₁.heap.get? b=some o->o.data = .dict es ep->H b=none:=λ{b o es ep} e d=>by
   cases q:H b with
   | none=>rfl
   | some u=>
    rcases hA b (by rw[q];simp) with e' | e'
    ·subst e';rw[ha] at e;cases e;have d':Data.seq vs.toArray _=Data.dict es ep:=d;cases d'
    ·subst e';rw[hT] at e;cases e;cases d
  have nsK:∀{b:Addr} {m:Str->Option Value},s₁.heap.Ns b m->(Dr s₁.heap H).Ns b m:=λ{b m} ⟨o,es,ep,e,d,r⟩=>⟨o,es,ep,base_of e (noA e d),d,r⟩;have hKb:K.In (Dr s₁.heap H):=λb o e=>base_of (KX b o e) (by
   cases q:H b with
   | none=>rfl
   | some u=>
    rcases hA b (by rw[q];simp) with e' | e'
    ·subst e';rw[hK (by rw[q];simp)] at e;cases e
    ·subst e';rw[hTK] at e;cases e)
  have hbm':BmOk mg (Dr s₁.heap H):=by
   obtain⟨bm,ob,b1,b2,b3,b4,b5,b6⟩:=hbm;refine⟨bm,ob,b1,b2,base_of b3 ?_,b4,b5,b6⟩;cases q:H bm with
   | none=>rfl
   | some u=>
    rcases hA bm (by rw[q];simp) with e' | e'
    ·subst e';rw[ha] at b3;cases b3;exact absurd (show Value.type "list" = Value.type "module" from b4) (by decide)
    ·subst e';rw[hT] at b3;cases b3;cases b4
  have hM:Mod K mg (Dr s₁.heap H):=⟨hKb,nsK hns,⟨mb,nsK hb,hbb⟩,let ⟨mc,h1,h2⟩:=hlim; ⟨mc,nsK h1,h2⟩⟩;have e0:Env0 P w K mg (Dr s₁.heap H) callerA [] s₁ H:=⟨rfl,hM,λb o e=>Xgh e,Nat.le_of_eq (Xgf _ _),trivial,λb hb=>absurd (show b∈([]:List Addr) from hb) (by simp),hok,.of_eq hg⟩;refine codeAny_mono ((F _ hKb (nsK hns) hbm').run callerA [] s₁ H ⟨[.ref a],[]⟩ [.ref a] [.ref a] _ _ hr e0 (hbind s₁ (.ref a)) (.cons rfl .nil) (hsp H hHT hS)) λr s' h=>?_;cases r with
  | error e=>exact(hCX H e s' h).elim
  | ok fl=>
   cases fl with
   | next=>exact False.elim h
   | brk=>exact False.elim h
   | cont=>exact False.elim h
   | ret u=>
    obtain⟨v,H',os,bare,un,hok',r',q⟩:=h;have q':v = .bl true:=q;subst q';obtain rfl:u=Value.bool true:=r';refine⟨rfl,OldK.of_tab (T:=T) (by have C:=PySem.W.codeHd_of_K KX hhd;exact(C.tab hT).isCodeTable) hT ?_ λb o nb e=>?_,os,bare⟩
    ·obtain⟨more,hm⟩:=un.tbls T #[] hHT;exact⟨#[]++more,hok' T _ hm⟩
    cases q:H b with
    | none=>exact un.keep b o e q (by intro z;exact absurd (show b∈([]:List Addr) from z) (by simp)) (by simp)
    | some u=>
     rcases hO b nb with z | ⟨ob,xs,z⟩
     ·rw[q] at z;cases z
     ·have z2:=un.frzs b ob _ z;obtain⟨e1,_⟩:=hok b _ z;obtain⟨e2,_⟩:=hok' b _ z2;rw[e] at e1;cases e1;exact e2
 cases hk:K.lookup a with
 | some o=>
  have e:=KX a o hk;rw[ha] at e;cases e;have naT:a≠T:=λz=>by rw[z,hTK] at hk;cases hk
  refine core (λb=>if b=T then some (.tbl #[]) else none) (Tk rfl) (λb n=>.inl (Tj n)) (.inr ⟨_,vs.toArray,_,hk,rfl,rfl,rfl,by rw[Ox,lenV];exact hl,by simpa using rv⟩) (λb u z=>?_) (λb z=>.inr (Classical.byContradiction λn=>z (Tj n))) λz=>absurd (Tj naT) z;by_cases hb:b=T
  ·have z':=(Tk hb).symm.trans z;cases z';rw[hb];exact hT
  ·have z':=(Tj hb).symm.trans z;cases z'
 | none=>
  have naT:T≠a:=λz=>by rw[z,ha] at hT;cases hT
  refine core (λb=>if b=T then some (.tbl #[]) else if b=a then some (.frz {cls:=.type "list",data:=.seq vs.toArray} (.lst (ns.map V.int))) else none) (Tk rfl) (λb n=>?_) (.inl (.inr ⟨{cls:=.type "list",data:=.seq vs.toArray},(Tj naT.symm).trans (Tk rfl)⟩)) (λb u z=>?_) (λb z=>?_) λ_=>hk
  ·by_cases hb:b=a
   ·exact .inr ⟨_,_,(Tj n).trans (Tk hb)⟩
   ·exact .inl ((Tj n).trans (Tj hb))
  ·by_cases hb:b=T
   ·have z':=(Tk hb).symm.trans z;cases z';rw[hb];exact hT
   ·have z1:=(Tj hb).symm.trans z;by_cases hb:b=a
    ·have z':=(Tk hb).symm.trans z1;cases z';subst hb;exact⟨ha,by rw[Oo];exact hl,vs,_,rv,ha⟩
    ·have z':=(Tj hb).symm.trans z1;cases z'
  ·by_cases hb:b=T
   ·exact .inr hb
   ·by_cases hc:b=a
    ·exact .inl hc
    ·exact absurd ((Tj hb).trans (Tj hc)) z
theorem Xqi{l:PySem.W.OpenLaw}{n k:Nat}{q:Program}{loose:List Str}{XP:(Str->Option Value)->Heap->Prop}{YP:World->Heap->Prop}{d:DefRec}{K:Params->PySem.W.Frag}{CX:World->CXT}{sp:World->Sp}{x:Str}{T c0:Addr}
  (hn:l.most=some n) (hn2:n<=sizeLine) (hdf:d.params.defaults=[]) (hr:Room k callerA)
  (hY:∀(w:World) (h:Heap),YP w h->(K w.params).In h) (hYT:∀(w:World) (h:Heap),YP w h->h.get? T=some (PySem.W.tabObj #[])) (hTK:∀P,(K P).lookup T=none) (hhd:∀P,PySem.W.codeHdIn (K P) c0 T=true)
  (F:∀(w:World) (mg:Str->Option Value) (fa:Addr) (h:Heap),(K w.params).In h->h.Ns mainGlobals mg->mg d.name=some (.ref fa) ->
   ∃fd:FuncData,(∀(s:Shared) (u:Value),BindsTo s fd ⟨[u],[]⟩ [(x,u)]) /\
    ∀base:Heap,(K w.params).In base->base.Ns mainGlobals mg->BmOk mg base->FnOk l.prog w (K w.params) mg base (CX w) k fa fd [x] (sp w))
  (hsp:∀(w:World) (H:Hp) (a:Addr) (ns:List Int),ns.length<=n->H T=some (.tbl #[])->SqL (K w.params) H a (ns.map V.int)->sp w [.ref a] H (λv _=>v = .bl true) λ_ _ _=>False)
  (hCX:∀(w:World) (H:Hp) (s:Shared) (e:Value) (s':Shared),CX w [] H s (λ_ _ _=>False) e s'->False):
  PySem.W.WalkO q loose XP YP l.row.toRowW d [] (λf vs=>PySem.call f vs):=by
 refine Att.attach_call hn hdf λw s₀ s₁ mg mb fa o pm cd doc a vs ns G Y ho hd hcd hmg hobj hints hlen hg=>?_;have KX:=hY w _ Y;obtain⟨fd,hb,hF⟩:=F w mg fa _ KX G.T.g hmg;exact Xqh (hYT w _ Y) (hTK _) (hhd _) G.T.bmain KX G.T.g G.T.b G.T.builtins G.T.nolimit hg hobj hints (Pr hlen hn2) hr hF hb (λH hO hS=>hsp w H a ns hlen hO hS) λH e s'=>hCX w H s₁ e s'
theorem Fn.ofT{P:Program}{w:World}{K:PySem.W.Frag}{h:Heap}{mg:Str->Option Value}{base:Heap}{CX:CXT}{k:Nat}{x:Str}{st:Stmt}{ps:List Str}{sp:Sp}{T:Addr}(X:K.In h)(G:h.Ns mainGlobals mg)(D:DefT K x st T)
  (hb:∀(kV doc pm:Value) (an:Option Addr) (cdv ct:Value) (us:List Value),us.length=ps.length->bindArgs (PySem.W.fnOf x x (D7 st) (Cw st) (defScope st) .none kV doc pm an cdv ct) ⟨us,[]⟩=pure (ps.zip us))
  (ok:∀f fd,FunT K x st f fd T->FnOk P w K mg base CX k f fd ps sp):Fn P w K mg base CX k x ps sp:=by
 obtain⟨f,fd,a,hk,F,F'⟩:=D.ex;exact⟨⟨f,fd,PySem.W.mg_of X G a,hk,F'.binds hb,ok f fd F⟩⟩
end L2
namespace L2
open PySem
theorem len1{us:List Value}(h:us.length=1):∃a,us=[a]:=List.length_eq_one_iff.mp h
theorem len2{us:List Value}(h:us.length=2):∃a b,us=[a,b]:=by
 cases us with
 | nil=>cases h
 | cons a r=>
  obtain⟨b,rfl⟩:=len1 (Nat.succ.inj h);exact⟨a,b,rfl⟩
theorem len3{us:List Value}(h:us.length=3):∃a b c,us=[a,b,c]:=by
 cases us with
 | nil=>cases h
 | cons a r=>
  obtain⟨b,c,rfl⟩:=len2 (Nat.succ.inj h);exact⟨a,b,c,rfl⟩
theorem len4{us:List Value}(h:us.length=4):∃a b c d,us=[a,b,c,d]:=by
 cases us with
 | nil=>cases h
 | cons a r=>
  obtain⟨b,c,d,rfl⟩:=len3 (Nat.succ.inj h);exact⟨a,b,c,d,rfl⟩
end L2
namespace K26
open PySem PySem.Spec PyProof.Rows L2 SH
theorem Xqj{P:Program}{w:World}{K:PySem.W.Frag}{h:Heap}{mg:Str->Option Value}{fa C_NoDitch C_NoPlot T_:Addr}(X:K.In h)(G:h.Ns mainGlobals mg)(hfa:mg "law" = some (.ref fa))
  (d_ask_ditch:DefAt K "ask_ditch" sAsk)
  (d_ditches:DefAt K "ditches" sDitches)
  (d_ends:DefAt K "ends" sEnds)
  (d_spans:DefAt K "spans" sSpans)
  (d_lie_of:DefAt K "lie_of" sLieOf)
  (d_crossings:DefAt K "crossings" sCross)
  (d_told:DefAt K "told" sTold)
  (d_in_order:DefT K "in_order" s_in_order T_)
  (d_plots:DefAt K "plots" s_plots)
  (d_parting:DefAt K "parting" s_parting)
  (d_ask_crowd:DefAt K "ask_crowd" s_ask_crowd)
  (d_counts:DefAt K "counts" s_counts)
  (d_steps_to:DefAt K "steps_to" s_steps_to)
  (d_least:DefAt K "least" s_least)
  (d_toll:DefAt K "toll" s_toll)
  (d_told_paper:DefAt K "told_paper" s_told_paper)
  (d__law_apart:DefAt K "_law_apart" s__law_apart)
  (d__law_total:DefAt K "_law_total" s__law_total)
  (d__law_begin:DefAt K "_law_begin" sBegin)
  (d__law_pick:DefAt K "_law_pick" sPick)
  (d__law_put:DefAt K "_law_put" sPut)
  (d__law_where:DefAt K "_law_where" sWhere)
  (d__law_word:DefAt K "_law_word" sWord)
  (d__law_barred:DefAt K "_law_barred" sBarred)
  (d__law_row:DefAt K "_law_row" sRow)
  (d__law_names:DefAt K "_law_names" sNames)
  (d__law_island:DefAt K "_law_island" sIsland)
  (d__law_island_to:DefAt K "_law_island_to" s__law_island_to)
  (d__law_bars:DefAt K "_law_bars" s__law_bars)
  (d__law_fits:DefAt K "_law_fits" s__law_fits)
  (d__law_plots:DefAt K "_law_plots" s__law_plots)
  (d__law_one:DefAt K "_law_one" s__law_one)
  (d__law_crowd:DefAt K "_law_crowd" s__law_crowd)
  (d__law_tuple:DefAt K "_law_tuple" s__law_tuple)
  (d__law_all_texts:DefAt K "_law_all_texts" s__law_all_texts)
  (d__law_stranger:DefAt K "_law_stranger" s__law_stranger)
  (d__law_refused:DefAt K "_law_refused" s__law_refused)
  (d__law_best:DefAt K "_law_best" s__law_best)
  (d_law:DefAt K "law" s_law)
  (x_NoDitch:ExcAt K "NoDitch" C_NoDitch)
  (x_NoPlot:ExcAt K "NoPlot" C_NoPlot)
  (z_len:PySem.W.nsIn K mainGlobals "len" = some none)
  (z_range:PySem.W.nsIn K mainGlobals "range" = some none)
  (z_list:PySem.W.nsIn K mainGlobals "list" = some none)
  (z_min:PySem.W.nsIn K mainGlobals "min" = some none)
  (z_isinstance:PySem.W.nsIn K mainGlobals "isinstance" = some none)
  (z_all:PySem.W.nsIn K mainGlobals "all" = some none)
  (z_str:PySem.W.nsIn K mainGlobals "str" = some none)
  (z_ValueError:PySem.W.nsIn K mainGlobals "ValueError" = some none)
  (z_sorted:PySem.W.nsIn K mainGlobals "sorted" = some none)
  (z_set:PySem.W.nsIn K mainGlobals "set" = some none)
  (z_enumerate:PySem.W.nsIn K mainGlobals "enumerate" = some none)
  (z_int:PySem.W.nsIn K mainGlobals "int" = some none)
  (z_bool:PySem.W.nsIn K mainGlobals "bool" = some none)
  (z_tuple:PySem.W.nsIn K mainGlobals "tuple" = some none)
  (z_any:PySem.W.nsIn K mainGlobals "any" = some none)
  (z_dict:PySem.W.nsIn K mainGlobals "dict" = some none)
  (z_sum:PySem.W.nsIn K mainGlobals "sum" = some none)
  (z_max:PySem.W.nsIn K mainGlobals "max" = some none)
  : ∃fd:FuncData,(∀(s:Shared) (v:Value),BindsTo s fd ⟨[v],[]⟩ [("_law_script",v)])/\∀base:Heap,K.In base->base.Ns mainGlobals mg->BmOk mg base->FnOk P w K mg base CX0 10 fa fd ["_law_script"] (K1 K T_):=by
 have T:Bl mg:=⟨PySem.W.mg_none_of X G z_len,PySem.W.mg_none_of X G z_range,PySem.W.mg_none_of X G z_list,PySem.W.mg_none_of X G z_min,PySem.W.mg_none_of X G z_isinstance,PySem.W.mg_none_of X G z_all,PySem.W.mg_none_of X G z_str,PySem.W.mg_none_of X G z_ValueError,PySem.W.mg_none_of X G z_sorted,PySem.W.mg_none_of X G z_set,PySem.W.mg_none_of X G z_enumerate,PySem.W.mg_none_of X G z_int,PySem.W.mg_none_of X G z_bool,PySem.W.mg_none_of X G z_tuple,PySem.W.mg_none_of X G z_any,PySem.W.mg_none_of X G z_dict,PySem.W.mg_none_of X G z_sum,PySem.W.mg_none_of X G z_max⟩;obtain⟨f,fd,a,hk,F⟩:=d_law.ex;have e:=hfa.symm.trans (PySem.W.mg_of X G a);cases e;refine⟨fd,?_,λbase hB hG hbm=>?_⟩
 ·obtain⟨oc,od,kV,doc,pm,an,cdv,ct,osl,rfl,lk,hcd⟩:=F.ex;exact λs v=>.of_eq rfl
 ·have FB:Fn P w K mg base CX0 1 "_law_begin" ["_law_script"] (Mq K):=Fn.of X G d__law_begin (λ_ _ _ _ _ _ us hl=>by obtain⟨a,rfl⟩:=L2.len1 hl;rfl) λf fd F=>Xpr F T;have FP:FnPick P w K mg base:=Fn.of X G d__law_pick (λ_ _ _ _ _ _ us hl=>by obtain⟨a,b,rfl⟩:=L2.len2 hl;rfl) λf fd F=>Xps F T;have FU:Fn P w K mg base CX0 1 "_law_put" ["_law_row_here", "_law_name", "_law_at", "_law_to"] Mr:=Fn.of X G d__law_put (λ_ _ _ _ _ _ us hl=>by obtain⟨a,b,c,d,rfl⟩:=L2.len4 hl;rfl) λf fd F=>Xpt F;have FW:Fn P w K mg base CX0 1 "_law_where" ["_law_row_here"] Jv:=Fn.of X G d__law_where (λ_ _ _ _ _ _ us hl=>by obtain⟨a,rfl⟩:=L2.len1 hl;rfl) λf fd F=>Xpu F T;have FO:Fn P w K mg base CX0 1 "_law_word" ["_law_where_here", "_law_one_here", "_law_other"] spWord:=Fn.of X G d__law_word (λ_ _ _ _ _ _ us hl=>by obtain⟨a,b,c,rfl⟩:=L2.len3 hl;rfl) λf fd F=>Xpv F T;have FA:Fn P w K mg base CX0 2 "_law_barred" ["_law_row_here", "_law_name"] spBarredN:=Fn.of X G d__law_barred (λ_ _ _ _ _ _ us hl=>by obtain⟨a,b,rfl⟩:=L2.len2 hl;rfl) λf fd F=>Xpw F T FW FO;have FR:Fn P w K mg base CX0 3 "_law_row" ["_law_draw", "_law_names_here"] spRowN:=Fn.of X G d__law_row (λ_ _ _ _ _ _ us hl=>by obtain⟨a,b,rfl⟩:=L2.len2 hl;rfl) λf fd F=>Xpx F T FP FU FA;have FN:Fn P w K mg base CX0 2 "_law_names" ["_law_draw", "_law_many"] Mw:=Fn.of X G d__law_names (λ_ _ _ _ _ _ us hl=>by obtain⟨a,b,rfl⟩:=L2.len2 hl;rfl) λf fd F=>Xpy F T FP;have FI:Fn P w K mg base CX0 4 "_law_island" ["_law_draw", "_law_most"] spIslandN:=Fn.of X G d__law_island (λ_ _ _ _ _ _ us hl=>by obtain⟨a,b,rfl⟩:=L2.len2 hl;rfl) λf fd F=>Xpz F T FP FN FR;have FK:Fn P w K mg base (CX1 P w) 1 "ask_ditch" ["row", "name"] (Mz C_NoDitch):=Fn.of X G d_ask_ditch (λ_ _ _ _ _ _ us hl=>by obtain⟨a,b,rfl⟩:=L2.len2 hl;rfl) λf fd F=>Xoz F (PySem.W.mg_of X G x_NoDitch.a) x_NoDitch.e;have FD:Fn P w K mg base CX0 1 "ditches" ["row"] spDitches:=Fn.of X G d_ditches (λ_ _ _ _ _ _ us hl=>by obtain⟨a,rfl⟩:=L2.len1 hl;rfl) λf fd F=>Xo1 F T;have FE:Fn P w K mg base (CX1 P w) 2 "ends" ["row", "name"] (M0 C_NoDitch):=Fn.of X G d_ends (λ_ _ _ _ _ _ us hl=>by obtain⟨a,b,rfl⟩:=L2.len2 hl;rfl) λf fd F=>Xo2 F T FK;have FSp:Fn P w K mg base CX0 3 "spans" ["row"] spSpans:=Fn.of X G d_spans (λ_ _ _ _ _ _ us hl=>by obtain⟨a,rfl⟩:=L2.len1 hl;rfl) λf fd F=>Xo4 F FD FE;have FLo:Fn P w K mg base CX0 2 "lie_of" ["here", "there"] spLieOf:=Fn.of X G d_lie_of (λ_ _ _ _ _ _ us hl=>by obtain⟨a,b,rfl⟩:=L2.len2 hl;rfl) λf fd F=>Xo5 F;have FCr:Fn P w K mg base CX0 4 "crossings" ["row"] M4:=Fn.of X G d_crossings (λ_ _ _ _ _ _ us hl=>by obtain⟨a,rfl⟩:=L2.len1 hl;rfl) λf fd F=>Xo6 F FSp FLo;have FTo:Fn P w K mg base CX0 1 "told" ["names"] (spTold K):=Fn.of X G d_told (λ_ _ _ _ _ _ us hl=>by obtain⟨a,rfl⟩:=L2.len1 hl;rfl) λf fd F=>Xo8 F T;have FIo:Fn P w K mg base CX0 4 "in_order" ["some"] (spInOrder T_ (lamPos s_in_order)):=Fn.ofT X G d_in_order (λ_ _ _ _ _ _ us hl=>by obtain⟨a,rfl⟩:=L2.len1 hl;rfl) λf fd F=>Xpa F T hbm;have FPl:Fn P w K mg base CX0 5 "plots" ["row"] (spPlotsA T_ (lamPos s_in_order)):=Fn.of X G d_plots (λ_ _ _ _ _ _ us hl=>by obtain⟨a,rfl⟩:=L2.len1 hl;rfl) λf fd F=>Xpb F FSp FLo FTo FCr FIo;have FS:Fn P w K mg base CX0 1 "_law_stranger" ["_law_row_here"] M5:=Fn.of X G d__law_stranger (λ_ _ _ _ _ _ us hl=>by obtain⟨a,rfl⟩:=L2.len1 hl;rfl) λf fd F=>Xqd F;have FT:Fn P w K mg base CX0 1 "_law_tuple" ["_law_found"] spTuple:=Fn.of X G d__law_tuple (λ_ _ _ _ _ _ us hl=>by obtain⟨a,rfl⟩:=L2.len1 hl;rfl) λf fd F=>Xp9 F T;have FFi:Fn P w K mg base CX0 1 "_law_fits" ["_law_bars_here", "_law_plot"] M9:=Fn.of X G d__law_fits (λ_ _ _ _ _ _ us hl=>by obtain⟨a,b,rfl⟩:=L2.len2 hl;rfl) λf fd F=>Xp3 F;have FBr:Fn P w K mg base CX0 2 "_law_bars" ["_law_row_here"] spBars:=Fn.of X G d__law_bars (λ_ _ _ _ _ _ us hl=>by obtain⟨a,rfl⟩:=L2.len1 hl;rfl) λf fd F=>Xp2 F T FW FO;have FIt:Fn P w K mg base CX0 5 "_law_island_to" ["_law_draw", "_law_most"] spIslTo:=Fn.of X G d__law_island_to (λ_ _ _ _ _ _ us hl=>by obtain⟨a,b,rfl⟩:=L2.len2 hl;rfl) λf fd F=>Xp1 F T FP FI;have FPt:Fn P w K mg base CX0 1 "parting" ["one", "other"] spParting:=Fn.of X G d_parting (λ_ _ _ _ _ _ us hl=>by obtain⟨a,b,rfl⟩:=L2.len2 hl;rfl) λf fd F=>Xpd F T;have FAc:Fn P w K mg base (CX1 P w) 6 "ask_crowd" ["row", "crowd"] (spAskCrowd C_NoPlot T_ (lamPos s_in_order)):=Fn.of X G d_ask_crowd (λ_ _ _ _ _ _ us hl=>by obtain⟨a,b,rfl⟩:=L2.len2 hl;rfl) λf fd F=>Xpe F (PySem.W.mg_of X G x_NoPlot.a) x_NoPlot.e FPl;have FSt:Fn P w K mg base CX0 2 "steps_to" ["crowd", "plot"] spSteps:=Fn.of X G d_steps_to (λ_ _ _ _ _ _ us hl=>by obtain⟨a,b,rfl⟩:=L2.len2 hl;rfl) λf fd F=>Xph F T FPt;have FLe:Fn P w K mg base (CX1 P w) 7 "least" ["row", "crowd"] (spLeast C_NoPlot T_ (lamPos s_in_order)):=Fn.of X G d_least (λ_ _ _ _ _ _ us hl=>by obtain⟨a,b,rfl⟩:=L2.len2 hl;rfl) λf fd F=>Xpi F T FAc FPl FSt;have FCo:Fn P w K mg base (CX1 P w) 7 "counts" ["row", "crowd"] (Nz C_NoPlot T_ (lamPos s_in_order)):=Fn.of X G d_counts (λ_ _ _ _ _ _ us hl=>by obtain⟨a,b,rfl⟩:=L2.len2 hl;rfl) λf fd F=>Xpf F T FAc FD;have FPa:Fn P w K mg base (CX1 P w) 8 "told_paper" ["row", "crowd"] (N0 C_NoPlot T_ (lamPos s_in_order)):=Fn.of X G d_told_paper (λ_ _ _ _ _ _ us hl=>by obtain⟨a,b,rfl⟩:=L2.len2 hl;rfl) λf fd F=>Xpm F T FCo;have FTl:Fn P w K mg base (CX1 P w) 9 "toll" ["row", "crowd"] (N1 C_NoPlot T_ (lamPos s_in_order)):=Fn.of X G d_toll (λ_ _ _ _ _ _ us hl=>by obtain⟨a,b,rfl⟩:=L2.len2 hl;rfl) λf fd F=>Xpk F T FPa;have FLp:Fn P w K mg base CX0 3 "_law_plots" ["_law_row_here"] spPlotsO:=Fn.of X G d__law_plots (λ_ _ _ _ _ _ us hl=>by obtain⟨a,rfl⟩:=L2.len1 hl;rfl) λf fd F=>Xp4 F T FFi FBr;have FOn:Fn P w K mg base CX0 2 "_law_one" ["_law_draw", "_law_some"] spOne:=Fn.of X G d__law_one (λ_ _ _ _ _ _ us hl=>by obtain⟨a,b,rfl⟩:=L2.len2 hl;rfl) λf fd F=>Xp6 F T FP;have FCw:Fn P w K mg base CX0 3 "_law_crowd" ["_law_draw", "_law_some"] spCrowdL:=Fn.of X G d__law_crowd (λ_ _ _ _ _ _ us hl=>by obtain⟨a,b,rfl⟩:=L2.len2 hl;rfl) λf fd F=>Xp7 F T FP FOn;have FAa:Fn P w K mg base CX0 1 "_law_apart" ["_law_one_here", "_law_other"] spApart:=Fn.of X G d__law_apart (λ_ _ _ _ _ _ us hl=>by obtain⟨a,b,rfl⟩:=L2.len2 hl;rfl) λf fd F=>Xpn F T;have FLt:Fn P w K mg base CX0 2 "_law_total" ["_law_crowd_here", "_law_plot"] spSteps:=Fn.of X G d__law_total (λ_ _ _ _ _ _ us hl=>by obtain⟨a,b,rfl⟩:=L2.len2 hl;rfl) λf fd F=>Xpp F T FAa;have FAt:Fn P w K mg base CX0 2 "_law_all_texts" ["_law_found"] Ob:=Fn.of X G d__law_all_texts (λ_ _ _ _ _ _ us hl=>by obtain⟨a,rfl⟩:=L2.len1 hl;rfl) λf fd F=>Xqb F T FT;have FBe:Fn P w K mg base CX0 3 "_law_best" ["_law_some", "_law_crowd_here"] spBest:=Fn.of X G d__law_best (λ_ _ _ _ _ _ us hl=>by obtain⟨a,b,rfl⟩:=L2.len2 hl;rfl) λf fd F=>Xqf F T FLt;have FRf:Fn P w K mg base CX0 8 "_law_refused" ["_law_row_here", "_law_crowd_here"] (Od T_ (lamPos s_in_order)):=Fn.of X G d__law_refused (λ_ _ _ _ _ _ us hl=>by obtain⟨a,b,rfl⟩:=L2.len2 hl;rfl) λf fd F=>by
   obtain⟨fa,fda,hma,hka,hba,hFa⟩:=FLe.ex;exact Xqe F (PySem.W.mg_of X G x_NoPlot.a) hma hka hba hFa x_NoPlot.self
  exact Xqg F T FB FIt FLp FS FCw FBe FAt FLt FRf FLe FTl
theorem walk{l:PySem.W.OpenLaw}{q:Program}{loose:List Str}{XP:(Str->Option Value)->Heap->Prop}{YP:World->Heap->Prop}{d:DefRec}{K:Params->PySem.W.Frag}{T c0:Addr}(hn:l.most=some 63)(hdf:d.params.defaults=[])
  (hY:∀(w:World) (h:Heap),YP w h->(K w.params).In h) (hYT:∀(w:World) (h:Heap),YP w h->h.get? T=some (PySem.W.tabObj #[])) (hTK:∀P,(K P).lookup T=none) (hhd:∀P,PySem.W.codeHdIn (K P) c0 T=true)
  (F:∀(w:World) (mg:Str->Option Value) (fa:Addr) (h:Heap),(K w.params).In h->h.Ns mainGlobals mg->mg d.name=some (.ref fa) ->
   ∃fd:FuncData,(∀(s:Shared) (u:Value),BindsTo s fd ⟨[u],[]⟩ [("_law_script",u)])/\∀base:Heap,(K w.params).In base->base.Ns mainGlobals mg->BmOk mg base->FnOk l.prog w (K w.params) mg base CX0 10 fa fd ["_law_script"] (K1 (K w.params) T)):
  PySem.W.WalkO q loose XP YP l.row.toRowW d [] (λf vs=>PySem.call f vs):=
 L2.Xqi (n:=63) (k:=10) (x := "_law_script") (CX:=λ_=>CX0) (sp:=λw=>K1 (K w.params) T) hn (by decide) hdf ⟨rfl,by decide,by decide,rfl⟩ hY hYT hTK hhd F (λ_ _ a ns hl hT hS=>⟨a,ns,rfl,hS,hl,hT,λ_=>rfl⟩) λ_ _ _ _ _ z=>z
end K26
open PySem PySem.W PyProof.Rows
namespace HD
open PySem PySem.W PySem.Calls PyProof.Rows
abbrev O := Option SharedT
noncomputable abbrev B (a b:O) (c:Bool):O := @Bool.rec (fun _=>O) a b c
noncomputable def go (F:SharedT→Thread→Option (SharedT×Thread)) (ok:Thread→Bool) (n:Nat):SharedT→Thread→O := @Nat.rec (fun _=>SharedT→Thread→O) (fun _ _=>none) (fun _ ih s t=>B (B none (@Option.rec (SharedT×Thread) (fun _=>O) none (fun x=>@Prod.rec SharedT Thread (fun _=>O) ih x) (F s t)) (ok t)) (some s) (through t)) n
theorem go_spec {tb p w m a z}:∀ n s t,go (stepT (denote tb) p w) (stepOk m a) n s t=some z→topRun tb p w m a n s.abs t=some z.abs := by
 intro n
 induction n with
 | zero=>intro s t h;cases h
 | succ n ih=>
  intro s t h
  unfold topRun
  have h':B (B none (@Option.rec (SharedT×Thread) (fun _=>O) none (fun x=>@Prod.rec SharedT Thread (fun _=>O) (go (stepT (denote tb) p w) (stepOk m a) n) x) (stepT (denote tb) p w s t)) (stepOk m a t)) (some s) (through t)=some z := h
  cases ht:through t with
  | true=>rw [ht] at h';cases h';rfl
  | false=>
   cases hk:stepOk m a t with
   | false=>rw [ht,hk] at h';cases h'
   | true=>
    cases hs:stepT (denote tb) p w s t with
    | none=>rw [ht,hk,hs] at h';cases h'
    | some x=>
     rw [ht,hk,hs] at h'
     rw [stepT_spec hs]
     exact ih _ _ h'
noncomputable def tree (P:Params):BT := ((boot_heap P).objs.toList.foldl (fun (x:BT×Nat) o=>(x.1.ins x.2 o,x.2+1)) (.nil,0)).1
theorem tree_abs (P):absHeap (tree P) 11 {}=boot_heap P := by kernel_rfl
theorem boot_is (P):((boot_heap P).isNs mainGlobals,(boot_heap P).objs.size,(boot_heap P).nsMap mainGlobals "__annotations__")=(true,11,some (.ref 6)) := by kernel_rfl
abbrev ck (p:Program) (g h:Heap) (z:Shared) := staticsOk (importedModules p.main.body) g h&&namesBound p h&&gensDone z&&laidKept g h
theorem left {p q loose Xt α} {Yf:Shared→α} {Ya N g} (e:opening p=plainProg p.main.scope.names) (hN:Nat.ble 600 N=true) (f:∀ s,fenceModules? p s=some s)
 (h:∀ w:World,(fun os=>(go (Fast.tw10156331382660048174 (Fast.tw11892475500146522536 Fast.tw14364793385576792824) p w) (Fast.tw6613529449190102663 11 (some (.ref 6))) N ⟨tree w.params,11,{},#[],boot_drawn,boot_toks,os⟩ (topStub p)).map fun z=>(ck p (boot_heap w.params) z.abs.heap z.abs,Fast.tw4187177175401517315 q loose (importedModules p.main.body) Xt g z.abs,Yf z.abs))=fun _=>some (true,openGood q loose,Ya w)):LeftO p q loose Xt Yf Ya N g := fun w=>by
 rw [←Fast.te10156331382660048174,←Fast.te11892475500146522536,←Fast.te14364793385576792824,←Fast.te6613529449190102663,←Fast.te4187177175401517315] at h
 obtain ⟨⟨hp,gs,d,k,os⟩,e1,e2⟩ := Option.map_eq_some_iff.mp (boot_open e hN f w)
 obtain ⟨rfl,rfl,rfl,rfl⟩:hp=boot_heap w.params∧gs=#[]∧d=boot_drawn∧k=boot_toks := by simpa using e2
 obtain ⟨z1,z2,z3⟩:_∧_∧_ := by simpa only [Prod.mk.injEq] using boot_is w.params
 obtain ⟨z,hz,l⟩ := Option.map_eq_some_iff.mp (congrFun (h w) os)
 obtain ⟨l1,l2,l3⟩:_∧_∧_ := by simpa only [Prod.mk.injEq] using l
 have r := go_spec _ _ _ hz
 rw [show (SharedT.mk (tree w.params) 11 {} #[] boot_drawn boot_toks os).abs=⟨boot_heap w.params,#[],boot_drawn,boot_toks,os⟩ by show Shared.mk (absHeap (tree w.params) 11 {}) _ _ _ _=_;rw [tree_abs]] at r
 unfold openEnds
 rw [e1]
 show (topFrom treeTable p w N _).map _=_
 rw [show topFrom treeTable p w N ⟨boot_heap w.params,#[],boot_drawn,boot_toks,os⟩=some z.abs by
  unfold topFrom
  dsimp only
  rw [z1,z2,z3,r]
  show (match ck p (boot_heap w.params) z.abs.heap z.abs with | true=>_ | false=>_)=_
  rw [l1]]
 exact congrArg some (Prod.ext l2 l3)
def isDef:Stmt→Bool
 | .Assign _ (.Constant (.str _) _ _) _=>false
 | _=>true
def q:Program := {PySem.Challenge.pw_shoretold_k26_whole_least_plots_of_a_cro with main:={PySem.Challenge.pw_shoretold_k26_whole_least_plots_of_a_cro.main with body:=PySem.Challenge.pw_shoretold_k26_whole_least_plots_of_a_cro.main.body.filter isDef}}
theorem said:PySem.Challenge.rw_shoretold_k26_whole_least_plots_of_a_cro.wellSaid=true := by
 rw [Fast.te9446332074065402090]
 kernel_rfl
end HD
local macro_rules | `(tactic| o_head $H) => `(tactic| refine PySem.W.holds_open (q:=HD.q) (loose:=[]) (Xt:=fun s=>xlAt HD.q [] s&&recOk [] s) (XP:=XL HD.q []) (N:=1000000) ?hl (Hook.of $H) (Hook.keeps $H) (fun s e=>xl_of s (Bool.and_eq_true_iff.mp e).1) XL.keeps (by rfl) (by rfl) (by rfl) (fun s e=>recFacts_of (Bool.and_eq_true_iff.mp e).2) (by rfl) (by assumption) (by decide +kernel) ⟨rfl,rfl,rfl,rfl,rfl,by decide +kernel⟩ ?hw ?hc)
set_option maxRecDepth 100000 in
set_option maxHeartbeats 0 in
theorem PySem.Challenge.cw_shoretold_k26_whole_least_plots_of_a_cro_holds : PySem.Challenge.rw_shoretold_k26_whole_least_plots_of_a_cro.Holds := by
 w_on
 refine holds_law HD.said fun said=>?_
 k_head
 case hw=>w_witness2
 case hl=>exact HD.left (by kernel_rfl) (by kernel_rfl) (fun s=>by kernel_rfl) (fun w=>by kernel_rfl)
 k_fill
 refine K26.walk (l:=PySem.Challenge.rw_shoretold_k26_whole_least_plots_of_a_cro) (T:=96) (c0:=100) rfl rfl (λw h Y=>PySem.W.km_in_of Y) (λw h Y=>PySem.W.km_tabs_of Y _ (Ot.mpr rfl)) ?hTK ?hhd ?F
 case hTK=>intro P;kernel_rfl
 case hhd=>intro P;kernel_rfl
 case F=>
  intro w mg fa h KX G hmg;refine' K26.Xqj KX G hmg ?d_ask_ditch ?d_ditches ?d_ends ?d_spans ?d_lie_of ?d_crossings ?d_told ?d_in_order ?d_plots ?d_parting ?d_ask_crowd ?d_counts ?d_steps_to ?d_least ?d_toll ?d_told_paper ?d__law_apart ?d__law_total ?d__law_begin ?d__law_pick ?d__law_put ?d__law_where ?d__law_word ?d__law_barred ?d__law_row ?d__law_names ?d__law_island ?d__law_island_to ?d__law_bars ?d__law_fits ?d__law_plots ?d__law_one ?d__law_crowd ?d__law_tuple ?d__law_all_texts ?d__law_stranger ?d__law_refused ?d__law_best ?d_law ?x_NoDitch ?x_NoPlot ?z_len ?z_range ?z_list ?z_min ?z_isinstance ?z_all ?z_str ?z_ValueError ?z_sorted ?z_set ?z_enumerate ?z_int ?z_bool ?z_tuple ?z_any ?z_dict ?z_sum ?z_max
  (case d_ask_ditch=>(refine' L2.DefAt.of ?a ?l ?c ?k;(case a=>k_is);(case l=>k_is);(case c=>k_is);(case k=>k_is)))
  (case d_ditches=>(refine' L2.DefAt.of ?a ?l ?c ?k;(case a=>k_is);(case l=>k_is);(case c=>k_is);(case k=>k_is)))
  (case d_ends=>(refine' L2.DefAt.of ?a ?l ?c ?k;(case a=>k_is);(case l=>k_is);(case c=>k_is);(case k=>k_is)))
  (case d_spans=>(refine' L2.DefAt.of ?a ?l ?c ?k;(case a=>k_is);(case l=>k_is);(case c=>k_is);(case k=>k_is)))
  (case d_lie_of=>(refine' L2.DefAt.of ?a ?l ?c ?k;(case a=>k_is);(case l=>k_is);(case c=>k_is);(case k=>k_is)))
  (case d_crossings=>(refine' L2.DefAt.of ?a ?l ?c ?k;(case a=>k_is);(case l=>k_is);(case c=>k_is);(case k=>k_is)))
  (case d_told=>(refine' L2.DefAt.of ?a ?l ?c ?k;(case a=>k_is);(case l=>k_is);(case c=>k_is);(case k=>k_is)))
  (case d_in_order=>(refine' L2.DefT.of ?a ?l ?c ?k ?t;(case a=>k_is);(case l=>k_is);(case c=>k_is);(case k=>k_is);(case t=>kernel_rfl)))
  (case d_plots=>(refine' L2.DefAt.of ?a ?l ?c ?k;(case a=>k_is);(case l=>k_is);(case c=>k_is);(case k=>k_is)))
  (case d_parting=>(refine' L2.DefAt.of ?a ?l ?c ?k;(case a=>k_is);(case l=>k_is);(case c=>k_is);(case k=>k_is)))
  (case d_ask_crowd=>(refine' L2.DefAt.of ?a ?l ?c ?k;(case a=>k_is);(case l=>k_is);(case c=>k_is);(case k=>k_is)))
  (case d_counts=>(refine' L2.DefAt.of ?a ?l ?c ?k;(case a=>k_is);(case l=>k_is);(case c=>k_is);(case k=>k_is)))
  (case d_steps_to=>(refine' L2.DefAt.of ?a ?l ?c ?k;(case a=>k_is);(case l=>k_is);(case c=>k_is);(case k=>k_is)))
  (case d_least=>(refine' L2.DefAt.of ?a ?l ?c ?k;(case a=>k_is);(case l=>k_is);(case c=>k_is);(case k=>k_is)))
  (case d_toll=>(refine' L2.DefAt.of ?a ?l ?c ?k;(case a=>k_is);(case l=>k_is);(case c=>k_is);(case k=>k_is)))
  (case d_told_paper=>(refine' L2.DefAt.of ?a ?l ?c ?k;(case a=>k_is);(case l=>k_is);(case c=>k_is);(case k=>k_is)))
  (case d__law_apart=>(refine' L2.DefAt.of ?a ?l ?c ?k;(case a=>k_is);(case l=>k_is);(case c=>k_is);(case k=>k_is)))
  (case d__law_total=>(refine' L2.DefAt.of ?a ?l ?c ?k;(case a=>k_is);(case l=>k_is);(case c=>k_is);(case k=>k_is)))
  (case d__law_begin=>(refine' L2.DefAt.of ?a ?l ?c ?k;(case a=>k_is);(case l=>k_is);(case c=>k_is);(case k=>k_is)))
  (case d__law_pick=>(refine' L2.DefAt.of ?a ?l ?c ?k;(case a=>k_is);(case l=>k_is);(case c=>k_is);(case k=>k_is)))
  (case d__law_put=>(refine' L2.DefAt.of ?a ?l ?c ?k;(case a=>k_is);(case l=>k_is);(case c=>k_is);(case k=>k_is)))
  (case d__law_where=>(refine' L2.DefAt.of ?a ?l ?c ?k;(case a=>k_is);(case l=>k_is);(case c=>k_is);(case k=>k_is)))
  (case d__law_word=>(refine' L2.DefAt.of ?a ?l ?c ?k;(case a=>k_is);(case l=>k_is);(case c=>k_is);(case k=>k_is)))
  (case d__law_barred=>(refine' L2.DefAt.of ?a ?l ?c ?k;(case a=>k_is);(case l=>k_is);(case c=>k_is);(case k=>k_is)))
  (case d__law_row=>(refine' L2.DefAt.of ?a ?l ?c ?k;(case a=>k_is);(case l=>k_is);(case c=>k_is);(case k=>k_is)))
  (case d__law_names=>(refine' L2.DefAt.of ?a ?l ?c ?k;(case a=>k_is);(case l=>k_is);(case c=>k_is);(case k=>k_is)))
  (case d__law_island=>(refine' L2.DefAt.of ?a ?l ?c ?k;(case a=>k_is);(case l=>k_is);(case c=>k_is);(case k=>k_is)))
  (case d__law_island_to=>(refine' L2.DefAt.of ?a ?l ?c ?k;(case a=>k_is);(case l=>k_is);(case c=>k_is);(case k=>k_is)))
  (case d__law_bars=>(refine' L2.DefAt.of ?a ?l ?c ?k;(case a=>k_is);(case l=>k_is);(case c=>k_is);(case k=>k_is)))
  (case d__law_fits=>(refine' L2.DefAt.of ?a ?l ?c ?k;(case a=>k_is);(case l=>k_is);(case c=>k_is);(case k=>k_is)))
  (case d__law_plots=>(refine' L2.DefAt.of ?a ?l ?c ?k;(case a=>k_is);(case l=>k_is);(case c=>k_is);(case k=>k_is)))
  (case d__law_one=>(refine' L2.DefAt.of ?a ?l ?c ?k;(case a=>k_is);(case l=>k_is);(case c=>k_is);(case k=>k_is)))
  (case d__law_crowd=>(refine' L2.DefAt.of ?a ?l ?c ?k;(case a=>k_is);(case l=>k_is);(case c=>k_is);(case k=>k_is)))
  (case d__law_tuple=>(refine' L2.DefAt.of ?a ?l ?c ?k;(case a=>k_is);(case l=>k_is);(case c=>k_is);(case k=>k_is)))
  (case d__law_all_texts=>(refine' L2.DefAt.of ?a ?l ?c ?k;(case a=>k_is);(case l=>k_is);(case c=>k_is);(case k=>k_is)))
  (case d__law_stranger=>(refine' L2.DefAt.of ?a ?l ?c ?k;(case a=>k_is);(case l=>k_is);(case c=>k_is);(case k=>k_is)))
  (case d__law_refused=>(refine' L2.DefAt.of ?a ?l ?c ?k;(case a=>k_is);(case l=>k_is);(case c=>k_is);(case k=>k_is)))
  (case d__law_best=>(refine' L2.DefAt.of ?a ?l ?c ?k;(case a=>k_is);(case l=>k_is);(case c=>k_is);(case k=>k_is)))
  (case d_law=>(refine' L2.DefAt.of ?a ?l ?c ?k;(case a=>k_is);(case l=>k_is);(case c=>k_is);(case k=>k_is)))
  (case x_NoDitch=>(refine' ⟨?a,?e,?ga,?gn,?cl,?sb,?so,?sv,?ss,?ic,?ty⟩;(case a=>k_is);(case e=>k_exc);(case ga=>k_is);(case gn=>k_is);(case cl=>k_is);(case sb=>k_is);(case so=>k_is);(case sv=>k_is);(case ss=>k_is);(case ic=>k_is);(case ty=>k_is)))
  (case x_NoPlot=>(refine' ⟨?a,?e,?ga,?gn,?cl,?sb,?so,?sv,?ss,?ic,?ty⟩;(case a=>k_is);(case e=>k_exc);(case ga=>k_is);(case gn=>k_is);(case cl=>k_is);(case sb=>k_is);(case so=>k_is);(case sv=>k_is);(case ss=>k_is);(case ic=>k_is);(case ty=>k_is)))
  (case z_len=>k_is);(case z_range=>k_is);(case z_list=>k_is);(case z_min=>k_is);(case z_isinstance=>k_is);(case z_all=>k_is);(case z_str=>k_is);(case z_ValueError=>k_is);(case z_sorted=>k_is);(case z_set=>k_is);(case z_enumerate=>k_is);(case z_int=>k_is);(case z_bool=>k_is);(case z_tuple=>k_is);(case z_any=>k_is);(case z_dict=>k_is);(case z_sum=>k_is);(case z_max=>k_is)
#print axioms PySem.Challenge.cw_shoretold_k26_whole_least_plots_of_a_cro_holds
