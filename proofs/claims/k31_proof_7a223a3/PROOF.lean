import PyProof.Rows.All
import Wide.All
import OpenK.AllK
import Wide.FinOn
import PySem.Challenge.RW_shoretold_k31_the_plots_of_a_ground
set_option bootstrap.genMatcherCode false
noncomputable section
set_option Elab.async false
set_option linter.all false
set_option maxRecDepth 100000
abbrev Oh := @List.length_map
abbrev Oi := @List.getElem?_eq_getElem
abbrev Oj := @Nat.le_refl
abbrev Ol := @List.size_toArray
abbrev Om := @List.mem_singleton
abbrev Oo := @List.length_append
abbrev Op := @List.mem_append
abbrev Oq := @List.map_append
abbrev Os := @List.mem_cons_self
abbrev Ot := @List.mem_cons_of_mem
abbrev Ou := @List.mem_filter
abbrev Ov := @List.length_take
abbrev Ow := @Nat.ne_of_lt
abbrev Ox := @List.getElem?_map
abbrev Oy := @List.getElem?_eq_some_iff
abbrev Oz := @List.getD_eq_getElem?_getD
abbrev O0 := @Option.some.inj
abbrev O1 := @Array.length_toList
abbrev O2 := @List.mem_cons
abbrev O3 := @Bool.false_ne_true
abbrev O4 := @Bool.and_eq_true
abbrev O5 := @List.mem_map
abbrev O6 := @List.take_succ_eq_append_getElem
abbrev O7 := @Nat.lt_of_lt_of_le
abbrev O8 := @List.filter_append
abbrev O9 := @List.all_eq_true
abbrev Pa := @List.getElem_mem
abbrev Pb := @List.map_cons
abbrev Pc := @List.pairwise_append
abbrev Pd := @Nat.le_trans
abbrev Pe := @List.length_cons
abbrev Pf := @List.take_append_drop
abbrev Pg := @List.append_assoc
abbrev Ph := @List.mem_append_right
abbrev Pi := @List.filter_eq_self
abbrev Pj := @List.map_map
abbrev Pk := @List.length_drop
abbrev Pl := @Int.eq_ofNat_of_zero_le
abbrev Pm := @Nat.zero_le
abbrev Pn := @List.length_filter_le
abbrev Po := @List.mem_iff_getElem
abbrev Pp := @List.mem_of_mem_take
abbrev Pq := @List.mem_of_mem_drop
abbrev Pr := @List.length_eq_zero_iff
abbrev Ps := @List.append_nil
abbrev Pt := @List.take_length
abbrev Pu := @List.filter_cons
abbrev Pw := @List.length_singleton
abbrev Px := @List.length_range
abbrev Py := @List.filterMap_cons
abbrev Pz := @List.range_succ
abbrev P0 := @List.take_of_length_le
abbrev P1 := @List.mem_range
abbrev P2 := @List.mem_append_left
abbrev P3 := @List.take_sublist
abbrev P4 := @List.lookup_cons
abbrev P5 := @Nat.lt_irrefl
abbrev P6 := @Bool.false_eq_true
abbrev P7 := @Bool.false_and
abbrev P8 := @List.Perm.append_left
abbrev P9 := @List.map_congr_left
abbrev Qa := @List.countP_cons
abbrev Qb := @Nat.lt_succ_of_lt
abbrev Qc := @Nat.le_succ
abbrev Qd := @List.drop_eq_nil_of_le
abbrev Qe := @Bool.eq_iff_iff
abbrev Qf := @List.nodup_cons
abbrev Qg := @Bool.true_and
abbrev Qh := @List.length_reverse
abbrev Qi := @List.nodup_append
abbrev Qj := @List.mem_singleton_self
abbrev Qk := @List.mem_of_getElem?
abbrev Ql := @List.drop_sublist
abbrev Qm := @List.getElem?_append_left
abbrev Qn := @List.length_nil
abbrev Qo := @List.getElem?_eq_none
abbrev Qp := @Nat.not_lt_zero
abbrev Qq := @List.getElem?_toArray
abbrev Qr := @List.perm_append_comm
abbrev Qs := @Option.isSome_iff_exists
abbrev Qt := @Sum.inr.inj
abbrev Qu := @List.any_eq_true
abbrev Qv := @Nat.lt_trans
abbrev Qw := @Nat.zero_add
abbrev Qx := @List.replicate_succ
abbrev Qy := @Option.map_some
abbrev Qz := @Nat.min_eq_left
abbrev Q0 := @List.dropWhile_cons
abbrev Q3 := @List.takeWhile_cons
abbrev Q4 := @List.filter_eq_nil_iff
abbrev Q5 := @List.getElem?_append_right
abbrev Q6 := @List.getElem_map
abbrev Q7 := @List.pairwise_cons
abbrev Q8 := @List.sum_cons
abbrev Q9 := @List.getElem?_drop
abbrev Ra := @List.pairwise_iff_getElem
abbrev Rb := @List.drop_eq_getElem_cons
abbrev Rc := @List.exists_mem_of_ne_nil
abbrev Rf := @List.nil_append
abbrev Rg := @Bool.eq_false_iff
abbrev Rh := @List.count_append
abbrev Ri := @List.flatMap_cons
abbrev Rj := @List.flatMap_append
abbrev Rk := @List.perm_middle
abbrev Rl := @List.drop_zero
abbrev Rm := @List.count_eq_zero
abbrev Ro := @List.countP_eq_length_filter
abbrev Rp := @List.find?_cons
abbrev Rq := @Array.getElem?_toList
abbrev Rr := @Bool.or_eq_true
abbrev Rs := @Int.toNat_natCast
abbrev Rt := @List.pairwise_map
abbrev Ru := @List.count_cons_self
abbrev Rv := @List.Perm.refl
abbrev Rw := @List.getElem_inj
abbrev Rx := @List.ext_getElem
abbrev Ry := @List.flatMap_nil
abbrev Rz := @Nat.le_of_lt
abbrev R0 := @List.getElem?_take_of_lt
abbrev R1 := @List.mem_filterMap
abbrev R4 := @Int.emod_lt_of_pos
abbrev R5 := @List.getElem?_set_self
abbrev R6 := @Option.map_eq_some_iff
abbrev R7 := @List.length_eq_one_iff
abbrev R8 := @List.flatten_cons
abbrev R9 := @List.getElem_take
abbrev Sa := @Nat.lt_of_succ_lt
abbrev Sb := @List.drop_take
abbrev Sc := @List.set_set
abbrev Sd := @List.map_reverse
abbrev Se := @List.getElem?_set_ne
abbrev Sf := @List.getElem_toArray
abbrev Sg := @List.any_cons
abbrev Sh := @List.map_take
abbrev Si := @List.map_drop
abbrev Sj := @List.of_mem_zip
abbrev Sk := @Bool.or_eq_true_iff
abbrev Sl := @List.filter_nil
abbrev Sm := @Array.Perm.refl
abbrev Sn := @Int.emod_nonneg
abbrev So := @List.length_pos_iff
abbrev Sq := @Option.isSome_some
abbrev Sr := @Nat.lt_of_le_of_lt
abbrev Ss := @Nat.sub_zero
abbrev Su := @List.count_pos_iff
abbrev Sv := @List.map_inj_right
abbrev Sw := @List.getElem?_take
abbrev Sx := @Bool.and_false
abbrev Sy := @List.reverse_cons
abbrev Sz := @Bool.not_eq_true'
abbrev S5 := @List.getElem_drop
abbrev S6 := @Bool.or_false
abbrev S7 := @List.all_cons
abbrev S8 := @List.map_nil
abbrev S9 := @Bool.or_true
abbrev Ta := @PySem.wpAny_bind
abbrev Tb := @PySem.wpAny_pure
abbrev Tc := @PyProof.Rows.wpS_bind
abbrev Td := @PyProof.Rows.wpS_pure
abbrev Te := @PySem.sizeLine_eq
abbrev Tf := @if_neg
abbrev Tg := @if_pos
abbrev Th := @decide_eq_true
abbrev Ti := @decide_eq_false
abbrev Tj := @of_decide_eq_true
abbrev Tk := @of_decide_eq_false
abbrev Tl := @PySem.Heap.lt_size
abbrev Tm := @PySem.Heap.get?_push_of_some
abbrev Tn := @PySem.Heap.SameBut.update
local macro_rules | `(tactic| walk_at "s") => `(tactic| exact ⟨rfl,rfl,rfl,by decide +kernel,rfl,by decide +kernel,by decide +kernel⟩)
local macro_rules | `(tactic| walk_at "l") => `(tactic| (intro vs H Q E h;(repeat (obtain ⟨_,h⟩ := h));subst_vars;rfl))
local macro_rules | `(tactic| walk_at "i") => do let v:=#["cdv","A","outer","s","H","vs","Q","E","hr","h"].map fun x=>Lean.mkIdent (.mkSimple x);`(tactic| intro $[$v]*)
open PySem in
abbrev Za:=PySem.W.Frag
open PySem in
abbrev Zb:=List Str
open PySem in
abbrev Zc:=Value→Shared→Prop
open PySem.W (instObj methodObj hideAll hideAll_get of_hideAll lookIn plainGet findIn specialIn isFn keepIn mroIn kitOne kia_one kitx_list kitx_dict callWith_K cellsFrom_some fnOf codeIn excIn exmOne subIn clsIn KitX nsIn mg_of isClsIn typeIn kitCls kla_fn tabObj codeHdIn CodeHd codeHd_of_K mg_none_of)
open PySem PySem.Spec PyProof.Rows
namespace L2
abbrev Key:=Sum Int Str
def Ec:Key->Value->Bool
 | .inl k,v=>Value.isInt k v
 | .inr x,v=>Value.isStrOf x v
def keyH (w:World):Key->Int
 | .inl k=>hashInt k
 | .inr x=>hashStr w x
theorem Dx:∀{k:Key} {v:Value},Ec k v=true->(∃i t,k=Sum.inl i/\v=Value.int i t)\/(∃x t,k=Sum.inr x/\v=Value.str x t)
 | .inl i,v,h=>by
  obtain⟨t,e⟩:=Value.isInt_shape (k:=i) (v:=v) h;exact .inl ⟨i,t,rfl,e⟩
 | .inr x,v,h=>by
  obtain⟨t,e⟩:=Value.isStrOf_shape (x:=x) (v:=v) h;exact .inr ⟨x,t,rfl,e⟩
def Xf2(i)(t):Ec (.inl i) (.int i t)=true:=by simp[Ec,Value.isInt]
def Xf3(x)(t):Ec (.inr x) (.str x t)=true:=by simp[Ec,Value.isStrOf]
def Xf4(a b):decide ((Sum.inl a:Key)=Sum.inl b)=(a==b):=by
 by_cases e:a=b
 ·subst e;simp
 ·have h:¬(Sum.inl a:Key)=Sum.inl b:=λq=>e (Sum.inl.inj q);rw[Ti h];exact(beq_eq_false_iff_ne.mpr e).symm
def Xf5(a b):decide ((Sum.inr a:Key)=Sum.inr b)=decide (a=b):=by
 by_cases e:a=b
 ·subst e;simp
 ·have h:¬(Sum.inr a:Key)=Sum.inr b:=λq=>e (Qt q);rw[Ti h,Ti e]
def Xf6(a)(b):decide ((Sum.inl a:Key)=Sum.inr b)=false:=Ti (λq=>nomatch q)
def Xf7(a)(b):decide ((Sum.inr a:Key)=Sum.inl b)=false:=Ti (λq=>nomatch q)
def Be (prog:Program) (w:World):PySem.KeyKind prog w Key where
 is:=Ec
 hash:=keyH w
 inj:=λv a b ha hb=>by
  rcases Dx ha with ⟨i,t,rfl,rfl⟩ | ⟨x,t,rfl,rfl⟩
  ·rcases Dx hb with ⟨j,u,rfl,e⟩ | ⟨y,u,rfl,e⟩
   ·injection e with e1 _;rw[e1]
   ·exact nomatch e
  ·rcases Dx hb with ⟨j,u,rfl,e⟩ | ⟨y,u,rfl,e⟩
   ·exact nomatch e
   ·injection e with e1 _;rw[e1]
 byValue:=λk v h=>by
  rcases Dx h with ⟨i,t,rfl,rfl⟩ | ⟨x,t,rfl,rfl⟩<;>rfl
 pyHash:=λhv h=>by
  rcases Dx hv with ⟨i,t,rfl,rfl⟩ | ⟨x,t,rfl,rfl⟩
  ·exact wpAny_pyHash_int h
  ·exact wpAny_pyHash_str h
 eqBool:=λhu hv h=>by
  rcases Dx hu with ⟨i,t,rfl,rfl⟩ | ⟨x,t,rfl,rfl⟩
  ·rcases Dx hv with ⟨j,u,rfl,rfl⟩ | ⟨y,u,rfl,rfl⟩
   ·rw[Xf4] at h;exact wpAny_eqBool_int h
   ·rw[Xf6] at h;exact SeqAt.EqAt.int_str i t y u _ _ _ _ h
  ·rcases Dx hv with ⟨j,u,rfl,rfl⟩ | ⟨y,u,rfl,rfl⟩
   ·rw[Xf7] at h;exact SeqAt.EqAt.str_int x t j u _ _ _ _ h
   ·rw[Xf5] at h;exact wpAny_eqBool_str h
 «strs»:=λk x t v h=>by
  rcases Dx h with ⟨i,u,rfl,e⟩ | ⟨y,u,rfl,e⟩
  ·exact nomatch e
  ·injection e with e1 _
   subst e1;cases v<;>rfl
def Xf8(prog)(w)(i)(t):(Be prog w).is (.inl i) (.int i t)=true:=Xf2 i t
def Xf9(prog)(w)(x)(t):(Be prog w).is (.inr x) (.str x t)=true:=Xf3 x t
inductive V where
 | non | bl (b:Bool) | int (i:Int) | str (x:Str) | byt (b:Array UInt8) | flt (b:UInt64) | ref (a:Addr) | ty (n:String)
 deriving DecidableEq
def Ai:V->Value->Prop
 | .non,u=>u=Value.none
 | .bl b,u=>u=Value.bool b
 | .int i,u=>∃t,u=Value.int i t
 | .str x,u=>∃t,u=Value.str x t
 | .byt b,u=>∃t,u=Value.bytes b t
 | .flt b,u=>∃t,u=Value.float b t
 | .ref a,u=>u=Value.ref a
 | .ty n,u=>u=Value.type n
abbrev Vals:List V->List Value->Prop:=Paired Ai
def Vals.length{xs}{us}(r:Vals xs us):xs.length=us.length:=Paired.length r
theorem Vals.get:∀{xs:List V} {us:List Value} {i:Nat} {x:V},Vals xs us->xs[i]? = some x->∃u,us[i]? = some u/\Ai x u
 | _,_,_,_,.nil,e=>by simp at e
 | _,_,0,_,.cons r _,e=>by simp at e;subst e;exact⟨_,rfl,r⟩
 | _,_,i+1,x,.cons _ t,e=>by
  obtain⟨u,h1,h2⟩:=Vals.get (i:=i) (x:=x) t (by simpa using e);exact⟨u,by simpa using h1,h2⟩
theorem Vals.set{x}{u}(r:Ai x u):∀{xs:List V} {us:List Value} (i:Nat),Vals xs us->Vals (xs.set i x) (us.set i u)
 | _,_,_,.nil=>.nil
 | _,_,0,.cons _ t=>.cons r t
 | _,_,i+1,.cons q t=>.cons q (Vals.set r i t)
theorem Vals.append:∀{xs ys:List V} {us ws:List Value},Vals xs us->Vals ys ws->Vals (xs++ys) (us++ws)
 | _,_,_,_,.nil,s=>s
 | _,_,_,_,.cons r t,s=>.cons r (Vals.append t s)
theorem Vals.take:∀{xs:List V} {us:List Value} (n:Nat),Vals xs us->Vals (xs.take n) (us.take n)
 | _,_,0,_=>.nil
 | _,_,_+1,.nil=>.nil
 | _,_,n+1,.cons r t=>.cons r (Vals.take n t)
theorem Vals.drop:∀{xs:List V} {us:List Value} (n:Nat),Vals xs us->Vals (xs.drop n) (us.drop n)
 | _,_,0,r=>r
 | _,_,_+1,.nil=>.nil
 | _,_,n+1,.cons _ t=>Vals.drop n t
def Cz:Option V->Option Value->Prop
 | some v,some u=>Ai v u
 | none,none=>True
 | _,_=>False
def KV {κ : Type}:List (κ × V)->List (κ × Value)->Prop:=Paired λ(p : κ × V) (q : κ × Value)=>p.1=q.1/\Ai p.2 q.2
def kV:Key->V
 | .inl i=>.int i
 | .inr x=>.str x
inductive HO where
 | lst (xs:List V)
 | tup (xs:List V)
 | dK (kvs:List (Key×V)) | dT (kvs:List (List Key×V))
 | set (S:Int->Bool) (n:Nat)
 | ins (C dx:Addr) (fs:List (Str×V))
 | own (x:Addr)
 | xd (fs:List (Str×V))
 | met (f x:Addr)
 | rng (lo hi:Int)
 | frz (o:Obj) (u:HO)
 | tbl (ps:Array Value)
 | ext (φ : Heap->Prop)
abbrev Hp:=Addr->Option HO
def upd (H:Hp) (a:Addr) (o:HO):Hp:=λb=>if b=a then some o else H b
def Ab{H}{a}{o}:upd H a o a=some o:=by unfold upd;rw[Tg rfl]
def Ad{H}{a b}{o}(h:b≠a):upd H a o b=H b:=by unfold upd;rw[Tf h]
def Xaa{H:Hp}{a b}{o u}(h:H a=some o)(h':H b=some u)(d:o≠u):a≠b:=by
 intro e;subst e;rw[h] at h';exact d (O0 h')
def Au{H:Hp}{a b}{o}(h:H a=some o)(h':H b=none):a≠b:=by
 intro e;subst e;rw[h] at h';cases h'
section
variable (P:Program) (w:World)
def A4 (H:Hp) (h:Heap) (a:Addr):HO->Prop
 | .lst xs=>xs.length<=sizeLine/\∃(its:List Value) (n:Nat),Vals xs its/\h.get? a=some {cls:=.type "list",data:=.seq its.toArray n}
 | .tup xs=>xs.length<=sizeLine/\∃its:List Value,Vals xs its/\IsTup h a its.toArray
 | .dK kvs=>kvs.length<=sizeLine/\(a==sysModules)=false/\∃vs,KV kvs vs/\h.DictOf (Be P w) a vs
 | .dT kvs=>kvs.length<=sizeLine/\(a==sysModules)=false/\∃xs:List (List Key×Addr×Value),
   Paired (λ(p:List Key×V) (q:List Key×Addr×Value)=>p.1=q.1/\H q.2.1=some (.tup (p.1.map kV))/\Ai p.2 q.2.2) kvs xs /\
   ∃o es ep,h.get? a=some o/\o.ExactDict/\o.data = .dict es ep/\es.toList=xs.map (entryOfKey (tupleKind (Be P w)))/\(xs.map (·.1)).Nodup
 | .set S n=>h.SetOf (intKind P w) a S n
 | .ins C dx fs=>H dx=some (.own a)/\fs.length<=1000/\dx≠a/\h.get? a=some (instObj C dx) /\
   ∃mA,h.Ns1 dx mA/\(∀f,Cz (fs.lookup f) (mA f))/\PySem.Within mA (fs.map (·.1))
 | .own _=>∃o,h.get? a=some o
 | .xd fs=>∃mA,h.Ns1 a mA/\∀f,Cz (fs.lookup f) (mA f)
 | .rng lo hi=>∃t u v,h.get? a=some {cls:=.type "range",data:=.fields #[.int lo t,.int hi u,.int 1 v]}
 | .frz o u=>h.get? a=some o/\A4 H h a u
 | .tbl ps=>h.get? a=some {cls:=.none,data:=.fields ps}
 | .met f x=>h.get? a=some (methodObj (.ref f) (.ref x))
 | .ext φ => φ h/\(∃o,h.get? a=some o)/\∀h1 h2:Heap, φ h1->(∀o,h1.get? a=some o->h2.get? a=some o) -> φ h2
def HOk (H:Hp) (h:Heap):Prop:=∀a o,H a=some o->A4 P w H h a o
end
section
variable {P:Program}{w:World}{H H':Hp}{h h':Heap}{a:Addr}{o:HO}
def A4.lt(x:A4 P w H h a o):a<h.objs.size:=by
 cases o with
 | lst xs=>obtain⟨_,_,_,_,e⟩:=x;exact Tl e
 | tup xs=>obtain⟨_,_,_,p⟩:=x;exact p.lt
 | dK kvs=>obtain⟨_,_,_,_,o,_,_,e,_⟩:=x;exact Tl e
 | dT kvs=>obtain⟨_,_,_,_,o,_,_,e,_⟩:=x;exact Tl e
 | set S n=>obtain⟨o,_,_,_,e,_⟩:=x;exact Tl e
 | ins C dx fs=>obtain⟨_,_,_,e,_⟩:=x;exact Tl e
 | own y=>obtain⟨_,e⟩:=x;exact Tl e
 | xd fs=>obtain⟨_,⟨_,_,_,e,_⟩,_⟩:=x;exact Tl e
 | rng lo hi=>obtain⟨_,_,_,e⟩:=x;exact Tl e
 | frz ob u=>obtain⟨e,_⟩:=x;exact Tl e
 | tbl ps=>exact Tl (show h.get? a=some _ from x)
 | met f y=>exact Tl (show h.get? a=some _ from x)
 | ext φ=>obtain⟨_,⟨_,e⟩,_⟩:=x;exact Tl e
theorem Paired.mapP{α β : Type}{F G}:∀{l₁ : List α} {l₂ : List β},Paired F l₁ l₂->(∀a b,F a b->G a b)->Paired G l₁ l₂
 | _,_,.nil,_=>.nil
 | _,_,.cons r t,f=>.cons (f _ _ r) (Paired.mapP t f)
def A4.stay(x:A4 P w H h a o)(k:∀b u,(b=a\/H b=some (.own a))->h.get? b=some u->h'.get? b=some u)
  (ho:∀b,H b=some (.own a)->H' b=some (.own a)) (ht:∀b xs,H b=some (.tup xs)->H' b=some (.tup xs)):A4 P w H' h' a o:=by
 induction o with
 | lst xs=>obtain⟨z,its,n,r,e⟩:=x;exact⟨z,its,n,r,k _ _ (.inl rfl) e⟩
 | tup xs=>obtain⟨z,its,r,ob,e,c⟩:=x;exact⟨z,its,r,ob,k _ _ (.inl rfl) e,c⟩
 | dK kvs=>obtain⟨z,y,vs,r,ob,es,ep,e,c⟩:=x;exact⟨z,y,vs,r,ob,es,ep,k _ _ (.inl rfl) e,c⟩
 | dT kvs=>
  obtain⟨z,y,xs,r,ob,es,ep,e,c⟩:=x;exact⟨z,y,xs,Paired.mapP r λp q z=>⟨z.1,ht _ _ z.2.1,z.2.2⟩,ob,es,ep,k _ _ (.inl rfl) e,c⟩
 | set S n=>obtain⟨ob,es,ep,t,e,c⟩:=x;exact⟨ob,es,ep,t,k _ _ (.inl rfl) e,c⟩
 | ins C dx fs=>
  obtain⟨d,z,ne,e,mA,⟨od,es,ep,e2,c⟩,r⟩:=x;exact⟨ho _ d,z,ne,k _ _ (.inl rfl) e,mA,⟨od,es,ep,k _ _ (.inr d) e2,c⟩,r⟩
 | own y=>obtain⟨ob,e⟩:=x;exact⟨ob,k _ _ (.inl rfl) e⟩
 | xd fs=>obtain⟨mA,⟨od,es,ep,e,c⟩,r⟩:=x;exact⟨mA,⟨od,es,ep,k _ _ (.inl rfl) e,c⟩,r⟩
 | rng lo hi=>obtain⟨t,u,v,e⟩:=x;exact⟨t,u,v,k _ _ (.inl rfl) e⟩
 | frz ob u ih=>obtain⟨e,q⟩:=x;exact⟨k _ _ (.inl rfl) e,ih q⟩
 | tbl ps=>
  have e:h.get? a=some {cls:=.none,data:=.fields ps}:=x;show h'.get? a=some {cls:=.none,data:=.fields ps};exact k a _ (.inl rfl) e
 | met f y=>
  have e:h.get? a=some (methodObj (.ref f) (.ref y)):=x;show h'.get? a=some (methodObj (.ref f) (.ref y));exact k a _ (.inl rfl) e
 | ext φ=>obtain⟨p,⟨o,e⟩,st⟩:=x;exact⟨st _ _ p λo q=>k _ _ (.inl rfl) q,⟨o,k _ _ (.inl rfl) e⟩,st⟩
def HOk.lt(x:HOk P w H h)(e:H a=some o):a<h.objs.size:=(x a o e).lt
def HOk.fresh(x:HOk P w H h)(e:h.objs.size<=a):H a=none:=by
 cases q:H a with
 | none=>rfl
 | some u=>exact absurd (O7 (x.lt q) e) (P5 _)
def HOk.kept(x:HOk P w H h)(k:∀b u,h.get? b=some u->h'.get? b=some u):HOk P w H h':=λa o e=>
 (x a o e).stay (λb u _ q=>k b u q) (λ_ q=>q) λ_ _ q=>q
def HOk.laid(x:HOk P w H h)(k:∀b u,h.get? b=some u->h'.get? b=some u)(hp:h.objs.size<=a)(new:A4 P w (upd H a o) h' a o):HOk P w (upd H a o) h':=λb u e=>by
 have hn:=x.fresh hp;by_cases hb:b=a
 ·subst hb;rw[Ab] at e;cases e;exact new
 ·rw[Ad hb] at e;exact(x b u e).stay (λc v _ q=>k c v q) (λc q=>by rw[Ad (Au q hn)];exact q) λc xs q=>by rw[Ad (Au q hn)];exact q
end
def Rd (H:Hp) (a:Addr) (u:HO):Prop:=H a=some u \/ ∃o,H a=some (.frz o u)
def Rd.ok{P}{w}{H}{h}{a}{u}(r:Rd H a u)(x:HOk P w H h):A4 P w H h a u:=by
 rcases r with r | ⟨o,r⟩
 ·exact x a u r
 ·obtain⟨_,q⟩:=x a _ r;exact q
def Mut:Option HO->Prop
 | some (.lst _)=>True
 | some (.dK _)=>True
 | some (.dT _)=>True
 | some (.set _ _)=>True
 | some (.ins _ _ _)=>True
 | some (.ext _)=>True
 | _=>False
section
variable {P:Program}{w:World}{H:Hp}{h h':Heap}{x e:Addr}{o':HO}
def HOk.write(ok:HOk P w H h)(mu:Mut (H x))(he:e=x\/H e=some (.own x))(k:∀b u,b≠e->h.get? b=some u->h'.get? b=some u)(heo:∃u,h'.get? e=some u)
  (new:A4 P w (upd H x o') h' x o'):HOk P w (upd H x o') h':=λb u q=>by
 have nown:∀c y,H c=some (.own y)->c≠x:=λc y r z=>by subst z;rw[r] at mu;exact mu
 have ntup:∀c xs,H c=some (.tup xs)->c≠x:=λc xs r z=>by subst z;rw[r] at mu;exact mu
 by_cases hb:b=x
 ·subst hb;rw[Ab] at q;cases q;exact new
 ·rw[Ad hb] at q;by_cases hbe:b=e
  ·have q':H b=some (.own x):=by
    rcases he with z | z
    ·exact absurd (hbe.trans z) hb
    ·rw[hbe];exact z
   rw[q] at q';cases q';obtain⟨v,hv⟩:=heo;exact⟨v,by rw[hbe];exact hv⟩
  ·refine(ok b u q).stay (λc v hc r=>k c v ?_ r) (λc r=>by rw[Ad (nown c b r)];exact r) λc xs r=>by rw[Ad (ntup c xs r)];exact r
   rcases hc with rfl | hc
   ·exact hbe
   ·rintro rfl;rcases he with z | z
    ·exact nown c b hc z
    ·rw[hc] at z;cases z;exact hb rfl
end
structure Un (fs ex:List Addr) (H H':Hp) (h h':Heap):Prop where
 keep:∀b o,h.get? b=some o->H b=none->b∉fs->b∉ex->h'.get? b=some o
 slot:∀b o,h.get? b=some o->H b=none->b∈fs->b∉ex->∃sl,h'.get? b=some {o with slots:=sl}
 free:∀b o,h.get? b=some o->H b=none->b∉ex->H' b=none
 there:∀b o,h.get? b=some o->b∉ex->∃o',h'.get? b=some o'
 tups:∀b xs,H b=some (.tup xs)->H' b=some (.tup xs)
 frzs:∀b o u,H b=some (.frz o u)->H' b=some (.frz o u)
 tbls:∀b ps,H b=some (.tbl ps)->∃more,H' b=some (.tbl (ps++more))
section
variable {fs fs' ex ex':List Addr}{H H1 H2:Hp}{h h1 h2 h':Heap}{a x e:Addr}{o:HO}
def Un.any(u:Un fs ex H H1 h h1){b}{ob}(q:h.get? b=some ob)(n:H b=none)(hx:b∉ex):∃sl,h1.get? b=some {ob with slots:=sl}:=by
 by_cases hb:b∈fs
 ·exact u.slot b ob q n hb hx
 ·exact⟨ob.slots,u.keep b ob q n hb hx⟩
def Un.kept(k:∀b u,h.get? b=some u->h'.get? b=some u):Un fs ex H H h h':=
 ⟨λb ob q _ _ _=>k b ob q,λb ob q _ _ _=>⟨ob.slots,k b ob q⟩,λ_ _ _ n _=>n,λb ob q _=>⟨ob,k b ob q⟩,λ_ _ q=>q,λ_ _ _ q=>q,λ_ ps q=>⟨#[],by rw[q];simp⟩⟩
def Un.refl:Un fs ex H H h h:=Un.kept λ_ _ q=>q
def Un.laid(k:∀b u,h.get? b=some u->h'.get? b=some u)(hp:h.objs.size<=a)(hn:H a=none):Un fs ex H (upd H a o) h h' where
 keep:=λb u q _ _ _=>k b u q
 slot:=λb u q _ _ _=>⟨u.slots,k b u q⟩
 free:=λb u q n _=>by rw[Ad (Ow (O7 (Tl q) hp))];exact n
 there:=λb u q _=>⟨u,k b u q⟩
 tups:=λb xs q=>by rw[Ad (Au q hn)];exact q
 frzs:=λb u xs q=>by rw[Ad (Au q hn)];exact q
 tbls:=λb ps q=>⟨#[],by rw[Ad (Au q hn),q];simp⟩
def Un.write(mu:Mut (H x))(he:e=x\/H e=some (.own x))(k:∀b u,b≠e->h.get? b=some u->h'.get? b=some u)(heo:∃u,h'.get? e=some u):Un fs ex H (upd H x o) h h':=by
 have hx:∀b,H b=none->b≠x:=λb n z=>by subst z;rw[n] at mu;exact mu
 have hb:∀b,H b=none->b≠e:=λb n z=>by
  subst z;rcases he with r | r
  ·exact hx b n r
  ·rw[n] at r;cases r
 have hm:∀b u,H b=some u->¬Mut (some u)->b≠x:=λb u q nm z=>by subst z;rw[q] at mu;exact nm mu
 refine⟨λb u q n _ _=>k b u (hb b n) q,λb u q n _ _=>⟨u.slots,k b u (hb b n) q⟩,λb u q n _=>by rw[Ad (hx b n)];exact n,λb u q _=>?_,
  λb xs q=>by rw[Ad (hm b _ q λz=>z)];exact q,λb u xs q=>by rw[Ad (hm b _ q λz=>z)];exact q,λb ps q=>⟨#[],by rw[Ad (hm b _ q λz=>z),q];simp⟩⟩
 by_cases hbe:b=e
 ·subst hbe;exact heo
 ·exact⟨u,k b u hbe q⟩
end
def trk (h:Heap) (H:Hp):List Addr:=(List.range h.objs.size).filter λa=>(H a).isSome
def Dy (h:Heap) (H:Hp):Heap:=hideAll h (trk h H)
def Xga(h)(H):(Dy h H).objs.size=h.objs.size:=PySem.W.hideAll_size _ _
def Xgb{h}{H}{b}{o}(e:h.get? b=some o)(n:H b=none):(Dy h H).get? b=some o:=
 hideAll_get _ e λhm=>by
  have q:(H b).isSome=true:=(Ou.mp hm).2;rw[n] at q;simp at q
def Xgc{h}{H}{b}{o}(e:(Dy h H).get? b=some o):h.get? b=some o/\H b=none:=by
 have e':h.get? b=some o:=of_hideAll (trk h H) e;refine⟨e',?_⟩;cases q:H b with
 | none=>rfl
 | some x=>
  have hm:b∈trk h H:=Ou.mpr ⟨P1.mpr (Tl e'),by simp[q]⟩;have z:(Dy h H).get? b=none:=PySem.W.hideAll_none (trk h H) hm;rw[z] at e;cases e
def Xgd (g h:Heap) (L:Addr):List (Addr×Obj):=(List.range h.objs.size).filterMap λa=>if a=L\/(g.get? a).isSome=true then none else (h.get? a).map λo=>(a,o)
def rest (g h:Heap) (L d:Addr):List (Addr×Obj):=(Xgd g h L).filter λp=>decide (p.1≠d)
structure Mod (K:Za) (mg:Str->Option Value) (base:Heap):Prop where
 kin:K.In base
 glob:base.Ns mainGlobals mg
 blt:∃mb,base.Ns builtinsNs mb/\∀x:Str,x ≠ "__name__" -> mb x=bootBuiltins x
 nolimit:base.NoLimit
structure Cx where
 prog:Program
 w:World
 K:Za
 mg:Str->Option Value
 base:Heap
 A:Around
 N:Zb
 s₀ : Shared
 H₀ : Hp
 env:Env
 outer:List Env
 stack:List Env
 ex:List Addr
 fn:Str->Bool
 calm:Bool
 pn:List (Addr×Obj)
 xe:Zc
def frs (l:List Env):List Addr:=l.filterMap (·.frame)
abbrev Cx.fs (X:Cx):List Addr:=frs X.outer
def Vis (sc:Scope) (x:Str):Prop:=sc.names.lookup x=some .local\/sc.names.lookup x=some .cell\/sc.names.lookup x=some .free
def Loc (sc:Scope) (x:Str):Prop:=sc.names.lookup x=some .local\/sc.names.lookup x=some .cell
def Look (env:Env) (h:Heap) (m:Str->Option Value) (x:Str) (u:Value):Prop:=
 (env.kindOf x=some .local/\m x=some u)\/((env.kindOf x=some .cell\/env.kindOf x=some .free)/\∃c,env.cells.lookup x=some c/\h.IsCell c (some u))
structure Cx.Ok (X:Cx):Prop where
 mod:Mod X.K X.mg X.base
 kind:X.env.scope.kind = .function
 glob:X.env.globals=mainGlobals
 blt:X.env.builtins=builtinsNs
 above:X.s₀.heap.objs.size<=X.env.locals
 inj:∀x y c,X.env.cells.lookup x=some c->X.env.cells.lookup y=some c->x=y
 has:∀x,(X.env.kindOf x=some .cell\/X.env.kindOf x=some .free)->∃c,X.env.cells.lookup x=some c
 cab:∀x c,X.fn x=true->X.env.cells.lookup x=some c->X.s₀.heap.objs.size<=c
 hd:X.calm=true->X.A.handled=none
 frames:X.A.frames=some X.stack
 stk:X.stack=X.outer\/(X.stack=X.env::X.outer/\X.env.frame=some X.env.locals)
 exf:∀b∈X.ex,b≠X.env.locals/\∀x c,X.env.cells.lookup x=some c->c≠b
 bs:∀b o,X.base.get? b=some o->X.s₀.heap.get? b=some o/\X.H₀ b=none
 bsz:X.base.objs.size<=X.s₀.heap.objs.size
 noex:∀b o,X.base.get? b=some o->b∉X.ex
 exfs:∀b∈X.ex,b∉X.fs
 funs:X.s₀.heap.FunFrames X.base X.outer
 frf:∀b∈X.fs,X.H₀ b=none
structure Inv (X:Cx) (pins:List (Addr×Obj)) (Z:List (Option V)) (H:Hp) (s:Shared):Prop where
 ok:X.Ok
 os:s.os=X.s₀.os
 bare:AllBare s.gens
 base:Un X.fs X.ex X.H₀ H X.s₀.heap s.heap
 loc:∃m,s.heap.Ns X.env.locals m/\∀(i:Nat) (x:Str) (v:V),X.N[i]? = some x -> Z[i]? = some (some v)->Vis X.env.scope x->∃u,Ai v u/\Look X.env s.heap m x u
 cell:∀x c,X.env.cells.lookup x=some c->∃v,s.heap.IsCell c v
 free:H X.env.locals=none
 freeC:∀x c,X.env.cells.lookup x=some c->H c=none
 pin:∀p∈X.pn++pins,s.heap.get? p.1=some p.2/\H p.1=none/\p.1≠X.env.locals/\p.1∉X.fs/\∀v,p.2.data ≠ .cell v
 hok:HOk X.prog X.w H s.heap
 len : Z.length=X.N.length
section
variable {X:Cx}{pins:List (Addr×Obj)}{Z:List (Option V)}{H H':Hp}{s:Shared}{h':Heap}
def Cx.Ok.nofr(ok:X.Ok){b}{o}(e:X.base.get? b=some o):b∉X.fs:=λhb=>by
 have:=(ok.funs.mem hb).1;rw[e] at this;cases this
def Inv.bs(I:Inv X pins Z H s):∀b o,X.base.get? b=some o->s.heap.get? b=some o/\H b=none:=λb o e=>
 ⟨I.base.keep b o (I.ok.bs b o e).1 (I.ok.bs b o e).2 (I.ok.nofr e) (I.ok.noex b o e),I.base.free b o (I.ok.bs b o e).1 (I.ok.bs b o e).2 (I.ok.noex b o e)⟩
def Inv.bk(I:Inv X pins Z H s):∀b o,X.base.get? b=some o->s.heap.get? b=some o:=λb o e=>(I.bs b o e).1
def Inv.mod(I:Inv X pins Z H s):Mod X.K X.mg X.base:=I.ok.mod
def Inv.kIn(I:Inv X pins Z H s):X.K.In s.heap:=I.ok.mod.kin.keeps I.bk
def Inv.lt(I:Inv X pins Z H s):X.env.locals<s.heap.objs.size:=let ⟨_,hn,_⟩:=I.loc;hn.lt
def Inv.sz(I:Inv X pins Z H s):X.s₀.heap.objs.size<=s.heap.objs.size:=Pd I.ok.above (Rz I.lt)
def Inv.nofs(I:Inv X pins Z H s){a:Addr}(h:s.heap.objs.size<=a):a∉X.fs:=λhb=>by
 obtain⟨_,o,ho,_⟩:=I.ok.funs.mem hb;exact absurd (O7 (Tl ho) (Pd I.sz h)) (P5 _)
def Inv.cne(I:Inv X pins Z H s):∀x c,X.env.cells.lookup x=some c->c≠X.env.locals:=λx c e z=>by
 obtain⟨v,o,ho,hd⟩:=I.cell x c e;obtain⟨m,⟨o',es,ep,ho',hd',_⟩,_⟩:=I.loc;rw[z,ho'] at ho;cases ho;rw[hd'] at hd;cases hd
def Inv.funs(I:Inv X pins Z H s):s.heap.FunFrames X.base X.outer:=by
 have all:∀(l:List Env),(∀b∈frs l,b∈X.fs)->X.s₀.heap.FunFrames X.base l->s.heap.FunFrames X.base l:=by
  intro l
  induction l with
  | nil=>intro _ _;trivial
  | cons env r ih=>
   intro hs hl;obtain⟨hk,⟨L,o,hf,hn,ho,hd⟩,hr⟩:=hl;have hL:L∈X.fs:=hs L (by unfold frs;rw[Py,hf];exact Os);obtain⟨sl,e⟩:=I.base.slot L o ho (I.ok.frf L hL) hL λz=>I.ok.exfs L z hL;exact⟨hk,⟨L,_,hf,hn,e,hd⟩,ih (λb hb=>hs b (by unfold frs;rw[Py,hf];exact Ot _ hb)) hr⟩
 exact all X.outer (λ_ hb=>hb) I.ok.funs
def Inv.stack(I:Inv X pins Z H s):s.heap.FunFrames X.base X.stack:=by
 rcases I.ok.stk with e | ⟨e,hf⟩
 ·rw[e];exact I.funs
 ·rw[e];obtain⟨m,hn,_⟩:=I.loc;refine .cons (by rw[I.ok.kind];decide) hf hn ?_ I.funs;exact Heap.get?_none_of_le (Pd I.ok.bsz I.ok.above)
def Inv.stkSub(I:Inv X pins Z H s):∀b∈frs X.stack,b∈X.env.locals::X.fs:=λb hb=>by
 rcases I.ok.stk with e | ⟨e,hf⟩
 ·rw[e] at hb;exact Ot _ hb
 ·rw[e] at hb;unfold frs at hb;rw[Py,hf] at hb;exact hb
def Inv.stkFree(I:Inv X pins Z H s):∀b∈frs X.stack,H b=none:=λb hb=>by
 rcases O2.mp (I.stkSub b hb) with e | hb
 ·rw[e];exact I.free
 ·obtain⟨_,o,ho,_⟩:=I.ok.funs.mem hb;exact I.base.free b o ho (I.ok.frf b hb) λz=>I.ok.exfs b z hb
def Inv.step{g'}{t'}{d'}{ch:List Addr}(I:Inv X pins Z H s)
  (hch:∀b∈ch,(b∈X.ex\/X.s₀.heap.objs.size<=b)/\b≠X.env.locals/\(∀x c,X.env.cells.lookup x=some c->c≠b)/\∀p∈X.pn++pins,p.1≠b)
  (keep:∀b o,b≠X.env.locals->b∉X.fs->b∉ch->s.heap.get? b=some o->H b=none->h'.get? b=some o)
  (slot:∀b o,b≠X.env.locals->b∈X.fs->b∉ch->s.heap.get? b=some o->H b=none->∃sl,h'.get? b=some {o with slots:=sl}) (free:∀b o,b∉ch->s.heap.get? b=some o->H b=none->H' b=none)
  (there:∀b o,b∉ch->s.heap.get? b=some o->∃o',h'.get? b=some o')
  (tups:∀b xs,H b=some (.tup xs)->H' b=some (.tup xs)) (frzs:∀b o u,H b=some (.frz o u)->H' b=some (.frz o u)) (tbls:∀b ps,H b=some (.tbl ps)->∃more,H' b=some (.tbl (ps++more)))
  (ns:∀m,s.heap.Ns X.env.locals m->h'.Ns X.env.locals m) (hok:HOk X.prog X.w H' h') (hg:AllBare g'):
  Inv X pins Z H' {s with heap:=h',gens:=g',drawn:=d',toks:=t'}:=by
 have neL:∀b o,X.s₀.heap.get? b=some o->b≠X.env.locals:=λb o e=>Ow (O7 (Tl e) I.ok.above);have neC:∀b o,X.s₀.heap.get? b=some o->b∉X.ex->b∉ch:=λb o e hx hb=>by
  rcases (hch b hb).1 with z | z
  ·exact hx z
  ·exact absurd (O7 (Tl e) z) (P5 _)
 have cellK:∀x c,X.env.cells.lookup x=some c->∀v,s.heap.IsCell c v->h'.IsCell c v:=λx c e v ⟨o,ho,hd⟩=>by
  have nch:c∉ch:=λz=>(hch c z).2.2.1 x c e rfl;by_cases hc:c∈X.fs
  ·obtain⟨sl,q⟩:=slot c o (I.cne x c e) hc nch ho (I.freeC x c e);exact⟨_,q,hd⟩
  ·exact⟨o,keep c o (I.cne x c e) hc nch ho (I.freeC x c e),hd⟩
 refine⟨I.ok,I.os,hg,⟨λb o e n hb hx=>?_,λb o e n hb hx=>?_,λb o e n hx=>?_,λb o e hx=>?_,λb xs e=>tups b xs (I.base.tups b xs e),λb o xs e=>frzs b o xs (I.base.frzs b o xs e),λb ps e=>?_⟩,?_,λx c e=>?_,?_,λx c e=>?_,λp hp=>?_,hok,I.len⟩
 ·exact keep b o (neL b o e) hb (neC b o e hx) (I.base.keep b o e n hb hx) (I.base.free b o e n hx)
 ·obtain⟨sl,e1⟩:=I.base.slot b o e n hb hx;obtain⟨sl',e2⟩:=slot b _ (neL b o e) hb (neC b o e hx) e1 (I.base.free b o e n hx);exact⟨sl',e2⟩
 ·obtain⟨o',e1⟩:=I.base.there b o e hx;exact free b o' (neC b o e hx) e1 (I.base.free b o e n hx)
 ·obtain⟨o',e1⟩:=I.base.there b o e hx;exact there b o' (neC b o e hx) e1
 ·obtain⟨m1,e1⟩:=I.base.tbls b ps e;obtain⟨m2,e2⟩:=tbls b _ e1;exact⟨m1++m2,by rw[e2,Array.append_assoc]⟩
 ·obtain⟨m,hn,hl⟩:=I.loc;refine⟨m,ns m hn,λi x v e1 e2 e3=>?_⟩;obtain⟨u,r,l⟩:=hl i x v e1 e2 e3;refine⟨u,r,?_⟩;rcases l with l | ⟨k,c,e,z⟩
  ·exact .inl l
  ·exact .inr ⟨k,c,e,cellK x c e _ z⟩
 ·obtain⟨v,z⟩:=I.cell x c e;exact⟨v,cellK x c e v z⟩
 ·obtain⟨m,⟨o,_,_,ho,_⟩,_⟩:=I.loc;exact free _ o (λz=>(hch _ z).2.1 rfl) ho I.free
 ·obtain⟨v,o,ho,hd⟩:=I.cell x c e;exact free c o (λz=>(hch c z).2.2.1 x c e rfl) ho (I.freeC x c e)
 ·obtain⟨e,n,ne,nf,d⟩:=I.pin p hp;have nch:p.1∉ch:=λz=>(hch p.1 z).2.2.2 p hp rfl;exact⟨keep p.1 p.2 ne nf nch e n,free p.1 p.2 nch e n,ne,nf,d⟩
def Inv.un{t'}(I:Inv X pins Z H s)(u:Un X.fs [] H H' s.heap h')(hok:HOk X.prog X.w H' h'):Inv X pins Z H' {s with heap:=h',toks:=t'}:=by
 obtain⟨m,⟨o,es,ep,ho,r⟩,_⟩:=id I.loc;obtain⟨sl,hL⟩:=u.any ho I.free (by simp);exact I.step (g':=s.gens) (d':=s.drawn) (ch:=[]) (λ_ z=>nomatch z) (λb o _ hb _ e n=>u.keep b o e n hb (by simp)) (λb o _ hb _ e n=>u.slot b o e n hb (by simp)) (λb o _ e n=>u.free b o e n (by simp)) (λb o _ e=>u.there b o e (by simp)) u.tups u.frzs u.tbls (λm' hm=>by
  obtain⟨o',es',ep',ho',r'⟩:=hm;rw[ho] at ho';cases ho';exact⟨_,es',ep',hL,r'⟩) hok I.bare
def Inv.call{g'}{t'}{d'}{ch}(I:Inv X pins Z H s)(u:Un (frs X.stack) ch H H' s.heap h')(hok:HOk X.prog X.w H' h')(hg:AllBare g')
  (hch:∀b∈ch,(b∈X.ex\/X.s₀.heap.objs.size<=b)/\b≠X.env.locals/\(∀x c,X.env.cells.lookup x=some c->c≠b)/\∀p∈X.pn++pins,p.1≠b):
  Inv X pins Z H' {s with heap:=h',gens:=g',drawn:=d',toks:=t'}:=by
 obtain⟨m,⟨o,es,ep,ho,r⟩,_⟩:=id I.loc;obtain⟨sl,hL⟩:=u.any ho I.free λz=>(hch _ z).2.1 rfl;exact I.step (ch:=ch) hch (λb o hL hb hc e n=>u.keep b o e n (λz=>(O2.mp (I.stkSub b z)).elim hL hb) hc) (λb o _ _ hc e n=>u.any e n hc) (λb o hc e n=>u.free b o e n hc) (λb o hc e=>u.there b o e hc) u.tups u.frzs u.tbls (λm' hm=>by
  obtain⟨o',es',ep',ho',r'⟩:=hm;rw[ho] at ho';cases ho';exact⟨_,es',ep',hL,r'⟩) hok hg
def Inv.turned{t'}{it}(I:Inv X pins Z H s)(k:∀b o,b≠it->s.heap.get? b=some o->h'.get? b=some o)(hn:H it=none)(hL:it≠X.env.locals)
  (h1:it∈X.ex\/X.s₀.heap.objs.size<=it) (h2:∀x c,X.env.cells.lookup x=some c->c≠it) (h3:∀p∈X.pn++pins,p.1≠it):Inv X pins Z H {s with heap:=h',toks:=t'}:=by
 have nit:∀b u,H b=some u->b≠it:=λb u e z=>by rw[z,hn] at e;cases e
 refine I.step (g':=s.gens) (d':=s.drawn) (ch:=[it]) (λb hb=>?_) (λb o _ _ hc e _=>k b o (λz=>hc (by simp[z])) e) (λb o _ _ hc e _=>⟨o.slots,k b o (λz=>hc (by simp[z])) e⟩) (λ_ _ _ _ n=>n)
  (λb o hc e=>⟨o,k b o (λz=>hc (by simp[z])) e⟩) (λ_ _ e=>e) (λ_ _ _ e=>e) (λb ps e=>⟨#[],by rw[e];simp⟩) (λm hm=>?_) (λb u e=>?_) I.bare
 ·have e:b=it:=by simpa using hb
  subst e;exact⟨h1,hL,h2,h3⟩
 ·obtain⟨o,es,ep,ho,r⟩:=hm;exact⟨o,es,ep,k _ o (Ne.symm hL) ho,r⟩
 ·refine(I.hok b u e).stay (λc v hc q=>k c v ?_ q) (λ_ q=>q) λ_ _ q=>q;rcases hc with z | z
  ·rw[z];exact nit b u e
  ·exact nit c _ z
def Inv.tok(I:Inv X pins Z H s)(t):Inv X pins Z H {s with toks:=t}:=I.un (h':=s.heap) (t':=t) Un.refl I.hok
def Inv.kept{t'}(I:Inv X pins Z H s)(k:∀b u,s.heap.get? b=some u->h'.get? b=some u):Inv X pins Z H {s with heap:=h',toks:=t'}:=I.un (Un.kept k) (I.hok.kept k)
def Inv.laid{a:Addr}{o}{t'}(I:Inv X pins Z H s)(k:∀b u,s.heap.get? b=some u->h'.get? b=some u)(hp:s.heap.objs.size<=a)(new:A4 X.prog X.w (upd H a o) h' a o):
  Inv X pins Z (upd H a o) {s with heap:=h',toks:=t'}:=I.un (Un.laid k hp (I.hok.fresh hp)) (I.hok.laid k hp new)
def Inv.write{x e}{o}{t'}(I:Inv X pins Z H s)(mu:Mut (H x))(he:e=x\/H e=some (.own x))(k:∀b u,b≠e->s.heap.get? b=some u->h'.get? b=some u)(heo:∃u,h'.get? e=some u)
  (new:A4 X.prog X.w (upd H x o) h' x o):Inv X pins Z (upd H x o) {s with heap:=h',toks:=t'}:=I.un (Un.write mu he k heo) (I.hok.write mu he k heo new)
def Inv.pins_of{pins'}(I:Inv X pins Z H s)(h:∀p∈pins',s.heap.get? p.1=some p.2/\H p.1=none/\p.1≠X.env.locals/\p.1∉X.fs/\∀v,p.2.data ≠ .cell v):Inv X pins' Z H s:=
 ⟨I.ok,I.os,I.bare,I.base,I.loc,I.cell,I.free,I.freeC,λp hp=>(Op.mp hp).elim (λz=>I.pin p (P2 _ z)) (h p),I.hok,I.len⟩
def K6{N:Zb}(hN:N.Nodup){i j:Nat}{x}(a:N[i]? = some x)(b:N[j]? = some x):i=j:=by
 obtain⟨h1,e1⟩:=Oy.mp a;obtain⟨h2,e2⟩:=Oy.mp b;exact(Rw hN).mp (e1.trans e2.symm)
def K7{M:Model}{A:Around}{E:Zc}{i:Nat}{x:Str}{v:V}{u:Value}{Q:Unit->Shared->Prop}(I:Inv X pins Z H s)(hN:X.N.Nodup)(hi:X.N[i]? = some x)(hx:Loc X.env.scope x)(r:Ai v u)
  (h:∀s',Inv X pins (Z.set i (some v)) H s'->(∃a,Heap.SameBut a s.heap s'.heap/\(a=X.env.locals\/X.env.cells.lookup x=some a))->Q () s') (hf:X.fn x=true\/X.env.scope.names.lookup x=some .local:=by first | exact .inl rfl | exact .inr rfl | assumption):wpAny M A (storeName X.env x u) Q E s:=by
 obtain⟨m,hn,hl⟩:=id I.loc;have hcls:(X.env.scope.kind == .class||(X.env.scope.kind == .module&&X.env.locals != X.env.globals))=false:=by rw[I.ok.kind];rfl
 have hiZ:i < Z.length:=by rw[I.len];exact(Oy.mp hi).1
 have cne:=I.cne;have tracked:∀{a:Addr} {h':Heap},(∃o,s.heap.get? a=some o/\H a=none)->Heap.SameBut a s.heap h'->HOk X.prog X.w H h':=λ{a h'} ha hs b ob e=>by
  obtain⟨_,_,hfree⟩:=ha;refine(I.hok b ob e).stay (λc w' hc q=>(hs.2 c ?_).trans q) (λ_ q=>q) λ_ _ q=>q;rintro rfl;rcases hc with rfl | hc
  ·rw[hfree] at e;cases e
  ·rw[hfree] at hc;cases hc
 rcases hx with hk | hk
 ·refine wpAny_storeName_local hk hn (λh' hn' hs=>?_) hcls;obtain⟨oL,_,_,hoL,_⟩:=id hn;refine h _ ⟨I.ok,I.os,I.bare,⟨λb o e n hb hx=>?_,λb o e n hb hx=>?_,I.base.free,λb o e hx=>?_,I.base.tups,I.base.frzs,I.base.tbls⟩,⟨_,hn',λj y v' e1 e2 e3=>?_⟩,λy c e=>?_,I.free,I.freeC,λp hp=>?_,tracked ⟨oL,hoL,I.free⟩ hs,by simpa using I.len⟩ ⟨_,hs,.inl rfl⟩
  ·exact(hs.2 b (Ow (O7 (Tl e) I.ok.above))).trans (I.base.keep b o e n hb hx)
  ·obtain⟨sl,e1⟩:=I.base.slot b o e n hb hx;exact⟨sl,(hs.2 b (Ow (O7 (Tl e) I.ok.above))).trans e1⟩
  ·obtain⟨o',e1⟩:=I.base.there b o e hx;exact⟨o',(hs.2 b (Ow (O7 (Tl e) I.ok.above))).trans e1⟩
  ·by_cases hj:j=i
   ·subst hj;rw[hi] at e1;cases e1;rw[R5 hiZ] at e2;cases e2;exact⟨u,r,.inl ⟨hk,by simp⟩⟩
   ·rw[Se (Ne.symm hj)] at e2;obtain⟨u',r',q⟩:=hl j y v' e1 e2 e3;refine⟨u',r',?_⟩;rcases q with ⟨k,e⟩ | ⟨k,c,e,z⟩
    ·refine .inl ⟨k,?_⟩;have:y≠x:=λe=>hj (K6 hN e1 (e ▸ hi));simp[this,e]
    ·exact .inr ⟨k,c,e,z.sameBut hs (cne y c e)⟩
  ·obtain⟨w',z⟩:=I.cell y c e;exact⟨w',z.sameBut hs (cne y c e)⟩
  ·obtain⟨e,n,ne,nf,d⟩:=I.pin p hp;exact⟨(hs.2 p.1 ne).trans e,n,ne,nf,d⟩
 ·have hfn:X.fn x=true:=by
   rcases hf with z | z
   ·exact z
   ·rw[z] at hk;cases hk
  obtain⟨c,hc⟩:=I.ok.has x (.inl hk);obtain⟨w',z⟩:=I.cell x c hc;refine wpAny_storeName_cell I.ok.kind hk hc z (λh' hc' hs=>?_);obtain⟨oc,hoc,hocd⟩:=id z;refine h {s with heap:=h'} ⟨I.ok,I.os,I.bare,⟨λb o e n hb hx=>?_,λb o e n hb hx=>?_,I.base.free,λb o e hx=>?_,I.base.tups,I.base.frzs,I.base.tbls⟩,⟨m,hn.sameBut hs (Ne.symm (cne x c hc)),λj y v' e1 e2 e3=>?_⟩,λy c' e=>?_,I.free,I.freeC,λp hp=>?_,tracked ⟨oc,hoc,I.freeC x c hc⟩ hs,by simpa using I.len⟩ ⟨c,hs,.inr hc⟩
  ·exact(hs.2 b (Ow (O7 (Tl e) (I.ok.cab x c hfn hc)))).trans (I.base.keep b o e n hb hx)
  ·obtain⟨sl,e1⟩:=I.base.slot b o e n hb hx;exact⟨sl,(hs.2 b (Ow (O7 (Tl e) (I.ok.cab x c hfn hc)))).trans e1⟩
  ·obtain⟨o',e1⟩:=I.base.there b o e hx;exact⟨o',(hs.2 b (Ow (O7 (Tl e) (I.ok.cab x c hfn hc)))).trans e1⟩
  ·by_cases hj:j=i
   ·subst hj;rw[hi] at e1;cases e1;rw[R5 hiZ] at e2;cases e2;exact⟨u,r,.inr ⟨.inl hk,c,hc,hc'⟩⟩
   ·rw[Se (Ne.symm hj)] at e2;obtain⟨u',r',q⟩:=hl j y v' e1 e2 e3;refine⟨u',r',?_⟩;rcases q with q | ⟨k,c',e,z'⟩
    ·exact .inl q
    ·refine .inr ⟨k,c',e,z'.sameBut hs ?_⟩;rintro rfl;exact hj (K6 hN e1 (I.ok.inj _ _ _ e hc ▸ hi))
  ·by_cases hcc:c'=c
   ·subst hcc;exact⟨_,hc'⟩
   ·obtain⟨w2,z2⟩:=I.cell y c' e;exact⟨w2,z2.sameBut hs hcc⟩
  ·obtain⟨e,n,ne,nf,d⟩:=I.pin p hp;refine⟨(hs.2 p.1 ?_).trans e,n,ne,nf,d⟩;intro q;rw[q,hoc] at e;have q':oc=p.2:=O0 e;exact d w' (by rw[<-q'];exact hocd)
def Xab{M:Model}{A:Around}{E:Zc}{i:Nat}{x:Str}{v:V}{u:Value}{Q:Unit->Shared->Prop}(I:Inv X pins Z H s)(hN:X.N.Nodup)(hi:X.N[i]? = some x)(hx:Loc X.env.scope x)(r:Ai v u)
  (h:∀s',Inv X pins (Z.set i (some v)) H s'->Q () s') (hf:X.fn x=true\/X.env.scope.names.lookup x=some .local:=by first | exact .inl rfl | exact .inr rfl | assumption):wpAny M A (storeName X.env x u) Q E s:=
 K7 I hN hi hx r (λs' I' _=>h s' I') hf
def Inv.call'{s'}{ch}(I:Inv X pins Z H s)(ho:s'.os=s.os)(u:Un (frs X.stack) ch H H' s.heap s'.heap)(hok:HOk X.prog X.w H' s'.heap)(hg:AllBare s'.gens)
  (hch:∀b∈ch,(b∈X.ex\/X.s₀.heap.objs.size<=b)/\b≠X.env.locals/\(∀x c,X.env.cells.lookup x=some c->c≠b)/\∀p∈X.pn++pins,p.1≠b):Inv X pins Z H' s':=by
 obtain⟨h',g',d',t',o'⟩:=s';have e:o'=s.os:=ho;subst e;exact I.call (g':=g') (t':=t') (d':=d') u hok hg hch
end
abbrev XK:=Value->Option Addr->Hp->Prop
abbrev St:=List (Option V)
abbrev VK:=V->Hp->Prop
abbrev TE:=St->Hp->VK->Prop
abbrev TT:=St->Hp->(Bool->Hp->Prop)->Prop
abbrev TA:=St->Hp->(List V->Hp->Prop)->Prop
structure Ends where
 nx:St->Hp->Prop
 rt:VK
 bk:St->Hp->Prop:=λ_ _=>False
 ct:St->Hp->Prop:=λ_ _=>False
abbrev TS:=Ends->St->Hp->Prop
def EP (X:Cx) (pins:List (Addr×Obj)) (Z:St) (Q:VK) (u:Value) (s':Shared):Prop:=∃v H',Inv X pins Z H' s'/\Ai v u/\Q v H'
def TP (X:Cx) (pins:List (Addr×Obj)) (Z:St) (Q:Bool->Hp->Prop) (b:Bool) (s':Shared):Prop:=∃H',Inv X pins Z H' s'/\Q b H'
def AP (X:Cx) (pins:List (Addr×Obj)) (Z:St) (Q:List V->Hp->Prop) (us:List Value) (s':Shared):Prop:=∃vs H',Inv X pins Z H' s'/\Vals vs us/\Q vs H'
def SP (X:Cx) (pins:List (Addr×Obj)) (D:Ends) (f:Flow) (s':Shared):Prop:=
 match f with
 | .next=>∃Z' H',Inv X pins Z' H' s'/\D.nx Z' H'
 | .brk=>∃Z' H',Inv X pins Z' H' s'/\D.bk Z' H'
 | .cont=>∃Z' H',Inv X pins Z' H' s'/\D.ct Z' H'
 | .ret u=>∃v Z' H',Inv X pins Z' H' s'/\Ai v u/\D.rt v H'
def PE (X:Cx) (e:Expr) (t:TE):Prop:=
 ∀pins s Z H (Q:VK),Inv X pins Z H s->t Z H Q->wpAny (model X.prog X.w) X.A (eval e X.env) (EP X pins Z Q) X.xe s
def PT (X:Cx) (e:Expr) (t:TT):Prop:=
 ∀pins s Z H (Q:Bool->Hp->Prop),Inv X pins Z H s->t Z H Q->wpAny (model X.prog X.w) X.A (isTrue e X.env (eval e X.env)) (TP X pins Z Q) X.xe s
def PW (X:Cx) (e:Expr) (t:TT):Prop:=
 ∀(whole:Sem Value) (pins:List (Addr×Obj)) (s:Shared) (Z:St) (H:Hp) (Q:Bool->Hp->Prop),Inv X pins Z H s->t Z H Q->wpAny (model X.prog X.w) X.A (isTrue e X.env whole) (TP X pins Z Q) X.xe s
def PW.pt{X}{e}{t}(h:PW X e t):PT X e t:=h _
def PA (X:Cx) (es:List Expr) (t:TA):Prop:=
 ∀(pos:Pos) (pins:List (Addr×Obj)) (s:Shared) (Z:St) (H:Hp) (Q:List V->Hp->Prop),Inv X pins Z H s->t Z H Q->wpAny (model X.prog X.w) X.A (spliced (backTo pos (starEach es X.env))) (AP X pins Z Q) X.xe s
def PS (X:Cx) (st:Stmt) (t:TS):Prop:=
 ∀pins s Z H (D:Ends),Inv X pins Z H s->t D Z H->wpAny (model X.prog X.w) X.A (exec st X.env) (SP X pins D) X.xe s
def PSs (X:Cx) (st:List Stmt) (t:TS):Prop:=
 ∀pins s Z H (D:Ends),Inv X pins Z H s->t D Z H->wpAny (model X.prog X.w) X.A (execs st X.env) (SP X pins D) X.xe s
def thn{α : Type}{t:Sem α}{Q Q'}{M}{A}{E}{s}(h:wpAny M A t Q E s)(hQ:∀a s,Q a s->Q' a s):wpAny M A t Q' E s:=wpAny_mono h hQ λ_ _ x=>x
section
variable {X:Cx}
def C0 (i:Nat):TE:=fun Z H Q=>∃v, Z[i]? = some (some v)/\Q v H
def tC (v:V):TE:=λ_ H Q=>Q v H
def Xge{i:Nat}{x:Str}{pos:Pos}(hN:X.N[i]? = some x)(hv:Vis X.env.scope x)(hd:(x==("__debug__" : Str))=false:=by decide)(hcd:(x==("__classdict__" : Str))=false:=by decide):PE X (.Name x pos) (C0 i):=by
 intro pins s Z H Q I h;obtain⟨v,e,h⟩:=h;obtain⟨m,hn,hl⟩:=I.loc;obtain⟨u,r,l⟩:=hl i x v hN e hv;have fin:EP X pins Z Q u s:=⟨v,H,I,r,h⟩;rcases l with ⟨hk,hm⟩ | ⟨hk,c,hc,hcell⟩
 ·exact wpAny_Name (wpAny_loadName_local I.ok.kind hk hn hm fin) hd
 ·rcases hk with hk | hk
  ·exact wpAny_Name (wpAny_loadName_cell I.ok.kind hk hc hcell fin) hd
  ·exact wpAny_Name (wpAny_loadName_free I.ok.kind hk hc hcell fin hcd) hd
def Af{i j pos}:PE X (.Constant (.int i) j pos) (tC (.int i)):=λ_ _ _ H _ I h=>wpAny_Constant_int ⟨.int i,H,I.tok _,⟨_,rfl⟩,h⟩
def Dm{b j pos}:PE X (.Constant (.bool b) j pos) (tC (.bl b)):=λ_ _ _ H _ I h=>Constant_bool ⟨.bl b,H,I,rfl,h⟩
def Xac{j pos}:PE X (.Constant .none j pos) (tC .non):=λ_ _ _ H _ I h=>Constant_none ⟨.non,H,I,rfl,h⟩
def Az{x j pos}:PE X (.Constant (.str x) j pos) (tC (.str x)):=λ_ _ _ H _ I h=>Calls.Constant_str ⟨.str x,H,I.tok _,⟨_,rfl⟩,h⟩
def Gl (X:Cx) (x:Str):Prop:=X.env.kindOf x=some .globalImplicit
def Gz{E:Zc}{pins:List (Addr×Obj)}{s:Shared}{Z:St}{H:Hp}{x:Str}{u:Value}{pos:Pos}{Q:Zc}(I:Inv X pins Z H s)(hg:Gl X x)(hm:X.mg x=some u)(h:Q u s)
  (hd:(x==("__debug__" : Str))=false:=by decide):wpAny (model X.prog X.w) X.A (eval (.Name x pos) X.env) Q E s:=
 Calls.Name_function_global I.ok.kind hg (Calls.loadGlobal_global (by rw[I.ok.glob];exact I.mod.glob.keeps I.bk) hm h) hd
def Fx{E:Zc}{pins:List (Addr×Obj)}{s:Shared}{Z:St}{H:Hp}{x:Str}{u:Value}{pos:Pos}{Q:Zc}(I:Inv X pins Z H s)(hg:Gl X x)(hm:X.mg x=none)(hv:bootBuiltins x=some u)(h:Q u s)
  (hn:x ≠ "__name__" := by decide) (hd:(x==("__debug__" : Str))=false:=by decide):wpAny (model X.prog X.w) X.A (eval (.Name x pos) X.env) Q E s:=by
 obtain⟨mb,h1,h2⟩:=I.mod.blt;exact Calls.Name_function_global I.ok.kind hg (Calls.loadGlobal_builtin (by rw[I.ok.glob];exact I.mod.glob.keeps I.bk) hm (by rw[I.ok.blt];exact h1.keeps I.bk) ((h2 x hn).trans hv) h) hd
def Xad{x:Str}{v:V}{u:Value}{pos:Pos}(hg:Gl X x)(hm:X.mg x=some u)(r:Ai v u)(hd:(x==("__debug__" : Str))=false:=by decide):PE X (.Name x pos) (tC v):=
 λ_ _ _ H _ I h=>Gz I hg hm ⟨v,H,I,r,h⟩ hd
def G0{x:Str}{v:V}{u:Value}{pos:Pos}(hg:Gl X x)(hm:X.mg x=none)(hv:bootBuiltins x=some u)(r:Ai v u)(hn:x ≠ "__name__" := by decide)(hd:(x==("__debug__" : Str))=false:=by decide):PE X (.Name x pos) (tC v):=
 λ_ _ _ H _ I h=>Fx I hg hm hv ⟨v,H,I,r,h⟩ hn hd
def t2I (ta tb:TE) (k:Int->Int->Hp->Prop):St->Hp->Prop:=fun Z H=>ta Z H λx H1=>tb Z H1 λy H2=>∃i j,x = .int i/\y = .int j/\k i j H2
def tMul (ta tb:TE):TE:=fun Z H Q=>t2I ta tb (λi j H2=>(-(2 ^ 64)<i/\i<2 ^ 64)/\Q (.int (i * j)) H2) Z H
variable {a b:Expr}{ta tb:TE}{pos:Pos}
def PC (X:Cx) (op:CmpOp) (a b:Expr) (t:TE):Prop:=
 ∀pins s Z H (Q:VK),Inv X pins Z H s->t Z H Q ->
  wpAny (model X.prog X.w) X.A (eval a X.env) (λv s₁=>wpAny (model X.prog X.w) X.A (eval b X.env) (λu s₂=>wpAny (model X.prog X.w) X.A (compareOp op v u) (EP X pins Z Q) X.xe s₂) X.xe s₁) X.xe s
def tIsN (ta:TE):TE:=fun Z H Q=>ta Z H λx H1=>Q (.bl (decide (x = .non))) H1
def tB (t:TE):TT:=fun Z H Q=>t Z H λx H1=>∃c,x = .bl c/\Q c H1
def Xgf{op:CmpOp}{t:TE}(h:PC X op a b t)(h1:behindInMarks op b=false:=by first | exact nobehind _ (by decide) (by decide) | rfl):PE X (.Compare a [op] [b] pos) t:=λpins s Z H Q I hw=>wpAny_Compare1 (h pins s Z H Q I hw) h1
def Dd{e:Expr}{t:TE}(h:PE X e t)(he:∀whole,isTrue e X.env whole=(do let v <-whole;standAt e.pos;holding [v] (truthy v)):=by intro _;rfl):PT X e (tB t):=by
 intro pins s Z H Q I hw;refine isTrue_plain (thn (h pins s Z H _ I hw) λv s1 ⟨x,H1,I1,r1,q1⟩=>?_) (he _);obtain⟨d,rfl,q⟩:=q1;cases r1;exact wpAny_truthy_bool ⟨H1,I1,q⟩
variable {tA tB':TT}{rest:List Expr}
def tAnd (t u:TT):TT:=fun Z H Q=>t Z H λc H1=>if c=true then u Z H1 Q else Q false H1
def tOr (t u:TT):TT:=fun Z H Q=>t Z H λc H1=>if c=true then Q true H1 else u Z H1 Q
def tNot (t:TT):TT:=fun Z H Q=>t Z H λc H1=>Q (!c) H1
def Ed(ha:PT X a tA):PW X (.BoolOp .And [a] pos) tA:=by
 intro wh pins s Z H Q I h;refine isTrue_and (thn (ha pins s Z H Q I h) λc s1 e=>?_);cases c with
 | true=>exact isTrue_and_nil e
 | false=>exact e
def Es(ha:PT X a tA):PW X (.BoolOp .Or [a] pos) tA:=by
 intro wh pins s Z H Q I h;refine isTrue_or (thn (ha pins s Z H Q I h) λc s1 e=>?_);cases c with
 | false=>exact isTrue_or_nil e
 | true=>exact e
def Ee(ha:PT X a tA)(hb:PW X (.BoolOp .And (b::rest) pos) tB'):PW X (.BoolOp .And (a::b::rest) pos) (tAnd tA tB'):=by
 intro wh pins s Z H Q I h;refine isTrue_and (thn (ha pins s Z H _ I h) λc s1 ⟨H1,I1,q1⟩=>?_);cases c with
 | true=>exact hb wh pins s1 Z H1 Q I1 q1
 | false=>exact⟨H1,I1,q1⟩
def Et(ha:PT X a tA)(hb:PW X (.BoolOp .Or (b::rest) pos) tB'):PW X (.BoolOp .Or (a::b::rest) pos) (tOr tA tB'):=by
 intro wh pins s Z H Q I h;refine isTrue_or (thn (ha pins s Z H _ I h) λc s1 ⟨H1,I1,q1⟩=>?_);cases c with
 | true=>exact⟨H1,I1,q1⟩
 | false=>exact hb wh pins s1 Z H1 Q I1 q1
def Fy(ha:PT X a tA):PT X (.UnaryOp .Not a pos) (tNot tA):=by
 intro pins s Z H Q I h;exact isTrue_not (ha pins s Z H (λc H1=>Q (!c) H1) I h)
def Xgg (ta tb:TE):TE:=fun Z H Q=>ta Z H λx H1=>∃c,x = .bl c/\if c=true then tb Z H1 Q else Q (.bl false) H1
def tOrV (ta tb:TE):TE:=fun Z H Q=>ta Z H λx H1=>∃c,x = .bl c/\if c=true then Q (.bl true) H1 else tb Z H1 Q
def Xgh (ta:TE):TE:=fun Z H Q=>ta Z H λx H1=>∃c,x = .bl c/\Q (.bl (!c)) H1
def G1{op}{t}(h:PE X a t):PE X (.BoolOp op [a] pos) t:=λpins s Z H Q I hw=>BoolOp_one (h pins s Z H Q I hw)
def Jd(ha:PE X a ta)(hb:PE X (.BoolOp .And (b::rest) pos) tb):PE X (.BoolOp .And (a::b::rest) pos) (Xgg ta tb):=by
 intro pins s Z H Q I h;refine BoolOp_and (thn (ha pins s Z H _ I h) λv s1 ⟨x,H1,I1,r1,q1⟩=>?_);obtain⟨c,rfl,q1⟩:=q1;cases r1;refine wpAny_truthy_bool ?_;cases c with
 | true=>exact hb pins s1 Z H1 Q I1 q1
 | false=>exact⟨.bl false,H1,I1,rfl,q1⟩
def Xgi(ha:PE X a ta)(hb:PE X (.BoolOp .Or (b::rest) pos) tb):PE X (.BoolOp .Or (a::b::rest) pos) (tOrV ta tb):=by
 intro pins s Z H Q I h;refine BoolOp_or (thn (ha pins s Z H _ I h) λv s1 ⟨x,H1,I1,r1,q1⟩=>?_);obtain⟨c,rfl,q1⟩:=q1;cases r1;refine wpAny_truthy_bool ?_;cases c with
 | false=>exact hb pins s1 Z H1 Q I1 q1
 | true=>exact⟨.bl true,H1,I1,rfl,q1⟩
def Xgj(ha:PE X a ta):PE X (.UnaryOp .Not a pos) (Xgh ta):=by
 intro pins s Z H Q I h;refine UnaryOp_ (thn (ha pins s Z H _ I h) λv s1 ⟨x,H1,I1,r1,q1⟩=>?_);obtain⟨c,rfl,q1⟩:=q1;cases r1;exact not_of (wpAny_truthy_bool ⟨.bl (!c),H1,I1,rfl,q1⟩)
def tIf (t:TT) (ta tb:TE):TE:=fun Z H Q=>t Z H λc H1=>if c=true then ta Z H1 Q else tb Z H1 Q
def G2{c}(hc:PT X c tA)(ha:PE X a ta)(hb:PE X b tb):PE X (.IfExp c a b pos) (tIf tA ta tb):=by
 intro pins s Z H Q I h;refine wpAny_IfExp (thn (hc pins s Z H _ I h) λd s1 ⟨H1,I1,q1⟩=>?_);cases d with
 | true=>exact ha pins s1 Z H1 Q I1 q1
 | false=>exact hb pins s1 Z H1 Q I1 q1
end
def SqL (K:Za) (H:Hp) (a:Addr) (xs:List V):Prop:=
 Rd H a (.lst xs) \/
  ∃(o:Obj) (its:Array Value) (n:Nat),K.lookup a=some o/\o.cls = .type "list" /\ o.dict=none/\o.data = .seq its n/\its.size<=sizeLine/\Vals xs its.toList
def SqT (K:Za) (H:Hp) (a:Addr) (xs:List V):Prop:=
 Rd H a (.tup xs) \/
  ∃(o:Obj) (its:Array Value) (n:Nat),K.lookup a=some o/\o.cls = .type "tuple" /\ o.data = .seq its n/\its.size<=sizeLine/\Vals xs its.toList
def absV:Value->Option V
 | .none=>some .non
 | .bool b=>some (.bl b)
 | .int i _=>some (.int i)
 | .str x _=>some (.str x)
 | .bytes b _=>some (.byt b)
 | .float b _=>some (.flt b)
 | .ref a=>some (.ref a)
 | .type n=>some (.ty n)
 | _=>none
def Ai.abs{x}{u}(r:Ai x u):absV u=some x:=by
 cases x with
 | non=>cases r;rfl
 | bl _=>cases r;rfl
 | int _=>obtain⟨t,rfl⟩:=r;rfl
 | str _=>obtain⟨t,rfl⟩:=r;rfl
 | byt _=>obtain⟨t,rfl⟩:=r;rfl
 | flt _=>obtain⟨t,rfl⟩:=r;rfl
 | ref _=>cases r;rfl
 | ty _=>cases r;rfl
def Ai.inj{x y}{u}(r:Ai x u)(q:Ai y u):x=y:=O0 (r.abs.symm.trans q.abs)
theorem Vals.inj:∀{xs ys:List V} {us:List Value},Vals xs us->Vals ys us->xs=ys
 | _,_,_,.nil,.nil=>rfl
 | _,_,_,.cons r t,.cons r' t'=>by rw[r.inj r',Vals.inj t t']
section
variable {X:Cx}{pins:List (Addr×Obj)}{Z:St}{H:Hp}{s:Shared}{a:Addr}{xs ys:List V}
def SqL.of{K}(h:H a=some (.lst xs)):SqL K H a xs:=.inl (.inl h)
def SqT.of{K}(h:H a=some (.tup xs)):SqT K H a xs:=.inl (.inl h)
def Inv.list(I:Inv X pins Z H s)(h:SqL X.K H a xs):∃its:List Value,Vals xs its/\PlainL s.heap a its.toArray/\xs.length<=sizeLine:=by
 rcases h with h | ⟨o,its,n,hk,hc,hd,hs,hz,r⟩
 ·obtain⟨z,its,n,r,e⟩:=h.ok I.hok;exact⟨its,r,⟨_,n,e,rfl,rfl,rfl⟩,z⟩
 ·refine⟨its.toList,r,⟨o,n,I.kIn a o hk,hc,hd,by simpa using hs⟩,?_⟩;have e:=r.length;simp only[O1] at e;omega
def Inv.tuple(I:Inv X pins Z H s)(h:SqT X.K H a xs):∃its:List Value,Vals xs its/\IsTup s.heap a its.toArray/\xs.length<=sizeLine:=by
 rcases h with h | ⟨o,its,n,hk,hc,hs,hz,r⟩
 ·obtain⟨z,its,r,p⟩:=h.ok I.hok;exact⟨its,r,p,z⟩
 ·refine⟨its.toList,r,⟨o,I.kIn a o hk,hc,n,by simpa using hs⟩,?_⟩;have e:=r.length;simp only[O1] at e;omega
def Inv.list_inj(I:Inv X pins Z H s)(h:SqL X.K H a xs)(h':SqL X.K H a ys):xs=ys:=by
 obtain⟨its,r,⟨o,n,e,_,_,d⟩,_⟩:=I.list h;obtain⟨its',r',⟨o',n',e',_,_,d'⟩,_⟩:=I.list h';rw[e] at e';cases e';rw[d] at d';injection d' with d1 _
 have:its=its':=by simpa using congrArg Array.toList d1
 subst this;exact r.inj r'
def Inv.tuple_inj(I:Inv X pins Z H s)(h:SqT X.K H a xs)(h':SqT X.K H a ys):xs=ys:=by
 obtain⟨its,r,⟨o,e,_,n,d⟩,_⟩:=I.tuple h;obtain⟨its',r',⟨o',e',_,n',d'⟩,_⟩:=I.tuple h';rw[e] at e';cases e';rw[d] at d';injection d' with d1 _
 have:its=its':=by simpa using congrArg Array.toList d1
 subst this;exact r.inj r'
end
abbrev Cx.wish (X:Cx) (E:Zc):Cx:={X with xe:=E}
abbrev Cx.nox (X:Cx):Cx:=X.wish λ_ _=>False
def Cx.Ok.wish{X:Cx}(ok:X.Ok)(E):(X.wish E).Ok:=
 ⟨ok.mod,ok.kind,ok.glob,ok.blt,ok.above,ok.inj,ok.has,ok.cab,ok.hd,ok.frames,ok.stk,ok.exf,ok.bs,ok.bsz,ok.noex,ok.exfs,ok.funs,ok.frf⟩
def Cx.Ok.unwish{X:Cx}{E}(ok:(X.wish E).Ok):X.Ok:=
 ⟨ok.mod,ok.kind,ok.glob,ok.blt,ok.above,ok.inj,ok.has,ok.cab,ok.hd,ok.frames,ok.stk,ok.exf,ok.bs,ok.bsz,ok.noex,ok.exfs,ok.funs,ok.frf⟩
section
variable {X:Cx}{pins:List (Addr×Obj)}{Z:St}{H:Hp}{s:Shared}{E:Zc}
def Inv.wish(I:Inv X pins Z H s)(E):Inv (X.wish E) pins Z H s:=⟨I.ok.wish E,I.os,I.bare,I.base,I.loc,I.cell,I.free,I.freeC,I.pin,I.hok,I.len⟩
def Inv.unwish(I:Inv (X.wish E) pins Z H s):Inv X pins Z H s:=⟨I.ok.unwish,I.os,I.bare,I.base,I.loc,I.cell,I.free,I.freeC,I.pin,I.hok,I.len⟩
def SP.unwish{D}{f}{s'}(h:SP (X.wish E) pins D f s'):SP X pins D f s':=by
 cases f with
 | next=>obtain⟨Z',H',I,q⟩:=h;exact⟨Z',H',I.unwish,q⟩
 | brk=>obtain⟨Z',H',I,q⟩:=h;exact⟨Z',H',I.unwish,q⟩
 | cont=>obtain⟨Z',H',I,q⟩:=h;exact⟨Z',H',I.unwish,q⟩
 | ret u=>obtain⟨v, Z',H',I,r,q⟩:=h;exact⟨v, Z',H',I.unwish,r,q⟩
def PSs.nox{st}{t}(h:PSs X.nox st t):PSs X st t:=λpins s Z H D I hw=>
 wpAny_mono (h pins s Z H D (I.wish _) hw) (λ_ _ q=>q.unwish) λ_ _ z=>False.elim z
end
section
variable {X:Cx}{st:Stmt}{rest:List Stmt}{t u:TS}{e:Expr}{te:TE}{pos:Pos}
def K8:TS:=λD Z H=>D.nx Z H
def Je (t u:TS):TS:=λD Z H=>t {D with nx:=u D} Z H
def A8:PSs X [] K8:=λ_ _ Z H _ I h=>wpAny_execs_nil ⟨Z,H,I,h⟩
def Ae(h1:PS X st t)(h2:PSs X rest u):PSs X (st::rest) (Je t u):=by
 intro pins s Z H D I h;refine wpAny_execs_cons (thn (h1 pins s Z H {D with nx:=u D} I h) λf s1 q=>?_);cases f with
 | next=>
  obtain⟨Z',H',I',q⟩:=q;exact h2 pins s1 Z' H' D I' q
 | ret v=>exact q
 | brk=>exact q
 | cont=>exact q
def Ag(h1:PS X st t):PSs X [st] t:=by
 intro pins s Z H D I h;refine wpAny_execs_cons (thn (h1 pins s Z H D I h) λf s1 q=>?_);cases f with
 | next=>exact wpAny_execs_nil q
 | ret v=>exact q
 | brk=>exact q
 | cont=>exact q
def Inv.quiet{pins}{Z:St}{H}{s}(I:Inv X pins Z H s):interactive X.env=false:=by simp[interactive,I.ok.kind]
def Xae (te:TE):TS:=λD Z H=>te Z H λ_ H1=>D.nx Z H1
def Eu(he:PE X e te)(hs:swapsWith e none pos.line X.env=pure false:=by rfl):PS X (.Expr e pos) (Xae te):=by
 intro pins s Z H D I h;exact wpAny_Expr_any (thn (he pins s Z H _ I h) λv s1 ⟨x,H1,I1,r1,q1⟩=>⟨Z,H1,I1,q1⟩) I.quiet hs
def Xaf (te:TE):TS:=λD Z H=>te Z H D.rt
def An(he:PE X e te):PS X (.Return (some e) pos) (Xaf te):=by
 intro pins s Z H D I h;exact wpAny_Return_some (thn (he pins s Z H _ I h) λv s1 ⟨x,H1,I1,r1,q1⟩=>⟨x, Z,H1,I1,r1,q1⟩)
def Jf (c:TT) (t u:TS):TS:=λD Z H=>c Z H λb H1=>if b=true then t D Z H1 else u D Z H1
def A5{c}{a b}{tc}(hc:PT X c tc)(ha:PSs X a t)(hb:PSs X b u):PS X (.If c a b pos) (Jf tc t u):=by
 intro pins s Z H D I h;refine wpAny_If (thn (hc pins s Z H _ I h) λd s1 ⟨H1,I1,q1⟩=>?_);cases d with
 | true=>exact ha pins s1 Z H1 D I1 q1
 | false=>exact hb pins s1 Z H1 D I1 q1
def Xqm:TS:=λ_ _ _=>False
end
abbrev TG:=V->St->Hp->(St->Hp->Prop)->Prop
abbrev TGs:=List V->St->Hp->(St->Hp->Prop)->Prop
def PG (X:Cx) (target:Expr) (t:TG):Prop:=
 ∀pins s Z H (v:V) (u:Value) (Q:St->Hp->Prop),Inv X pins Z H s->Ai v u->t v Z H Q ->
  wpAny (model X.prog X.w) X.A (assign target X.env u) (λ_ s'=>∃Z' H',Inv X pins Z' H' s'/\Q Z' H') X.xe s
def PGs (X:Cx) (ts:List Expr) (t:TGs):Prop:=
 ∀pins s Z H (vs:List V) (us:List Value) (Q:St->Hp->Prop),Inv X pins Z H s->Vals vs us->t vs Z H Q ->
  wpAny (model X.prog X.w) X.A (assignInOrder ((assignEach ts X.env).map (·.2)) us) (λ_ s'=>∃Z' H',Inv X pins Z' H' s'/\Q Z' H') X.xe s
abbrev TSet:=V->V->V->Hp->(Hp->Prop)->Prop
def PSet (X:Cx) (t:TSet):Prop:=
 ∀pins s Z H (o i v:V) (ov iv u:Value) (Q:Hp->Prop),Inv X pins Z H s->Ai o ov->Ai i iv->Ai v u->t o i v H Q ->
  wpAny (model X.prog X.w) X.A (setItem ov iv u) (λ_ s'=>∃H',Inv X pins Z H' s'/\Q H') X.xe s
abbrev TIp:=V->V->Hp->VK->Prop
section
variable {X:Cx}{pos:Pos}
def A6 (i:Nat):TG:=λv Z H Q=>Q (Z.set i (some v)) H
def Aw{i:Nat}{x:Str}(hN:X.N.Nodup)(hi:X.N[i]? = some x)(hx:Loc X.env.scope x)(hf:X.fn x=true\/X.env.scope.names.lookup x=some .local:=by first | exact .inl rfl | exact .inr rfl | assumption):PG X (.Name x pos) (A6 i):=by
 intro pins s Z H v u Q I r h;exact wpAny_assign_Name (Xab I hN hi hx r (λs' I'=>⟨_,H,I',h⟩) hf)
def Xag:TGs:=λvs Z H Q=>vs=[]/\Q Z H
def K9 (t:TG) (u:TGs):TGs:=λvs Z H Q=>∃v r,vs=v::r/\t v Z H fun Z' H'=>u r Z' H' Q
def Fd:PGs X [] Xag:=by
 intro pins s Z H vs us Q I r h;obtain⟨e,h⟩:=h;subst e;cases r;exact assignInOrder_nil ⟨Z,H,I,h⟩
def Cn{e:Expr}{es:List Expr}{t:TG}{u:TGs}(h1:PG X e t)(h2:PGs X es u)
  (hs:(assignEach (e::es) X.env).map (·.2)=assign e X.env::(assignEach es X.env).map (·.2):=by rfl):PGs X (e::es) (K9 t u):=by
 intro pins s Z H vs us Q I r h;obtain⟨v,vr,e1,h⟩:=h;subst e1;cases r with
 | cons r rr=>
  rw[hs];refine assignInOrder_cons (thn (h1 pins s Z H _ _ _ I r h) λ_ s1 ⟨Z1,H1,I1,q1⟩=>?_);exact h2 pins s1 Z1 H1 _ _ Q I1 rr q1
def La (K:Za) (n:Nat) (t:TGs):TG:=λv Z H Q=>∃a xs,v = .ref a/\SqT K H a xs/\xs.length=n/\t xs Z H Q
def Lb{es:List Expr}{k:Nat}{t:TGs}{n:Nat}(hc:X.calm=true)(h:PGs X es t)
  (hn:(assignEach es X.env).length=n:=by rfl) (hst:(assignEach es X.env).findIdx? (·.1)=none:=by rfl):PG X (.Tuple es k pos) (La X.K n t):=by
 intro pins s Z H v u Q I r hw;obtain⟨a,xs,e1,hq,hl,hw⟩:=hw;subst e1;cases r;obtain⟨its,rv,ht,hz⟩:=I.tuple hq;refine assign_Tuple_tuple (I.ok.hd hc) ht (by simp[hn,<-hl,rv.length]) hst λh' hx=>?_;have I1:Inv X pins Z H {s with heap:=h'}:=I.kept (t':=s.toks) λb o e=>hx b o (Ow (Tl e)) e;exact h pins _ Z H xs _ Q I1 (by simpa using rv) hw
def gSub (to ti:TE) (t:TSet):TG:=λv Z H Q=>to Z H λo H1=>ti Z H1 λi H2=>t o i v H2 λH3=>Q Z H3
def Fe{o i:Expr}{to ti:TE}{t:TSet}(ho:PE X o to)(hi:PE X i ti)(hs:PSet X t)
  (ha:∀v,assign (.Subscript o i pos) X.env v=(do
   let ov <-holding [v] (eval o X.env)
   let iv <-holding [v,ov] (eval i X.env)
   standAt pos
   holding [v,ov,iv] (setItem ov iv v)
   release [v,ov,iv] []):=by intro _;rfl):PG X (.Subscript o i pos) (gSub to ti t):=by
 intro pins s Z H v u Q I r h;rw[ha];refine Ta (wpAny_holding (thn (ho pins s Z H _ I h) λov s1 ⟨x,H1,I1,r1,q1⟩=>?_));refine Ta (wpAny_holding (thn (hi pins s1 Z H1 _ I1 q1) λiv s2 ⟨y,H2,I2,r2,q2⟩=>?_));refine Ta (wpAny_standAt (Ta (wpAny_holding (thn (hs pins s2 Z H2 x y v ov iv u _ I2 r1 r2 r q2) λ_ s3 ⟨H3,I3,q3⟩=>?_))));exact wpAny_release ⟨Z,H3,I3,q3⟩
def Lc (te:TE) (g:TG):TS:=λD Z H=>te Z H λx H1=>g x Z H1 D.nx
def Ef{tg e:Expr}{te:TE}{g:TG}(he:PE X e te)(hg:PG X tg g)(hs:swapsWithSole [tg] e pos.line X.env=pure false:=by rfl)(hw:swappedStores [tg] e X.env=pure none:=by rfl)
  (h1:(assignEach [tg] X.env).map (·.2)=[assign tg X.env]:=by rfl):PS X (.Assign [tg] e pos) (Lc te g):=by
 intro pins s Z H D I h;refine wpAny_Assign_stores (thn (he pins s Z H _ I h) λv s1 ⟨x,H1,I1,r1,q1⟩=>?_) hs hw;rw[h1];exact thn (hg pins s1 Z H1 x v _ I1 r1 q1) λ_ s2 q=>q
def Ao{i:Nat}{x:Str}{e:Expr}{te:TE}{pos':Pos}(hN:X.N.Nodup)(hi:X.N[i]? = some x)(hx:Loc X.env.scope x)(he:PE X e te)(hs:swapsWith e (some (.Name x pos')) pos.line X.env=pure false:=by rfl)(hf:X.fn x=true\/X.env.scope.names.lookup x=some .local:=by first | exact .inl rfl | exact .inr rfl | assumption):
  PS X (.Assign [.Name x pos'] e pos) (Lc te (A6 i)):=by
 intro pins s Z H D I h;refine wpAny_Assign_Name (thn (he pins s Z H _ I h) λv s1 ⟨y,H1,I1,r1,q1⟩=>?_) hs;exact Xab I1 hN hi hx r1 (λs2 I2=>⟨_,H1,I2,q1⟩) hf
def tPar (i j:Nat) (ta:TA):TS:=λD Z H=>ta Z H λvs H1=>∃v w,vs=[v,w]/\D.nx ((Z.set i (some v)).set j (some w)) H1
def tAug (i:Nat) (te:TE) (ti:TIp):TS:=λD Z H=>∃x, Z[i]? = some (some x)/\te Z H λy H1=>ti x y H1 λz H2=>D.nx (Z.set i (some z)) H2
def tAugS (to ti te:TE) (tget:V->V->Hp->VK->Prop) (tip:TIp) (tset:TSet):TS:=λD Z H=>to Z H λo H1=>ti Z H1 λi H2=>tget o i H2 λx H3=>te Z H3 λy H4=>tip x y H4 λz H5=>tset o i z H5 λH6=>D.nx Z H6
def PGet (X:Cx) (t:V->V->Hp->VK->Prop):Prop:=
 ∀pins s Z H (o i:V) (ov iv:Value) (Q:VK),Inv X pins Z H s->Ai o ov->Ai i iv->t o i H Q ->
  wpAny (model X.prog X.w) X.A (getItem ov iv) (EP X pins Z Q) X.xe s
def ipI (f:Int->Int->Int):TIp:=λx y H Q=>∃i j,x = .int i/\y = .int j/\Q (.int (f i j)) H
end
section
variable {X:Cx}{pos:Pos}
def Xqn (c:TT) (tb:TS):TS:=λD Z H=>∃W:Nat->St->Hp->Prop,(∃m,W m Z H)/\∀m Z H,W m Z H ->
 c Z H λb H1=>if b=true then ∃N:St->Hp->Prop,(∀Z' H',N Z' H'->∃m',m'<m/\W m' Z' H')/\tb {D with nx:=N,ct:=N,bk:=D.nx} Z H1 else D.nx Z H1
end
structure It where
 go:Nat->Hp->Prop
 yld:Nat->Hp->V->Hp->Prop
 stop:Nat->Hp->Prop
def FpOk (X:Cx) (pins:List (Addr×Obj)) (H:Hp) (b:Addr):Prop:=
 H b=none/\b≠X.env.locals/\b∉X.fs/\(b∈X.ex\/X.s₀.heap.objs.size<=b)/\(∀x c,X.env.cells.lookup x=some c->c≠b)/\∀p∈X.pn++pins,p.1≠b
def Inv.fpOk{X}{pins}{Z:St}{H H'}{s}{b:Addr}(I:Inv X pins Z H s)(hb:s.heap.objs.size<=b)(hn:H' b=none):FpOk X pins H' b:=by
 refine⟨hn,Nat.ne_of_gt (O7 I.lt hb),I.nofs hb,.inr (Pd I.sz hb),λx c e z=>?_,λp hp z=>?_⟩
 ·obtain⟨v,q⟩:=I.cell x c e;exact absurd (O7 q.lt (by rw[z];exact hb)) (P5 _)
 ·exact absurd (O7 (Tl (I.pin p hp).1) (by rw[z];exact hb)) (P5 _)
structure Turn (P:Program) (w:World) (K:Za) (tg:Expr) (J:It) (fp:List Addr) (it:Addr) (tn:Nat->Heap->Prop):Prop where
 mem:it∈fp
 obj:∀i h,tn i h->∀b∈fp,∃o,h.get? b=some o/\∀v,o.data ≠ .cell v
 keep:∀i h h',tn i h->(∀b∈fp,∀o,h.get? b=some o->h'.get? b=some o)->tn i h'
 item:∀(X:Cx),X.prog=P->X.w=w->X.K=K->X.calm=true->∀(i:Nat) (pins:List (Addr×Obj)) (s:Shared) (Z:St) (H:Hp) (E:Zc),Inv X pins Z H s->(∀b∈fp,FpOk X pins H b)->tn i s.heap->J.go i H ->
  wpAny (model P w) X.A (pyNext (.ref it)) (λr s1=>∃u,r=some u /\
   wpAny (model P w) X.A (letOwnedTupleGo tg (.ref it) u) (λ_ s2=>∃x H',Inv X pins Z H' s2/\Ai x u/\J.yld i H x H'/\tn (i+1) s2.heap/\∀b∈fp,H' b=none) E s1) E s
 done:∀(X:Cx),X.prog=P->X.w=w->X.K=K->X.calm=true->∀(i:Nat) (pins:List (Addr×Obj)) (s:Shared) (Z:St) (H:Hp) (E:Zc),Inv X pins Z H s->(∀b∈fp,FpOk X pins H b)->tn i s.heap->J.stop i H ->
  wpAny (model P w) X.A (pyNext (.ref it)) (λr s1=>r=none/\Inv X pins Z H s1) E s
 self:∀(A:Around) (i:Nat) (s:Shared) (Q:Zc) (E:Zc),tn i s.heap->Q (.ref it) s->wpAny (model P w) A (pyIter (.ref it)) Q E s
abbrev TI:=St->Hp->(It->Hp->Prop)->Prop
def PIE (X:Cx) (pins:List (Addr×Obj)) (Z:St) (tg:Expr) (R:It->Hp->Prop) (itv:Value) (s2:Shared):Prop:=
 ∃(it:Addr) (fp:List Addr) (tn:Nat->Heap->Prop) (J:It) (H':Hp),itv = .ref it/\Inv X pins Z H' s2/\Turn X.prog X.w X.K tg J fp it tn/\tn 0 s2.heap/\(∀b∈fp,FpOk X pins H' b)/\R J H'
def PI (X:Cx) (tg iter:Expr) (wi:TI):Prop:=
 ∀pins s Z H (R:It->Hp->Prop),Inv X pins Z H s->wi Z H R ->
  wpAny (model X.prog X.w) X.A (eval iter X.env) (λv s1=>wpAny (model X.prog X.w) X.A (pyIter v) (PIE X pins Z tg R) X.xe s1) X.xe s
def Jg{M}{A}{E}{s}{tg}{it}{u}{o}{n}{vs}{Q}(ho:s.heap.get? it=some o)(hc:o.cls = .type n)(hd:o.data = .fields vs)
    (hn:["enumerate", "zip", "dict_itemiterator", "dict_reverseitemiterator", "odict_iterator", "itertools.zip_longest", "itertools.pairwise"].contains n=false) (hQ:Q () s):wpAny M A (letOwnedTupleGo tg (.ref it) u) Q E s:=by
  unfold letOwnedTupleGo;cases tg<;>first
    | exact Tb hQ
    | (cases u<;>first
        | exact Tb hQ
        | (refine Ta (wpAny_load ho ?_)
           rw[hc,hd];show wpAny M A (if (["enumerate", "zip", "dict_itemiterator", "dict_reverseitemiterator", "odict_iterator", "itertools.zip_longest", "itertools.pairwise"].contains n&&vs[0]? == some (rawInt _))=true then _ else _) Q E s;rw[Tf (by intro h;rw[hn,P7] at h;cases h)];exact Tb hQ))
def Itl (K:Za) (a:Addr):It:=
 ⟨λi H=>∃xs x,SqL K H a xs/\xs[i]? = some x,λi H x H'=>H'=H/\∀xs,SqL K H a xs->xs[i]? = some x,λi H=>∃xs,SqL K H a xs/\xs.length<=i⟩
def Itt (K:Za) (a:Addr):It:=
 ⟨λi H=>∃xs x,SqT K H a xs/\xs[i]? = some x,λi H x H'=>H'=H/\∀xs,SqT K H a xs->xs[i]? = some x,λi H=>∃xs,SqT K H a xs/\xs.length<=i⟩
def Itr (lo:Int) (n:Nat):It:=⟨λi _=>i<n,λi H x H'=>H'=H/\x = .int (lo+i),λi _=>n<=i⟩
def Xgk{P:Program}{w:World}{K:Za}{tg:Expr}(a it:Addr):Turn P w K tg (Itl K a) [it] it (λi h=>h.IsListIter it a i) where
 mem:=by simp
 obj:=λi h st b hb=>by
  have e:b=it:=by simpa using hb
  subst e;obtain⟨o,e,c,d⟩:=st;exact⟨o,e,λv z=>by rw[d] at z;cases z⟩
 keep:=λi h h' st k=>st.at λo e=>k it (by simp) o e
 item:=by
  intro X hP hw hK hc i pins s Z H E I hf st hg;subst hP hw hK;obtain⟨xs,x,hq,hx⟩:=hg;obtain⟨its,rv,p,hz⟩:=I.list hq;obtain⟨u,hu,ru⟩:=rv.get hx;obtain⟨f0,f1,f2,f3,f4,f5⟩:=hf it (by simp);refine wpAny_pyNext_list_item st p.isList (x:=u) (by simpa using hu) λh' st' sb=>?_;have I1:Inv X pins Z H {s with heap:=h'}:=I.turned (t':=s.toks) (λb o hb e=>(sb.2 b hb).trans e) f0 f1 f3 f4 f5;obtain⟨o,e,c,d⟩:=id st';exact⟨u,rfl,Jg (s:={s with heap:=h'}) e c d (by decide) ⟨x,H,I1,ru,⟨rfl,λys hy=>by rw[I.list_inj hy hq];exact hx⟩,st',λb hb=>(hf b hb).1⟩⟩
 done:=by
  intro X hP hw hK hc i pins s Z H E I hf st hg;subst hP hw hK;obtain⟨xs,hq,hx⟩:=hg;obtain⟨its,rv,p,hz⟩:=I.list hq;obtain⟨f0,f1,f2,f3,f4,f5⟩:=hf it (by simp);have hl:=rv.length;exact wpAny_pyNext_list_end (I.ok.hd hc) st p.isList (by simp;omega) λh' eb=>⟨rfl,I.turned (t':=s.toks) (λb o hb e=>eb b o hb e) f0 f1 f3 f4 f5⟩
 self:=λ_ _ _ _ _ st h=>wpAny_pyIter_listiter st h
def Xgl{P:Program}{w:World}{K:Za}{tg:Expr}(a it:Addr):Turn P w K tg (Itt K a) [it] it (λi h=>h.IsTupleIter it a i) where
 mem:=by simp
 obj:=λi h st b hb=>by
  have e:b=it:=by simpa using hb
  subst e;obtain⟨o,e,c,d⟩:=st;exact⟨o,e,λv z=>by rw[d] at z;cases z⟩
 keep:=λi h h' st k=>st.at λo e=>k it (by simp) o e
 item:=by
  intro X hP hw hK hc i pins s Z H E I hf st hg;subst hP hw hK;obtain⟨xs,x,hq,hx⟩:=hg;obtain⟨its,rv,p,hz⟩:=I.tuple hq;obtain⟨u,hu,ru⟩:=rv.get hx;obtain⟨f0,f1,f2,f3,f4,f5⟩:=hf it (by simp);refine wpAny_pyNext_tuple_item st (show s.heap.IsTuple a its.toArray from p) (x:=u) (by simpa using hu) λh' st' sb=>?_;have I1:Inv X pins Z H {s with heap:=h'}:=I.turned (t':=s.toks) (λb o hb e=>(sb.2 b hb).trans e) f0 f1 f3 f4 f5;obtain⟨o,e,c,d⟩:=id st';exact⟨u,rfl,Jg (s:={s with heap:=h'}) e c d (by decide) ⟨x,H,I1,ru,⟨rfl,λys hy=>by rw[I.tuple_inj hy hq];exact hx⟩,st',λb hb=>(hf b hb).1⟩⟩
 done:=by
  intro X hP hw hK hc i pins s Z H E I hf st hg;subst hP hw hK;obtain⟨xs,hq,hx⟩:=hg;obtain⟨its,rv,p,hz⟩:=I.tuple hq;obtain⟨f0,f1,f2,f3,f4,f5⟩:=hf it (by simp);have hl:=rv.length;exact wpAny_pyNext_tuple_end (I.ok.hd hc) st (show s.heap.IsTuple a its.toArray from p) (by simp;omega) λh' eb=>⟨rfl,I.turned (t':=s.toks) (λb o hb e=>eb b o hb e) f0 f1 f3 f4 f5⟩
 self:=λ_ _ _ _ _ st h=>wpAny_pyIter_tupleiter st h
def Xgm{P:Program}{w:World}{K:Za}{tg:Expr}(it:Addr)(lo:Int)(n:Nat):Turn P w K tg (Itr lo n) [it] it (λi h=>IsRangeIter h it (lo+(i:Nat) * 1) ((n:Int) - (i:Nat)) 1) where
 mem:=by simp
 obj:=λi h st b hb=>by
  have e:b=it:=by simpa using hb
  subst e;exact⟨_,st,λv z=>by
   have z':Data.fields _=Data.cell v:=z;cases z'⟩
 keep:=λi h h' st k=>k it (by simp) _ st
 item:=by
  intro X hP hw hK hc i pins s Z H E I hf st hg;subst hP hw hK;obtain⟨f0,f1,f2,f3,f4,f5⟩:=hf it (by simp);have W:=Walks.range (prog:=X.prog) (w:=X.w) (I.ok.hd hc) it lo 1 n;refine W.item i s _ _ hg st λv h' tk hv st' kk=>?_;obtain⟨t,rfl⟩:=hv;have I1:Inv X pins Z H {s with heap:=h',toks:=tk}:=I.turned (λb o hb e=>kk b o (by simpa using hb) e) f0 f1 f3 f4 f5;refine⟨_,rfl,Jg (s:={s with heap:=h',toks:=tk}) (n := "range_iterator") st' rfl rfl (by decide) ⟨.int (lo+i),H,I1,⟨t,?_⟩,⟨rfl,rfl⟩,st',λb hb=>(hf b hb).1⟩⟩;rw[Int.mul_one]
 done:=by
  intro X hP hw hK hc i pins s Z H E I hf st hg;subst hP hw hK;obtain⟨f0,f1,f2,f3,f4,f5⟩:=hf it (by simp);exact wpAny_pyNext_range_end (I.ok.hd hc) st (by have:n<=i:=hg;omega) λh' eb=>⟨rfl,I.turned (t':=s.toks) (λb o hb e=>eb b o hb e) f0 f1 f3 f4 f5⟩
 self:=λ_ _ _ _ _ st h=>wpAny_pyIter_rangeiter st h
section
variable {X:Cx}{tg:Expr}
def Xah (K:Za) (tl:TE):TI:=fun Z H R=>tl Z H λx H1=>∃a,x = .ref a/\(∃xs,SqL K H1 a xs)/\R (Itl K a) H1
def iTup (K:Za) (tl:TE):TI:=fun Z H R=>tl Z H λx H1=>∃a,x = .ref a/\(∃xs,SqT K H1 a xs)/\R (Itt K a) H1
def Bt{l}{tl}(hl:PE X l tl):PI X tg l (Xah X.K tl):=by
 intro pins s Z H R I h;refine thn (hl pins s Z H _ I h) λv s1 ⟨x,H1,I1,r1,q1⟩=>?_;obtain⟨a,e,⟨xs,hq⟩,q⟩:=q1;subst e;cases r1;obtain⟨its,rv,p,hz⟩:=I1.list hq;refine wpAny_pyIter_list p.isList ?_;refine⟨s1.heap.objs.size,[s1.heap.objs.size],_,_,H1,rfl,I1.kept (t':=s1.toks) λb o e=>Tm _ e,Xgk a _,⟨_,Heap.get?_push_size _ rfl,rfl,rfl⟩,λb hb=>?_,q⟩;have e:b=s1.heap.objs.size:=by simpa using hb
 subst e;exact I1.fpOk (Oj _) (I1.hok.fresh (Oj _))
def Jh{l}{tl}(hl:PE X l tl):PI X tg l (iTup X.K tl):=by
 intro pins s Z H R I h;refine thn (hl pins s Z H _ I h) λv s1 ⟨x,H1,I1,r1,q1⟩=>?_;obtain⟨a,e,⟨xs,hq⟩,q⟩:=q1;subst e;cases r1;obtain⟨its,rv,p,hz⟩:=I1.tuple hq;refine wpAny_pyIter_tuple (show s1.heap.IsTuple a its.toArray from p) ?_;refine⟨s1.heap.objs.size,[s1.heap.objs.size],_,_,H1,rfl,I1.kept (t':=s1.toks) λb o e=>Tm _ e,Xgl a _,⟨_,Heap.get?_push_size _ rfl,rfl,rfl⟩,λb hb=>?_,q⟩;have e:b=s1.heap.objs.size:=by simpa using hb
 subst e;exact I1.fpOk (Oj _) (I1.hok.fresh (Oj _))
def Xgn{pins}{Z:St}{H}{s}{R}{E}{lo hi}{t u v}{tk}(I:Inv X pins Z H s)(h1 : -(2 ^ 62)<=lo)(h2:lo<2 ^ 62)(h3 : -(2 ^ 62)<=hi)(h4:hi<2 ^ 62)
  (q:R (Itr lo (hi - lo).toNat) H):wpAny (model X.prog X.w) X.A (pyIter (.ref s.heap.objs.size)) (PIE X pins Z tg R) E {s with heap:=s.heap.push {cls:=.type "range",data:=.fields #[.int lo t,.int hi u,.int 1 v]},toks:=tk}:=by
 refine wpAny_pyIter_range (IsRange.new ..) (small_one h1 h2 h3 h4) ?_;have I1:Inv X pins Z H {s with heap:=s.heap.push {cls:=.type "range",data:=.fields #[.int lo t,.int hi u,.int 1 v]},toks:=tk}:=I.kept λb o e=>Tm _ e;refine⟨(s.heap.push {cls:=.type "range",data:=.fields #[.int lo t,.int hi u,.int 1 v]}).objs.size,[(s.heap.push {cls:=.type "range",data:=.fields #[.int lo t,.int hi u,.int 1 v]}).objs.size],_,_,H,rfl,
  I1.kept (t':=tk) λb o e=>Tm _ e,Xgm _ lo (hi - lo).toNat,?_,λb hb=>?_,q⟩
 ·have e1:lo+((0:Nat):Int) * 1=lo:=by simp
  have e2:(((hi - lo).toNat:Nat):Int) - ((0:Nat):Int)=Builtin.Range.rangeSize lo hi 1:=by rw[rangeSize_one];split<;>omega
  show IsRangeIter _ _ (lo+((0:Nat):Int) * 1) ((((hi - lo).toNat:Nat):Int) - ((0:Nat):Int)) 1;rw[e1,e2];exact Heap.get?_push_size _ rfl
 ·have e:b=(s.heap.push {cls:=.type "range",data:=.fields #[.int lo t,.int hi u,.int 1 v]}).objs.size:=by simpa using hb
  subst e;exact I1.fpOk (Oj _) (I1.hok.fresh (Oj _))
def Xgo (ta:TA):TI:=fun Z H R=>ta Z H λvs H1=>∃j:Int,vs=[.int j] /\ -(2 ^ 62)<=j/\j<2 ^ 62/\R (Itr 0 j.toNat) H1
def G3{a:Expr}{ta:TA}{p pos:Pos}(hg:Gl X "range")(hm:X.mg "range" = none)(ha:PA X [a] ta)(hs:starEach [a] X.env=[(false,eval a X.env)]:=by rfl):PI X tg (.Call (.Name "range" p) [a] [] pos) (Xgo ta):=by
 intro pins s Z H R I h;refine Call_ (Fx I hg hm boot_range (PyProof.Rows.callWith_type1 (thn (ha pos pins s Z H _ I h) λus s1 ⟨vs,H1,I1,r1,q1⟩=>?_) hs rfl));obtain⟨j,e,q1,q2,q⟩:=q1;subst e;cases r1 with
 | cons r rr=>
  cases rr;obtain⟨t,rfl⟩:=r;exact call_range_1 (Xgn I1 (by omega) (by omega) q1 q2 (by simpa using q))
def tFor (wi:TI) (g:TG) (tb:TS):TS:=λD Z H=>wi Z H λJ H1=>∃W:Nat->Nat->St->Hp->Prop,(∃m,W 0 m Z H1)/\∀i m Z H,W i m Z H ->
 (J.stop i H/\D.nx Z H)\/(J.go i H/\∃N:St->Hp->Prop,(∀Z' H',N Z' H'->∃m',m'<m/\W (i+1) m' Z' H')/\∀x H',J.yld i H x H'->g x Z H' fun Z2 H2=>tb {D with nx:=N,ct:=N,bk:=D.nx} Z2 H2)
def G4 (fp:List Addr) (h:Heap):List (Addr×Obj):=fp.filterMap λb=>(h.get? b).map λo=>(b,o)
def Ji{fp}{h}{b}{o}(hb:b∈fp)(e:h.get? b=some o):(b,o)∈G4 fp h:=R1.mpr ⟨b,hb,by rw[e];rfl⟩
def Xgp{fp}{h}{p}(hp:p∈G4 fp h):p.1∈fp/\h.get? p.1=some p.2:=by
 obtain⟨b,hb,e⟩:=R1.mp hp;cases q:h.get? b with
 | none=>rw[q] at e;cases e
 | some o=>
  rw[q] at e;have e':(b,o)=p:=O0 e;subst e';exact⟨hb,q⟩
def Inv.pinned{pins}{Z:St}{H}{s}{fp}(I:Inv X pins Z H s)(hf:∀b∈fp,FpOk X pins H b)(ho:∀b∈fp,∃o,s.heap.get? b=some o/\∀v,o.data ≠ .cell v):Inv X (pins++G4 fp s.heap) Z H s:=
 I.pins_of λp hp=>(Op.mp hp).elim (λz=>I.pin p (Ph _ z)) λz=>by
  obtain⟨hb,e⟩:=Xgp z;obtain⟨f0,f1,f2,_⟩:=hf p.1 hb;obtain⟨o,e',d⟩:=ho p.1 hb;rw[e] at e';cases e';exact⟨e,f0,f1,f2,d⟩
def Inv.unpinned{pins pl}{Z:St}{H}{s}(I:Inv X (pins++pl) Z H s):Inv X pins Z H s:=I.pins_of λp hp=>I.pin p (Ph _ (P2 _ hp))
def C2{iter:Expr}{body:List Stmt}{wi:TI}{g:TG}{tb:TS}{pos:Pos}(hp:PassesOwn (model X.prog X.w) X.A X.env X.xe)(hc:X.calm=true)(hi:PI X tg iter wi)(hg:PG X tg g)(hb:PSs X body tb)
  (hs:∀x,foldedSetIterable iter X.env x=pure x:=by intro _;rfl):PS X (.For tg iter body [] pos) (tFor wi g tb):=by
 intro pins s Z H D I h;refine wpAny_For (thn (hi pins s Z H _ I h) λv s1 h1=>thn h1 λitv s2 h2=>?_) hs;obtain⟨it,fp,tn,J,H2,e,I2,T,st2,f2,W,⟨m0,w0⟩,turn⟩:=h2;subst e;have stat:∀{H':Hp},(∀b∈fp,H' b=none)->∀b∈fp,FpOk X pins H' b:=λhn b hb=>⟨hn b hb,(f2 b hb).2⟩;refine codeAny_forLoop_any (λn s'=>∃i Z' H',Inv X pins Z' H' s'/\tn i s'.heap/\(∀b∈fp,H' b=none)/\W i n Z' H') ?_ m0 ⟨0, Z,H2,I2,st2,λb hb=>(f2 b hb).1,w0⟩;rintro n s3 ⟨i, Z3,H3,I3,st3,fr3,w3⟩;rcases turn i n Z3 H3 w3 with ⟨stop,qn⟩ | ⟨go,N,hN,step⟩
 ·refine wpAny_passesOwn hp (thn (T.done X rfl rfl rfl hc i pins s3 Z3 H3 X.xe I3 (stat fr3) st3 stop) λr s4 ⟨hr,I4⟩=>?_);subst hr;exact wpAny_execs_nil ⟨Z3,H3,I4,qn⟩
 ·refine wpAny_passesOwn hp (thn (T.item X rfl rfl rfl hc i pins s3 Z3 H3 X.xe I3 (stat fr3) st3 go) λr s4 ⟨u,hr,h4⟩=>?_);subst hr;refine wpAny_passesOwn hp (thn h4 λ_ s5 ⟨x,H5,I5,r5,y5,st5,fr5⟩=>?_);have I5':=I5.pinned (stat fr5) (T.obj _ _ st5);refine wpAny_passesOwn hp (thn (hg _ s5 Z3 H5 x u _ I5' r5 (step x H5 y5)) λ_ s6 ⟨Z6,H6,I6,q6⟩=>?_);refine wpAny_passesOwn hp (thn (hb _ s6 Z6 H6 _ I6 q6) λf s7 q7=>?_);have again:∀{Z7:St} {H7:Hp},Inv X (pins++G4 fp s5.heap) Z7 H7 s7->N Z7 H7->∃m,m<n/\∃i Z' H',Inv X pins Z' H' s7/\tn i s7.heap/\(∀b∈fp,H' b=none)/\W i m Z' H':=λ{Z7 H7} I7 n7=>by
   obtain⟨m',hm,w7⟩:=hN Z7 H7 n7;refine⟨m',hm,i+1, Z7,H7,I7.unpinned,T.keep _ _ _ st5 λb hb o e=>(I7.pin (b,o) (Ph _ (Ph _ (Ji hb e)))).1,λb hb=>?_,w7⟩;obtain⟨o,e,d⟩:=T.obj _ _ st5 b hb;exact(I7.pin (b,o) (Ph _ (Ph _ (Ji hb e)))).2.1
  cases f with
  | next=>obtain⟨Z7,H7,I7,n7⟩:=q7;exact again I7 n7
  | cont=>obtain⟨Z7,H7,I7,n7⟩:=q7;exact again I7 n7
  | brk=>obtain⟨Z7,H7,I7,q7⟩:=q7;exact⟨Z7,H7,I7.unpinned,q7⟩
  | ret v=>obtain⟨x7, Z7,H7,I7,r7,q7⟩:=q7;exact⟨x7, Z7,H7,I7.unpinned,r7,q7⟩
end
def Eg{K}{a}{xs}{g:TG}{tb:TS}{D:Ends}{Z}{H}(Pv:Nat->St->Hp->Prop)(h0:Pv 0 Z H)(hl:∀i Z H,i<=xs.length->Pv i Z H->SqL K H a xs)
  (hs:∀i x Z H,xs[i]? = some x->Pv i Z H->g x Z H fun Z2 H2=>tb {D with nx:=Pv (i+1),ct:=Pv (i+1),bk:=D.nx} Z2 H2) (hd:∀Z H,Pv xs.length Z H->D.nx Z H):
  ∃W:Nat->Nat->St->Hp->Prop,(∃m,W 0 m Z H)/\∀i m Z H,W i m Z H ->
   ((Itl K a).stop i H/\D.nx Z H)\/((Itl K a).go i H/\∃N:St->Hp->Prop,(∀Z' H',N Z' H'->∃m',m'<m/\W (i+1) m' Z' H')/\∀x H',(Itl K a).yld i H x H'->g x Z H' fun Z2 H2=>tb {D with nx:=N,ct:=N,bk:=D.nx} Z2 H2):=by
 refine⟨λi m Z H=>m=xs.length - i/\i<=xs.length/\Pv i Z H,⟨xs.length,by simp,Pm _,h0⟩,?_⟩;rintro i m Z H ⟨rfl,hi,p⟩;have q:=hl i Z H hi p;by_cases hlt:i<xs.length
 ·refine .inr ⟨⟨xs,xs[i],q,by simp[hlt]⟩,Pv (i+1),fun Z' H' p'=>⟨xs.length - (i+1),by omega,rfl,hlt,p'⟩,λx H' y=>?_⟩;obtain⟨e,y⟩:=y;subst e;exact hs i x Z _ (y xs q) p
 ·have e:i=xs.length:=by omega
  subst e;exact .inl ⟨⟨xs,q,Oj _⟩,hd Z H p⟩
def Jj{lo}{n}{g:TG}{tb:TS}{D:Ends}{Z}{H}(Pv:Nat->St->Hp->Prop)(h0:Pv 0 Z H)
  (hs:∀i Z H,i<n->Pv i Z H->g (.int (lo+i)) Z H fun Z2 H2=>tb {D with nx:=Pv (i+1),ct:=Pv (i+1),bk:=D.nx} Z2 H2) (hd:∀Z H,Pv n Z H->D.nx Z H):
  ∃W:Nat->Nat->St->Hp->Prop,(∃m,W 0 m Z H)/\∀i m Z H,W i m Z H ->
   ((Itr lo n).stop i H/\D.nx Z H)\/((Itr lo n).go i H/\∃N:St->Hp->Prop,(∀Z' H',N Z' H'->∃m',m'<m/\W (i+1) m' Z' H')/\∀x H',(Itr lo n).yld i H x H'->g x Z H' fun Z2 H2=>tb {D with nx:=N,ct:=N,bk:=D.nx} Z2 H2):=by
 refine⟨λi m Z H=>m=n - i/\i<=n/\Pv i Z H,⟨n,by simp,Pm _,h0⟩,?_⟩;rintro i m Z H ⟨rfl,hi,p⟩;by_cases hlt:i<n
 ·refine .inr ⟨hlt,Pv (i+1),fun Z' H' p'=>⟨n - (i+1),by omega,rfl,hlt,p'⟩,λx H' y=>?_⟩;obtain⟨e,y⟩:=y;subst e y;exact hs i Z _ hlt p
 ·have e:i=n:=by omega
  subst e;exact .inl ⟨Oj _,hd Z H p⟩
abbrev R2:=V->V->Hp->VK->Prop
def OpR (X:Cx) (f:Value->Value->Sem Value) (r:R2):Prop:=
 ∀pins s Z H (x y:V) (v u:Value) (Q:VK),Inv X pins Z H s->Ai x v->Ai y u->r x y H Q ->
  wpAny (model X.prog X.w) X.A (f v u) (EP X pins Z Q) X.xe s
def UnR (X:Cx) (f:Value->Sem Value) (r:V->Hp->VK->Prop):Prop:=
 ∀pins s Z H (x:V) (v:Value) (Q:VK),Inv X pins Z H s->Ai x v->r x H Q ->
  wpAny (model X.prog X.w) X.A (f v) (EP X pins Z Q) X.xe s
def Bv (X:Cx) (f:Value) (r:List V->Hp->VK->Prop):Prop:=
 ∀pins s Z H (xs:List V) (us:List Value) (Q:VK),Inv X pins Z H s->Vals xs us->r xs H Q ->
  wpAny (model X.prog X.w) X.A (call f us) (EP X pins Z Q) X.xe s
def TruR (X:Cx) (r:V->Hp->(Bool->Hp->Prop)->Prop):Prop:=
 ∀pins s Z H (x:V) (v:Value) (Q:Bool->Hp->Prop),Inv X pins Z H s->Ai x v->r x H Q ->
  wpAny (model X.prog X.w) X.A (truthy v) (TP X pins Z Q) X.xe s
def tOp (r:R2) (ta tb:TE):TE:=fun Z H Q=>ta Z H λx H1=>tb Z H1 λy H2=>r x y H2 Q
def tUn (r:V->Hp->VK->Prop) (ta:TE):TE:=fun Z H Q=>ta Z H λx H1=>r x H1 Q
def rI (C:Int->Int->Prop) (g:Int->Int->V):R2:=λx y H Q=>∃i j,x = .int i/\y = .int j/\C i j/\Q (g i j) H
def rI0 (g:Int->Int->V):R2:=λx y H Q=>∃i j,x = .int i/\y = .int j/\Q (g i j) H
def rU (g:Int->V):V->Hp->VK->Prop:=λx H Q=>∃i,x = .int i/\Q (g i) H
section
variable {X:Cx}{a b c:Expr}{ta tb tc:TE}{pos:Pos}
def binT(ha:PE X a ta)(hb:PE X b tb){pins}{s}{Z:St}{H}{R:V->V->Hp->Prop}(I:Inv X pins Z H s)
  (h:ta Z H λx H1=>tb Z H1 λy H2=>R x y H2) {Q} {f:Value->Value->Sem Value}
  (hf:∀v u s2 x y H2,Inv X pins Z H2 s2->Ai x v->Ai y u->R x y H2->wpAny (model X.prog X.w) X.A (f v u) Q X.xe s2):
  wpAny (model X.prog X.w) X.A (eval a X.env) (λv s₁=>wpAny (model X.prog X.w) X.A (eval b X.env) (λu s₂=>wpAny (model X.prog X.w) X.A (f v u) Q X.xe s₂) X.xe s₁) X.xe s:=by
 refine thn (ha pins s Z H _ I h) λv s1 ⟨x,H1,I1,r1,q1⟩=>?_;refine thn (hb pins s1 Z H1 _ I1 q1) λu s2 ⟨y,H2,I2,r2,q2⟩=>?_;exact hf v u s2 x y H2 I2 r1 r2 q2
def Ak{op}{r}(ho:OpR X (binaryOp op) r)(ha:PE X a ta)(hb:PE X b tb):PE X (.BinOp a op b pos) (tOp r ta tb):=by
 intro pins s Z H Q I h;exact wpAny_BinOp (binT ha hb I h λv u s2 x y H2 I2 rx ry q=>ho pins s2 Z H2 x y v u Q I2 rx ry q)
def Xai{op}{r}(ho:UnR X (unaryOp op) r)(ha:PE X a ta):PE X (.UnaryOp op a pos) (tUn r ta):=by
 intro pins s Z H Q I h;exact UnaryOp_ (thn (ha pins s Z H _ I h) λv s1 ⟨x,H1,I1,r1,q1⟩=>ho pins s1 Z H1 x v Q I1 r1 q1)
def opI{f}{C}{g:Int->Int->Int}
  (rule:∀(i j:Int) (t u:Tok) (s:Shared) (Q:Zc) (E:Zc),C i j->Q (.int (g i j) s.toks) {s with toks:=s.toks+1}->wpAny (model X.prog X.w) X.A (f (.int i t) (.int j u)) Q E s):
  OpR X f (rI C λi j=>.int (g i j)):=by
 intro pins s Z H x y v u Q I rx ry h;obtain⟨i,j,rfl,rfl,hc,q⟩:=h;obtain⟨t,rfl⟩:=rx;obtain⟨t',rfl⟩:=ry;exact rule i j t t' s _ _ hc ⟨.int (g i j),H,I.tok _,⟨_,rfl⟩,q⟩
def Xaj{f}{g:Int->Int->Int}
  (rule:∀(i j:Int) (t u:Tok) (s:Shared) (Q:Zc) (E:Zc),Q (.int (g i j) s.toks) {s with toks:=s.toks+1}->wpAny (model X.prog X.w) X.A (f (.int i t) (.int j u)) Q E s):
  OpR X f (rI0 λi j=>.int (g i j)):=by
 intro pins s Z H x y v u Q I rx ry h;obtain⟨i,j,rfl,rfl,q⟩:=h;obtain⟨t,rfl⟩:=rx;obtain⟨t',rfl⟩:=ry;exact rule i j t t' s _ _ ⟨.int (g i j),H,I.tok _,⟨_,rfl⟩,q⟩
def Ld{f}{g:Int->Int->Bool}
  (rule:∀(i j:Int) (t u:Tok) (s:Shared) (Q:Zc) (E:Zc),Q (.bool (g i j)) s->wpAny (model X.prog X.w) X.A (f (.int i t) (.int j u)) Q E s):
  OpR X f (rI0 λi j=>.bl (g i j)):=by
 intro pins s Z H x y v u Q I rx ry h;obtain⟨i,j,rfl,rfl,q⟩:=h;obtain⟨t,rfl⟩:=rx;obtain⟨t',rfl⟩:=ry;exact rule i j t t' s _ _ ⟨.bl (g i j),H,I,rfl,q⟩
def CDiv (i j:Int):Prop:=0<j/\j<1073741824
def CPow (i j:Int):Prop:=0<=j/\j<=1000000/\i.natAbs<2 ^ 64
def CMul (i j:Int):Prop:=(-(2 ^ 64)<i/\i<2 ^ 64)\/(-(2 ^ 64)<j/\j<2 ^ 64)
def CMul.ok{i j}(h:CMul i j):IntMulOk i j:=by
 rcases h with ⟨h1,h2⟩ | ⟨h1,h2⟩
 ·exact .of_left (intBits_le_64 h1 h2)
 ·exact .of_right (intBits_le_64 h1 h2)
def Bw:OpR X (binaryOp .Add) (rI0 λi j=>.int (i+j)):=Xaj λ_ _ _ _ _ _ _ q=>add_int q
def Xgq:OpR X (binaryOp .Sub) (rI0 λi j=>.int (i - j)):=Xaj λ_ _ _ _ _ _ _ q=>sub_int q
def Xak:OpR X (binaryOp .Mult) (rI CMul λi j=>.int (i * j)):=opI λ_ _ _ _ _ _ _ hc q=>mul_int q hc.ok
def Lf:OpR X (binaryOp .FloorDiv) (rI CDiv λi j=>.int (i / j)):=opI λi j _ _ _ _ _ hc q=>by
 have h1:(0:Int)<j:=hc.1;have h2:j<1073741824:=hc.2;exact floordiv_int (by omega) (by rw[Int.fdiv_eq_ediv_of_nonneg i (by omega)];exact q) (.inl (PyProof.noPylong_small (by omega)))
def Fz:OpR X (binaryOp .Mod) (rI (λ_ j=>0<j) λi j=>.int (i % j)):=opI λi j _ _ _ _ _ hc q=>by
 have h1:(0:Int)<j:=hc;exact mod_int' (by omega) (by rw[Int.fmod_eq_emod_of_nonneg i (by omega)];exact q)
def Xal:OpR X (binaryOp .Pow) (rI CPow λi j=>.int (i ^ j.toNat)):=opI λ_ _ _ _ _ _ _ hc q=>pow_int_small hc.1 hc.2.1 hc.2.2 q
def unI{f}{g:Int->Int}
  (rule:∀(i:Int) (t:Tok) (s:Shared) (Q:Zc) (E:Zc),Q (.int (g i) s.toks) {s with toks:=s.toks+1}->wpAny (model X.prog X.w) X.A (f (.int i t)) Q E s):
  UnR X f (rU λi=>.int (g i)):=by
 intro pins s Z H x v Q I rx h;obtain⟨i,rfl,q⟩:=h;obtain⟨t,rfl⟩:=rx;exact rule i t s _ _ ⟨.int (g i),H,I.tok _,⟨_,rfl⟩,q⟩
def Xam:UnR X (unaryOp .USub) (rU λi=>.int (-i)):=unI λ_ _ _ _ _ q=>neg_int q
end
def scal:V->V->Bool
 | .non,.non=>true | .non,.int _=>true | .int _,.non=>true | .non,.bl _=>true | .bl _,.non=>true | .non,.str _=>true | .str _,.non=>true
 | .int _,.int _=>true | .bl _,.bl _=>true | .str _,.str _=>true | .byt _,.byt _=>true
 | .int _,.str _=>true | .str _,.int _=>true | .bl _,.str _=>true | .str _,.bl _=>true
 | _,_=>false
def rEq:R2:=λx y H Q=>scal x y=true/\Q (.bl (decide (x=y))) H
def rNe:R2:=λx y H Q=>scal x y=true/\Q (.bl (!decide (x=y))) H
def Xan{i j}:decide (V.int i=V.int j)=(i==j):=by
 rw[Qe];simp
def Lg{i j}:decide (V.bl i=V.bl j)=(i==j):=by
 rw[Qe];simp
def Xao{i j}:decide (V.str i=V.str j)=(i==j):=by
 rw[Qe];simp
def Xap{i j}:decide (V.byt i=V.byt j)=(i.toList==j.toList):=by
 rw[Qe];cases i;cases j;simp
section
variable {X:Cx}{a b c:Expr}{ta tb tc:TE}{pos:Pos}
def Ba{pins}{Z:St}{H}{s}{Q}{k k'}(I:Inv X pins Z H s)(q:Q (.bl k) H)(e:k=k'):EP X pins Z Q (.bool k') s:=by
 subst e;exact⟨.bl k,H,I,rfl,q⟩
def Bg:OpR X (compareOp .Eq) rEq:=by
 intro pins s Z H x y v u Q I rx ry h;obtain⟨hs,q⟩:=h;cases x with
 | non=>
  cases rx;cases y with
  | non=>cases ry;exact PySem.EqNone.eq_none_none (Ba I q (by simp))
  | bl j=>cases ry;exact PySem.EqNone.eq_none_bool (Ba I q (by simp))
  | int j=>obtain⟨t',rfl⟩:=ry;exact PySem.EqNone.eq_none_int (Ba I q (by simp))
  | str j=>obtain⟨t',rfl⟩:=ry;exact PySem.EqNone.eq_none_str (Ba I q (by simp))
  | _=>exact absurd (show false=true from hs) O3
 | bl i=>
  cases rx;cases y with
  | non=>cases ry;exact PySem.EqNone.eq_bool_none (Ba I q (by simp))
  | bl j=>cases ry;exact eq_bool (Ba I q Lg)
  | str j=>obtain⟨t',rfl⟩:=ry;exact PySem.EqMixed.eq_bool_str (Ba I q (by simp))
  | _=>exact absurd (show false=true from hs) O3
 | int i=>
  obtain⟨t,rfl⟩:=rx;cases y with
  | non=>cases ry;exact PySem.EqNone.eq_int_none (Ba I q (by simp))
  | int j=>obtain⟨t',rfl⟩:=ry;exact eq_int (Ba I q Xan)
  | str j=>obtain⟨t',rfl⟩:=ry;exact PySem.EqMixed.eq_int_str (Ba I q (by simp))
  | _=>exact absurd (show false=true from hs) O3
 | str i=>
  obtain⟨t,rfl⟩:=rx;cases y with
  | non=>cases ry;exact PySem.EqNone.eq_str_none (Ba I q (by simp))
  | bl j=>cases ry;exact PySem.EqMixed.eq_str_bool (Ba I q (by simp))
  | int j=>obtain⟨t',rfl⟩:=ry;exact PySem.EqMixed.eq_str_int (Ba I q (by simp))
  | str j=>obtain⟨t',rfl⟩:=ry;exact eq_str (Ba I q Xao)
  | _=>exact absurd (show false=true from hs) O3
 | byt i=>
  obtain⟨t,rfl⟩:=rx;cases y with
  | byt j=>obtain⟨t',rfl⟩:=ry;exact PySem.W.eq_bytes (Ba I q Xap)
  | _=>exact absurd (show false=true from hs) O3
 | _=>cases y<;>exact absurd (show false=true from hs) O3
def F0:OpR X (compareOp .NotEq) rNe:=by
 intro pins s Z H x y v u Q I rx ry h;obtain⟨hs,q⟩:=h;cases x with
 | non=>
  cases rx;cases y with
  | non=>cases ry;exact PySem.EqNone.ne_none_none (Ba I q (by simp))
  | bl j=>cases ry;exact PySem.EqNone.ne_none_bool (Ba I q (by simp))
  | int j=>obtain⟨t',rfl⟩:=ry;exact PySem.EqNone.ne_none_int (Ba I q (by simp))
  | str j=>obtain⟨t',rfl⟩:=ry;exact PySem.EqNone.ne_none_str (Ba I q (by simp))
  | _=>exact absurd (show false=true from hs) O3
 | bl i=>
  cases rx;cases y with
  | non=>cases ry;exact PySem.EqNone.ne_bool_none (Ba I q (by simp))
  | bl j=>cases ry;exact ne_bool (Ba I q (congrArg not Lg))
  | str j=>obtain⟨t',rfl⟩:=ry;exact PySem.EqMixed.ne_bool_str (Ba I q (by simp))
  | _=>exact absurd (show false=true from hs) O3
 | int i=>
  obtain⟨t,rfl⟩:=rx;cases y with
  | non=>cases ry;exact PySem.EqNone.ne_int_none (Ba I q (by simp))
  | int j=>obtain⟨t',rfl⟩:=ry;exact ne_int (Ba I q (congrArg not Xan))
  | str j=>obtain⟨t',rfl⟩:=ry;exact PySem.EqMixed.ne_int_str (Ba I q (by simp))
  | _=>exact absurd (show false=true from hs) O3
 | str i=>
  obtain⟨t,rfl⟩:=rx;cases y with
  | non=>cases ry;exact PySem.EqNone.ne_str_none (Ba I q (by simp))
  | bl j=>cases ry;exact PySem.EqMixed.ne_str_bool (Ba I q (by simp))
  | int j=>obtain⟨t',rfl⟩:=ry;exact PySem.EqMixed.ne_str_int (Ba I q (by simp))
  | str j=>obtain⟨t',rfl⟩:=ry;exact ne_str (Ba I q (congrArg not Xao))
  | _=>exact absurd (show false=true from hs) O3
 | byt i=>
  obtain⟨t,rfl⟩:=rx;cases y with
  | byt j=>obtain⟨t',rfl⟩:=ry;exact PySem.W.ne_bytes (Ba I q (congrArg not Xap))
  | _=>exact absurd (show false=true from hs) O3
 | _=>cases y<;>exact absurd (show false=true from hs) O3
def De:OpR X (compareOp .Lt) (rI0 λi j=>.bl (decide (i<j))):=Ld λ_ _ _ _ _ _ _ q=>lt_int q
def Xgr:OpR X (compareOp .Gt) (rI0 λi j=>.bl (decide (j<i))):=Ld λ_ _ _ _ _ _ _ q=>gt_int q
def Xaq:OpR X (compareOp .GtE) (rI0 λi j=>.bl (decide (j<=i))):=Ld λ_ _ _ _ _ _ _ q=>ge_int q
def Xar:OpR X (compareOp .Lt) (λx y H Q=>∃i j,x = .str i/\y = .str j/\Q (.bl (decide (i.cps.toList<j.cps.toList))) H):=by
 intro pins s Z H x y v u Q I rx ry h;obtain⟨i,j,rfl,rfl,q⟩:=h;obtain⟨t,rfl⟩:=rx;obtain⟨t',rfl⟩:=ry;exact lt_str (Ba I q rfl)
def Xgs:OpR X (compareOp .Is) (λx y H Q=>y = .non/\Q (.bl (decide (x = .non))) H):=by
 intro pins s Z H x y v u Q I rx ry h;obtain⟨rfl,q⟩:=h;cases ry;refine is_none_gen (Ba I q ?_);cases x<;>first
  | (cases rx;rfl)
  | (obtain⟨t,rfl⟩:=rx;rfl)
def isObj:HO->Bool
 | .lst _=>true
 | .ins _ _ _=>true
 | _=>false
def Ar(b:Expr){op:CmpOp}(h:op ≠ .In:=by decide)(h2:op ≠ .NotIn:=by decide):behindInMarks op b=false:=by
 have e1:(op==CmpOp.In)=false:=by cases op<;>first | rfl | exact absurd rfl h
 have e2:(op==CmpOp.NotIn)=false:=by cases op<;>first | rfl | exact absurd rfl h2
 cases b<;>simp[behindInMarks,e1,e2]
def B6{op}{r}(ho:OpR X (compareOp op) r)(ha:PE X a ta)(hb:PE X b tb)(hm:behindInMarks op b=false):PE X (.Compare a [op] [b] pos) (tOp r ta tb):=by
 intro pins s Z H Q I h;exact wpAny_Compare1 (binT ha hb I h λv u s2 x y H2 I2 rx ry q=>ho pins s2 Z H2 x y v u Q I2 rx ry q) hm
def Lh (t:TE):TT:=fun Z H Q=>t Z H λx H'=>∃k,x = .bl k/\Q k H'
def Av{op}{r}(ho:OpR X (compareOp op) r)(ha:PE X a ta)(hb:PE X b tb)(hm:behindInMarks op b=false):PT X (.Compare a [op] [b] pos) (Lh (tOp r ta tb)):=by
 intro pins s Z H Q I h;refine wpAny_isTrue_Compare1 (thn (ha pins s Z H _ I h) λv s1 ⟨x,H1,I1,r1,q1⟩=>thn (hb pins s1 Z H1 _ I1 q1) λu s2 ⟨y,H2,I2,r2,q2⟩=>
  thn (ho pins s2 Z H2 x y v u _ I2 r1 r2 q2) λc s3 ⟨z,H3,I3,r3,k,e,q3⟩=>?_) hm
 subst e;cases r3;exact wpAny_truthy_bool ⟨H3,I3,q3⟩
def Li (r r':R2) (ta tb tc:TE):TE:=fun Z H Q=>ta Z H λx H1=>tb Z H1 λy H2=>r x y H2 λz H3=>∃k,z = .bl k /\
 (if k=true then tc Z H3 λw' H4=>r' y w' H4 Q else Q (.bl false) H3)
def Xas{op op':CmpOp}{r r':R2}(ho:OpR X (compareOp op) r)(ho':OpR X (compareOp op') r')(ha:PE X a ta)(hb:PE X b tb)(hc:PE X c tc)
  (hm:lastMarks [op,op'] [b,c]=false:=by with_unfolding_all rfl):PE X (.Compare a [op,op'] [b,c] pos) (Li r r' ta tb tc):=by
 intro pins s Z H Q I h;refine Compare_chain (thn (ha pins s Z H _ I h) λv s1 ⟨x,H1,I1,r1,q1⟩=>chain_link (thn (hb pins s1 Z H1 _ I1 q1) λu s2 ⟨y,H2,I2,r2,q2⟩=>
  thn (ho pins s2 Z H2 x y v u _ I2 r1 r2 q2) λd s3 ⟨z,H3,I3,r3,k,e,q3⟩=>?_)) hm
 subst e;cases r3;refine wpAny_truthy_bool ?_;cases k with
 | false=>exact ite_ff ⟨.bl false,H3,I3,rfl,q3⟩
 | true=>exact ite_tt (chain_last (thn (hc pins s3 Z H3 _ I3 q3) λw' s4 ⟨z',H4,I4,r4,q4⟩=>ho' pins s4 Z H4 y z' u w' Q I4 r2 r4 q4))
def Xgt{op op':CmpOp}{r r':R2}(ho:OpR X (compareOp op) r)(ho':OpR X (compareOp op') r')(ha:PE X a ta)(hb:PE X b tb)(hc:PE X c tc)
  (hm:lastMarks [op,op'] [b,c]=false:=by with_unfolding_all rfl):PT X (.Compare a [op,op'] [b,c] pos) (Lh (Li r r' ta tb tc)):=by
 intro pins s Z H Q I h;refine isTrue_chain (thn (ha pins s Z H _ I h) λv s1 ⟨x,H1,I1,r1,q1⟩=>test_link (thn (hb pins s1 Z H1 _ I1 q1) λu s2 ⟨y,H2,I2,r2,q2⟩=>
  thn (ho pins s2 Z H2 x y v u _ I2 r1 r2 q2) λd s3 ⟨z,H3,I3,r3,k,e,q3⟩=>?_)) hm
 subst e;cases r3;refine wpAny_truthy_bool ?_;cases k with
 | false=>
  obtain⟨k',e',q'⟩:=q3;cases e';exact ite_ff ⟨H3,I3,q'⟩
 | true=>
  refine ite_tt (test_last (thn (hc pins s3 Z H3 _ I3 q3) λw' s4 ⟨z',H4,I4,r4,q4⟩=>thn (ho' pins s4 Z H4 y z' u w' _ I4 r2 r4 q4) λd' s5 ⟨z2,H5,I5,r5,k2,e2,q5⟩=>?_));subst e2;cases r5;exact wpAny_truthy_bool ⟨H5,I5,q5⟩
def Xat (K:Za) (x:V) (H:Hp) (k:Bool):Prop:=
 match x with
 | .non=>k=false
 | .bl b=>k=b
 | .int i=>k=(i != 0)
 | .str y=>y.length<=sizeLine/\k=((y.length:Int) != 0)
 | .byt y=>y.size<=sizeLine/\k=((y.size:Int) != 0)
 | .ref p=>(∃xs,SqL K H p xs/\k = !xs.isEmpty)\/(∃xs,SqT K H p xs/\k = !xs.isEmpty) \/ ∃kvs,H p=some (.dK kvs)/\k = !kvs.isEmpty
 | _=>False
def Xgu{κ : Type}{kvs:List (κ × V)}{vs}(r:KV kvs vs):(!vs.isEmpty) = !kvs.isEmpty:=by
 cases r<;>rfl
def Xau{xs}{its}(r:Vals xs its):(!its.toArray.isEmpty) = !xs.isEmpty:=by
 cases r<;>simp
def line63:(sizeLine:Nat)<2 ^ 63:=by rw[Te];decide
def Xgv:TruR X (λx H Q=>∃k,Xat X.K x H k/\Q k H):=by
 intro pins s Z H x v Q I rx h;obtain⟨k,e,q⟩:=h;have hl:=line63;have hs:sizeLine=16777216:=Te;cases x with
 | non=>
  cases rx;have e':k=false:=e;subst e';exact truthy_none ⟨H,I,q⟩
 | bl b=>
  cases rx;have e':k=b:=e;subst e';exact wpAny_truthy_bool ⟨H,I,q⟩
 | int i=>
  obtain⟨t,rfl⟩:=rx;have e':k=(i != 0):=e;subst e';exact PySem.P.truthy_int ⟨H,I,q⟩
 | str y=>
  obtain⟨t,rfl⟩:=rx;obtain⟨hy,e'⟩:y.length<=sizeLine/\k=((y.length:Int) != 0):=e;subst e';exact PySem.P.truthy_str (by omega) ⟨H,I.tok _,q⟩
 | byt y=>
  obtain⟨t,rfl⟩:=rx;obtain⟨hy,e'⟩:y.size<=sizeLine/\k=((y.size:Int) != 0):=e;subst e';exact PySem.W.truthy_bytes (by omega) ⟨H,I.tok _,q⟩
 | ref p=>
  cases rx;have e':(∃xs,SqL X.K H p xs/\k = !xs.isEmpty)\/(∃xs,SqT X.K H p xs/\k = !xs.isEmpty) \/ ∃kvs,H p=some (.dK kvs)/\k = !kvs.isEmpty:=e;rcases e' with ⟨xs,hx,e'⟩ | ⟨xs,hx,e'⟩ | ⟨kvs,hx,e'⟩
  ·subst e';obtain⟨its,r,pl,hz⟩:=I.list hx;have hlen:=r.length;exact wpAny_truthy_list pl.isList (by simp only[Ol];omega) ⟨H,I.tok _,by rw[Xau r];exact q⟩
  ·subst e';obtain⟨its,r,pl,hz⟩:=I.tuple hx;have hlen:=r.length;exact truthy_tuple pl (by simp only[Ol];omega) ⟨H,I.tok _,by rw[Xau r];exact q⟩
  ·subst e';obtain⟨hz,hS,vs,r,m⟩:kvs.length<=sizeLine/\(p==sysModules)=false/\∃vs,KV kvs vs/\s.heap.DictOf (Be X.prog X.w) p vs:=I.hok p _ hx;have hlen:kvs.length=vs.length:=Paired.length r;exact wpAny_truthy_dict hS m (by omega) ⟨H,I.tok _,by rw[Xgu r];exact q⟩
 | _=>exact(show False from e).elim
def Xgw(ha:PE X a ta)(he:∀whole,isTrue a X.env whole=(do let v <-whole;standAt a.pos;holding [v] (truthy v))):
  PT X a (fun Z H Q=>ta Z H λx H'=>∃k,Xat X.K x H' k/\Q k H'):=by
 intro pins s Z H Q I h;exact isTrue_plain (thn (ha pins s Z H _ I h) λv s1 ⟨x,H1,I1,r1,q1⟩=>Xgv pins s1 Z H1 x v Q I1 r1 q1) (he _)
def Jk:OpR X (binaryOp .Add) (λx y H Q=>∃i j,x = .str i/\y = .str j/\i.length+j.length<=sizeLine/\Q (.str (i++j)) H):=by
 intro pins s Z H x y v u Q I rx ry h;obtain⟨i,j,rfl,rfl,hz,q⟩:=h;obtain⟨t,rfl⟩:=rx;obtain⟨t',rfl⟩:=ry;exact add_str (λt' tk=>⟨.str (i++j),H,I.tok _,⟨_,rfl⟩,q⟩) hz
def Co{x}{us}(r:Vals [x] us):∃u,us=[u]/\Ai x u:=by
 cases r with
 | cons r1 r2=>cases r2;exact⟨_,rfl,r1⟩
def vals2{x y}{us}(r:Vals [x,y] us):∃u w',us=[u,w']/\Ai x u/\Ai y w':=by
 cases r with
 | cons r1 r2=>
  cases r2 with
  | cons r3 r4=>cases r4;exact⟨_,_,rfl,r1,r3⟩
def Xgx(hc:X.calm=true):Bv X (.builtin "min") (λxs H Q=>∃i j,xs=[.int i,.int j]/\Q (.int (if j<i then j else i)) H):=by
 intro pins s Z H xs us Q I r h;obtain⟨i,j,rfl,q⟩:=h;obtain⟨u,w',rfl,⟨t,rfl⟩,⟨t',rfl⟩⟩:=vals2 r;refine min_two_ints (I.ok.hd hc) λh' tk k=>⟨_,H,I.kept k,?_,q⟩;by_cases hj:j<i
 ·rw[Tg hj,Tg hj];exact⟨_,rfl⟩
 ·rw[Tf hj,Tf hj];exact⟨_,rfl⟩
def G5:Bv X (.type "int") (λxs H Q=>(∃i,xs=[.int i]/\Q (.int i) H) \/ ∃k,xs=[.bl k]/\Q (.int (if k then 1 else 0)) H):=by
 intro pins s Z H xs us Q I r h;rcases h with ⟨i,rfl,q⟩ | ⟨k,rfl,q⟩
 ·obtain⟨u,rfl,t,rfl⟩:=Co r;exact call_int_int ⟨.int i,H,I,⟨_,rfl⟩,q⟩
 ·obtain⟨u,rfl,r1⟩:=Co r;cases r1;exact call_int_bool ⟨.int (if k then 1 else 0),H,I.tok _,⟨_,rfl⟩,q⟩
def LenV (K:Za) (x:V) (H:Hp) (n:Nat):Prop:=
 match x with
 | .str y=>y.length<=sizeLine/\n=y.length
 | .byt y=>y.size<=sizeLine/\n=y.size
 | .ref p=>(∃xs,SqL K H p xs/\n=xs.length) \/ ∃xs,SqT K H p xs/\n=xs.length
 | _=>False
end
structure ObjM (h:Heap) (x dx C:Addr) (mA:Str->Option Value):Prop where
 obj:h.get? x=some (instObj C dx)
 ns:h.Ns1 dx mA
 ne:dx≠x
def Xgy{h:Heap}{dx}{mA}(n:h.Ns1 dx mA):∃od,h.get? dx=some od/\∀name,lookIn name od=some (mA name):=by
 obtain⟨o,es,ep,ho,hd,hk,_,hm⟩:=n;refine⟨o,ho,λname=>?_⟩;have e:=hm name;unfold nsFind findBy at e;rw[<-Array.find?_toList] at e;unfold lookIn;rw[hd];dsimp only;split
 ·rename_i y q;rw[q] at e;exact congrArg some e
 ·rename_i q;rw[q] at e;have a:es.toList.any (·.refKey)=false:=by
   rw[List.any_eq_false];intro y hy;obtain⟨z,t,hkey⟩:=hk y (Array.mem_toList_iff.mp hy);simp[DictEntry.refKey,hkey]
  have a':¬es.toList.any (·.refKey)=true:=by rw[a];exact O3
  rw[Tf a'];exact congrArg some e
def ObjM.look{h}{x dx C}{mA}(I:ObjM h x dx C mA):∃od,PySem.W.InstAt h x (instObj C dx) C (some od)/\∀name,lookIn name od=some (mA name):=
 let ⟨od,ho,hl⟩:=Xgy I.ns
 ⟨od,⟨I.obj,rfl,rfl,ho⟩,hl⟩
section
variable {prog:Program}{w:World}{A:Around}{E:Zc}{s:Shared}{K:Za}{x dx C f:Addr}{mA:Str->Option Value}{name:Str}{v:Value}
end
def Lj (f:Str) (v:V):List (Str×V)->List (Str×V)
 | []=>[(f,v)]
 | (g,x)::r=>if g=f then (g,v)::r else (g,x)::Lj f v r
def Cz.some_of{v}{o}(r:Cz (some v) o):∃u,o=some u/\Ai v u:=by
 cases o with
 | none=>exact(show False from r).elim
 | some u=>exact⟨u,rfl,r⟩
section
variable {P:Program}{w:World}{H H':Hp}{h h':Heap}{a C dx:Addr}{fs fs':List (Str×V)}
def Xgz(hok:HOk P w H h)(e:H a=some (.ins C dx fs)):∃mA,ObjM h a dx C mA/\(∀f,Cz (fs.lookup f) (mA f))/\PySem.Within mA (fs.map (·.1))/\fs.length<=1000/\H dx=some (.own a):=by
 obtain⟨d,z,ne,ob,mA,n,r,q⟩:=(show A4 P w H h a (.ins C dx fs) from hok a _ e);exact⟨mA,⟨ob,n,ne⟩,r,q,z,d⟩
end
structure Cls (K:Za) (C:Addr):Prop where
 pg:plainGet K C Str.empty=true
 hd:PySem.W.hasDictIn K C=true
 po:PySem.W.plainOver K C=true
 sa:findIn K (.ref C) "__setattr__" = some (some (.builtin "object.__setattr__"))
def Cls.get{K}{C}(c:Cls K C)(f):plainGet K C f=true:=c.pg
def Lk (K:Za) (C:Addr) (f:Str):Prop:=findIn K (.ref C) f=some none
structure Con (K:Za) (C:Addr) (f:Str) (v:V) (u:Value):Prop where
 at_:findIn K (.ref C) f=some (some u)
 rel:Ai v u
 get:specialIn K u "__get__" = some none
 cp:PySem.W.copiedNames.contains f=false
structure Meth (K:Za) (C:Addr) (m:Str) (f:Addr):Prop where
 at_:findIn K (.ref C) m=some (some (.ref f))
 fn:isFn K (.ref f)=true
 kp:keepIn K (.ref f)=true
section
variable {X:Cx}{pins:List (Addr×Obj)}{Z:St}{H:Hp}{s:Shared}{a C dx:Addr}{fs:List (Str×V)}{f:Str}{v:V}{A:Around}{E:Zc}
end
def tFld (K:Za) (ta:TE) (f:Str):TE:=fun Z H Q=>ta Z H λx H1=>∃a C dx fs v,x = .ref a/\H1 a=some (.ins C dx fs)/\Cls K C/\Lk K C f/\fs.lookup f=some v/\Q v H1
def tCon (K:Za) (ta:TE) (f:Str):TE:=fun Z H Q=>ta Z H λx H1=>∃a C dx fs v u,x = .ref a/\H1 a=some (.ins C dx fs)/\Cls K C/\Con K C f v u/\fs.lookup f=none/\Q v H1
def sFld (K:Za) (ta tv:TE) (f:Str):TS:=λD Z H=>tv Z H λy H1=>ta Z H1 λx H2=>∃a C dx fs,x = .ref a/\H2 a=some (.ins C dx fs)/\Cls K C/\Lk K C f/\fs.length<1000 /\
 D.nx Z (upd H2 a (.ins C dx (Lj f y fs)))
def InOp (X:Cx) (op:Operator) (rd:V->V->Hp->VK->Prop):Prop:=
 ∀pins s Z H (x y:V) (u v:Value) (Q:VK),Inv X pins Z H s->Ai x u->Ai y v->rd x y H Q->wpAny (model X.prog X.w) X.A (inplaceOp op u v) (EP X pins Z Q) X.xe s
def Xqo (K:Za) (ta tv:TE) (rd:V->V->Hp->VK->Prop) (f:Str):TS:=λD Z H=>ta Z H λx H1=>∃a C dx fs v,x = .ref a/\H1 a=some (.ins C dx fs)/\Cls K C/\Lk K C f/\fs.lookup f=some v /\
 tv Z H1 λy H2=>rd v y H2 λz H3=>∃dx' fs',H3 a=some (.ins C dx' fs')/\fs'.length<1000/\D.nx Z (upd H3 a (.ins C dx' (Lj f z fs')))
section
variable {X:Cx}{o e value:Expr}{f:Str}{pos pos' tpos:Pos}{ta tv:TE}
end
section
variable {X:Cx}{pins:List (Addr×Obj)}{Z:St}{H:Hp}{s:Shared}{A:Around}{E:Zc}{Q:Zc}{c:Value}{b:Bool}
inductive TyOf (K:Za) (H:Hp):V->Value->Prop where
 | non:TyOf K H .non (.type "NoneType")
 | bl (x:Bool):TyOf K H (.bl x) (.type "bool")
 | int (i:Int):TyOf K H (.int i) (.type "int")
 | str (x:Str):TyOf K H (.str x) (.type "str")
 | flt (x:UInt64):TyOf K H (.flt x) (.type "float")
 | lst {a:Addr} {xs:List V} (e:H a=some (.lst xs)):TyOf K H (.ref a) (.type "list")
 | frz {a:Addr} {o:Obj} {xs:List V} (e:H a=some (.frz o (.lst xs))):TyOf K H (.ref a) (.type "list")
 | tup {a:Addr} {xs:List V} (e:H a=some (.tup xs)):TyOf K H (.ref a) (.type "tuple")
 | dK {a:Addr} {kvs:List (Key×V)} (e:H a=some (.dK kvs)):TyOf K H (.ref a) (.type "dict")
 | dT {a:Addr} {kvs:List (List Key×V)} (e:H a=some (.dT kvs)):TyOf K H (.ref a) (.type "dict")
 | ins {a C dx:Addr} {fs:List (Str×V)} (e:H a=some (.ins C dx fs)) (cl:Cls K C) (ha:findIn K (.ref C) "__class__" = some (some (.builtin "object.__class__")))
   (hn:specialIn K (.builtin "object.__class__") "__get__" = some (some (.builtin "getset_descriptor.__get__"))) (htk:PySem.W.takesIn K (.builtin "object.__class__")=some true)
   (hm:mroIn K C (.type "object")=some true):TyOf K H (.ref a) (.ref C)
def Xg0{x}{u t}(I:Inv X pins Z H s)(rx:Ai x u)(ty:TyOf X.K H x t)(e:kitOne X.K t c=some b)(h:∀tk,Q (.bool b) {s with toks:=tk}):
  wpAny (model X.prog X.w) A (call (.builtin "isinstance") [u,c]) Q E s:=by
 cases ty with
 | non=>cases (show u=Value.none from rx);exact kia_one PySem.W.kitx_none I.kIn True.intro e (λz=>nomatch z) h
 | bl y=>cases (show u=Value.bool y from rx);exact kia_one PySem.W.kitx_bool I.kIn True.intro e (λz=>nomatch z) h
 | int i=>obtain⟨t,q⟩:=(show ∃t,u=Value.int i t from rx);cases q;exact kia_one PySem.W.kitx_int I.kIn True.intro e (λz=>nomatch z) h
 | str y=>obtain⟨t,q⟩:=(show ∃t,u=Value.str y t from rx);cases q;exact kia_one PySem.W.kitx_str I.kIn True.intro e (λz=>nomatch z) h
 | flt y=>obtain⟨t,q⟩:=(show ∃t,u=Value.float y t from rx);cases q;exact kia_one PySem.W.kitx_float I.kIn True.intro e (λz=>nomatch z) h
 | @lst a xs ea=>
  cases (show u=Value.ref a from rx);obtain⟨_,_,n,_,h1⟩:=(show A4 X.prog X.w H s.heap a (.lst xs) from I.hok a _ ea);exact kia_one kitx_list I.kIn ⟨_,h1,rfl⟩ e (λz=>nomatch z) h
 | @frz a ob xs ea=>
  cases (show u=Value.ref a from rx);obtain⟨_,_,_,n,_,h1⟩:=(show A4 X.prog X.w H s.heap a (.frz ob (.lst xs)) from I.hok a _ ea);exact kia_one kitx_list I.kIn ⟨_,h1,rfl⟩ e (λz=>nomatch z) h
 | @tup a xs ea=>
  cases (show u=Value.ref a from rx);obtain⟨_,_,_,p⟩:=(show A4 X.prog X.w H s.heap a (.tup xs) from I.hok a _ ea);obtain⟨o,h1,h2,_⟩:=p;exact kia_one PySem.W.kitx_tuple I.kIn ⟨o,h1,h2⟩ e (λz=>nomatch z) h
 | @dK a kvs ea=>
  cases (show u=Value.ref a from rx);obtain⟨_,_,vs,_,p⟩:=(show A4 X.prog X.w H s.heap a (.dK kvs) from I.hok a _ ea);obtain⟨o,es,ep,h1,h2,_⟩:=p;exact kia_one kitx_dict I.kIn ⟨o,h1,h2.1⟩ e (λz=>nomatch z) h
 | @dT a kvs ea=>
  cases (show u=Value.ref a from rx);obtain⟨_,_,xs,_,o,es,ep,h1,h2,_⟩:=(show A4 X.prog X.w H s.heap a (.dT kvs) from I.hok a _ ea);exact kia_one kitx_dict I.kIn ⟨o,h1,h2.1⟩ e (λz=>nomatch z) h
 | @ins a C dx fs ea cl ha hn htk hm=>
  cases (show u=Value.ref a from rx);obtain⟨mA,O,_⟩:=Xgz I.hok ea;obtain⟨od,J,_⟩:=O.look;exact kia_one (PySem.W.kitx_own (cl.get _) cl.hd ha hn htk hm) I.kIn J e (λz=>nomatch z) h
end
structure Room (k:Nat) (A:Around):Prop where
 hd:A.handled=none
 dp:A.depth+3 * k+5<recursionLimit
 un:A.units+16 * k+200<cLine
 gd:A.guards=some []
def Room.mono{j k}{A}(r:Room k A)(h:j<=k):Room j A:=⟨r.hd,by have:=r.dp;omega,by have:=r.un;omega,r.gd⟩
def Room.deeper{k}{A}(r:Room (k+1) A)(env):Room k (A.deeper env):=
 ⟨r.hd,by have:=r.dp;show A.depth+1+3 * k+5<_;omega,by have:=r.un;show A.units+3+16 * k+200<_;omega,r.gd⟩
def Room.in1{k}{A}(r:Room (k+1) A):Room k A.in1:=
 ⟨r.hd,by have:=r.dp;show A.depth+3 * k+5<_;omega,by have:=r.un;show A.units+1+16 * k+200<_;omega,r.gd⟩
def Room.depth{k}{A}(r:Room k A):A.depth<recursionLimit:=by have:=r.dp;omega
def Room.units{k}{A}(r:Room k A):A.units+64<cLine:=by have:=r.un;omega
def Room.units0{k}{A}(r:Room k A):A.units<cLine:=by have:=r.un;omega
def F1:TA:=λ_ H Q=>Q [] H
def Ev (ta:TE) (tr:TA):TA:=fun Z H Q=>ta Z H λx H1=>tr Z H1 λxs H2=>Q (x::xs) H2
section
variable {X:Cx}{e:Expr}{es:List Expr}{te:TE}{t:TA}{pos:Pos}
def Ac:PA X [] F1:=λ_ _ _ _ H Q I h=>Calls.spliced_nil ⟨[],H,I,.nil,h⟩
def Aa(ha:PE X e te)(hr:PA X es t)(hs:starEach (e::es) X.env=(false,eval e X.env)::starEach es X.env:=by rfl):PA X (e::es) (Ev te t):=by
 intro pos pins s Z H Q I h;rw[hs];show wpAny _ _ (spliced ((false,eval e X.env)::backTo pos (starEach es X.env))) _ _ s;refine Calls.spliced_cons (thn (ha pins s Z H _ I h) λu s1 ⟨x,H1,I1,r1,q1⟩=>?_);exact thn (hr pos pins s1 Z H1 _ I1 q1) λus s2 ⟨xs,H2,I2,r2,q2⟩=>⟨x::xs,H2,I2,.cons r1 r2,q2⟩
def Ll (t:TA):TE:=fun Z H Q=>t Z H λxs H1=>xs.length<=sizeLine/\∀p,H1 p=none->Q (.ref p) (upd H1 p (.tup xs))
def tLst (t:TA):TE:=fun Z H Q=>t Z H λxs H1=>xs.length<=sizeLine/\∀p,H1 p=none->Q (.ref p) (upd H1 p (.lst xs))
def Bk{x1}(h:PA X es t):PE X (.Tuple es x1 pos) (Ll t):=by
 intro pins s Z H Q I hq;refine wpAny_Tuple_spliced (thn (h pos pins s Z H _ I hq) λus s1 ⟨xs,H1,I1,r,z,q⟩=>⟨by rw[<-r.length];exact z,?_⟩);have hf:H1 s1.heap.objs.size=none:=I1.hok.fresh (Oj _);refine⟨.ref s1.heap.objs.size,upd H1 s1.heap.objs.size (.tup xs),I1.laid (t':=s1.toks) (λb u e=>Tm _ e) (Oj _) ?_,rfl,q _ hf⟩;exact⟨z,us,r,⟨_,Heap.get?_push_size _ rfl,rfl,_,rfl⟩⟩
def Bh(h:PA X es t):PE X (.List es pos) (tLst t):=by
 intro pins s Z H Q I hq;refine wpAny_List_spliced (thn (h pos pins s Z H _ I hq) λus s1 ⟨xs,H1,I1,r,z,q⟩=>⟨by rw[<-r.length];exact z,?_⟩);have hf:H1 s1.heap.objs.size=none:=I1.hok.fresh (Oj _);refine⟨.ref s1.heap.objs.size,upd H1 s1.heap.objs.size (.lst xs),I1.laid (t':=s1.toks) (λb u e=>Tm _ e) (Oj _) ?_,rfl,q _ hf⟩;exact⟨z,us,0,r,Heap.get?_push_size _ rfl⟩
end
abbrev Sp:=List V->Hp->VK->XK->Prop
abbrev CXT:=List Env->Hp->Shared->XK->Value->Shared->Prop
structure Env0 (P:Program) (w:World) (K:Za) (mg:Str->Option Value) (base:Heap) (A:Around) (outer:List Env) (s:Shared) (H:Hp):Prop where
 frames:A.frames=some outer
 mod:Mod K mg base
 bs:∀b o,base.get? b=some o->s.heap.get? b=some o/\H b=none
 bsz:base.objs.size<=s.heap.objs.size
 funs:s.heap.FunFrames base outer
 frf:∀b∈frs outer,H b=none
 hok:HOk P w H s.heap
 bare:AllBare s.gens
def CE (outer:List Env) (P:Program) (w:World) (H:Hp) (s:Shared) (Q:VK) (u:Value) (s':Shared):Prop:=
 ∃v H',s'.os=s.os/\AllBare s'.gens/\Un (frs outer) [] H H' s.heap s'.heap/\HOk P w H' s'.heap/\Ai v u/\Q v H'
def CR (CX:CXT) (outer:List Env) (P:Program) (w:World) (H:Hp) (s:Shared) (Q:VK) (E:XK) (r:Result) (s':Shared):Prop:=
 match r with
 | .ok (.ret u)=>CE outer P w H s Q u s'
 | .ok _=>False
 | .error e=>CX outer H s E e s'
structure FnOk (P:Program) (w:World) (K:Za) (mg:Str->Option Value) (base:Heap) (CX:CXT) (k:Nat) (f:Addr) (fd:FuncData) (ps:Zb) (sp:Sp):Prop where
 len:∀vs H Q E,sp vs H Q E->vs.length=ps.length
 run:∀(A:Around) (outer:List Env) (s:Shared) (H:Hp) (args:Args) (us:List Value) (vs:List V) (Q:VK) (E:XK),Room k A->Env0 P w K mg base A outer s H->BindsTo s fd args (ps.zip us)->Vals vs us->sp vs H Q E ->
  codeAny (model P w) A (.call (.ref f) args) (CR CX outer P w H s Q E) s
def Env0.in1{P}{w}{K}{mg}{base}{A}{outer}{s}{H}(e:Env0 P w K mg base A outer s H):
  Env0 P w K mg base A.in1 outer s H:=⟨e.frames,e.mod,e.bs,e.bsz,e.funs,e.frf,e.hok,e.bare⟩
section
variable {X:Cx}{pins:List (Addr×Obj)}{Z:St}{H:Hp}{s s':Shared}
def Inv.env0(I:Inv X pins Z H s):Env0 X.prog X.w X.K X.mg X.base X.A X.stack s H:=
 ⟨I.ok.frames,I.ok.mod,I.bs,Pd I.ok.bsz I.sz,I.stack,I.stkFree,I.hok,I.bare⟩
def Inv.after{Q}{u}(I:Inv X pins Z H s)(h:CE X.stack X.prog X.w H s Q u s'):EP X pins Z Q u s':=by
 obtain⟨v,H',os,bare,un,hok,r,q⟩:=h;obtain⟨hh,g,d,t,os'⟩:=s';obtain rfl:os'=s.os:=os;exact⟨v,H',I.call (h':=hh) (g':=g) (d':=d) (t':=t) (ch:=[]) un hok bare (λb z=>absurd z (by simp)),r,q⟩
end
def Lm (sp:Sp) (dvs:List V) (E:XK) (t:TA):TE:=fun Z H Q=>t Z H λvs H1=>sp (vs++dvs) H1 Q E
def tMeth (C:Addr) (m:Str) (sp:Sp) (dvs:List V) (E:XK) (ta:TE) (t:TA):TE:=fun Z H Q=>ta Z H λx H1=>∃a dx fs,x = .ref a/\H1 a=some (.ins C dx fs)/\fs.lookup m=none /\
 t Z H1 λvs H2=>sp (x::(vs++dvs)) H2 Q E
def tMake (C:Addr) (sp:Sp) (dvs:List V) (E:XK) (t:TA):TE:=fun Z H Q=>t Z H λvs H1=>∀x dx,H1 x=none->H1 dx=none->dx≠x ->
 sp (.ref x::(vs++dvs)) (upd (upd H1 dx (.own x)) x (.ins C dx [])) (λv H2=>v = .non/\Q (.ref x) H2) E
def Binds (K:Za) (fd:FuncData) (ps:Zb) (ds:List Value):Prop:=
 ∀(s:Shared) (us:List Value),K.In s.heap->(us++ds).length=ps.length->BindsTo s fd ⟨us,[]⟩ (ps.zip (us++ds))
def Binds.all{K}{fd}{ps}(h:∀us:List Value,us.length=ps.length->bindArgs fd ⟨us,[]⟩=pure (ps.zip us)):Binds K fd ps []:=λs us _ hl=>by
 rw[Ps] at hl ⊢;exact .of_eq (h us hl)
def Passes (CX:CXT) (X:Cx) (E:XK):Prop:=∀(pins:List (Addr×Obj)) (Z:St) (H:Hp) (s:Shared) (e:Value) (s':Shared),Inv X pins Z H s->CX X.stack H s E e s'->X.xe e s'
section
variable {X:Cx}{CX:CXT}{k:Nat}{f C:Addr}{fd:FuncData}{ps:Zb}{sp:Sp}{dvs:List V}{ds:List Value}{E:XK}{x m:Str}{p pos apos:Pos}{e o:Expr}{es:List Expr}{ta:TE}{t:TA}
def Xg1{pins}{Z:St}{H}{s}{Q}{us}{vs}(F:FnOk X.prog X.w X.K X.mg X.base CX k f fd ps sp)(hr:Room k X.A)(hb:Binds X.K fd ps ds)(hd:Vals dvs ds)(hx:Passes CX X E)
  (I:Inv X pins Z H s) (r:Vals vs us) (h:sp (vs++dvs) H Q E):wpAny (model X.prog X.w) X.A (call (.ref f) us) (EP X pins Z Q) X.xe s:=by
 have r2:Vals (vs++dvs) (us++ds):=r.append hd;have hl:(us++ds).length=ps.length:=by rw[<-r2.length];exact F.len _ _ _ _ h
 refine wpAny_call (codeAny_mono (F.run X.A X.stack s H ⟨us,[]⟩ (us++ds) (vs++dvs) Q E hr I.env0 (hb s us I.kIn hl) r2 h) λr s' hq=>?_);cases r with
 | error e=>exact hx pins Z H s e s' I hq
 | ok fl=>
  cases fl with
  | ret u=>exact I.after hq
  | next=>exact False.elim hq
  | brk=>exact False.elim hq
  | cont=>exact False.elim hq
def Xg2(F:FnOk X.prog X.w X.K X.mg X.base CX k f fd ps sp)(hr:Room k X.A)(hg:Gl X x)(hm:X.mg x=some (.ref f))(hk:keepIn X.K (.ref f)=true)(hb:Binds X.K fd ps ds)(hd:Vals dvs ds)(hx:Passes CX X E)
  (ha:PA X (e::es) t) (hdb:(x==("__debug__" : Str))=false:=by decide) (he:starEach (e::es) X.env=(false,eval e X.env)::starEach es X.env:=by rfl) (hpl:(backTo pos (starEach es X.env)).any (·.1)=false:=by rfl):
  PE X (.Call (.Name x p) (e::es) [] pos) (Lm sp dvs E t):=by
 intro pins s Z H Q I h;refine wpAny_Call_Name_kw (Gz I hg hm ?_ hdb);refine callWith_K (h₀:=X.base) I.ok.mod.kin hk (thn (ha pos pins s Z H _ I h) λus s1 ⟨vs,H1,I1,r,q⟩=>⟨I1.kIn,?_⟩) he hpl;exact Xg1 F hr hb hd hx I1 r q
structure Mk (K:Za) (C f:Addr):Prop where
 makes:PySem.W.makesIn K C=true
 init:findIn K (.ref C) "__init__" = some (some (.ref f))
 fn:isFn K (.ref f)=true
 kp:keepIn K (.ref C)=true
end
def PK (X:Cx) (kws:List Keyword) (t:TA):Prop:=
 ∀(pos:Pos) (pins:List (Addr×Obj)) (s:Shared) (Z:St) (H:Hp) (Q:List V->Hp->Prop),Inv X pins Z H s->t Z H Q->wpAny (model X.prog X.w) X.A (evalAll ((backToKw pos (keywordEach kws X.env)).map (·.2))) (AP X pins Z Q) X.xe s
section
variable {X:Cx}{CX:CXT}{k:Nat}{f C:Addr}{fd:FuncData}{ps ks:Zb}{sp:Sp}{E:XK}{x m:Str}{p pos apos kpos:Pos}{e o:Expr}{es:List Expr}{kws:List Keyword}{te ta:TE}{t tk:TA}{nm:Option Str}
def Xg3:PK X [] F1:=λ_ _ _ _ H Q I h=>wpAny_evalAll_nil ⟨[],H,I,.nil,h⟩
def Xg4(ha:PE X e te)(hr:PK X kws t):PK X (⟨nm,e,kpos⟩::kws) (Ev te t):=by
 intro pos pins s Z H Q I h
 show wpAny _ _ (evalAll ((do let v <-eval e X.env;standAt pos;pure v)::(backToKw pos (keywordEach kws X.env)).map (·.2))) _ _ s;refine wpAny_evalAll_cons (Ta (thn (ha pins s Z H _ I h) λu s1 ⟨x,H1,I1,r1,q1⟩=>Ta (wpAny_standAt (Tb ?_))));exact thn (hr pos pins s1 Z H1 _ I1 q1) λus s2 ⟨xs,H2,I2,r2,q2⟩=>⟨x::xs,H2,I2,.cons r1 r2,q2⟩
structure KBinds (K:Za) (fd:FuncData) (ps ks:Zb) (g:List Value->List Value->List Value) (gV:List V->List V->List V):Prop where
 to:∀(s:Shared) (us ws:List Value),K.In s.heap->(g us ws).length=ps.length->BindsTo s fd ⟨us,ks.zip ws⟩ (ps.zip (g us ws))
 rel:∀{vs:List V} {us:List Value} {zs:List V} {ws:List Value},Vals vs us->Vals zs ws->Vals (gV vs zs) (g us ws)
variable {g:List Value->List Value->List Value}{gV:List V->List V->List V}
end
structure FnScope (N P:Zb) (sc:Scope):Prop where
 kind:sc.kind = .function
 co:sc.isCoroutine=false
 gen:sc.isGenerator=false
 nd:N.Nodup
 pre:N.take P.length=P
 par:∀x∈P,sc.names.lookup x=some .local\/sc.names.lookup x=some .cell
 nofree:∀y∈sc.names,y.2 ≠ .free
theorem Xav{kindOf}{x}:∀{binds:List (Str×Value)} {m:Str->Option Value},(∀v,(x,v)∉binds)->bindL kindOf binds m x=m x
 | [],_,_=>rfl
 | (n,v)::r,m,h=>by
  unfold bindL;rw[Xav λw hw=>h w (Ot _ hw)];split
  ·have:x≠n:=by rintro rfl;exact h v Os
   simp[this]
  ·rfl
theorem Xaw{kindOf}{x}:∀{binds:List (Str×Value)} {m:Str->Option Value},(∀v,(x,v)∉binds)->bindC kindOf binds m x=m x
 | [],_,_=>rfl
 | (n,v)::r,m,h=>by
  unfold bindC;rw[Xaw λw hw=>h w (Ot _ hw)];split
  ·rfl
  ·have:x≠n:=by rintro rfl;exact h v Os
   simp[this]
theorem Xax{kindOf}{x}{v}:∀{P:Zb} {vs:List Value} {i:Nat} {m:Str->Option Value},P.Nodup->P[i]? = some x->vs[i]? = some v->kindOf x=some .local ->
  bindL kindOf (P.zip vs) m x=some v
 | [],_,_,_,_,h,_,_=>by simp at h
 | _::_,[],_,_,_,_,h,_=>by simp at h
 | p::P,w::vs,0,m,nd,h1,h2,hk=>by
  simp at h1 h2;subst h1;subst h2;show bindL kindOf ((p,w)::P.zip vs) m p=_;unfold bindL;rw[Xav λv hv=>(Qf.mp nd).1 (Sj hv).1,Tg hk];simp
 | p::P,w::vs,i+1,m,nd,h1,h2,hk=>by
  show bindL kindOf ((p,w)::P.zip vs) m x=_;unfold bindL;exact Xax (i:=i) (Qf.mp nd).2 (by simpa using h1) (by simpa using h2) hk
theorem Xay{kindOf}{x}{v}:∀{P:Zb} {vs:List Value} {i:Nat} {m:Str->Option Value},P.Nodup->P[i]? = some x->vs[i]? = some v->kindOf x≠some .local ->
  bindC kindOf (P.zip vs) m x=some v
 | [],_,_,_,_,h,_,_=>by simp at h
 | _::_,[],_,_,_,_,h,_=>by simp at h
 | p::P,w::vs,0,m,nd,h1,h2,hk=>by
  simp at h1 h2;subst h1;subst h2;show bindC kindOf ((p,w)::P.zip vs) m p=_;unfold bindC;rw[Xaw λv hv=>(Qf.mp nd).1 (Sj hv).1,Tf hk];simp
 | p::P,w::vs,i+1,m,nd,h1,h2,hk=>by
  show bindC kindOf ((p,w)::P.zip vs) m x=_;unfold bindC;exact Xay (i:=i) (Qf.mp nd).2 (by simpa using h1) (by simpa using h2) hk
def start (N:Zb) (vs:List V):St:=vs.map some++List.replicate (N.length - vs.length) none
def Cs (CX:CXT) (P:Program) (w:World) (K:Za) (mg:Str->Option Value) (base:Heap) (N:Zb) (qual:Str) (scope:Scope) (f:Addr) (cd:Value) (A:Around) (outer:List Env) (s:Shared) (H:Hp) (E:XK):Cx where
 prog:=P
 w:=w
 K:=K
 mg:=mg
 base:=base
 A:=A.deeper (envOfC qual scope s.heap.objs.size f cd)
 N:=N
 s₀:=s
 H₀:=H
 env:=envOfC qual scope s.heap.objs.size f cd
 outer:=outer
 stack:=envOfC qual scope s.heap.objs.size f cd::outer
 ex:=[]
 calm:=true
 fn:=λ_=>true
 pn:=[]
 xe:=λe s'=>wpAny (model P w) (A.deeper (envOfC qual scope s.heap.objs.size f cd)) (leaving (envOfC qual scope s.heap.objs.size f cd) e) (λ_ s''=>CX outer H s E e s'') (λe' s''=>CX outer H s E e' s'') s'
def Xaz{sc:Scope}{n}{x}(h:sc.names.lookup x=some .cell):∃c,(cellsFrom n sc.names []).lookup x=some c:=by
 have q:=cellsFrom_some sc.names n [] (.inl h);exact Qs.mp q
def Xa0{CX}{P}{w}{K}{mg}{base}{N ps}{qual}{scope}{f}{cd}{A}{outer}{s s1}{H}{E}{us}{vs}
  (S:FnScope N ps scope) (hd:A.handled=none) (e0:Env0 P w K mg base A outer s H) (hl:vs.length=ps.length) (r:Vals vs us)
  (x:InCallC s s.heap.objs.size (bindL (envOfC qual scope s.heap.objs.size f cd).kindOf (ps.zip us) λ_=>none) (cellsFrom (s.heap.objs.size+1) scope.names []) (bindC (envOfC qual scope s.heap.objs.size f cd).kindOf (ps.zip us) λ_=>none) s1):
  Inv (Cs CX P w K mg base N qual scope f cd A outer s H E) [] (start N vs) H s1:=by
 have hpl:ps.length<=N.length:=by have:=congrArg List.length S.pre;rw[Ov] at this;omega
 obtain⟨h1,tk,rfl,hk⟩:=x.done;have noA:∀b:Addr,b∉(Cs CX P w K mg base N qual scope f cd A outer s H E).ex:=λb z=>absurd (show b∈([]:List Addr) from z) (by simp);refine⟨⟨e0.mod,S.kind,rfl,rfl,Oj _,λy z c h1 h2=>?_,λy hy=>?_,λy c _ h=>?_,λ_=>hd,Around.frames_deeper e0.frames,.inr ⟨rfl,rfl⟩,λb z=>absurd z (noA b),e0.bs,e0.bsz,λb _ _=>noA b,λb z=>absurd z (noA b),e0.funs,e0.frf⟩,
  rfl,e0.bare,Un.kept hk,⟨_,x.toInCall.ns,λi y v h1 h2 h3=>?_⟩,λy c h=>⟨_,x.cell y c h⟩,e0.hok.fresh (Oj _),λy c h=>?_,λp hp=>absurd (show p∈([]:List (Addr×Obj)) from hp) (by simp),e0.hok.kept hk,?_⟩
 ·exact name_of_addr x.apart (PySem.mem_of_lookup h1) (PySem.mem_of_lookup h2)
 ·have hy:scope.names.lookup y=some .cell\/scope.names.lookup y=some .free:=hy;rcases hy with hy | hy
  ·exact Xaz hy
  ·exact absurd rfl (S.nofree _ (PySem.mem_of_lookup hy))
 ·exact Rz (x.above y c (PySem.mem_of_lookup h))
 ·have hi:i<vs.length:=by
   unfold start at h2;by_cases hi:i<vs.length
   ·exact hi
   ·rw[Q5 (by simpa using hi)] at h2;rw[List.getElem?_replicate] at h2;split at h2<;>cases h2
  have ha:vs[i]? = some v:=by
   unfold start at h2;rw[Qm (by simpa using hi),Ox] at h2;cases e:vs[i]? with
   | none=>rw[e] at h2;cases h2
   | some a=>rw[e] at h2;cases h2;rfl
  obtain⟨u,hu,rv⟩:=r.get ha;have hp:ps[i]? = some y:=by
   rw[<-S.pre,R0 (by omega)];exact h1
  have ndP:ps.Nodup:=by rw[<-S.pre];exact S.nd.sublist (P3 _ _)
  refine⟨u,rv,?_⟩;rcases S.par y (Qk hp) with k | k
  ·exact .inl ⟨k,Xax ndP hp hu k⟩
  ·obtain⟨c,e⟩:=Xaz (n:=s.heap.objs.size+1) k;refine .inr ⟨.inl k,c,e,?_⟩;have q:=x.cell y c e;rw[Xay ndP hp hu (by show scope.names.lookup y≠_;rw[k];decide)] at q;exact q
 ·exact e0.hok.fresh (Rz (x.above y c (PySem.mem_of_lookup h)))
 ·unfold start;show _=N.length;rw[Oo,Oh,List.length_replicate];omega
def Ln{CX}{P}{w}{K}{mg}{base}{k}{f}{name qual}{params}{body}{scope}{dV kV doc pm cdv ct oc}{an od}
  {osl} {N ps} {sp} (lk:K.lookup f=some ⟨oc,od,.func (fnOf name qual params body scope dV kV doc pm an cdv ct),osl⟩) (hcd:codeIn K cdv qual=true) (S:FnScope N ps scope)
  (len:∀vs H Q E,sp vs H Q E->vs.length=ps.length)
  (hbody:∀(A:Around) (outer:List Env) (s:Shared) (H:Hp) (vs:List V) (Q:VK) (E:XK),Room k (A.deeper (envOfC qual scope s.heap.objs.size f cdv))->sp vs H Q E ->
   ∃t,PSs (Cs CX P w K mg base N qual scope f cdv A outer s H E) body t/\t {nx:=λ_ H'=>Q .non H',rt:=Q} (start N vs) H):
  FnOk P w K mg base CX (k+1) f (fnOf name qual params body scope dV kV doc pm an cdv ct) ps sp:=by
 refine⟨len,λA outer s H args us vs Q E hr e0 hb r hsp=>?_⟩;have hl:=len _ _ _ _ hsp;have KX:K.In s.heap:=e0.mod.kin.keeps λb o e=>(e0.bs b o e).1;have lim:s.heap.NoLimit:=e0.mod.nolimit.keeps λb o e=>(e0.bs b o e).1;have hkind:∀y∈ps.zip us,scope.names.lookup y.1=some .local\/(scope.names.lookup y.1=some .cell/\((cellsFrom (s.heap.objs.size+1) scope.names []).lookup y.1).isSome=true):=λ⟨n,v⟩ hy=>by
  rcases S.par n (Sj hy).1 with q | q
  ·exact .inl q
  ·exact .inr ⟨q,cellsFrom_some _ _ _ (.inl q)⟩
 refine codeAny_call_function hr.depth (KX _ _ lk) rfl S.co S.gen rfl (PySem.W.codeRec_of KX hcd) (hb _ _ _ _ ?_);refine wpAny_newFunctionEnv_cells S.kind hkind λenv he s1 x=>?_;subst he;refine⟨lim.keeps x.toInCall.keep,codeAny_func ?_⟩;obtain⟨t,ht,hq⟩:=hbody A outer s H vs Q E (hr.deeper _) hsp;have I:Inv (Cs CX P w K mg base N qual scope f cdv A outer s H E) [] (start N vs) H s1:=Xa0 S hr.hd e0 hl r x;refine wpAny_mono (ht [] s1 (start N vs) H _ I hq) (λfl s' hs=>?_) λe s' hs=>hs;have fin:∀{Z':St} {H':Hp} {v:V} {u:Value},Inv (Cs CX P w K mg base N qual scope f cdv A outer s H E) [] Z' H' s'->Ai v u->Q v H'->CE outer P w H s Q u s':=
  λ{Z' H' v u} J rv q=>⟨v,H',J.os,J.bare,J.base,J.hok,rv,q⟩
 cases fl with
 | ret u=>
  obtain⟨v, Z',H',J,rv,q⟩:=hs;exact fin J rv q
 | next=>
  obtain⟨Z',H',J,q⟩:=hs;exact fin (v:=V.non) (u:=Value.none) J rfl q
 | brk=>
  obtain⟨_,_,_,q⟩:=hs;exact False.elim q
 | cont=>
  obtain⟨_,_,_,q⟩:=hs;exact False.elim q
section
variable {X:Cx}{x:Str}{p pos:Pos}{e:Expr}{es:List Expr}{t:TA}{id T:String}{r:List V->Hp->VK->Prop}
def tCB (r:List V->Hp->VK->Prop) (t:TA):TE:=fun Z H Q=>t Z H λvs H1=>r vs H1 Q
def A2(hc:Bv X (.builtin id) r)(hg:Gl X x)(hm:X.mg x=none)(hv:bootBuiltins x=some (.builtin id))(ha:PA X (e::es) t)(hn:x ≠ "__name__" := by decide)(hdb:(x==("__debug__" : Str))=false:=by decide)
  (he:starEach (e::es) X.env=(false,eval e X.env)::starEach es X.env:=by rfl) (hpl:(backTo pos (starEach es X.env)).any (·.1)=false:=by rfl):PE X (.Call (.Name x p) (e::es) [] pos) (tCB r t):=by
 intro pins s Z H Q I h;refine wpAny_Call_Name_kw (Fx I hg hm hv ?_ hn hdb);exact PyProof.Rows.callWith_builtin1 (thn (ha pos pins s Z H _ I h) λus s1 ⟨vs,H1,I1,r1,q1⟩=>hc pins s1 Z H1 vs us Q I1 r1 q1) he hpl
def B7(hc:Bv X (.type T) r)(hg:Gl X x)(hm:X.mg x=none)(hv:bootBuiltins x=some (.type T))(ha:PA X (e::es) t)(hn:x ≠ "__name__" := by decide)(hdb:(x==("__debug__" : Str))=false:=by decide)
  (he:starEach (e::es) X.env=(false,eval e X.env)::starEach es X.env:=by rfl) (hpl:(backTo pos (starEach es X.env)).any (·.1)=false:=by rfl):PE X (.Call (.Name x p) (e::es) [] pos) (tCB r t):=by
 intro pins s Z H Q I h;refine wpAny_Call_Name_kw (Fx I hg hm hv ?_ hn hdb);exact PyProof.Rows.callWith_type1 (thn (ha pos pins s Z H _ I h) λus s1 ⟨vs,H1,I1,r1,q1⟩=>hc pins s1 Z H1 vs us Q I1 r1 q1) he hpl
end
end L2
namespace HT
open PySem PyProof.Rows
def Xg5:List Int->List Int->Bool
 | [],[]=>false
 | [],_::_=>true
 | _::_,[]=>false
 | x::xs,y::ys=>if x=y then Xg5 xs ys else decide (x<y)
section
open PySem.SeqAt
open PySem.AutoSeq1 (wpAny_loadPart')
open PySem.MeetsSeq PySem.MeetsSeq2 PySem.MeetsSeq3
end
section
variable {prog:Program}{w:World}{A:Around}{E:Zc}{s:Shared}
def cat_tup{t b}{vs ws}{Q}(ht:IsTup s.heap t vs.toArray)(hb:IsTup s.heap b ws.toArray)(hv:vs≠[])
  (h1:ws=[]->Q (.ref t) s) (h2:ws≠[]->Q (.ref s.heap.objs.size) {s with heap:=s.heap.push {cls:=.type "tuple",data:=.seq (vs++ws).toArray} })
  (hsz:vs.length+ws.length<=sizeLine):wpAny (model prog w) A (binaryOp .Add (.ref t) (.ref b)) Q E s:=by
 obtain⟨⟨cls,dd,data,sl⟩,ho,hc,n,hd⟩:=id ht;obtain⟨⟨cls2,dd2,data2,sl2⟩,ho2,hc2,n2,hd2⟩:=id hb;simp only at hc hd hc2 hd2;subst hc hd hc2 hd2;have e:vs.toArray++ws.toArray=(vs++ws).toArray:=by simp
 by_cases hw:ws=[]
 ·exact concat_meets ⟨_,ho,rfl⟩ ⟨_,ho2,rfl⟩ noFill_tuple_add seq_tuple_add PySem.F.slot_tuple_add PySem.F.entry_tuple_add (PySem.F.args_tuple_add_2 _ _)
   (tuple_addW1 t b vs.toArray ws.toArray n n2 dd dd2 sl sl2 (by simpa using hv) (by simp[hw])) ⟨ho,ho2,h1 hw⟩
 ·refine concat_meets ⟨_,ho,rfl⟩ ⟨_,ho2,rfl⟩ noFill_tuple_add seq_tuple_add PySem.F.slot_tuple_add PySem.F.entry_tuple_add (PySem.F.args_tuple_add_2 _ _)
   (tuple_addW2 t b vs.toArray ws.toArray n n2 dd dd2 sl sl2 (by simpa using hv) (by simpa using hw) (by rw[Ol,Ol];exact hsz)) ⟨ho,ho2,?_⟩
  rw[e];exact h2 hw
def sIx (n d:Nat):Option Int->Nat
 | none=>d
 | some v=>if v<0 then (v+(n:Int)).toNat else min v.toNat n
def sIx_none(n d):sIx n d none=d:=rfl
def sIx_nat(n d k:Nat):sIx n d (some (k:Int))=min k n:=by
 show (if (k:Int)<0 then ((k:Int)+(n:Int)).toNat else min (k:Int).toNat n)=min k n;rw[Tf (by omega),Rs]
def Xg6(n d)(hd:d<=n)(o):sIx n d o<=n:=by
 cases o with
 | none=>exact hd
 | some v=>
  show (if v<0 then (v+(n:Int)).toNat else min v.toNat n)<=n;by_cases hv:v<0
  ·rw[Tg hv];omega
  ·rw[Tf hv];exact Nat.min_le_right _ _
def Xa1(v)(n d:Nat):(if v<0 then max (v+(n:Int)) 0 else min v (n:Int))=((sIx n d (some v):Nat):Int):=by
 show (if v<0 then max (v+(n:Int)) 0 else min v (n:Int))=(((if v<0 then (v+(n:Int)).toNat else min v.toNat n):Nat):Int);by_cases hv:v<0
 ·simp only[Tg hv];omega
 ·simp only[Tf hv];omega
def Xg7(lo hi)(n:Nat):Builtin.Slice.sliceAdjust lo hi 1 (n:Int)=(((sIx n 0 lo:Nat):Int),((sIx n n hi:Nat):Int)):=by
 have h1:¬((1:Int)<0):=by omega
 unfold Builtin.Slice.sliceAdjust;simp only[h1,if_false];refine Prod.ext ?_ ?_
 ·cases lo with
  | none=>rfl
  | some v=>exact Xa1 v n 0
 ·cases hi with
  | none=>rfl
  | some v=>exact Xa1 v n n
def Xg8(i j:Nat):Builtin.Slice.slicePlaces (i:Int) (j:Int) 1=j - i:=by
 unfold Builtin.Slice.slicePlaces;have h1:(1:Int) > 0:=by omega
 simp only[h1,if_true,Int.ediv_one];split<;>omega
def Xa2{v}{o}{Q}(p:IsPart v o)(h:Q o s):wpAny (model prog w) A (Builtin.Slice.slicePartIndex v) Q E s:=by
 cases p with
 | none=>exact slicePart_none h
 | int i t=>exact slicePart_int h
def Xa3{sl}{vl vu}{lo hi}{n:Nat}{Q}(hs:s.heap.IsSliceOf sl vl vu .none)(pl:IsPart vl lo)(pu:IsPart vu hi)
  (h:Q (((sIx n 0 lo:Nat):Int),1,sIx n n hi - sIx n 0 lo) s):wpAny (model prog w) A (Builtin.Slice.sliceApplied (.ref sl) (pure (n:Int))) Q E s:=by
 obtain⟨os,hos,hcs,hds⟩:=id hs;unfold Builtin.Slice.sliceApplied Builtin.Slice.sliceFields;refine Ta (Ta (wpAny_field hos hds (x:=vl) rfl (Ta (wpAny_field hos hds (x:=vu) rfl (Ta (wpAny_field hos hds (x:=.none) rfl (Tb ?_)))))));refine Ta (slicePart_none ?_);show wpAny _ _ (if ((1:Int)==0)=true then _ else _) _ _ s;rw[Tf (by decide)];refine Ta (Xa2 pl (Ta (Xa2 pu (Ta (Tb ?_)))));show wpAny _ _ (match Builtin.Slice.sliceAdjust lo hi 1 (n:Int) with | (lo,hi)=>pure (lo,(1:Int),Builtin.Slice.slicePlaces lo hi 1)) _ _ s;rw[Xg7 lo hi n];show wpAny _ _ (pure (((sIx n 0 lo:Nat):Int),(1:Int),Builtin.Slice.slicePlaces ((sIx n 0 lo:Nat):Int) ((sIx n n hi:Nat):Int) 1)) _ _ s;rw[Xg8];exact Tb h
def Xg9(xs:Array Value)(i k:Nat):((List.range k).filterMap λ(m:Nat)=>xs[((i:Int)+(m:Int) * 1).toNat]?).toArray=((xs.toList.drop i).take k).toArray:=by
 have e:(λ(m:Nat)=>xs[((i:Int)+(m:Int) * 1).toNat]?)=λm=>xs[i+m]?:=by
  funext m;have:((i:Int)+(m:Int) * 1).toNat=i+m:=by omega
  rw[this]
 rw[e];have:=pick_run xs i k;rw[List.filterMap_map] at this;have e2:((λx=>xs[x]?) ∘ λx=>i+x)=λm=>xs[i+m]?:=rfl;rw[e2] at this;rw[this]
def getItem_tuple_cut{t sl}{items}{vl vu}{lo hi}{Q}(ht:IsTup s.heap t items)(hs:s.heap.IsSliceOf sl vl vu .none)(pl:IsPart vl lo)(pu:IsPart vu hi)
  (hw:¬(sIx items.size 0 lo=0/\sIx items.size items.size hi=items.size))
  (h:Q (.ref s.heap.objs.size) {s with heap:=s.heap.push {cls:=.type "tuple",data:=.seq ((items.toList.drop (sIx items.size 0 lo)).take (sIx items.size items.size hi - sIx items.size 0 lo)).toArray} })
  (hsz:items.size<=sizeLine):wpAny (model prog w) A (getItem (.ref t) (.ref sl)) Q E s:=by
 have htake:sizeOk (.seq ((items.toList.drop (sIx items.size 0 lo)).take (sIx items.size items.size hi - sIx items.size 0 lo)).toArray):=by
  show ((items.toList.drop (sIx items.size 0 lo)).take (sIx items.size items.size hi - sIx items.size 0 lo)).toArray.size<=sizeLine;rw[Ol,Ov,Pk,O1];omega
 have hj:sIx items.size items.size hi<=items.size:=Xg6 _ _ (Oj _) hi;obtain⟨os,hos,hcs,hds⟩:=id hs;have hTs:s.TypeIs (.ref sl) "slice" := ⟨os,hos,hcs⟩;unfold getItem
 try with_reducible refine wpAny_holding ?_
 first | refine Ta (Tb ?_) | skip
 refine Ta (wpAny_sequenceKey ht.typeIs (by decide) ?_);refine Ta (wpAny_callSpecial?_slot (name:=Str.ofString "__getitem__") ht.typeIs PyProof.Rows.slot_tuple_getitem
  (wpAny_call_entry PyProof.Rows.slot_tuple_getitem ht.typeIs entry_tuple_getitem ?_ (args_tuple_getitem _ _)))
 show wpAny _ _ (Builtin.Tuple.tupleItemsOf (.ref t) >>= _) _ _ s;refine Ta (tupleItemsOf_ ht ?_);refine Ta (wpAny_typeOf hTs ?_);rw[Tg (by decide)];refine Ta (Xa3 hs pl pu ?_);have hno:¬((((sIx items.size 0 lo:Nat):Int)==0&&(1:Int)==1&&(sIx items.size items.size hi - sIx items.size 0 lo)==items.size)=true):=by
  intro q;rw[O4,O4] at q;have q1:((sIx items.size 0 lo:Nat):Int)=0:=eq_of_beq q.1.1;have q2:sIx items.size items.size hi - sIx items.size 0 lo=items.size:=eq_of_beq q.2;exact hw ⟨by omega,by omega⟩
 show wpAny _ _ (if (((sIx items.size 0 lo:Nat):Int)==0&&(1:Int)==1&&(sIx items.size items.size hi - sIx items.size 0 lo)==items.size)=true then _ else _) _ _ s;rw[Tf hno,Xg9]
 first
  | exact Ta (m:=Builtin.Tuple.tupleExact _) (wpAny_newObj_type (Tb ⟨_,rfl,Tb h⟩) htake)
  | exact Ta (m:=Builtin.Tuple.tupleExact _) (wpAny_newObj_type (Ta (Tb (Tb ⟨_,rfl,Tb h⟩))) htake)
  | exact Ta (Ta (m:=Builtin.Tuple.tupleExact _) (wpAny_newObj_type (Tb (Tb ⟨_,rfl,Tb h⟩)) htake))
  | exact Ta (Ta (m:=Builtin.Tuple.tupleExact _) (wpAny_newObj_type (Tb ⟨_,rfl,Tb h⟩) htake))
end
end HT
namespace L2
abbrev TO:=St->Hp->(Option Int->Hp->Prop)->Prop
def PO (X:Cx) (e:Option Expr) (t:TO):Prop:=
 ∀pins s Z H (Q:Option Int->Hp->Prop),Inv X pins Z H s->t Z H Q ->
  wpAny (model X.prog X.w) X.A (evalPart e X.env) (λu s'=>∃o H',Inv X pins Z H' s'/\IsPart u o/\Q o H') X.xe s
def Lo:TO:=λ_ H Q=>Q none H
def Lp (t:TE):TO:=fun Z H Q=>t Z H λx H1=>∃i,x = .int i/\Q (some i) H1
section
variable {X:Cx}{e:Expr}{te:TE}{lo hi:Option Expr}{tl th:TO}{pos p2:Pos}
def Bo:PO X none Lo:=by
 intro pins s Z H Q I h;rw[evalPart_none];exact Tb ⟨none,H,I,.none,h⟩
def Bi(h:PE X e te):PO X (some e) (Lp te):=by
 intro pins s Z H Q I hw;rw[evalPart_some];refine thn (h pins s Z H _ I hw) λu s1 ⟨x,H1,I1,r1,q1⟩=>?_;obtain⟨i,rfl,q⟩:=q1;obtain⟨t,rfl⟩:=r1;exact⟨some i,H1,I1,.int i t,q⟩
def SlR (X:Cx) (r:V->Option Int->Option Int->Hp->VK->Prop):Prop:=
 ∀pins s Z H (x:V) (v vl vu:Value) (lo hi:Option Int) (sl:Addr) (Q:VK),Inv X pins Z H s->Ai x v->s.heap.IsSliceOf sl vl vu .none->IsPart vl lo->IsPart vu hi->r x lo hi H Q ->
  ∃T id,typeLookup (.type T) "__getitem__" = pure (some (.builtin id))/\s.TypeIs v T/\wpAny (model X.prog X.w) X.A (getItem v (.ref sl)) (EP X pins Z Q) X.xe s
def tSl (r:V->Option Int->Option Int->Hp->VK->Prop) (te:TE) (tl th:TO):TE:=fun Z H Q=>te Z H λx H1=>tl Z H1 λl H2=>th Z H2 λu H3=>r x l u H3 Q
def Bm{r}(hr:SlR X r)(he:PE X e te)(hl:PO X lo tl)(hu:PO X hi th):PE X (.Subscript e (.Slice lo hi none p2) pos) (tSl r te tl th):=by
 intro pins s Z H Q I h;refine Subscript_ (thn (he pins s Z H _ I h) λv s1 ⟨x,H1,I1,r1,q1⟩=>?_);refine wpAny_Slice (thn (hl pins s1 Z H1 _ I1 q1) λvl s2 ⟨l,H2,I2,pl,q2⟩=>thn (hu pins s2 Z H2 _ I2 q2) λvu s3 ⟨u,H3,I3,pu,q3⟩=>?_);rw[evalPart_none];refine Tb ?_;have I4:Inv X pins Z H3 {s3 with heap:=s3.heap.push {cls:=.type "slice",data:=.fields #[vl,vu,.none]} }:=I3.kept (t':=s3.toks) λb ob q=>Tm _ q;obtain⟨T,id,hT,ht,hg⟩:=hr pins {s3 with heap:=s3.heap.push {cls:=.type "slice",data:=.fields #[vl,vu,.none]} } Z H3 x v vl vu l u s3.heap.objs.size Q I4 r1 (Heap.IsSliceOf.new ..) pl pu q3;show wpAny (model X.prog X.w) X.A (subscriptTail e (.Slice lo hi none p2) v (.ref s3.heap.objs.size)) (EP X pins Z Q) X.xe {s3 with heap:=s3.heap.push {cls:=.type "slice",data:=.fields #[vl,vu,.none]} };exact tail_any (ops:=[.ref s3.heap.objs.size,v]) ht hT hg (by with_unfolding_all rfl)
def B8 (xs:List V) (lo hi:Option Int):List V:=(xs.drop (HT.sIx xs.length 0 lo)).take (HT.sIx xs.length xs.length hi - HT.sIx xs.length 0 lo)
def Xa4(xs)(lo hi):(B8 xs lo hi).length<=xs.length:=by
 unfold B8;rw[Ov,Pk];omega
def rSlT (K:Za):V->Option Int->Option Int->Hp->VK->Prop:=λx lo hi H Q=>∃a xs,x = .ref a/\SqT K H a xs /\
 ¬(HT.sIx xs.length 0 lo=0/\HT.sIx xs.length xs.length hi=xs.length)/\∀p,H p=none->Q (.ref p) (upd H p (.tup (B8 xs lo hi)))
def Xha:SlR X (rSlT X.K):=by
 intro pins s Z H x v vl vu lo hi sl Q I rx hs pl pu h;obtain⟨a,xs,rfl,hx,hw,q⟩:=h;cases rx;obtain⟨its,r,ht,hz⟩:=I.tuple hx;have hlen:its.toArray.size=xs.length:=by rw[Ol];exact r.length.symm
 refine⟨"tuple",_,PyProof.Rows.slot_tuple_getitem.lookup,ht.typeIs,?_⟩;refine HT.getItem_tuple_cut ht hs pl pu (by rw[hlen];exact hw) ?_ (by rw[hlen];exact hz);rw[hlen];refine⟨.ref s.heap.objs.size,_,I.laid (t':=s.toks) (o:=.tup (B8 xs lo hi)) (λb ob q=>Tm _ q) (Oj _) ?_,rfl,q _ (I.hok.fresh (Oj _))⟩;exact⟨Pd (Xa4 xs lo hi) hz,_,(r.drop (HT.sIx xs.length 0 lo)).take (HT.sIx xs.length xs.length hi - HT.sIx xs.length 0 lo),IsTup.new _ _⟩
def Xhb (K:Za):R2:=λx y H Q=>∃a b xs ys,x = .ref a/\y = .ref b/\SqT K H a xs/\SqT K H b ys/\xs≠[]/\xs.length+ys.length<=sizeLine /\
 (ys=[]->Q (.ref a) H)/\(ys≠[]->∀p,H p=none->Q (.ref p) (upd H p (.tup (xs++ys))))
def Vals.nil_iff{xs}{us}(r:Vals xs us):us=[]↔xs=[]:=by
 cases r with
 | nil=>simp
 | cons _ _=>simp
def Xhc:OpR X (binaryOp .Add) (Xhb X.K):=by
 intro pins s Z H x y v u Q I rx ry h;obtain⟨a,b,xs,ys,rfl,rfl,ha,hb,hx,hz,q1,q2⟩:=h;cases rx;cases ry;obtain⟨its,r1,p1,_⟩:=I.tuple ha;obtain⟨its2,r2,p2,_⟩:=I.tuple hb;refine HT.cat_tup p1 p2 (λz=>hx (r1.nil_iff.mp z)) (λz=>⟨.ref a,H,I,rfl,q1 (r2.nil_iff.mp z)⟩) (λz=>?_) (by rw[<-r1.length,<-r2.length];exact hz);refine⟨.ref s.heap.objs.size,_,I.laid (t':=s.toks) (o:=.tup (xs++ys)) (λb ob q=>Tm _ q) (Oj _) ?_,rfl,q2 (λw=>z (r2.nil_iff.mpr w)) _ (I.hok.fresh (Oj _))⟩;exact⟨by rw[Oo];exact hz,_,r1.append r2,IsTup.new _ _⟩
end
def ixN (n:Nat) (i:Int):Option Nat:=if 0<=i then (if i<n then some i.toNat else none) else if -(n:Int)<=i then some (i+n).toNat else none
def atI {α : Type} (xs:List α) (i:Int):Option α:=(ixN xs.length i).bind λj=>xs[j]?
def Xa5{n}{i}{j}(h:ixN n i=some j):seqIndex? i n=some j/\j<n /\ -(n:Int)<=i/\i<n:=by
 unfold ixN at h;by_cases h0:0<=i
 ·rw[Tg h0] at h;by_cases h1:i<n
  ·rw[Tg h1] at h;have e:i.toNat=j:=O0 h;exact⟨by rw[seqIndex_of h0 h1,e],by omega,by omega,h1⟩
  ·rw[Tf h1] at h;cases h
 ·rw[Tf h0] at h;by_cases h1 : -(n:Int)<=i
  ·rw[Tg h1] at h;have e:(i+n).toNat=j:=O0 h;exact⟨by rw[seqIndex_neg (by omega) h1,e],by omega,h1,by omega⟩
  ·rw[Tf h1] at h;cases h
def Lq{α : Type}{xs}{i}{v : α}(h:atI xs i=some v):∃j,seqIndex? i xs.length=some j/\xs[j]? = some v/\j<xs.length /\ -(xs.length:Int)<=i/\i<xs.length:=by
 unfold atI at h;cases e:ixN xs.length i with
 | none=>rw[e] at h;cases h
 | some j=>
  rw[e] at h;obtain⟨h1,h2,h3,h4⟩:=Xa5 e;exact⟨j,h1,h,h2,h3,h4⟩
def Dz{α : Type}{xs}{j:Nat}{v : α}(h:xs[j]? = some v):atI xs (j:Int)=some v:=by
 have hj:j<xs.length:=(Oy.mp h).1;have e:ixN xs.length (j:Int)=some j:=by
  unfold ixN;rw[Tg (by omega),Tg (by omega)];simp
 unfold atI;rw[e];exact h
def Xhd (b:Expr):Prop:=∀o i,subscripted b false o i=operate [o,i] (getItem o i)
def IxR (X:Cx) (r:R2):Prop:=
 ∀(value slice:Expr) (pins:List (Addr×Obj)) (s:Shared) (Z:St) (H:Hp) (x y:V) (v u:Value) (Q:VK),Inv X pins Z H s->Ai x v->Ai y u->r x y H Q ->
  subscripted slice false v u=operate [v,u] (getItem v u)->wpAny (model X.prog X.w) X.A (subscriptTail value slice v u) (EP X pins Z Q) X.xe s
def MtR (X:Cx) (id:String) (r:V->List V->Hp->VK->Prop):Prop:=
 ∀pins s Z H (x:V) (xs:List V) (v:Value) (us:List Value) (Q:VK),Inv X pins Z H s->Ai x v->Vals xs us->r x xs H Q ->
  wpAny (model X.prog X.w) X.A (call (.builtin id) (v::us)) (EP X pins Z Q) X.xe s
section
variable {X:Cx}{a b:Expr}{ta tb:TE}{pos:Pos}
def Ax{r}(hr:IxR X r)(ha:PE X a ta)(hb:PE X b tb)(hs:Xhd b):PE X (.Subscript a b pos) (tOp r ta tb):=by
 intro pins s Z H Q I h;exact Subscript_ (binT ha hb I h λv u s2 x y H2 I2 rx ry q=>hr a b pins s2 Z H2 x y v u Q I2 rx ry q (hs _ _))
def Lr (K:Za):R2:=λx y H Q=>∃p xs i v,x = .ref p/\y = .int i/\SqL K H p xs/\atI xs i=some v/\Q v H
def Ls (K:Za):R2:=λx y H Q=>∃p xs i v,x = .ref p/\y = .int i/\SqT K H p xs/\atI xs i=some v/\Q v H
def Xa6:R2:=λx y H Q=>∃z i c,x = .str z/\y = .int i/\z.length<=sizeLine/\atI z.cps.toList i=some c/\Q (.str ⟨#[c]⟩) H
def Bd:IxR X (Lr X.K):=by
 intro value slice pins s Z H x y v u Q I rx ry h hs;obtain⟨p,xs,i,z,rfl,rfl,hq,he,q⟩:=h;cases rx;obtain⟨t,rfl⟩:=ry;obtain⟨its,r,pl,hz⟩:=I.list hq;obtain⟨j,h1,h2,h3,h4,h5⟩:=Lq he;obtain⟨w,ew,rw'⟩:=r.get h2;have hl:=r.length;have hn:=line63;have fin:EP X pins Z Q w s:=⟨z,H,I,rw',q⟩;by_cases h0:0<=i
 ·have hj:i.toNat=j:=by
   rw[seqIndex_of h0 h5] at h1;exact O0 h1
  exact item_listR pl.isList h0 (by omega) (by rw[hj];simpa using ew) fin hs
 ·have hj:(i+(its.toArray.size:Int)).toNat=j:=by
   rw[seqIndex_neg (by omega) h4] at h1;rw[Ol,<-hl];exact O0 h1
  exact subscriptTail_builtinR (x:=w) pl.isList.typeIs slot_list_getitem.lookup
   (wpAny_getItem_list_neg (Q:=λr s'=>r=w/\EP X pins Z Q r s') pl.isList (by omega) (by rw[Ol]<;>omega) (by omega) (by rw[hj];simpa using ew) ⟨rfl,fin⟩) hs
def G6:IxR X (Ls X.K):=by
 intro value slice pins s Z H x y v u Q I rx ry h hs;obtain⟨p,xs,i,z,rfl,rfl,hq,he,q⟩:=h;cases rx;obtain⟨t,rfl⟩:=ry;obtain⟨its,r,pl,hz⟩:=I.tuple hq;obtain⟨j,h1,h2,h3,h4,h5⟩:=Lq he;obtain⟨w,ew,rw'⟩:=r.get h2;have hl:=r.length;have hn:=line63;have fin:EP X pins Z Q w s:=⟨z,H,I,rw',q⟩;exact subscriptTail_builtinR (x:=w) pl.typeIs slot_tuple_getitem.lookup
  (getItem_tuple (j:=j) (Q:=λr s'=>r=w/\EP X pins Z Q r s') pl (by omega) (by omega) (by rw[Ol,<-hl];exact h1) (by simpa using ew) ⟨rfl,fin⟩) hs
def Xhe:IxR X Xa6:=by
 intro value slice pins s Z H x y v u Q I rx ry h hs;obtain⟨z,i,c,rfl,rfl,hz,he,q⟩:=h;obtain⟨t,rfl⟩:=rx;obtain⟨t',rfl⟩:=ry;obtain⟨j,h1,h2,h3,h4,h5⟩:=Lq he;have hl:z.cps.toList.length=z.length:=by simp[Str.length]
 rw[hl] at h1 h4 h5;have hn:=line63;exact tail_any (typeIs_str s z t) slot_str_getitem.lookup (getItem_str (c:=c) (by
  have e1:decide (i < -(2 ^ 63:Int))=false:=Ti (by omega);have e2:decide (i ≥ 2 ^ 63)=false:=Ti (by omega);rw[e1,e2,S6]) (by rw[h1];simpa using h2) ⟨.str ⟨#[c]⟩,H,I.tok _,⟨_,rfl⟩,q⟩) hs
def rIx (K:Za):R2:=λx y H Q=>Lr K x y H Q\/Ls K x y H Q\/Xa6 x y H Q
def Xhf(its:List Value)(n j)(u):Obj.mapSeq (·.setIfInBounds j u) {cls:=.type "list",data:=.seq its.toArray n} = {cls:=.type "list",data:=.seq (its.set j u).toArray n}:=by
 simp[Obj.mapSeq]
def Inv.lst{pins}{Z:St}{H}{s}{p}{xs}(I:Inv X pins Z H s)(h:H p=some (.lst xs)):
  ∃(its:List Value) (n:Nat),Vals xs its/\s.heap.get? p=some {cls:=.type "list",data:=.seq its.toArray n}/\xs.length<=sizeLine:=by
 obtain⟨z,its,n,r,e⟩:=I.hok p _ h;exact⟨its,n,r,e,z⟩
def Inv.lstUpd{pins}{Z:St}{H}{s}{p}{xs ys}{its its':List Value}{n n'}{f}(I:Inv X pins Z H s)(h:H p=some (.lst xs))
  (ho:s.heap.get? p=some {cls:=.type "list",data:=.seq its.toArray n}) (hf:f {cls:=.type "list",data:=.seq its.toArray n} = {cls:=.type "list",data:=.seq its'.toArray n'}) (r:Vals ys its') (hz:ys.length<=sizeLine) (t):
  Inv X pins Z (upd H p (.lst ys)) {s with heap:=s.heap.update p f,toks:=t}:=by
 have e:(s.heap.update p f).get? p=some {cls:=.type "list",data:=.seq its'.toArray n'}:=by
  rw[Heap.get?_update_self f ho (by rw[hf]<;>rfl),hf]
 refine I.write (x:=p) (e:=p) (by rw[h];trivial) (.inl rfl) (λb u hb q=>(Heap.get?_update_other _ _ (Ne.symm hb)).trans q) ⟨_,e⟩ ?_;exact⟨hz,its',n',r,e⟩
def Xhg:V->V->V->Hp->(Hp->Prop)->Prop:=λo i v H Q=>∃p xs k j,o = .ref p/\i = .int k/\H p=some (.lst xs)/\ixN xs.length k=some j/\Q (upd H p (.lst (xs.set j v)))
def Ff:PSet X Xhg:=by
 intro pins s Z H o i v ov iv u Q I ro ri rv h;obtain⟨p,xs,k,j,rfl,rfl,hp,hj,q⟩:=h;cases ro;obtain⟨t,rfl⟩:=ri;obtain⟨its,n,r,ho,hz⟩:=I.lst hp;obtain⟨h1,h2,h3,h4⟩:=Xa5 hj;have hl:=r.length;have hn:=line63;have I':Inv X pins Z (upd H p (.lst (xs.set j v))) {s with heap:=s.heap.update p (Obj.mapSeq (·.setIfInBounds j u))}:=
  I.lstUpd hp ho (Xhf its n j u) (r.set rv j) (by rw[List.length_set];exact hz) s.toks
 by_cases h0:0<=k
 ·have hk:k.toNat=j:=by
   rw[seqIndex_of h0 h4] at h1;exact O0 h1
  exact PySem.W.ki_setAt ho h0 (by omega) (by rw[Ol,<-hl];exact h4) (by rw[hk];exact⟨_,I',q⟩)
 ·have hk:(k+(its.toArray.size:Int)).toNat=j:=by
   rw[seqIndex_neg (by omega) h3] at h1;rw[Ol,<-hl];exact O0 h1
  exact PySem.W.ki_setBack ho (by omega) (by rw[Ol,<-hl];exact h3) (by omega) (by rw[hk];exact⟨_,I',q⟩)
def Xhh(lo hi)(n):(sliceBounds lo hi none n).1=((HT.sIx n 0 lo:Nat):Int)/\(sliceBounds lo hi none n).2.1=((HT.sIx n n hi:Nat):Int)/\(sliceBounds lo hi none n).2.2=1:=by
 refine⟨?_,?_,rfl⟩
 ·cases lo with
  | none=>simp[sliceBounds,HT.sIx]
  | some i=>
   simp only[sliceBounds,HT.sIx,Option.getD_none,show (1:Int) > 0 by decide,if_true];by_cases h:i<0
   ·simp only[h,if_true]<;>omega
   ·simp only[h,if_false]<;>omega
 ·cases hi with
  | none=>simp[sliceBounds,HT.sIx]
  | some i=>
   simp only[sliceBounds,HT.sIx,Option.getD_none,show (1:Int) > 0 by decide,if_true];by_cases h:i<0
   ·simp only[h,if_true]<;>omega
   ·simp only[h,if_false]<;>omega
def Xhi(its:List Value)(lo hi):slicePick its.toArray lo hi none=((its.drop (HT.sIx its.length 0 lo)).take (HT.sIx its.length its.length hi - HT.sIx its.length 0 lo)).toArray:=by
 obtain⟨h1,h2,h3⟩:=Xhh lo hi its.toArray.size;unfold slicePick;rw[h1,h2,h3];simp only[sliceRange_one,pick_run,Ol]<;>rfl
def rSlL (K:Za):V->Option Int->Option Int->Hp->VK->Prop:=λx lo hi H Q=>∃a xs,x = .ref a/\SqL K H a xs/\∀p,H p=none->Q (.ref p) (upd H p (.lst (B8 xs lo hi)))
def Bz:SlR X (rSlL X.K):=by
 intro pins s Z H x v vl vu lo hi sl Q I rx hs pl pu h;obtain⟨a,xs,rfl,hx,q⟩:=h;cases rx;obtain⟨its,r,ht,hz⟩:=I.list hx;have hlen:=r.length;refine⟨"list",_,slot_list_getitem.lookup,ht.isList.typeIs,?_⟩;refine wpAny_getItem_list_slice ht.isList hs pl pu .none (by simp) ?_ (by rw[Ol]<;>omega);rw[Xhi,<-hlen];refine⟨.ref s.heap.objs.size,_,I.laid (t':=s.toks) (o:=.lst (B8 xs lo hi)) (λb ob q=>Tm _ q) (Oj _) ?_,rfl,q _ (I.hok.fresh (Oj _))⟩;exact⟨Pd (Xa4 xs lo hi) hz,_,0,(r.drop (HT.sIx xs.length 0 lo)).take (HT.sIx xs.length xs.length hi - HT.sIx xs.length 0 lo),Heap.get?_push_size _ rfl⟩
def B1:V->Bool
 | .non=>true
 | .bl _=>true
 | .int _=>true
 | .str _=>true
 | _=>false
def eqV:V->V->Bool
 | .non,.non=>true
 | .bl a,.bl b=>a==b
 | .bl a,.int b=>(if a then 1 else 0)==b
 | .int a,.bl b=>a==(if b then 1 else 0)
 | .int a,.int b=>a==b
 | .str a,.str b=>a==b
 | _,_=>false
def Xa7{A}{s}{y x}{u v}(ry:Ai y u)(rx:Ai x v)(fy:B1 y=true)(fx:B1 x=true):SeqAt.EqAt A s u v (eqV y x):=by
 cases y with
 | non=>
  cases ry;cases x with
  | non=>cases rx;exact SeqAt.EqAt.same _
  | bl b=>cases rx;exact SeqAt.EqAt.none_bool b
  | int b=>obtain⟨t,rfl⟩:=rx;exact SeqAt.EqAt.none_int b t
  | str b=>obtain⟨t,rfl⟩:=rx;exact SeqAt.EqAt.none_str b t
  | _=>exact absurd (show false=true from fx) O3
 | bl a=>
  cases ry;cases x with
  | non=>cases rx;exact SeqAt.EqAt.bool_none a
  | bl b=>cases rx;exact SeqAt.EqAt.bool_bool a b
  | int b=>obtain⟨t,rfl⟩:=rx;exact SeqAt.EqAt.bool_int a b t
  | str b=>obtain⟨t,rfl⟩:=rx;exact SeqAt.EqAt.bool_str a b t
  | _=>exact absurd (show false=true from fx) O3
 | int a=>
  obtain⟨t',rfl⟩:=ry;cases x with
  | non=>cases rx;exact SeqAt.EqAt.int_none a t'
  | bl b=>cases rx;exact SeqAt.EqAt.int_bool a t' b
  | int b=>obtain⟨t,rfl⟩:=rx;exact SeqAt.EqAt.int_int a t' b t
  | str b=>obtain⟨t,rfl⟩:=rx;exact SeqAt.EqAt.int_str a t' b t
  | _=>exact absurd (show false=true from fx) O3
 | str a=>
  obtain⟨t',rfl⟩:=ry;cases x with
  | non=>cases rx;exact SeqAt.EqAt.str_none a t'
  | bl b=>cases rx;exact SeqAt.EqAt.str_bool a t' b
  | int b=>obtain⟨t,rfl⟩:=rx;exact SeqAt.EqAt.str_int a t' b t
  | str b=>obtain⟨t,rfl⟩:=rx;exact SeqAt.EqAt.str_str a t' b t
  | _=>exact absurd (show false=true from fx) O3
 | _=>exact absurd (show false=true from fy) O3
def eqU (x:V) (u:Value):Bool:=match u with
 | .none=>eqV .non x
 | .bool b=>eqV (.bl b) x
 | .int i _=>eqV (.int i) x
 | .str z _=>eqV (.str z) x
 | _=>false
def Jl{x y}{u}(r:Ai y u)(f:B1 y=true):eqU x u=eqV y x:=by
 cases y with
 | non=>cases r;rfl
 | bl b=>cases r;rfl
 | int i=>obtain⟨t,rfl⟩:=r;rfl
 | str z=>obtain⟨t,rfl⟩:=r;rfl
 | _=>exact absurd (show false=true from f) O3
theorem G7{x}:∀{xs:List V} {us:List Value},Vals xs us->xs.all B1=true->us.any (eqU x)=xs.any λy=>eqV y x
 | _,_,.nil,_=>rfl
 | y::xs,u::us,.cons r t,f=>by
  rw[S7,O4] at f;rw[Sg,Sg,Jl r f.1,G7 t f.2]
theorem Fg{A}{s}{x}{v}(rx:Ai x v)(fx:B1 x=true):∀{xs:List V} {us:List Value},Vals xs us->xs.all B1=true->∀u∈us,SeqAt.EqAt A s u v (eqU x u)
 | _,_,.nil,_=>λu hu=>by cases hu
 | y::xs,u::us,.cons r t,f=>λu' hu=>by
  rw[S7,O4] at f;rcases O2.mp hu with rfl | hu
  ·rw[Jl r f.1];exact Xa7 r rx f.1 fx
  ·exact Fg rx fx t f.2 u' hu
def inV (x:V) (xs:List V):Bool:=xs.any λy=>eqV y x
def rIn (K:Za) (neg:Bool):R2:=λx y H Q=>∃p xs,y = .ref p/\(SqL K H p xs\/SqT K H p xs)/\B1 x=true/\xs.all B1=true/\Q (.bl (if neg then !inV x xs else inV x xs)) H
def Jm:OpR X (compareOp .In) (rIn X.K false):=by
 intro pins s Z H x y v u Q I rx ry h;obtain⟨p,xs,rfl,hq,fx,fs,q⟩:=h;cases ry;rcases hq with hq | hq
 ·obtain⟨its,r,pl,hz⟩:=I.list hq;refine SeqAt.in_listAt (eqU x) pl.isList (λw hw=>Fg rx fx r fs w (by simpa using hw)) ⟨.bl _,H,I,rfl,?_⟩;rw[show its.toArray.any (eqU x)=its.any (eqU x) by simp,G7 r fs];exact q
 ·obtain⟨its,r,pl,hz⟩:=I.tuple hq;refine SeqAt.in_tupleAt (eqU x) pl (λw hw=>Fg rx fx r fs w (by simpa using hw)) ⟨.bl _,H,I,rfl,?_⟩;rw[show its.toArray.any (eqU x)=its.any (eqU x) by simp,G7 r fs];exact q
def Lu:OpR X (compareOp .NotIn) (rIn X.K true):=by
 intro pins s Z H x y v u Q I rx ry h;obtain⟨p,xs,rfl,hq,fx,fs,q⟩:=h;cases ry;rcases hq with hq | hq
 ·obtain⟨its,r,pl,hz⟩:=I.list hq;refine SeqAt.notIn_listAt (eqU x) pl.isList (λw hw=>Fg rx fx r fs w (by simpa using hw)) ⟨.bl _,H,I,rfl,?_⟩;rw[show its.toArray.any (eqU x)=its.any (eqU x) by simp,G7 r fs];exact q
 ·obtain⟨its,r,pl,hz⟩:=I.tuple hq;refine SeqAt.notIn_tupleAt (eqU x) pl (λw hw=>Fg rx fx r fs w (by simpa using hw)) ⟨.bl _,H,I,rfl,?_⟩;rw[show its.toArray.any (eqU x)=its.any (eqU x) by simp,G7 r fs];exact q
def B9:Bv X (.builtin "len") (λxs H Q=>∃p ys,xs=[.ref p]/\(SqL X.K H p ys\/SqT X.K H p ys)/\Q (.int ys.length) H):=by
 intro pins s Z H xs us Q I r h;obtain⟨p,ys,rfl,hq,q⟩:=h;obtain⟨u,rfl,rx⟩:=Co r;cases rx;have hn:=line63;rcases hq with hq | hq
 ·obtain⟨its,r',pl,hz⟩:=I.list hq;have hlen:=r'.length;exact Calls.call_len_list pl.isList (by simp only[Ol]<;>omega) ⟨.int ys.length,H,I.tok _,⟨s.toks+1,by rw[Ol,hlen]⟩,q⟩
 ·obtain⟨its,r',pl,hz⟩:=I.tuple hq;have hlen:=r'.length;exact len_tuple pl (by simp only[Ol]<;>omega) ⟨.int ys.length,H,I.tok _,⟨s.toks+1,by rw[Ol,hlen]⟩,q⟩
def F3:Bv X (.type "list") (λxs H Q=>∃p ys,xs=[.ref p]/\(SqL X.K H p ys\/SqT X.K H p ys)/\∀l,H l=none->Q (.ref l) (upd H l (.lst ys))):=by
 intro pins s Z H xs us Q I r h;obtain⟨p,ys,rfl,hq,q⟩:=h;obtain⟨u,rfl,rx⟩:=Co r;cases rx;have fin:∀(its:List Value),Vals ys its->ys.length<=sizeLine->∀(h':Heap) (c':Nat),(∀b o',s.heap.get? b=some o'->h'.get? b=some o') ->
   h'.get? s.heap.objs.size=some {cls:=.type "list",dict:=none,data:=.seq its.toArray c',slots := #[]}->EP X pins Z Q (.ref s.heap.objs.size) {s with heap:=h'}:=λits r' hz h' c' kp e=>
  ⟨.ref s.heap.objs.size,_,I.laid (t':=s.toks) kp (Oj _) (show A4 X.prog X.w _ h' _ (.lst ys) from ⟨hz,its,c',r',e⟩),rfl,q _ (I.hok.fresh (Oj _))⟩
 rcases hq with hq | hq
 ·obtain⟨its,r',pl,hz⟩:=I.list hq;have hlen:=r'.length;obtain⟨o,ho,hc,n,hd⟩:=pl.isList;exact call_list_seq p (.inl rfl) ho hc hd (λh' c' kp e=>fin its r' hz h' c' kp e) (by simp only[Ol]<;>omega)
 ·obtain⟨its,r',pl,hz⟩:=I.tuple hq;have hlen:=r'.length;obtain⟨o,ho,hc,n,hd⟩:=pl;exact call_list_seq p (.inr rfl) ho hc hd (λh' c' kp e=>fin its r' hz h' c' kp e) (by simp only[Ol]<;>omega)
def Jn:Bv X (.type "tuple") (λxs H Q=>∃p ys,xs=[.ref p]/\((SqL X.K H p ys/\∀l,H l=none->Q (.ref l) (upd H l (.tup ys)))\/(SqT X.K H p ys/\Q (.ref p) H))):=by
 intro pins s Z H xs us Q I r h;obtain⟨p,ys,rfl,h⟩:=h;obtain⟨u,rfl,rx⟩:=Co r;cases rx;rcases h with ⟨hq,q⟩ | ⟨hq,q⟩
 ·obtain⟨its,r',pl,hz⟩:=I.list hq;have hlen:=r'.length;refine call_tuple_list pl.isList (λh' kp=>?_) (by simp only[Ol]<;>omega);have I1:Inv X pins Z H {s with heap:=h'}:=I.kept (t':=s.toks) kp;have I2:Inv X pins Z (upd H h'.objs.size (.tup ys)) {s with heap:=h'.push {cls:=.type "tuple",data:=.seq its.toArray} }:=
   I1.laid (t':=s.toks) (λb o e=>Tm _ e) (Oj _) (show A4 X.prog X.w _ _ _ (.tup ys) from ⟨hz,its,r',IsTup.new _ _⟩)
  exact⟨.ref h'.objs.size,_,I2,rfl,q _ (I1.hok.fresh (Oj _))⟩
 ·obtain⟨its,r',pl,hz⟩:=I.tuple hq;exact call_tuple_same pl ⟨.ref p,H,I,rfl,q⟩
def tyV (K:Za) (T:String) (x:V) (H:Hp):Prop:=match x with
 | .str _=>T = "str"
 | .int _=>T = "int"
 | .ref p=>(T = "list" /\ ∃xs,SqL K H p xs)\/(T = "tuple" /\ ∃o,K.lookup p=some o/\o.cls = .type "tuple" /\ o.dict=none) \/
   (T = "dict" /\ ((∃kvs,H p=some (.dK kvs)) \/ ∃kvs,H p=some (.dT kvs)))\/(T = "set" /\ ∃S n,H p=some (.set S n))
 | _=>False
def Xhj{pins}{Z:St}{H}{s}{T}{x}{v}(I:Inv X pins Z H s)(r:Ai x v)(ty:tyV X.K T x H):
  s.TypeIs v T/\∀a,v = .ref a->∃ob,s.heap.get? a=some ob/\ob.dict=none:=by
 cases x with
 | str z=>
  obtain⟨t,rfl⟩:=r;cases (show T = "str" from ty);exact⟨typeIs_str s z t,λ_ e=>nomatch e⟩
 | int i=>
  obtain⟨t,rfl⟩:=r;cases (show T = "int" from ty);exact⟨typeIs_int s i t,λ_ e=>nomatch e⟩
 | ref p=>
  cases r;rcases ty with ⟨rfl,xs,hq⟩ | ⟨rfl,o,hk,hc,hd⟩ | ⟨rfl,hk⟩ | ⟨rfl,S,n,hk⟩
  ·obtain⟨its,_,pl,_⟩:=I.list hq;refine⟨pl.isList.typeIs,λa e=>?_⟩;cases e;obtain⟨o,n,e,c,hd,_⟩:=pl;exact⟨o,e,hd⟩
  ·refine⟨⟨o,I.kIn p o hk,hc⟩,λa e=>?_⟩;cases e;exact⟨o,I.kIn _ o hk,hd⟩
  ·have z:∃o,s.heap.get? p=some o/\o.ExactDict:=by
    rcases hk with ⟨kvs,hk⟩ | ⟨kvs,hk⟩
    ·obtain⟨_,_,_,_,o,_,_,e,ex,_⟩:=I.hok p _ hk;exact⟨o,e,ex⟩
    ·obtain⟨_,_,_,_,o,_,_,e,ex,_⟩:=I.hok p _ hk;exact⟨o,e,ex⟩
   obtain⟨o,e,ex⟩:=z;refine⟨⟨o,e,ex.1⟩,λa e2=>?_⟩;cases e2;exact⟨o,e,ex.2.1⟩
  ·obtain⟨o,_,_,_,e,ex,_⟩:=I.hok p _ hk;refine⟨⟨o,e,ex.1⟩,λa e2=>?_⟩;cases e2;exact⟨o,e,ex.2.1⟩
 | _=>exact False.elim ty
def tBM (K:Za) (T:String) (r:V->List V->Hp->VK->Prop) (to:TE) (t:TA):TE:=fun Z H Q=>to Z H λx H1=>tyV K T x H1/\t Z H1 λxs H2=>r x xs H2 Q
variable {o e:Expr}{es:List Expr}{to:TE}{t:TA}{name:Str}{apos cpos:Pos}{T id:String}{r:V->List V->Hp->VK->Prop}
def G8(pa:PlainAttrs T)(slot:Slot T name id)(hty:typeOf (.builtin id)=pure (.type "method_descriptor"))(hm:MtR X id r)(ho:PE X o to)(ha:PA X (e::es) t)
  (hbase:attributeBase o name X.env (eval o X.env)=eval o X.env:=by rfl)
  (hfew:((backTo cpos (starEach (e::es) X.env)).all (λx => !x.1)&&(backToKw cpos (keywordEach [] X.env)).all (λx=>x.1.isSome)
   && decide ((e::es).length+([]:List Keyword).length+(if ([]:List Keyword).isEmpty then 0 else 1)<30))=true:=by rfl)
  (hline:(apos.endLine==cpos.line)=true:=by rfl) (hs:starEach (e::es) X.env=(false,eval e X.env)::starEach es X.env:=by rfl) (hplain:(backTo cpos (starEach es X.env)).any (·.1)=false:=by rfl):
  PE X (.Call (.Attribute o name apos) (e::es) [] cpos) (tBM X.K T r to t):=by
 intro pins s Z H Q I h;refine wpAny_Call_method_late hbase hfew hline rfl (thn (ho pins s Z H _ I h) λv s1 ⟨x,H1,I1,r1,ty,q1⟩=>?_);obtain⟨h1,h2⟩:=Xhj I1 r1 ty;refine⟨T,id,pa,slot,hty,h1,h2,?_⟩;have hA:=ha cpos pins s1 Z H1 _ I1 q1;rw[hs] at hA ⊢;refine Calls.callWith_builtin (by show (false||(backTo cpos (starEach es X.env)).any (·.1))=false;rw[hplain]<;>rfl) (Calls.evalArgs_plain ?_);exact thn hA λus s2 ⟨vs,H2,I2,r2,q2⟩=>hm pins s2 Z H2 x vs v us Q I2 r1 r2 q2
end
def MtM (X:Cx) (id:String) (r:V->List V->Hp->VK->Prop):Prop:=
 ∀pins s Z H (x:V) (xs:List V) (v:Value) (us:List Value) (Q:VK),Inv X pins Z H s->Ai x v->Vals xs us->r x xs H Q ->
  wpAny (model X.prog X.w) X.A (call (.builtin id) (v::us)) (EP X pins Z Q) X.xe s
theorem Vals.one:∀{x:V} {us:List Value},Vals [x] us->∃u,us=[u]/\Ai x u
 | _,_,.cons r .nil=>⟨_,rfl,r⟩
def Vals.two{x y}{us}(h:Vals [x,y] us):∃u v,us=[u,v]/\Ai x u/\Ai y v:=by
 cases h with
 | cons r t=>
  cases t with
  | cons q z=>cases z;exact⟨_,_,rfl,r,q⟩
def Vals.reverse{xs}{us}(h:Vals xs us):Vals xs.reverse us.reverse:=by
 induction h with
 | nil=>exact .nil
 | cons r t ih=>rw[Sy,Sy];exact Vals.append ih (.cons r .nil)
theorem Vals.rep{xs}{us}(h:Vals xs us):∀k:Nat,Vals (List.replicate k xs).flatten (List.replicate k us).flatten
 | 0=>.nil
 | k+1=>by
  rw[Qx,Qx,R8,R8];exact Vals.append h (Vals.rep h k)
theorem Xa8(its):∀(k:Nat) (acc:List Value),
  List.foldl (λx1 x2=>x1++x2) acc.toArray (List.replicate k its.toArray)=(acc++(List.replicate k its).flatten).toArray
 | 0,acc=>by simp
 | k+1,acc=>by
  have e:acc.toArray++its.toArray=(acc++its).toArray:=by simp
  have e2:(acc++its)++(List.replicate k its).flatten=acc++(List.replicate (k+1) its).flatten:=by
   rw[Qx,R8,Pg]
  rw[<-e2,<-Xa8 its k (acc++its),<-e,Qx,List.foldl_cons]
section
variable {X:Cx}{pins:List (Addr×Obj)}{Z:St}{H:Hp}{s:Shared}{l b:Addr}{xs ys zs:List V}
def Inv.lset{its its':List Value}{n}{f}{t'}(I:Inv X pins Z H s)(hH:H l=some (.lst xs))
  (e:s.heap.get? l=some {cls:=.type "list",data:=.seq its.toArray n}) (hf:f its.toArray=its'.toArray) (hv:Vals ys its') (hz:ys.length<=sizeLine):
  Inv X pins Z (upd H l (.lst ys)) {s with heap:=s.heap.update l (Obj.mapSeq f),toks:=t'}:=by
 have q:=PySem.IsL.update e f;rw[hf] at q;refine I.write (x:=l) (e:=l) (by rw[hH];exact trivial) (.inl rfl) (λb' u hb hu=>(Heap.get?_update_other s.heap (Obj.mapSeq f) (Ne.symm hb)).trans hu) ⟨_,q⟩ ?_;exact⟨hz,its',_,hv,q⟩
def Inv.lnew{its}{t'}(I:Inv X pins Z H s)(hv:Vals ys its)(hz:ys.length<=sizeLine):
  Inv X pins Z (upd H s.heap.objs.size (.lst ys)) {s with heap:=s.heap.push {cls:=.type "list",data:=.seq its.toArray},toks:=t'}:=
 I.laid (λ_ _ q=>Tm _ q) (Oj _) ⟨hz,its,0,hv,Heap.get?_push_size _ rfl⟩
def Inv.fresh(I:Inv X pins Z H s):H s.heap.objs.size=none:=I.hok.fresh (Oj _)
def Inv.lstM(I:Inv X pins Z H s)(hH:H l=some (.lst xs)):xs.length<=sizeLine/\∃(its:List Value) (n:Nat),Vals xs its/\xs.length=its.length/\s.heap.get? l=some {cls:=.type "list",data:=.seq its.toArray n}:=by
 obtain⟨z,its,n,r,e⟩:=I.hok l _ hH;exact⟨z,its,n,r,r.length,e⟩
def Xhk{n}(h:n<=sizeLine):Builtin.List.listTooLong n=false:=by
 unfold Builtin.List.listTooLong;exact Ti (by omega)
end
section
variable {X:Cx}
def Lv:V->List V->Hp->VK->Prop:=λx vs H Q=>∃l xs y,x = .ref l/\vs=[y]/\H l=some (.lst xs)/\xs.length<sizeLine/\Q .non (upd H l (.lst (xs++[y])))
def G9:MtM X "list.append" Lv:=by
 intro pins s Z H x vs v us Q I rx rv h;obtain⟨l,xs,y,rfl,rfl,hH,hz,q⟩:=h;cases rx;obtain⟨u,rfl,ru⟩:=rv.one;obtain⟨z,its,n,r,hl,e⟩:=I.lstM hH;refine call_meets F.slot_list_append ⟨_,e,rfl⟩ F.entry_list_append (F.args_list_append_2 _ _) (PySem.list_append l its.toArray n u (by rw[Ol];omega)) ⟨e,?_⟩;refine⟨.non,_,I.lset (its':=its++[u]) hH e (by simp) (r.append (.cons ru .nil)) ?_,rfl,q⟩;rw[Oo,Pw];omega
def rCat:R2:=λx y H Q=>∃l b xs zs,x = .ref l/\y = .ref b/\H l=some (.lst xs)/\H b=some (.lst zs)/\xs.length+zs.length<=sizeLine/\∀p,H p=none->Q (.ref p) (upd H p (.lst (xs++zs)))
def Bn:OpR X (binaryOp .Add) rCat:=by
 intro pins s Z H x y v u Q I rx ry h;obtain⟨l,b,xs,zs,rfl,rfl,hH,hB,hz,q⟩:=h;cases rx;cases ry;obtain⟨z,its,n,r,hl,e⟩:=I.lstM hH;obtain⟨z2,its2,n2,r2,hl2,e2⟩:=I.lstM hB;refine PySem.P.add_list e e2 ?_ (by rw[Ol,Ol];omega);have ea:its.toArray++its2.toArray=(its++its2).toArray:=by simp
 rw[ea];exact⟨.ref _,_,I.lnew (t':=s.toks) (r.append r2) (by rw[Oo];omega),rfl,q _ I.fresh⟩
def Xa9:R2:=λx y H Q=>∃l k xs,x = .ref l/\y = .int k/\H l=some (.lst xs) /\ -(2 ^ 63)<=k/\k<2 ^ 63/\xs.length * k.toNat<=sizeLine /\
 ∀p,H p=none->Q (.ref p) (upd H p (.lst (List.replicate k.toNat xs).flatten))
def Xhl{α : Type}(xs:List α)(k):(List.replicate k xs).flatten.length=k * xs.length:=by
 induction k with
 | zero=>simp
 | succ k ih=>rw[Qx,R8,Oo,ih,Nat.succ_mul,Nat.add_comm]
def Xba:OpR X (binaryOp .Mult) Xa9:=by
 intro pins s Z H x y v u Q I rx ry h;obtain⟨l,k,xs,rfl,rfl,hH,h1,h2,hz,q⟩:=h;cases rx;obtain⟨t,rfl⟩:=ry;obtain⟨z,its,n,r,hl,e⟩:=I.lstM hH;have hlen:its.toArray.size * k.toNat<=sizeLine:=by rw[Ol,<-hl];exact hz
 have hcap:¬its.toArray.size * k.toNat > (2 ^ 63 - 1) / 8:=by
  have:(sizeLine:Nat)<=(2 ^ 63 - 1) / 8:=by decide
  omega
 have hfit:¬(!Builtin.List.listFitsIndex k)=true:=by
  rw[fitsIndex_both h1 h2];exact O3
 have hlong:¬Builtin.List.listTooLong (its.toArray.size * k.toNat)=true:=by
  rw[Xhk hlen];exact O3
 have hnew:List.foldl (λx1 x2=>x1++x2) #[] (List.replicate (if its.toArray.isEmpty=true then 0 else k.toNat) its.toArray)=(List.replicate k.toNat its).flatten.toArray:=by
  have f0:∀m:Nat,List.foldl (λx1 x2=>x1++x2) #[] (List.replicate m its.toArray)=(List.replicate m its).flatten.toArray:=λm=>by
   have:=Xa8 its m [];rw[Rf] at this;exact this
  rw[f0];cases its with
  | nil=>simp
  | cons a r'=>rw[Tf (by simp)]
 refine wpAny_binaryOp_repeat_ref (T := "list") (U := "int") (by decide) ⟨_,e,rfl⟩ (λs'=>typeIs_int s' k t) noFill_list_mul F.fills_int_mul F.slot_int_rmul repeat_list F.slot_int_index.lookup
  (call_meets F.slot_int_rmul (typeIs_int s k t) F.entry_int_rmul (F.args_int_rmul_2 _ _) (int___rmul___int_list k t l its.toArray n)
   ⟨e,rfl,⟨_,e,rfl⟩,call_meets F.slot_list_mul ⟨_,e,rfl⟩ F.entry_list_mul (F.args_list_mul_2 _ _) (AutoListH.list___mul___list_int_3 l its.toArray n k t hfit hcap hlong) ⟨e,?_⟩⟩)
 rw[hnew];exact⟨.ref _,_,I.lnew (t':=s.toks) (r.rep k.toNat) (by rw[Xhl,Nat.mul_comm];exact hz),rfl,q _ I.fresh⟩
end
section
variable {prog:Program}{w:World}{A:Around}{E:Zc}{s:Shared}
end
section
variable {X:Cx}
end
section
variable {κ : Type} [DecidableEq κ]
def Ay (kvs:List (κ × V)) (k : κ):Option V:=(kvs.find? λkv=>decide (kv.1=k)).map (·.2)
def Bf (kvs:List (κ × V)) (k : κ) (v:V):List (κ × V):=
 if (kvs.any λkv=>decide (kv.1=k))=true then kvs.map (λkv=>if kv.1=k then (kv.1,v) else kv) else kvs++[(k,v)]
def Xbb (kvs:List (κ × V)) (k : κ):List (κ × V):=kvs.filter λkv=>decide (kv.1≠k)
def Dn{p}{r}{k : κ}(e:p.1=k):Ay (p::r) k=some p.2:=by simp[Ay,Rp,e]
def Dp{p}{r}{k : κ}(e:¬p.1=k):Ay (p::r) k=Ay r k:=by simp[Ay,Rp,e]
theorem Ew(k):∀kvs:List (κ × V),(kvs.any λkv=>decide (kv.1=k))=(Ay kvs k).isSome
 | []=>rfl
 | p::r=>by
  rw[Sg];by_cases e:p.1=k
  ·simp only[Dn e,Th e,Bool.true_or,Sq]
  ·rw[Dp e,Ti e,Bool.false_or];exact Ew k r
theorem Xbc(k j)(y):∀kvs:List (κ × V),Ay (kvs.map λkv=>if kv.1=k then (kv.1,y) else kv) j=(Ay kvs j).map λx=>if j=k then y else x
 | []=>rfl
 | p::r=>by
  have ih:=Xbc k j y r;rw[Pb];by_cases h:p.1=k
  ·rw[Tg h];by_cases e:p.1=j
   ·rw[Dn (p:=(p.1,y)) e,Dn e,Qy,Tg (e.symm.trans h)]
   ·rw[Dp (p:=(p.1,y)) e,Dp e,ih]
  ·rw[Tf h];by_cases e:p.1=j
   ·rw[Dn (p:=p) e,Dn e,Qy,Tf (λz=>h (e.trans z))]
   ·rw[Dp (p:=p) e,Dp e,ih]
theorem Xbd(k j)(y):∀kvs:List (κ × V),Ay kvs k=none->Ay (kvs++[(k,y)]) j=if j=k then some y else Ay kvs j
 | [],_=>by
  by_cases e:k=j
  ·rw[Tg e.symm];exact Dn (p:=(k,y)) e
  ·rw[Tf (λz=>e z.symm)];exact Dp (p:=(k,y)) e
 | p::r,hn=>by
  rw[List.cons_append];have hk:¬p.1=k:=λz=>by rw[Dn z] at hn;cases hn
  rw[Dp hk] at hn;have ih:=Xbd k j y r hn;by_cases e:p.1=j
  ·rw[Dn e,Dn e,Tf (λz=>hk (e.trans z))]
  ·rw[Dp e,Dp e,ih]
def He(kvs)(k j : κ)(y):Ay (Bf kvs k y) j=if j=k then some y else Ay kvs j:=by
 unfold Bf;by_cases a:(kvs.any λkv=>decide (kv.1=k))=true
 ·rw[Tg a,Xbc];rw[Ew] at a;by_cases e:j=k
  ·obtain⟨x,hx⟩:=Qs.mp a;rw[Tg e,e,hx,Qy,Tg rfl]
  ·rw[Tf e];cases Ay kvs j with
   | none=>rfl
   | some x=>rw[Qy,Tf e]
 ·rw[Tf a];refine Xbd k j y kvs ?_;rw[Ew] at a;cases q:Ay kvs k with
  | none=>rfl
  | some x=>rw[q] at a;exact(a rfl).elim
def Hf(kvs)(k : κ)(v):(Bf kvs k v).length<=kvs.length+1:=by
 unfold Bf;split
 ·rw[Oh];omega
 ·rw[Oo,Pe,Qn];omega
def Hg{kvs}{k : κ}(v)(h:Ay kvs k=none):Bf kvs k v=kvs++[(k,v)]:=by
 unfold Bf;rw[Ew,h];exact Tf (by decide)
def Cz.isSome_eq{o}{u}(r:Cz o u):o.isSome=u.isSome:=by
 cases o with
 | none=>cases u with
  | none=>rfl
  | some _=>exact(show False from r).elim
 | some _=>cases u with
  | none=>exact(show False from r).elim
  | some _=>rfl
def Cz.getD{o}{u}{d}{d'}(r:Cz o u)(rd:Ai d d'):Ai (o.getD d) (u.getD d'):=by
 cases o with
 | none=>cases u with
  | none=>exact rd
  | some _=>exact(show False from r).elim
 | some _=>cases u with
  | none=>exact(show False from r).elim
  | some _=>exact r
def KV.val{kvs}{vs}(r:KV kvs vs)(k : κ):Cz (Ay kvs k) (valueAt vs k):=by
 unfold KV at r
 induction r with
 | nil=>exact True.intro
 | @cons p q ps qs h t ih=>
  obtain⟨h1,h2⟩:=h;by_cases e:p.1=k
  ·have e':q.1=k:=h1.symm.trans e;have b:valueAt (q::qs) k=some q.2:=by simp[valueAt,Rp,e']
   rw[Dn e,b];exact h2
  ·have e':¬q.1=k:=λz=>e (h1.trans z);have b:valueAt (q::qs) k=valueAt qs k:=by simp[valueAt,Rp,e']
   rw[Dp e,b];exact ih
def KV.any{kvs}{vs}(r:KV kvs vs)(k : κ):(kvs.any λkv=>decide (kv.1=k))=vs.any λkv=>decide (kv.1=k):=by
 unfold KV at r
 induction r with
 | nil=>rfl
 | cons h t ih=>rw[Sg,Sg,ih,h.1]
def KV.repl{kvs}{vs}(r:KV kvs vs)(k : κ){y}{u}(ry:Ai y u):
  KV (kvs.map λkv=>if kv.1=k then (kv.1,y) else kv) (vs.map λkv=>if kv.1=k then (kv.1,u) else kv):=by
 unfold KV at r ⊢
 induction r with
 | nil=>exact .nil
 | @cons p q ps qs h t ih=>
  rw[Pb,Pb];refine .cons ?_ ih;obtain⟨h1,h2⟩:=h;by_cases e:p.1=k
  ·rw[Tg e,Tg (h1.symm.trans e)];exact⟨h1,ry⟩
  ·rw[Tf e,Tf (λz=>e (h1.trans z))];exact⟨h1,h2⟩
def KV.put{kvs}{vs}(r:KV kvs vs)(k : κ){y}{u}(ry:Ai y u):KV (Bf kvs k y) (stored vs k u):=by
 unfold Bf stored;rw[r.any k];by_cases e:(vs.any λkv=>decide (kv.1=k))=true
 ·rw[Tg e,Tg e];exact r.repl k ry
 ·rw[Tf e,Tf e];exact Paired.snoc r ⟨rfl,ry⟩
def KV.keys{kvs:List (κ × V)}{vs}(r:KV kvs vs):kvs.map (·.1)=vs.map (·.1):=by
 unfold KV at r
 induction r with
 | nil=>rfl
 | cons h t ih=>rw[Pb,Pb,ih,h.1]
def KV.length{kvs:List (κ × V)}{vs}(r:KV kvs vs):kvs.length=vs.length:=Paired.length r
end
def Fh{P}{w}{k}{u}(r:Ai (kV k) u):(Be P w).is k u=true:=by
 cases k with
 | inl i=>obtain⟨t,e⟩:=(show ∃t,u=Value.int i t from r);subst e;exact Xf8 P w i t
 | inr x=>obtain⟨t,e⟩:=(show ∃t,u=Value.str x t from r);subst e;exact Xf9 P w x t
theorem Xbe{P}{w}:∀{ks:List Key} {us:List Value},Vals (ks.map kV) us->ItemsAre (Be P w) ks us
 | [],_,r=>by rw[S8] at r;cases r;exact .nil
 | k::ks,_,r=>by
  rw[Pb] at r;cases r with
  | cons h t=>exact .cons (Fh h) (Xbe t)
abbrev KT (H:Hp):List (List Key×V)->List (List Key×Addr×Value)->Prop:=Paired λp q=>p.1=q.1/\H q.2.1=some (.tup (p.1.map kV))/\Ai p.2 q.2.2
def KT.val{H}{kvs}{xs}(r:KT H kvs xs)(k):Cz (Ay kvs k) ((atKey xs k).map (·.2)):=by
 induction r with
 | nil=>exact True.intro
 | @cons p q ps qs h t ih=>
  obtain⟨h1,_,h2⟩:=h;by_cases e:p.1=k
  ·have e':q.1=k:=h1.symm.trans e;have b:atKey (q::qs) k=some q.2:=by simp[atKey,Rp,e']
   rw[Dn e,b];exact h2
  ·have e':¬q.1=k:=λz=>e (h1.trans z);have b:atKey (q::qs) k=atKey qs k:=by simp[atKey,Rp,e']
   rw[Dp e,b];exact ih
def KT.repl{H}{kvs}{xs}(r:KT H kvs xs)(k){y}{u}(ry:Ai y u):
  KT H (kvs.map λkv=>if kv.1=k then (kv.1,y) else kv) (xs.map (putAt k u)):=by
 induction r with
 | nil=>exact .nil
 | @cons p q ps qs h t ih=>
  rw[Pb,Pb];refine .cons ?_ ih;obtain⟨h1,h2,h3⟩:=h;unfold putAt;by_cases e:p.1=k
  ·rw[Tg e,Tg (h1.symm.trans e)];exact⟨h1,h2,ry⟩
  ·rw[Tf e,Tf (λz=>e (h1.trans z))];exact⟨h1,h2,h3⟩
def KT.put{H}{kvs}{xs}(r:KT H kvs xs)(k){b}{y}{u}(hb:H b=some (.tup (k.map kV)))(ry:Ai y u):
  KT H (Bf kvs k y) (storedH xs k b u):=by
 have e:(kvs.any λkv=>decide (kv.1=k))=(atKey xs k).isSome:=by
  rw[Ew,(r.val k).isSome_eq,Option.isSome_map]
 unfold Bf storedH;rw[e];by_cases q:(atKey xs k).isSome=true
 ·rw[Tg q,Tg q];exact r.repl k ry
 ·rw[Tf q,Tf q];exact Paired.snoc r ⟨rfl,hb,ry⟩
def KT.keeps{H H'}{kvs}{xs}(r:KT H kvs xs)(ht:∀b ys,H b=some (.tup ys)->H' b=some (.tup ys)):KT H' kvs xs:=
 Paired.mapP r λ_ _ z=>⟨z.1,ht _ _ z.2.1,z.2.2⟩
section
variable {P:Program}{w:World}{H:Hp}{h:Heap}{a:Addr}
def Xbf{u}(ok:HOk P w H h)(e:Rd H a u):A4 P w H h a u:=e.ok ok
def Fi{kvs}(ok:HOk P w H h)(e:Rd H a (.dK kvs)):kvs.length<=sizeLine/\(a==sysModules)=false/\∃vs,KV kvs vs/\h.DictOf (Be P w) a vs:=
 show A4 P w H h a (.dK kvs) from Xbf ok e
def Lw{kvs}(ok:HOk P w H h)(e:H a=some (.dK kvs)):kvs.length<=sizeLine/\(a==sysModules)=false/\∃vs,KV kvs vs/\h.DictOf (Be P w) a vs:=Fi ok (.inl e)
def Hh{ks}(ok:HOk P w H h)(e:H a=some (.tup (ks.map kV))):(tupleKind (Be P w)).is h ks a:=by
 obtain⟨_,its,r,o,h1,h2,n,h3⟩:=(show A4 P w H h a (.tup (ks.map kV)) from ok a _ e);exact⟨o,its.toArray,n,h1,h2,h3,by simpa using Xbe r⟩
def F4{kvs}(ok:HOk P w H h)(e:Rd H a (.dT kvs)):kvs.length<=sizeLine/\(a==sysModules)=false /\
  ∃xs,KT H kvs xs/\h.DictOfH (tupleKind (Be P w)) a xs:=by
 obtain⟨z,y,xs,r,o,es,ep,h1,h2,h3,h4,h5⟩:=(show A4 P w H h a (.dT kvs) from Xbf ok e);refine⟨z,y,xs,r,o,es,ep,h1,h2,h3,h4,λx hx=>?_,h5⟩;have all:∀{l:List (List Key×V)} {m:List (List Key×Addr×Value)},KT H l m->∀x∈m,(tupleKind (Be P w)).is h x.1 x.2.1:=by
  intro l m q
  induction q with
  | nil=>intro x hx;exact nomatch hx
  | @cons p q ps qs hq t ih=>
   intro x hx;rcases O2.mp hx with e | hx
   ·subst e;exact Hh ok (by rw[<-hq.1];exact hq.2.1)
   ·exact ih x hx
 exact all r x hx
def Xhm{kvs}(ok:HOk P w H h)(e:H a=some (.dT kvs)):kvs.length<=sizeLine/\(a==sysModules)=false /\
  ∃xs,KT H kvs xs/\h.DictOfH (tupleKind (Be P w)) a xs:=F4 ok (.inl e)
end
def DGet (H:Hp) (a:Addr) (y:V) (r:Option V):Prop:=
 (∃kvs k,Rd H a (.dK kvs)/\y=kV k/\r=Ay kvs k) \/ ∃kvs k b,Rd H a (.dT kvs)/\y = .ref b/\H b=some (.tup (k.map kV))/\r=Ay kvs k
def DPut (H:Hp) (a:Addr) (y v:V) (H':Hp):Prop:=
 (∃kvs k,H a=some (.dK kvs)/\y=kV k/\kvs.length<sizeLine/\H'=upd H a (.dK (Bf kvs k v))) \/
 ∃kvs k b,H a=some (.dT kvs)/\y = .ref b/\H b=some (.tup (k.map kV))/\kvs.length<sizeLine/\H'=upd H a (.dT (Bf kvs k v))
def DGet.k{H}{a}{kvs}{k}(e:H a=some (.dK kvs)):DGet H a (kV k) (Ay kvs k):=.inl ⟨kvs,k,.inl e,rfl,rfl⟩
def DPut.k{H}{a}{kvs}{k}{v}(e:H a=some (.dK kvs))(hl:kvs.length<sizeLine):DPut H a (kV k) v (upd H a (.dK (Bf kvs k v))):=.inl ⟨kvs,k,e,rfl,hl,rfl⟩
section
variable {X:Cx}{pins:List (Addr×Obj)}{Z:St}{H:Hp}{s:Shared}{a:Addr}{y v:V}{u r:Value}{o:Option V}{A:Around}{E:Zc}
def Inv.big(I:Inv X pins Z H s):sysModules<s.heap.objs.size:=by
 have h:mainGlobals<s.heap.objs.size:=(I.mod.glob.keeps I.bk).lt;exact Qv (by decide) h
def d_getItem{Q}(hu:A.units+1<cLine)(I:Inv X pins Z H s)(g:DGet H a y (some v))(ry:Ai y u)(h:∀w' s',Inv X pins Z H s'->Ai v w'->Q w' s'):
  wpAny (model X.prog X.w) A (getItem (.ref a) u) Q E s:=by
 rcases g with ⟨kvs,k,e,ey,l⟩ | ⟨kvs,k,b,e,ey,eb,l⟩
 ·subst ey;obtain⟨z,hd,vs,rel,dd⟩:=Fi I.hok e;obtain⟨w',hw,rw'⟩:=Cz.some_of (v:=v) (o:=valueAt vs k) (by rw[l];exact rel.val k);exact wpAny_getItem_of (Fh ry) dd.mapOf hw (h w' _ (I.tok _) rw')
 ·subst ey;cases (show u=Value.ref b from ry);obtain⟨z,hd,xs,rel,dd⟩:=F4 I.hok e;obtain⟨w',hw,rw'⟩:=Cz.some_of (v:=v) (o:=(atKey xs k).map (·.2)) (by rw[l];exact rel.val k);obtain⟨p,hp,hp2⟩:=R6.mp hw;refine wpAny_getItem_heap (tupleKind_room_in1 hu) (Hh I.hok eb) dd hp ?_;rw[hp2];exact h w' _ (I.tok _) rw'
def Xhn{Q}(hu:A.units+1<cLine)(I:Inv X pins Z H s)(g:DGet H a y o)(ry:Ai y u)(h:∀s',Inv X pins Z H s'->Q (.bool (!o.isSome)) s'):
  wpAny (model X.prog X.w) A (compareOp .NotIn u (.ref a)) Q E s:=by
 rcases g with ⟨kvs,k,e,ey,l⟩ | ⟨kvs,k,b,e,ey,eb,l⟩
 ·subst ey;obtain⟨z,hd,vs,rel,dd⟩:=Fi I.hok e;refine wpAny_notIn_of (Fh ry) hd dd.mapOf ?_;rw[<-(rel.val k).isSome_eq,<-l];exact h _ (I.tok _)
 ·subst ey;cases (show u=Value.ref b from ry);obtain⟨z,hd,xs,rel,dd⟩:=F4 I.hok e;refine wpAny_notIn_heap (tupleKind_room_in1 hu) (Hh I.hok eb) hd dd ?_;have q:=(rel.val k).isSome_eq;rw[Option.isSome_map] at q;rw[<-q,<-l];exact h _ (I.tok _)
def Hi{h'}{t'}{ob}(I:Inv X pins Z H s)(mu:Mut (H a))(hs:Heap.SameBut a s.heap h')(he:∃q,h'.get? a=some q)(new:A4 X.prog X.w (upd H a ob) h' a ob):
  Inv X pins Z (upd H a ob) {s with heap:=h',toks:=t'}:=
 I.write (x:=a) (e:=a) mu (.inl rfl) (λb q hb z=>(hs.2 b hb).trans z) he new
def Lx{P}{w}{H'}{h'}{kvs}{vs}(z:kvs.length<=sizeLine)(hd:(a==sysModules)=false)(rel:KV kvs vs)(dd:h'.DictOf (Be P w) a vs):
  A4 P w H' h' a (.dK kvs):=⟨z,hd,vs,rel,dd⟩
def Xho{H'}{Q}(hu:A.units+1<cLine)(I:Inv X pins Z H s)(g:DPut H a y v H')(ry:Ai y u)(rv:Ai v r)(h:∀s',Inv X pins Z H' s'->Q () s'):
  wpAny (model X.prog X.w) A (setItem (.ref a) u r) Q E s:=by
 rcases g with ⟨kvs,k,e,ey,l,eH⟩ | ⟨kvs,k,b,e,ey,eb,l,eH⟩
 ·subst ey eH;obtain⟨z,hd,vs,rel,dd⟩:=Lw I.hok e;have hz:vs.length<=sizeLine:=by rw[<-rel.length];exact z
  have hl:(Bf kvs k v).length<=sizeLine:=by have:=Hf kvs k v;omega
  refine wpAny_setItem_pairs (hsz:=hz) (Fh ry) dd λh' dd' hs=>h _ ?_;have he:∃q,h'.get? a=some q:=let ⟨q,_,_,hq,_⟩:=dd'; ⟨q,hq⟩;exact Hi I (by rw[e];exact True.intro) hs he (Lx hl hd (rel.put k rv) dd')
 ·subst ey eH;cases (show u=Value.ref b from ry);obtain⟨z,hd,xs,rel,dd⟩:=Xhm I.hok e;have hz:xs.length<=sizeLine:=by rw[<-Paired.length rel];exact z
  have hl:(Bf kvs k v).length<=sizeLine:=by have:=Hf kvs k v;omega
  refine wpAny_setItem_heap (hsz:=hz) (tupleKind_room_in1 hu) (Hh I.hok eb) dd λh' dd' hs=>h _ ?_;obtain⟨q,es,ep,hq,h2,h3,h4,_,h5⟩:=dd';refine Hi I (by rw[e];exact True.intro) hs ⟨q,hq⟩ ⟨hl,hd,_,(rel.put k eb rv).keeps λc ys ec=>?_,q,es,ep,hq,h2,h3,h4,h5⟩;rw[Ad (Xaa ec e (λz=>nomatch z))];exact ec
end
section
variable {X:Cx}{pins:List (Addr×Obj)}{Z:St}{H:Hp}{s:Shared}{a:Addr}{kvs:List (Key×V)}{k:Key}{u:Value}{A:Around}{E:Zc}
end
def Xbg (i:Expr):Prop:=∀ov iv,subscripted i false ov iv=operate [ov,iv] (getItem ov iv)
def Xhp{prog}{w}{A}{E}{s}{env}{value slice}{pos}{T id}{Q}
  (hl:typeLookup (.type T) "__getitem__" = pure (some (.builtin id))) (hs:Xbg slice)
  (h:wpAny (model prog w) A (eval value env) (λo s₁=>wpAny (model prog w) A (eval slice env) (λi s₂=>s₂.TypeIs o T/\wpAny (model prog w) A (getItem o i) Q E s₂) E s₁) E s):
  wpAny (model prog w) A (eval (.Subscript value slice pos) env) Q E s:=by
 refine Subscript_ (wpAny_mono h (λo s₁ h₁=>wpAny_mono h₁ (λi s₂ h₂=>?_) λ_ _ x=>x) λ_ _ x=>x);obtain⟨hT,h₂⟩:=h₂;unfold subscriptTail;refine Ta ?_;rw[getitemInPython_of_ne hT.not_modules];refine Ta (wpAny_specialOf hT hl ?_);have fin:wpAny (model prog w) A (subscripted slice false o i) (λr s₃=>wpAny (model prog w) A (letTemporaryGo value o r >>= λ_=>pure r) Q E s₃) E s₂:=by
  rw[hs o i];exact wpAny_operating (wpAny_mono h₂ (λr s₃ h₃=>Ta (wpAny_letTemporaryGo (Tb h₃))) λ_ _ x=>x)
 first
  | exact Tb (Ta fin)
  | exact Ta (Tb (Ta fin))
  | exact Ta fin
def Xhq{X}{pins}{Z:St}{H}{s}{a}{y}{o}(I:Inv X pins Z H s)(g:DGet H a y o):s.TypeIs (.ref a) "dict" := by
 rcases g with ⟨kvs,k,e,_,_⟩ | ⟨kvs,k,b,e,_,_,_⟩
 ·obtain⟨_,_,vs,_,dd⟩:=Fi I.hok e;exact dd.typeIs
 ·obtain⟨_,_,xs,_,dd⟩:=F4 I.hok e;exact dd.typeIs
def Xhr (td ty:TE):TE:=fun Z H Q=>td Z H λx H1=>ty Z H1 λy H2=>∃a v,x = .ref a/\DGet H2 a y (some v)/\Q v H2
def tDIn (ty td:TE):TE:=fun Z H Q=>ty Z H λy H1=>td Z H1 λx H2=>∃a o,x = .ref a/\DGet H2 a y o/\Q (.bl o.isSome) H2
def Xhs (ty td:TE):TE:=fun Z H Q=>ty Z H λy H1=>td Z H1 λx H2=>∃a o,x = .ref a/\DGet H2 a y o/\Q (.bl (!o.isSome)) H2
def Xht (td ty tv:TE):TS:=λD Z H=>tv Z H λv H1=>td Z H1 λx H2=>ty Z H2 λy H3=>∃a H4,x = .ref a/\DPut H3 a y v H4/\D.nx Z H4
def sDAug (td ty tv:TE) (rd:V->V->Hp->VK->Prop):TS:=λD Z H=>td Z H λx H1=>ty Z H1 λy H2=>∃a v,x = .ref a/\DGet H2 a y (some v) /\
 tv Z H2 λy2 H3=>rd v y2 H3 λz H4=>∃H5,DPut H4 a y z H5/\D.nx Z H5
def sDDel (td ty:TE):TS:=λD Z H=>td Z H λx H1=>ty Z H1 λy H2=>∃a kvs k,x = .ref a/\H2 a=some (.dK kvs)/\y=kV k/\(Ay kvs k).isSome=true/\D.nx Z (upd H2 a (.dK (Xbb kvs k)))
section
variable {X:Cx}{o i e value:Expr}{pos pos' tpos:Pos}{td ty tv:TE}
def Cf(hu:X.A.units+1<cLine)(ho:PE X o td)(hi:PE X i ty)(hs:Xbg i):PE X (.Subscript o i pos) (Xhr td ty):=by
 intro pins s Z H Q I h;refine Xhp PySem.F.slot_dict_getitem.lookup hs (thn (ho pins s Z H _ I h) λu s1 ⟨x,H1,I1,rx,q1⟩=>thn (hi pins s1 Z H1 _ I1 q1) λiv s2 ⟨y,H2,I2,ry,a,v,ex,g,q2⟩=>?_);subst ex;obtain rfl:u=Value.ref a:=rx;exact⟨Xhq I2 g,d_getItem hu I2 g ry λw' s3 I3 rw'=>⟨v,H2,I3,rw',q2⟩⟩
def Xhu(hu:X.A.units+1<cLine)(hi:PE X i ty)(ho:PE X o td):PC X .NotIn i o (Xhs ty td):=by
 intro pins s Z H Q I h;refine thn (hi pins s Z H _ I h) λiv s1 ⟨y,H1,I1,ry,q1⟩=>thn (ho pins s1 Z H1 _ I1 q1) λu s2 ⟨x,H2,I2,rx,a,ov,ex,g,q2⟩=>?_;subst ex;obtain rfl:u=Value.ref a:=rx;exact Xhn hu I2 g ry λs3 I3=>⟨.bl (!ov.isSome),H2,I3,rfl,q2⟩
def Xhv(hu:X.A.units+1<cLine)(ho:PE X o td)(hi:PE X i ty)(hv:PE X value tv)(hs:swapsWith value (some (.Subscript o i pos')) pos.line X.env=pure false):
  PS X (.Assign [.Subscript o i pos'] value pos) (Xht td ty tv):=by
 intro pins s Z H D I h;refine wpAny_Assign_Subscript (thn (hv pins s Z H _ I h) λr s1 ⟨v,H1,I1,rv,q1⟩=>thn (ho pins s1 Z H1 _ I1 q1) λu s2 ⟨x,H2,I2,rx,q2⟩=>thn (hi pins s2 Z H2 _ I2 q2) λiv s3 ⟨y,H3,I3,ry,a,H4,ex,g,q3⟩=>?_) hs;subst ex;obtain rfl:u=Value.ref a:=rx;exact Xho hu I3 g ry rv λs4 I4=>⟨Z,H4,I4,q3⟩
end
def Ly{P}{w}{H}(h:Heap)(hb:sysModules<h.objs.size):A4 P w H (h.push {cls:=.type "dict",data:=.dict #[]}) h.objs.size (.dK []):=
 ⟨Pm _,beq_eq_false_iff_ne.mpr (Ne.symm (Ow hb)),[],.nil,Heap.DictOf.new h⟩
def Xhw:TE:=λ_ H Q=>∀p,H p=none->Q (.ref p) (upd H p (.dK []))
section
variable {X:Cx}{pos:Pos}
def Xhx:PE X (.Dict [] [] pos) Xhw:=λpins s Z H Q I h=>
 wpAny_Dict_empty ⟨.ref s.heap.objs.size,_,I.laid (a:=s.heap.objs.size) (o:=.dK []) (t':=s.toks) (λ_ _ q=>Tm _ q) (Oj _) (Ly s.heap I.big),rfl,h _ (I.hok.fresh (Oj _))⟩
end
def Lz:List (TE×TE)->St->Hp->(List (V×V)->Hp->Prop)->Prop
 | [],_,H,Q=>Q [] H
 | (tk,tv)::r, Z,H,Q=>tk Z H λx H1=>tv Z H1 λy H2=>Lz r Z H2 λps H3=>Q ((x,y)::ps) H3
abbrev VV:List (V×V)->List (Value×Value)->Prop:=Paired λp q=>Ai p.1 q.1/\Ai p.2 q.2
def PPs (X:Cx) (pos:Pos) (keys:List (Option Expr)) (values:List Expr) (trs:List (TE×TE)):Prop:=
 ∀pins s Z H (Q:List (V×V)->Hp->Prop),Inv X pins Z H s->Lz trs Z H Q ->
  wpAny (model X.prog X.w) X.A (evalPairs (pairTrees keys values X.env pos)) (λvs s'=>∃ps H',Inv X pins Z H' s'/\VV ps vs/\Q ps H') X.xe s
def Xhy{X}{pos}:PPs X pos [] [] []:=λpins s Z H Q I h=>pairTrees_nil_walk ⟨[],H,I,.nil,h⟩
def Xbh{X}{pos}{k v}{ks}{vs}{tk tv}{trs}(hk:PE X k tk)(hv:PE X v tv)(hr:PPs X pos ks vs trs):
  PPs X pos (some k::ks) (v::vs) ((tk,tv)::trs):=λpins s Z H Q I h=>
 pairTrees_cons_walk (thn (hk pins s Z H _ I h) λu s1 ⟨x,H1,I1,rx,q1⟩=>thn (hv pins s1 Z H1 _ I1 q1) λw2 s2 ⟨y,H2,I2,ry,q2⟩=>
  thn (hr pins s2 Z H2 _ I2 q2) λws s3 ⟨ps,H3,I3,rel,q3⟩=>⟨(x,y)::ps,H3,I3,.cons ⟨rx,ry⟩ rel,q3⟩)
def mergeK (kvs more:List (Key×V)):List (Key×V):=more.foldl (λacc kv=>Bf acc kv.1 kv.2) kvs
def KV.merge:∀{more:List (Key×V)} {rs:List (Key×Value)} {kvs:List (Key×V)} {vs:List (Key×Value)},KV more rs->KV kvs vs->KV (mergeK kvs more) (merged vs rs):=by
 intro more rs kvs vs r;unfold KV at r
 induction r generalizing kvs vs with
 | nil=>intro q;exact q
 | @cons p q ps qs h t ih=>
  intro r0;have e:KV (Bf kvs p.1 p.2) (stored vs q.1 q.2):=by
   have:=r0.put p.1 h.2;rw[<-h.1];exact this
  exact ih e
theorem Xbi:∀more kvs,(mergeK kvs more).length<=kvs.length+more.length
 | [],kvs=>by show kvs.length<=kvs.length+0;omega
 | p::r,kvs=>by
  have h1:=Xbi r (Bf kvs p.1 p.2);have h2:=Hf kvs p.1 p.2;show (mergeK (Bf kvs p.1 p.2) r).length<=_;rw[Pe];omega
theorem Xbj{P}{w}:∀{kvs:List (Key×V)} {ws:List (Value×Value)},VV (kvs.map λkv=>(kV kv.1,kv.2)) ws->∃rs,Carries (Be P w) ws rs/\KV kvs rs
 | [],_,r=>by rw[S8] at r;cases r;exact⟨[],True.intro,.nil⟩
 | p::kvs,_,r=>by
  rw[Pb] at r;cases r with
  | @cons a b as bs h t=>
   obtain⟨rs,c,q⟩:=Xbj (P:=P) (w:=w) t;obtain⟨b1,b2⟩:=b;exact⟨(p.1,b2)::rs,⟨Fh h.1,rfl,c⟩,.cons ⟨rfl,h.2⟩ q⟩
def Xhz (trs:List (TE×TE)):TE:=fun Z H Q=>∀p,H p=none->Lz trs Z (upd H p (.dK [])) λps H2=>H2 p=some (.dK [])/\∃kvs:List (Key×V),ps=kvs.map (λkv=>(kV kv.1,kv.2))/\kvs.length<=15/\Q (.ref p) (upd H2 p (.dK (mergeK [] kvs)))
def Xh0{X}{pos}{keys}{values}{trs}(h:PPs X pos keys values trs)(hall:keys.all (·.isSome)=true)(hl:keys.length=values.length)(h0:keys≠[])
  (h15:keys.length<=15):PE X (.Dict keys values pos) (Xhz trs):=by
 intro pins s Z H Q I q;have hn:=I.hok.fresh (Oj s.heap.objs.size);have I1:=I.laid (a:=s.heap.objs.size) (o:=.dK []) (h':=s.heap.push {cls:=.type "dict",data:=.dict #[]}) (t':=s.toks) (λ_ _ q=>Tm _ q) (Oj _) (Ly s.heap I.big);refine wpAny_Dict_walk (knd:=Be X.prog X.w) hall hl h0 h15 (thn (h pins _ Z _ _ I1 (q _ hn)) λws s2 ⟨ps,H2,I2,rel,e,kvs,ep,lk,q2⟩=>?_);subst ep;obtain⟨rs,c,rk⟩:=Xbj (P:=X.prog) (w:=X.w) rel;obtain⟨z,hd,vs0,r0,dd⟩:=Lw I2.hok e;cases r0;refine⟨rs,c,dd,λh' dd' hs=>⟨.ref s.heap.objs.size,_,?_,rfl,q2⟩⟩;have hz:(mergeK [] kvs).length<=sizeLine:=by
  have h1:=Xbi kvs [];rw[Qn] at h1;rw[Te];omega
 have he:∃q,h'.get? s.heap.objs.size=some q:=let ⟨q,_,_,hq,_⟩:=dd'; ⟨q,hq⟩;exact Hi I2 (by rw[e];exact True.intro) hs he (Lx hz hd (rk.merge .nil) dd')
structure M1 (X:Cx) (o:Expr) (m:Str) (apos:Pos) (e:Expr) (cpos:Pos):Prop where
 base:attributeBase o m X.env (eval o X.env)=eval o X.env
 few:((backTo cpos (starEach [e] X.env)).all (λx => !x.1)&&(backToKw cpos (keywordEach [] X.env)).all (λx=>x.1.isSome)
  && decide (([e]:List Expr).length+([]:List Keyword).length+(if ([]:List Keyword).isEmpty then 0 else 1)<30))=true
 line:(apos.endLine==cpos.line)=true
 trees:backTo cpos (starEach [e] X.env)=[(false,eval e X.env)]
structure M2 (X:Cx) (o:Expr) (m:Str) (apos:Pos) (e f:Expr) (cpos:Pos):Prop where
 base:attributeBase o m X.env (eval o X.env)=eval o X.env
 few:((backTo cpos (starEach [e,f] X.env)).all (λx => !x.1)&&(backToKw cpos (keywordEach [] X.env)).all (λx=>x.1.isSome)
  && decide (([e,f]:List Expr).length+([]:List Keyword).length+(if ([]:List Keyword).isEmpty then 0 else 1)<30))=true
 line:(apos.endLine==cpos.line)=true
 trees:backTo cpos (starEach [e,f] X.env)=[(false,eval e X.env),(false,eval f X.env)]
def IsD (H:Hp) (a:Addr):Prop:=(∃kvs,Rd H a (.dK kvs)) \/ ∃kvs,Rd H a (.dT kvs)
def Xh1{X}{pins}{Z:St}{H}{s}{a}(I:Inv X pins Z H s)(d:IsD H a):
  s.TypeIs (.ref a) "dict" /\ (∀b,Value.ref a = .ref b->∃ob,s.heap.get? b=some ob/\ob.dict=none)/\(a==sysModules)=false:=by
 rcases d with ⟨kvs,e⟩ | ⟨kvs,e⟩
 ·obtain⟨_,hd,vs,_,dd⟩:=Fi I.hok e;refine⟨dd.typeIs,λb q=>?_,hd⟩;cases q;obtain⟨ob,_,_,h1,h2,_⟩:=dd;exact⟨ob,h1,h2.2.1⟩
 ·obtain⟨_,hd,xs,_,dd⟩:=F4 I.hok e;refine⟨dd.typeIs,λb q=>?_,hd⟩;cases q;obtain⟨ob,_,_,h1,h2,_⟩:=dd;exact⟨ob,h1,h2.2.1⟩
section
variable {X:Cx}{pins:List (Addr×Obj)}{Z:St}{H:Hp}{s:Shared}{a:Addr}{y d:V}{u r:Value}{o:Option V}{A:Around}{E:Zc}
def Xh2{Q}(hu:A.units+1<cLine)(I:Inv X pins Z H s)(g:DGet H a y o)(ry:Ai y u)(rd:Ai d r)(h:∀w' s',Inv X pins Z H s'->Ai (o.getD d) w'->Q w' s'):
  wpAny (model X.prog X.w) A (call (.builtin "dict.get") [.ref a,u,r]) Q E s:=by
 rcases g with ⟨kvs,k,e,ey,l⟩ | ⟨kvs,k,b,e,ey,eb,l⟩
 ·subst ey;obtain⟨z,hd,vs,rel,dd⟩:=Fi I.hok e;refine call_meetsIn PySem.F.slot_dict_get dd.typeIs PySem.F.entry_dict_get (PySem.F.args_dict_get_3 _ _ _) (meets_dict_get_default (Be X.prog X.w) a (Fh ry) hd r) ⟨_,dd.mapOf,h _ _ (I.tok _) ?_⟩;rw[l];exact(rel.val k).getD rd
 ·subst ey;cases (show u=Value.ref b from ry);obtain⟨z,hd,xs,rel,dd⟩:=F4 I.hok e;refine call_meetsIn PySem.F.slot_dict_get dd.typeIs PySem.F.entry_dict_get (PySem.F.args_dict_get_3 _ _ _) (meetsH_dict_get_default (tupleKind (Be X.prog X.w)) a b hd r) ⟨tupleKind_room_in1 hu,k,xs,Hh I.hok eb,dd,h _ _ (I.tok _) ?_⟩;rw[l];exact(rel.val k).getD rd
end
def Xh3 (td ty tx:TE):TE:=fun Z H Q=>td Z H λx H1=>∃a,x = .ref a/\IsD H1 a/\ty Z H1 λy H2=>tx Z H2 λz H3=>∃o,DGet H3 a y o/\Q (o.getD z) H3
def Xqp (td ty:TE):TE:=fun Z H Q=>td Z H λx H1=>∃a,x = .ref a/\IsD H1 a/\ty Z H1 λy H2=>∃kvs k v,H2 a=some (.dK kvs)/\y=kV k/\Ay kvs k=some v/\Q v (upd H2 a (.dK (Xbb kvs k)))
section
variable {X:Cx}{o e f:Expr}{apos cpos:Pos}{td ty tx:TE}
def Xh4(hu:X.A.units+1<cLine)(ho:PE X o td)(he:PE X e ty)(hf:PE X f tx)(m:M2 X o "get" apos e f cpos):PE X (.Call (.Attribute o "get" apos) [e,f] [] cpos) (Xh3 td ty tx):=by
 intro pins s Z H Q I h;refine wpAny_Call_method m.base m.few m.line PySem.F.plainAttrs_dict PySem.F.slot_dict_get PySem.F.type_dict_get (thn (ho pins s Z H _ I h) λu s1 ⟨x,H1,I1,rx,a,ex,d,q1⟩=>?_);subst ex;obtain rfl:u=Value.ref a:=rx;obtain⟨t1,t2,_⟩:=Xh1 I1 d;refine⟨t1,t2,?_⟩;rw[m.trees];refine Calls.callWith_builtin rfl (Calls.evalArgs_plain (Calls.spliced_cons (thn (he pins s1 Z H1 _ I1 q1) λiv s2 ⟨y,H2,I2,ry,q2⟩=>
  Calls.spliced_cons (thn (hf pins s2 Z H2 _ I2 q2) λfv s3 ⟨z,H3,I3,rz,ov,g,q3⟩=>Calls.spliced_nil ?_))))
 exact Xh2 hu I3 g ry rz λw' s4 I4 rw'=>⟨_,H3,I4,rw',q3⟩
end
section
variable {X:Cx}{pins:List (Addr×Obj)}{Z:St}{H:Hp}{s:Shared}{a:Addr}{kvs:List (Key×V)}{A:Around}{E:Zc}
end
section
variable {X:Cx}{pins:List (Addr×Obj)}{Z:St}{H:Hp}{s:Shared}{a:Addr}{y:V}{u:Value}{A:Around}{E:Zc}
end
end L2
namespace Att
open PySem PySem.W PySem.Calls PyProof.Rows
def Xh5{P}{h}:∀ns vs,WellAll P h vs (ns.map WData.int)->IntsAre vs ns:=by
 intro ns
 induction ns with
 | nil=>
  intro vs w;rw[S8] at w;cases w;exact .nil
 | cons n ns ih=>
  intro vs w;rw[Pb] at w;cases w with
  | cons a b=>
   cases a;exact .cons _ _ (ih _ b)
def Xh6{l:OpenLaw}{n}(hn:l.most=some n){P}{h}{args}{vals}
  (hpre:l.row.toRowW.claim.pre args=true) (hwl:WellAll P h vals args):
  ∃a vs ns,vals=[Value.ref a]/\args=[WData.list (ns.map WData.int)]/\h.get? a=some {cls:=.type "list",data:=.seq vs.toArray}/\IntsAre vs ns/\ns.length<=n:=by
 have hsh:WShape.hasAll [] args [.list .int]=true:=(pre_splitW hpre).1;have hc:l.pre.holds [] {args:=args}=true:=(pre_splitW hpre).2;obtain⟨d,r,rfl,h1,h2⟩:=hasAllW_cons hsh;obtain rfl:=hasAllW_nil h2;obtain⟨xs,rfl,h3⟩:=hasW_list h1;obtain⟨ns,rfl⟩:=items_int h3;have hlen:ns.length<=n:=by
  unfold OpenLaw.pre at hc;have h4:(WTm.not (.lt (.lit (.int (n:Int))) (.len (.arg 0)))).holds [] {args:=[.list (ns.map .int)]}=true:=by
   have h4:=(holds_andW hc).1;rw[hn] at h4;exact h4
  have h5:=condW_of h4 (w_not (w_lt w_lit (w_len_list (w_arg rfl))));rw[Oh] at h5;refine Nat.le_of_not_lt λq=>?_;have q':(n:Int)<((ns.length:Nat):Int):=by omega
  first
   | (rw[Th q'] at h5;exact absurd h5 (by decide))
   | (simp at h5;omega)
 cases hwl with
 | cons w1 w2=>
  cases w2;cases w1 with
  | list ho hall=>exact⟨_,_,ns,rfl,rfl,ho,Xh5 ns _ hall,hlen⟩
def Xh7(l:OpenLaw)(args):l.row.toRowW.claim.post args (.bool true) args=true:=
 postW_of (r:=l.row.toRowW) (X:=(true==true))
  (show WShape.has [] (.bool true) .bool=true by first | rfl | decide | simp[WShape.has,WShape.arms,WShape.armsAll])
  (show (WTm.eq .res (.lit (.bool true))).value [] {args:=args,res:=some (.bool true),after:=args}=some (.bool (true==true)) from w_eq_bool (w_res rfl) w_lit) rfl
def attach_call{l:OpenLaw}{n}{q}{loose}{XP}{YP}{d}
  (hn:l.most=some n) (hdf:d.params.defaults=[])
  (call:∀(w:World) (s₀ s₁ : Shared) (mg mb:Str->Option Value) (fa:Addr) (o:Obj) (pm cd doc:Value) (a:Addr) (vs:List Value) (ns:List Int),
   Ground q loose [] XP w s₀ mg mb s₁.heap->YP w s₁.heap ->
   s₁.heap.get? fa=some o->o.data = .func (docDef d.name d.params d.body d.scope pm cd doc)->s₁.heap.CodeRec cd d.name->mg d.name=some (.ref fa) ->
   s₁.heap.get? a=some {cls:=.type "list",data:=.seq vs.toArray}->IntsAre vs ns->ns.length<=n->s₁.gens = #[] ->
   codeAny (model l.prog w) callerA (.call (.ref fa) ⟨[.ref a],[]⟩) (λr s'=>r = .ok (.ret (.bool true))/\OldK s₁.heap s'.heap/\s'.os=s₁.os/\AllBare s'.gens) s₁):
  WalkO q loose XP YP l.row.toRowW d [] (λf vs=>PySem.call f vs):=by
 intro w s₀ s₁ mg mb G Y fa o pm cd doc dV kV ho hd hcd hD hmg hg args vals as hpre hlay hrd hwl hlo;obtain rfl:dV = .none:=Dflts.none hD hdf;obtain rfl:kV = .none:=Dflts.noKw hD;obtain⟨a,vs,ns,rfl,rfl,hobj,hints,hlen⟩:=Xh6 hn hpre hwl;refine enter_call (codeAny_mono (call w s₀ s₁ mg mb fa o pm cd doc a vs ns G Y ho (fd_plain hd) hcd hmg hobj hints hlen hg) λr s' hq=>?_);obtain⟨rfl,h2,h3,h4⟩:=hq;exact⟨.inl ⟨.bool true,.bool true,[],rfl,λ_=>rfl,.bool true,Xh7 l _,λ_=>⟨List.Pairwise.nil,λ_ hm=>(nomatch hm)⟩⟩,h2,h3,h4⟩
section
variable {prog:Program}{w:World}{A:Around}{E:Zc}{s:Shared}{K:Frag}
def ledger (h:Heap) (L d:Addr):List (Addr×Obj):=(List.range h.objs.size).filterMap λa=>if a=L\/a=d then none else (h.get? a).map λo=>(a,o)
end
end Att
namespace L2
theorem Xbk:∀{vs:List Value} {ns:List Int},IntsAre vs ns->Vals (ns.map V.int) vs
 | _,_,.nil=>.nil
 | _,_,.cons n t h=>.cons ⟨t,rfl⟩ (Xbk h)
def Only (H:Hp):Prop:=∀b,H b=none \/ ∃o xs,H b=some (.frz o (.lst xs))
abbrev KOf {K:Za} {h:Heap} (_:K.In h):Za:=K
def Xqq (s:Stmt) (j:Nat):Stmt:=match s with
 | .ClassDef _ _ _ body _ _ _ _ _ _ _=>body.getD j (.Pass ⟨0,0,0,0⟩)
 | _=>.Pass ⟨0,0,0,0⟩
def Eh (s:Stmt):Arguments:=match s with
 | .FunctionDef _ a _ _ _ _ _ _ _ _=>a
 | _=>{posonlyargs:=[],args:=[],vararg:=none,kwonlyargs:=[],kw_defaults:=[],kwarg:=none,defaults:=[]}
def C3 (s:Stmt):List Stmt:=match s with
 | .FunctionDef _ _ b _ _ _ _ _ _ _=>b
 | _=>[]
def defScope (s:Stmt):Scope:=match s with
 | .FunctionDef _ _ _ _ _ _ sc _ _ _=>sc
 | _=>{kind:=.function,names:=[],isGenerator:=false,isCoroutine:=false}
abbrev CX0:CXT:=λ_ _ _ _ _ _=>False
abbrev E0:XK:=λ_ _ _=>False
def Aj{X}:Passes CX0 X E0:=λ_ _ _ _ _ _ _ h=>h.elim
structure Fun (K:Za) (x qual:Str) (st:Stmt) (f:Addr) (fd:FuncData):Prop where
 ex:∃(oc:Value) (od:Option Addr) (kV doc pm:Value) (an:Option Addr) (cdv ct:Value) (osl:Array (Option Value)),
  fd=fnOf x qual (Eh st) (C3 st) (defScope st) .none kV doc pm an cdv ct/\K.lookup f=some ⟨oc,od,.func fd,osl⟩/\codeIn K cdv qual=true
 kp:keepIn K (.ref f)=true
section
variable {P:Program}{w:World}{K:Za}{mg:Str->Option Value}{base:Heap}
def Fun.ok{x qual}{st}{f}{fd}{N ps}{k}{sp}(F:Fun K x qual st f fd)(S:FnScope N ps (defScope st))(len:∀vs H Q E,sp vs H Q E->vs.length=ps.length)
  (hbody:∀(cdv:Value) (A:Around) (outer:List Env) (s:Shared) (H:Hp) (vs:List V) (Q:VK) (E:XK),Room k (A.deeper (envOfC qual (defScope st) s.heap.objs.size f cdv))->sp vs H Q E ->
   ∃t,PSs (Cs CX0 P w K mg base N qual (defScope st) f cdv A outer s H E).nox (C3 st) t/\t {nx:=λ_ H'=>Q .non H',rt:=Q} (start N vs) H):FnOk P w K mg base CX0 (k+1) f fd ps sp:=by
 obtain⟨oc,od,kV,doc,pm,an,cdv,ct,osl,rfl,lk,hcd⟩:=F.ex;refine Ln lk hcd S len λA outer s H vs Q E hr hsp=>?_;obtain⟨t,h,q⟩:=hbody cdv A outer s H vs Q E hr hsp;exact⟨t,h.nox,q⟩
def Fun.binds{x qual}{st}{f}{fd}{ps}(F:Fun K x qual st f fd)
  (h:∀(kV doc pm:Value) (an:Option Addr) (cdv ct:Value) (us:List Value),us.length=ps.length->bindArgs (fnOf x qual (Eh st) (C3 st) (defScope st) .none kV doc pm an cdv ct) ⟨us,[]⟩=pure (ps.zip us)):Binds K fd ps []:=by
 obtain⟨oc,od,kV,doc,pm,an,cdv,ct,osl,rfl,lk,hcd⟩:=F.ex;exact .all (h kV doc pm an cdv ct)
def Xbl{x qual}{st}{f}{oc}{od an}{osl}{kV doc pm cdv ct}(l:K.lookup f=some ⟨oc,od,.func (fnOf x qual (Eh st) (C3 st) (defScope st) .none kV doc pm an cdv ct),osl⟩)
  (c:codeIn K cdv qual=true) (k:keepIn K (.ref f)=true):Fun K x qual st f (fnOf x qual (Eh st) (C3 st) (defScope st) .none kV doc pm an cdv ct):=⟨⟨oc,od,kV,doc,pm,an,cdv,ct,osl,rfl,l,c⟩,k⟩
end
def C4{A}{k}(hr:Room k A):A.units+1<cLine:=Sr (Nat.add_le_add_left (by decide:1<=64) _) hr.units
section
variable {X:Cx}
def pv(i:Nat){x:Str}{pos:Pos}(hN:X.N[i]? = some x:=by rfl)(hv:Vis X.env.scope x:=by first | exact Or.inl rfl | exact Or.inr (.inl rfl) | exact Or.inr (.inr rfl))(hd:(x==("__debug__" : Str))=false:=by decide)
  (hcd:(x==("__classdict__" : Str))=false:=by decide):PE X (.Name x pos) (C0 i):=Xge hN hv hd hcd
end
def Bp{A B:Prop}(h:B):if false=true then A else B:=by
 rw[Tf O3];exact h
def Bq{A B:Prop}(h:A):if true=true then A else B:=by
 rw[Tg rfl];exact h
def Xh8{c A B:Prop}[Decidable c](hc:c)(h:B):if (!decide c)=true then A else B:=by
 rw[Th hc];exact Bp h
def Same (H H':Hp):Prop:=∀b o,H b=some o->H' b=some o
def Same.refl(H):Same H H:=λ_ _ h=>h
def Same.trans{H H1 H2}(a:Same H H1)(b:Same H1 H2):Same H H2:=λc o h=>b c o (a c o h)
def Same.free{H H'}(e:Same H H'){l}(h:H' l=Option.none):H l=Option.none:=by
 cases q:H l with
 | none=>rfl
 | some o=>
  rw[e l o q] at h;cases h
def Same.seq{K}{H H'}{a}{xs}(e:Same H H')(h:SqL K H a xs):SqL K H' a xs:=by
 rcases h with (h | ⟨o,h⟩) | h
 ·exact .inl (.inl (e _ _ h))
 ·exact .inl (.inr ⟨o,e _ _ h⟩)
 ·exact .inr h
section
variable {X:Cx}
end
section
variable {κ : Type} [DecidableEq κ]
def Xh9{kvs}{k : κ}(h:Ay kvs k=none):¬k∈kvs.map (·.1):=by
 intro m;obtain⟨p,hp,e⟩:=O5.mp m;have q:(kvs.any λkv=>decide (kv.1=k))=true:=Qu.mpr ⟨p,hp,Th e⟩;rw[Ew,h] at q;exact absurd q (by simp)
def F5{kvs}{k : κ}{v}(h:Ay kvs k=some v):k∈kvs.map (·.1):=by
 have q:(kvs.any λkv=>decide (kv.1=k))=true:=by
  rw[Ew,h]
  all_goals rfl
 obtain⟨p,hp,e⟩:=Qu.mp q;exact O5.mpr ⟨p,hp,Tj e⟩
theorem nd_snoc:∀{l:List κ} {k : κ},l.Nodup->¬k∈l->(l++[k]).Nodup
 | [],k,_,_=>by simp
 | a::r,k,h,hk=>by
  obtain⟨h1,h2⟩:=Qf.mp h;show (a::(r++[k])).Nodup;refine Qf.mpr ⟨λm=>?_,nd_snoc h2 λm=>hk (O2.mpr (Or.inr m))⟩;rcases Op.mp m with q | q
  ·exact h1 q
  ·exact hk (O2.mpr (Or.inl (Om.mp q).symm))
def Xia{kvs}{k : κ}(v)(hn:(kvs.map (·.1)).Nodup)(h:Ay kvs k=none):((Bf kvs k v).map (·.1)).Nodup:=by
 rw[Hg v h,Oq];exact nd_snoc hn (Xh9 h)
end
def Cp (env:Env):List (Str×NameKind)->List (Str×Addr)->List (Str×Addr)
 | [],cs=>cs
 | (n,k)::r,cs=>if k == .free then Cp env r ((n,(env.cells.lookup n).getD 0)::cs) else Cp env r cs
theorem L3{env}:∀names cs,(∀x∈names,x.2 = .free->∃c,env.cells.lookup x.1=some c) ->
  (forIn names cs fun (x : Str × NameKind) r => (if (x.2 == .free) = true then do let c <- cellOf env x.1; pure (ForInStep.yield ((x.1, c) :: r)) else pure (ForInStep.yield r) : Sem (ForInStep (List (Str × Addr))))) = pure (Cp env names cs)
 | [],cs,_=>rfl
 | (n,k)::r,cs,h=>by
  rw[List.forIn_cons];cases hk:(k==NameKind.free) with
  | true=>
   have hk':k = .free:=by simpa using hk
   obtain⟨c,hc⟩:=h (n,k) Os hk';have e1:cellOf env n=pure c:=by unfold cellOf;rw[hc]
   simp only[hk,if_true,e1,pure_bind];rw[L3 r _ λx hx=>h x (Ot _ hx)];show _=pure (if (k==NameKind.free)=true then _ else _);rw[hk,Tg rfl,hc];rfl
  | false=>
   simp only[hk,P6,if_false,pure_bind];rw[L3 r _ λx hx=>h x (Ot _ hx)];show _=pure (if (k==NameKind.free)=true then _ else _);rw[hk,Tf O3]
def Xbm{scope}{env}(h:∀x∈scope.names,x.2 = .free->∃c,env.cells.lookup x.1=some c):closureFor scope env=pure (Cp env scope.names []):=by
 have e:=L3 scope.names [] h
 have q : closureFor scope env = (forIn scope.names [] fun (x : Str × NameKind) r => (if (x.2 == .free) = true then do let c <- cellOf env x.1; pure (ForInStep.yield ((x.1, c) :: r)) else pure (ForInStep.yield r) : Sem (ForInStep (List (Str × Addr))))) >>= fun cs => pure cs := rfl
 rw[q,e];rfl
theorem L4{env}{x}{c}:∀names cs,(∀x∈names,x.2 = .free->∃c,env.cells.lookup x.1=some c) ->
  (Cp env names cs).lookup x=some c->cs.lookup x=some c\/env.cells.lookup x=some c
 | [],cs,_,h=>.inl h
 | (n,k)::r,cs,hf,h=>by
  unfold Cp at h;split at h
  ·rename_i hk;rcases L4 r _ (λx hx=>hf x (Ot _ hx)) h with q | q
   ·rw[P4] at q;split at q
    ·rename_i e;have e':x=n:=by simpa using e
     subst e';obtain⟨c',hc⟩:=hf (x,k) Os (by simpa using hk);have hc':env.cells.lookup x=some c':=hc;rw[hc'] at q ⊢;exact .inr q
    ·exact .inl q
   ·exact .inr q
  ·exact L4 r _ (λx hx=>hf x (Ot _ hx)) h
theorem L5{env}{x}:∀names cs,((cs.lookup x).isSome=true\/(x,NameKind.free)∈names)->((Cp env names cs).lookup x).isSome=true
 | [],cs,h=>by
  rcases h with h | h
  ·exact h
  ·cases h
 | (n,k)::r,cs,h=>by
  unfold Cp;split
  ·refine L5 r _ ?_;rw[P4];rcases h with h | h
   ·left;split
    ·rfl
    ·exact h
   ·rcases O2.mp h with e | h
    ·left;cases e;simp
    ·exact .inr h
  ·rename_i hk;refine L5 r _ ?_;rcases h with h | h
   ·exact .inl h
   ·rcases O2.mp h with e | h
    ·cases e;exact absurd rfl hk
    ·exact .inr h
theorem Xbn{env:Env}{x:Str}{k':NameKind}:∀{names:List (Str×NameKind)},
  (names.map λ(n,k)=>if (k==NameKind.free&&env.scope.kind == .function&&env.kindOf n==some .cell) then (n,NameKind.cell) else (n,k)).lookup x=some k'->∃k,names.lookup x=some k/\(k'=k\/k = .free)
 | [],h=>by simp at h
 | (n,k)::r,h=>by
  have ih := @Xbn env x k' r;have h':List.lookup x ((if (k==NameKind.free&&env.scope.kind == .function&&env.kindOf n==some .cell)=true then (n,NameKind.cell) else (n,k))::_)=_:=h;rw[P4];by_cases hc:(k==NameKind.free&&env.scope.kind == .function&&env.kindOf n==some .cell)=true
  ·rw[Tg hc,P4] at h';cases hx:x==n with
   | true=>
    have hk:k = .free:=by
     simp only[O4,beq_iff_eq] at hc;exact hc.1.1
    exact⟨k,rfl,.inr hk⟩
   | false=>
    rw[hx] at h';exact ih h'
  ·rw[Tf hc,P4] at h';cases hx:x==n with
   | true=>
    rw[hx] at h';exact⟨k,rfl,.inl (O0 h').symm⟩
   | false=>
    rw[hx] at h';exact ih h'
theorem L6:∀(names:List (Str×NameKind)) (h:Heap) (acc:List (Str×Addr)) (x:Str) (c:Addr),(cellsFrom h.objs.size names acc).lookup x=some c ->
  (h.objs.size<=c/\(x,NameKind.cell)∈names/\(pushCells h names).IsCell c none)\/acc.lookup x=some c
 | [],_,_,_,_,e=>.inr e
 | (name,kind)::r,h,acc,x,c,e=>by
  unfold cellsFrom at e;unfold pushCells;by_cases hk:(kind==NameKind.cell)=true
  ·rw[Tg hk] at e ⊢;have hk':kind = .cell:=by simpa using hk
   have sz:(h.push {cls:=.type "cell",data:=.cell none}).objs.size=h.objs.size+1:=Heap.size_push ..;rw[<-sz] at e;rcases L6 r _ _ x c e with ⟨a1,a2,a3⟩ | a
   ·exact .inl ⟨by omega,Ot _ a2,a3⟩
   ·rw[P4] at a;cases hx:x==name with
    | true=>
     rw[hx] at a;cases a;have:x=name:=by simpa using hx
     subst this;refine .inl ⟨Oj _,by rw[hk'];exact Os,?_⟩;exact⟨_,pushCells_keeps r _ _ _ (Heap.get?_push_size _ rfl),rfl⟩
    | false=>rw[hx] at a;exact .inr a
  ·rw[Tf hk] at e ⊢;rcases L6 r h acc x c e with ⟨a1,a2,a3⟩ | a
   ·exact .inl ⟨a1,Ot _ a2,a3⟩
   ·exact .inr a
theorem L7:∀(names:List (Str×NameKind)) (n:Nat) (acc:List (Str×Addr)),(∀x y c,acc.lookup x=some c->acc.lookup y=some c->x=y)->(∀x c,acc.lookup x=some c->c<n) ->
  ∀x y c,(cellsFrom n names acc).lookup x=some c->(cellsFrom n names acc).lookup y=some c->x=y
 | [],_,_,h,_=>h
 | (name,kind)::r,n,acc,h,hb=>by
  unfold cellsFrom;by_cases hk:(kind==NameKind.cell)=true
  ·rw[Tg hk];refine L7 r (n+1) _ (λx y c e1 e2=>?_) (λx c e=>?_)
   ·rw[P4] at e1 e2;cases hx:x==name with
    | true=>
     cases hy:y==name with
     | true=>rw[beq_iff_eq.mp hx,beq_iff_eq.mp hy]
     | false=>
      rw[hx] at e1;rw[hy] at e2;cases e1;exact absurd (hb y _ e2) (P5 _)
    | false=>
     cases hy:y==name with
     | true=>
      rw[hx] at e1;rw[hy] at e2;cases e2;exact absurd (hb x _ e1) (P5 _)
     | false=>rw[hx] at e1;rw[hy] at e2;exact h x y c e1 e2
   ·rw[P4] at e;cases hx:x==name with
    | true=>rw[hx] at e;cases e;exact Nat.lt_succ_self _
    | false=>rw[hx] at e;exact Qb (hb x c e)
  ·rw[Tf hk];exact L7 r n acc h hb
theorem L8{env}{x}{c}:∀names cs,(Cp env names cs).lookup x=some c->cs.lookup x=some c\/(x,NameKind.free)∈names
 | [],cs,h=>.inl h
 | (n,k)::r,cs,h=>by
  unfold Cp at h;split at h
  ·rename_i hk;have hk':k = .free:=by simpa using hk
   rcases L8 r _ h with q | q
   ·rw[P4] at q;cases hx:x==n with
    | true=>
     have:x=n:=by simpa using hx
     subst this;exact .inr (by rw[hk'];exact Os)
    | false=>rw[hx] at q;exact .inl q
   ·exact .inr (Ot _ q)
  ·rcases L8 r _ h with q | q
   ·exact .inl q
   ·exact .inr (Ot _ q)
def Xib{M}{A}{E}{s}{scope}{globals}{closure}{qual}{outer}{Q}
  (h:Q (newEnv scope s.heap.objs.size globals (cellsFrom (s.heap.objs.size+1) scope.names closure) qual none .none (some outer) builtinsNs) {s with heap:=pushCells (s.heap.push {cls:=.type "dict",data:=.dict #[]}) scope.names}):
  wpAny M A (newFunctionEnv scope globals closure [] qual none .none (some outer)) Q E s:=by
 simp only[newFunctionEnv,Sq,if_true];refine Ta (wpAny_alloc ?_);refine Ta (wpAny_layCells _ (λname kind cells=>by cases hkc:kind==NameKind.cell<;>simp[hkc]) _ _ _ _ ?_);rw[show ({s with heap:=s.heap.push {cls:=.type "dict",data:=.dict #[]} }:Shared).heap.objs.size=s.heap.objs.size+1 from Heap.size_push ..];refine Ta ?_;rw[List.forIn_nil];exact Tb (Tb h)
def Hj (X:Cx) (scope:Scope) (s0:Shared):List (Str×Addr):=cellsFrom (s0.heap.objs.size+1) scope.names (Cp X.env scope.names [])
def Cx.comp (X:Cx) (N:Zb) (scope:Scope) (s0:Shared) (H0:Hp) (ex:List Addr):Cx where
 prog:=X.prog
 w:=X.w
 K:=X.K
 mg:=X.mg
 base:=X.base
 A:=X.A
 N:=N
 s₀:=s0
 H₀:=H0
 env:=compEnvC scope (Hj X scope s0) s0.heap.objs.size X.env
 outer:=X.stack
 stack:=X.stack
 ex:=ex
 fn:=λx=>decide (scope.names.lookup x=some .cell)
 calm:=X.calm
 pn:=[]
 xe:=λ_ _=>False
def Br (cap:List (Option Nat)) (Z:St):St:=cap.map λo=>o.bind λj=>(Z[j]?).join
structure CompScope (X:Cx) (N:Zb) (cap:List (Option Nat)) (scope:Scope):Prop where
 kind:scope.kind = .function
 uniq:∀y∈scope.names,scope.names.lookup y.1=some y.2
 free:∀y∈scope.names,y.2 = .free->X.env.kindOf y.1=some .cell\/X.env.kindOf y.1=some .free
 len:cap.length=N.length
 cap:∀(i:Nat) (x:Str) (j:Nat),N[i]? = some x->cap[i]? = some (some j)->X.N[j]? = some x/\scope.names.lookup x=some .free
def PIfs (X:Cx) (ifs:List Expr) (t:TT):Prop:=
 ∀pins s Z H (Q:Bool->Hp->Prop),Inv X pins Z H s->t Z H Q ->
  wpAny (model X.prog X.w) X.A (forIn ifs true fun c r => if r = true then do let ok <- isTrue c X.env (eval c X.env); pure (ForInStep.yield ok) else pure (ForInStep.yield r)) (TP X pins Z Q) X.xe s
def C5:TT:=λ_ H Q=>Q true H
def Ce{X}:PIfs X [] C5:=λ_ _ _ H _ I h=>wpAny_tests_nil ⟨H,I,h⟩
def D0{X}{c}{t}(h:PT X c t):PIfs X [c] t:=λpins s Z H Q I hw=>wpAny_tests_one (h pins s Z H Q I hw)
def Ex (cap:List (Option Nat)) (g:TG) (tt:TT) (te:TE) (J:It) (Z:St) (H1:Hp) (F:Addr->Hp->Prop):Prop:=
 ∀D,H1 D=none->∃W:Nat->Nat->St->Hp->Prop,(∃m,W 0 m (Br cap Z) (upd H1 D (.lst [])))/\∀i m Z1 H2,W i m Z1 H2 ->
  (J.stop i H2/\F D H2)\/(J.go i H2/\∀x H3,J.yld i H2 x H3->g x Z1 H3 fun Z2 H4=>tt Z2 H4 λb H5=>
   if b=true then te Z2 H5 λy H6=>∃ys,H6 D=some (.lst ys)/\ys.length<sizeLine/\∃m',m'<m/\W (i+1) m' Z2 (upd H6 D (.lst (ys++[y])))
   else ∃m',m'<m/\W (i+1) m' Z2 H5)
theorem Xbo{env:Env}{x:Str}:∀{names:List (Str×NameKind)} {k:NameKind},names.lookup x=some k ->
  (names.map λ(n,k)=>if (k==NameKind.free&&env.scope.kind == .function&&env.kindOf n==some .cell) then (n,NameKind.cell) else (n,k)).lookup x=some (if (k==NameKind.free&&env.scope.kind == .function&&env.kindOf x==some .cell) then NameKind.cell else k)
 | [],_,h=>by simp at h
 | (n,q)::r,k,h=>by
  have ih := @Xbo env x r k;show List.lookup x ((if (q==NameKind.free&&env.scope.kind == .function&&env.kindOf n==some .cell)=true then (n,NameKind.cell) else (n,q))::_)=_;rw[P4] at h;cases hx:x==n with
  | true=>
   rw[hx] at h;cases h;have:x=n:=by simpa using hx
   subst this;by_cases hc:(q==NameKind.free&&env.scope.kind == .function&&env.kindOf x==some .cell)=true
   ·rw[Tg hc,Tg hc,P4,hx]
   ·rw[Tf hc,Tf hc,P4,hx]
  | false=>
   rw[hx] at h;by_cases hc:(q==NameKind.free&&env.scope.kind == .function&&env.kindOf n==some .cell)=true
   ·rw[Tg hc,P4,hx];exact ih h
   ·rw[Tf hc,P4,hx];exact ih h
section
variable {X:Cx}{N:Zb}{cap:List (Option Nat)}{scope:Scope}{pins:List (Addr×Obj)}{Z:St}{H H':Hp}{s s':Shared}{fp:List Addr}
def L9(C:CompScope X N cap scope)(ok:X.Ok):∀x∈scope.names,x.2 = .free->∃c,X.env.cells.lookup x.1=some c:=λx hx hf=>ok.has x.1 (C.free x hx hf)
def Jo(C:CompScope X N cap scope)(ok:X.Ok){x}{c}(h:(Cp X.env scope.names []).lookup x=some c):X.env.cells.lookup x=some c:=by
 rcases L4 scope.names [] (L9 C ok) h with q | q
 ·simp at q
 ·exact q
def Xbp(C:CompScope X N cap scope)(ok:X.Ok){x}(h:scope.names.lookup x=some .free):∃c,(Cp X.env scope.names []).lookup x=some c:=
 Qs.mp (L5 scope.names [] (.inr (PySem.mem_of_lookup h)))
def Xbq(C:CompScope X N cap scope)(ok:X.Ok){h}(hz:h.objs.size=s.heap.objs.size+1){x}{c}(e:(Hj X scope s).lookup x=some c):
  (s.heap.objs.size<c/\scope.names.lookup x=some .cell/\(pushCells h scope.names).IsCell c none)\/(scope.names.lookup x=some .free/\X.env.cells.lookup x=some c):=by
 unfold Hj at e;rw[<-hz] at e;rcases L6 scope.names h _ x c e with ⟨a1,a2,a3⟩ | a
 ·exact .inl ⟨by omega,C.uniq _ a2,a3⟩
 ·refine .inr ⟨?_,Jo C ok a⟩;rcases L8 scope.names [] a with q | q
  ·simp at q
  ·exact C.uniq _ q
def Xic(C:CompScope X N cap scope)(I:Inv X pins Z H s)(hf:∀b∈fp,FpOk X pins H b)(hfl:∀b∈fp,b<s.heap.objs.size){tk}:
  Inv (X.comp N scope s H fp) [] (Br cap Z) H {s with heap:=pushCells (s.heap.push {cls:=.type "dict",data:=.dict #[]}) scope.names,toks:=tk}:=by
 have hC:H s.heap.objs.size=none:=I.hok.fresh (Oj _);have hz:(s.heap.push {cls:=.type "dict",data:=.dict #[]}).objs.size=s.heap.objs.size+1:=Heap.size_push ..;have hns:(pushCells (s.heap.push {cls:=.type "dict",data:=.dict #[]}) scope.names).Ns s.heap.objs.size λ_=>none:=(Heap.Ns.new s.heap (.type "dict")).keeps (pushCells_keeps _ _);have hk:∀b o,s.heap.get? b=some o->(pushCells (s.heap.push {cls:=.type "dict",data:=.dict #[]}) scope.names).get? b=some o:=λb o e=>pushCells_keeps _ _ b o (Tm _ e);have look:∀{x c},(X.comp N scope s H fp).env.cells.lookup x=some c->_:=λ{x c} h=>Xbq (s:=s) C I.ok hz h;have clt:∀x c,X.env.cells.lookup x=some c->c<s.heap.objs.size:=λx c h=>by
  obtain⟨v,q⟩:=I.cell x c h;exact q.lt
 have kind:∀x k,(relabel scope X.env).names.lookup x=some k->k = .cell\/k = .free->scope.names.lookup x=some .cell\/scope.names.lookup x=some .free:=λx k e hk=>by
  obtain⟨k0,e0,z⟩:=Xbn e;rcases z with z | z
  ·rw[<-z] at e0;rcases hk with q | q
   ·rw[q] at e0;exact .inl e0
   ·rw[q] at e0;exact .inr e0
  ·rw[z] at e0;exact .inr e0
 refine⟨⟨I.ok.mod,C.kind,I.ok.glob,I.ok.blt,Oj _,?inj,λx hx=>?has,λx c h e=>?cab,I.ok.hd,I.ok.frames,.inl rfl,λb hb=>⟨Ow (hfl b hb),λx c h=>?exf⟩,
   I.bs,Pd I.ok.bsz I.sz,λb o e hb=>?noex,λb hb hs=>?exfs,I.stack,I.stkFree⟩,
  rfl,I.bare,Un.kept hk,⟨_,hns,λi x v h1' h2 h3=>?loc⟩,λx c h=>?cell,hC,λx c h=>?freeC,λp hp=>absurd (show p∈([]:List (Addr×Obj)) from hp) (by simp),I.hok.kept hk,?len⟩
 case inj=>
  refine L7 scope.names _ _ (λx y c e1 e2=>I.ok.inj x y c (Jo C I.ok e1) (Jo C I.ok e2)) λx c e=>Qb (clt x c (Jo C I.ok e))
 case has=>
  have hx':(relabel scope X.env).names.lookup x=some .cell\/(relabel scope X.env).names.lookup x=some .free:=hx;refine Qs.mp (cellsFrom_some scope.names _ _ ?_);rcases (hx'.elim (λq=>kind x _ q (.inl rfl)) λq=>kind x _ q (.inr rfl)) with q | q
  ·exact .inl q
  ·obtain⟨c,hc⟩:=Xbp C I.ok q;exact .inr (by rw[hc];rfl)
 case cab=>
  have h:scope.names.lookup x=some .cell:=Tj h;rcases look e with ⟨a,_⟩ | ⟨a,_⟩
  ·exact Rz a
  ·rw[h] at a;cases a
 case exf=>
  rcases look h with ⟨a,_⟩ | ⟨_,a⟩
  ·exact λz=>P5 _ (Qv a (by rw[z];exact hfl b hb))
  ·exact(hf b hb).2.2.2.2.1 x c a
 case noex=>
  obtain⟨_,_,_,z,_⟩:=hf b hb;rcases z with z | z
  ·exact I.ok.noex b o e z
  ·exact absurd (O7 (Tl e) (Pd I.ok.bsz z)) (P5 _)
 case exfs=>
  obtain⟨_,f1,f2,_⟩:=hf b hb;rcases O2.mp (I.stkSub b hs) with e | e
  ·exact f1 e
  ·exact f2 e
 case loc=>
  have h2':(cap.map λo=>o.bind λj=>(Z[j]?).join)[i]? = some (some v):=h2;rw[Ox] at h2';cases hc:cap[i]? with
  | none=>rw[hc] at h2';cases h2'
  | some o=>
   rw[hc] at h2';cases o with
   | none=>cases h2'
   | some j=>
    have h2'':(Z[j]?).join=some v:=O0 h2';have hZ : Z[j]? = some (some v):=by
     cases hj : Z[j]? with
     | none=>rw[hj] at h2'';cases h2''
     | some o=>rw[hj] at h2'';exact congrArg some h2''
    obtain⟨hN,hfr⟩:=C.cap i x j h1' hc;obtain⟨m,hn,hl⟩:=I.loc;have hkind:X.env.kindOf x=some .cell\/X.env.kindOf x=some .free:=C.free (x,.free) (PySem.mem_of_lookup hfr) rfl;obtain⟨u,r,l⟩:=hl j x v hN hZ (by rcases hkind with q | q;exact .inr (.inl q);exact .inr (.inr q));refine⟨u,r,.inr ⟨?_,?_⟩⟩
    ·show (relabel scope X.env).names.lookup x=some .cell\/(relabel scope X.env).names.lookup x=some .free;have:=Xbo (env:=X.env) hfr;have e:(relabel scope X.env).names.lookup x=_:=this;rw[e];split
     ·exact .inl rfl
     ·exact .inr rfl
    ·obtain⟨c,hcl⟩:=Xbp C I.ok hfr;obtain⟨c2,hc2⟩:=Qs.mp (cellsFrom_some scope.names (s.heap.objs.size+1) (Cp X.env scope.names []) (x:=x) (.inr (by rw[hcl];rfl)));rcases look (x:=x) (c:=c2) hc2 with ⟨_,a,_⟩ | ⟨_,a⟩
     ·rw[hfr] at a;cases a
     ·rcases l with ⟨k,_⟩ | ⟨_,c',e,z⟩
      ·rcases hkind with q | q
       ·rw[k] at q;cases q
       ·rw[k] at q;cases q
      ·rw[a] at e;cases e;obtain⟨o,ho,hd⟩:=z;exact⟨c2,hc2,o,hk c2 o ho,hd⟩
 case cell=>
  rcases look h with ⟨_,_,a⟩ | ⟨_,a⟩
  ·exact⟨none,a⟩
  ·obtain⟨v,o,ho,hd⟩:=I.cell x c a;exact⟨v,o,hk c o ho,hd⟩
 case freeC=>
  rcases look h with ⟨a,_⟩ | ⟨_,a⟩
  ·exact I.hok.fresh (Rz a)
  ·exact I.freeC x c a
 case len=>
  show (cap.map _).length=N.length;rw[Oh,C.len]
end
def Xid (cap:List (Option Nat)) (wi:TI) (g:TG) (tt:TT) (te:TE):TE:=fun Z H Q=>wi Z H λJ H1=>Ex cap g tt te J Z H1 λD H2=>Q (.ref D) H2
def Xie (i:Nat) (cap:List (Option Nat)) (wi:TI) (g:TG) (tt:TT) (te:TE):TS:=λD Z H=>wi Z H λJ H1=>Ex cap g tt te J Z H1 λl H2=>D.nx (Z.set i (some (.ref l))) H2
def A4.there{P}{w}{H}{h}{a}{o}(x:A4 P w H h a o):∃u,h.get? a=some u:=by
 cases o with
 | lst xs=>obtain⟨_,_,_,_,e⟩:=x;exact⟨_,e⟩
 | tup xs=>obtain⟨_,_,_,o,e,_⟩:=x;exact⟨_,e⟩
 | dK kvs=>obtain⟨_,_,_,_,o,_,_,e,_⟩:=x;exact⟨_,e⟩
 | dT kvs=>obtain⟨_,_,_,_,o,_,_,e,_⟩:=x;exact⟨_,e⟩
 | set S n=>obtain⟨o,_,_,_,e,_⟩:=x;exact⟨_,e⟩
 | ins C dx fs=>obtain⟨_,_,_,e,_⟩:=x;exact⟨_,e⟩
 | own y=>exact x
 | xd fs=>obtain⟨_,⟨_,_,_,e,_⟩,_⟩:=x;exact⟨_,e⟩
 | rng lo hi=>obtain⟨_,_,_,e⟩:=x;exact⟨_,e⟩
 | frz ob u=>obtain⟨e,_⟩:=x;exact⟨_,e⟩
 | tbl ps=>exact⟨_,(show h.get? a=some _ from x)⟩
 | met f y=>exact⟨_,(show h.get? a=some _ from x)⟩
 | ext φ=>obtain⟨_,e,_⟩:=x;exact e
structure Flown (P:Program) (w:World) (outer:List Env) (H:Hp) (hc:Heap) (H':Hp) (ex C:Addr) (B:Heap) (a0:Value) (h:Heap):Prop where
 un:Un (frs outer) [] H H' hc h
 hok:HOk P w H' h
 fly:Heap.FlyingW B outer ex (.ref C) a0 h
 inB:∀b o,h.get? b=some o->b∉frs outer->((∃o',hc.get? b=some o')\/H' b≠none)->B.get? b=some o
 frf:∀b∈frs outer,H' b=none
def Flown.move{P}{w}{outer}{H H'}{hc B h h'}{ex C}{a0}(F:Flown P w outer H hc H' ex C B a0 h)(st:B.StaysIn h')(up:h.UpToSlots h'):
  Un (frs outer) [] H H' hc h'/\HOk P w H' h'/\∀b o,h'.get? b=some o->b∉frs outer->((∃o',hc.get? b=some o')\/H' b≠none)->B.get? b=some o:=by
 have nf:∀b∈frs outer,∀o,h.get? b=some o->∀vs,o.data ≠ .fields vs:=λb hb o e=>by
  obtain⟨_,o',e',d⟩:=F.fly.2.2.1.mem hb;rw[e] at e';cases e';exact d
 have tr:∀b o,H' b=some o->b∉frs outer:=λb o e hb=>by rw[F.frf b hb] at e;cases e
 have old:∀b,(∃o',hc.get? b=some o')\/H' b≠none->∃o,h.get? b=some o:=λb hb=>by
  rcases hb with ⟨o',e⟩ | hb
  ·obtain⟨o,e'⟩:=F.un.there b o' e (by simp);exact⟨o,e'⟩
  ·cases q:H' b with
   | none=>exact absurd q hb
   | some u=>exact(F.hok b u q).there
 refine⟨⟨λb o e n hb hx=>?_,λb o e n hb hx=>?_,F.un.free,λb o e hx=>?_,F.un.tups,F.un.frzs,F.un.tbls⟩,λa o e=>?_,λb o e hb hw=>?_⟩
 ·exact st b o (F.inB b o (F.un.keep b o e n hb hx) hb (.inl ⟨o,e⟩))
 ·obtain⟨sl,e1⟩:=F.un.slot b o e n hb hx;obtain⟨sl',e2⟩:=up b _ e1 (nf b hb _ e1);exact⟨sl',e2⟩
 ·obtain⟨o1,e1⟩:=F.un.there b o e hx;by_cases hb:b∈frs outer
  ·obtain⟨sl',e2⟩:=up b _ e1 (nf b hb _ e1);exact⟨_,e2⟩
  ·exact⟨o1,st b o1 (F.inB b o1 e1 hb (.inl ⟨o,e⟩))⟩
 ·refine(F.hok a o e).stay (λb u hb q=>?_) (λ_ q=>q) λ_ _ q=>q;have hn:H' b≠none:=by
   rcases hb with z | z
   ·rw[z,e];simp
   ·rw[z];simp
  have hb':b∉frs outer:=λz=>hn (F.frf b z);exact st b u (F.inB b u q hb' (.inr hn))
 ·obtain⟨o1,e1⟩:=old b hw;have e2:=F.inB b o1 e1 hb hw;have e3:=st b o1 e2;rw[e] at e3;cases e3;exact e2
def CX1 (P:Program) (w:World):CXT:=λouter H s E e s'=>
 ∃ex C H' B a0,e = .ref ex/\s'.os=s.os/\AllBare s'.gens/\Flown P w outer H s.heap H' ex C B a0 s'.heap/\E (.ref C) none H'
section
variable {P:Program}{w:World}{K:Za}{mg:Str->Option Value}{base:Heap}{N:Zb}{qual:Str}{scope:Scope}{f:Addr}{cd:Value}{A:Around}{outer:List Env}{s:Shared}{H:Hp}{E:XK}
def Leaves (X:Cx) (E:XK):Prop:=∀(pins:List (Addr×Obj)) (Z:St) (H:Hp) (s:Shared) (h':Heap) (ex C:Addr) (args:List Value),
 Inv X pins Z H s->Heap.MadeExcOf s.heap h' ex (.ref C) args->E (.ref C) none H->X.xe (.ref ex) {s with heap:=h'}
def leaves1:Leaves (Cs (CX1 P w) P w K mg base N qual scope f cd A outer s H E) E:=by
 intro pins Z H1 s1 h' ex C args I hm hE;show wpAny (model P w) (A.deeper (envOfC qual scope s.heap.objs.size f cd)) (leaving (envOfC qual scope s.heap.objs.size f cd) (.ref ex)) _ _ {s1 with heap:=h'};have hst:(Cs (CX1 P w) P w K mg base N qual scope f cd A outer s H E).stack=envOfC qual scope s.heap.objs.size f cd::outer:=rfl;have hin:∀env∈(envOfC qual scope s.heap.objs.size f cd::outer),∀b,env.frame=some b->b∈frs (envOfC qual scope s.heap.objs.size f cd::outer):=λenv he b hb=>R1.mpr ⟨env,he,hb⟩;have hFun:s1.heap.FunFrames base (envOfC qual scope s.heap.objs.size f cd::outer):=I.stack;have hB:(hideAll s1.heap (frs (envOfC qual scope s.heap.objs.size f cd::outer))).StaysIn s1.heap:=λb o q=>of_hideAll _ q;have getB:∀b o,s1.heap.get? b=some o->b∉frs (envOfC qual scope s.heap.objs.size f cd::outer)->(hideAll s1.heap (frs (envOfC qual scope s.heap.objs.size f cd::outer))).get? b=some o:=λb o e n=>hideAll_get _ e n;have sub:∀b,b∈frs (envOfC qual scope s.heap.objs.size f cd::outer)->b=s.heap.objs.size\/b∈frs outer:=λb hb=>O2.mp (I.stkSub b hb);have sup:∀b,b∈frs outer->b∈frs (envOfC qual scope s.heap.objs.size f cd::outer):=λb hb=>by
  unfold frs at hb ⊢;rw[Py];split
  ·exact hb
  ·exact Ot _ hb
 have frFree:∀b,b∈frs (envOfC qual scope s.heap.objs.size f cd::outer)->H1 b=none:=λb hb=>I.stkFree b hb;refine wpAny_leaves_madeW (A:=A.deeper (envOfC qual scope s.heap.objs.size f cd)) (L:=s.heap.objs.size) I.ok.frames rfl hB (PySem.W.funFrames_hide hFun hin) hm λh'' t f1 _ _ up=>?_;have old:∀b o,s.heap.get? b=some o->b∉frs outer->b∉frs (envOfC qual scope s.heap.objs.size f cd::outer):=λb o e nb hb=>by
  rcases sub b hb with z | z
  ·exact absurd (Tl e) (by rw[z];exact P5 _)
  ·exact nb z
 have nf:∀b∈frs (envOfC qual scope s.heap.objs.size f cd::outer),∀o,s1.heap.get? b=some o->∀vs,o.data ≠ .fields vs:=λb hb o e=>by
  obtain⟨_,o',e',d⟩:=hFun.mem hb;rw[e] at e';cases e';exact d
 refine⟨ex,C,H1,_,_,rfl,I.os,I.bare,⟨⟨λb o e n hb hx=>?_,λb o e n hb hx=>?_,I.base.free,λb o e hx=>?_,I.base.tups,I.base.frzs,I.base.tbls⟩,λa o e=>?_,f1,λb o e hb hw=>?_,λb hb=>frFree b (sup b hb)⟩,hE⟩
 ·exact f1.1 b o (getB b o (I.base.keep b o e n hb hx) (old b o e hb))
 ·obtain⟨sl,e1⟩:=I.base.slot b o e n hb hx;obtain⟨sl',e2⟩:=up b _ (hm.keeps _ _ e1) (nf b (sup b hb) _ e1);exact⟨sl',e2⟩
 ·obtain⟨o1,e1⟩:=I.base.there b o e hx;by_cases hb:b∈frs (envOfC qual scope s.heap.objs.size f cd::outer)
  ·obtain⟨sl',e2⟩:=up b _ (hm.keeps _ _ e1) (nf b hb _ e1);exact⟨_,e2⟩
  ·exact⟨o1,f1.1 b o1 (getB b o1 e1 hb)⟩
 ·refine(I.hok a o e).stay (λb u hb q=>?_) (λ_ q=>q) λ_ _ q=>q;have hn:H1 b≠none:=by
   rcases hb with z | z
   ·rw[z,e];simp
   ·rw[z];simp
  exact f1.1 b u (getB b u q λz=>hn (frFree b z))
 ·have:∃o1,s1.heap.get? b=some o1/\b∉frs (envOfC qual scope s.heap.objs.size f cd::outer):=by
   rcases hw with ⟨o',e'⟩ | hw
   ·obtain⟨o1,e1⟩:=I.base.there b o' e' (λz=>absurd (show b∈([]:List Addr) from z) (by simp));exact⟨o1,e1,old b o' e' hb⟩
   ·cases q:H1 b with
    | none=>exact absurd q hw
    | some u=>
     obtain⟨o1,e1⟩:=(I.hok b u q).there;exact⟨o1,e1,λz=>hw (frFree b z)⟩
  obtain⟨o1,e1,nb⟩:=this;have e2:=getB b o1 e1 nb;have e3:=f1.1 b o1 e2;rw[e] at e3;cases e3;exact e2
def pass1:Passes (CX1 P w) (Cs (CX1 P w) P w K mg base N qual scope f cd A outer s H E) E:=by
 intro pins Z H1 s1 e s' I h;obtain⟨ex,C,H',B,a0,rfl,hos,hbare,F,hE⟩:=h;show wpAny (model P w) (A.deeper (envOfC qual scope s.heap.objs.size f cd)) (leaving (envOfC qual scope s.heap.objs.size f cd) (.ref ex)) _ _ s';have sub:∀b,b∈frs (envOfC qual scope s.heap.objs.size f cd::outer)->b=s.heap.objs.size\/b∈frs outer:=λb hb=>O2.mp (I.stkSub b hb);have sup:∀b,b∈frs outer->b∈frs (envOfC qual scope s.heap.objs.size f cd::outer):=λb hb=>by
  unfold frs at hb ⊢;rw[Py];split
  ·exact hb
  ·exact Ot _ hb
 have old:∀b o,s.heap.get? b=some o->b∉frs outer->b∉frs (envOfC qual scope s.heap.objs.size f cd::outer):=λb o e nb hb=>by
  rcases sub b hb with z | z
  ·exact absurd (Tl e) (by rw[z];exact P5 _)
  ·exact nb z
 have F':Flown P w (envOfC qual scope s.heap.objs.size f cd::outer) H1 s1.heap H' ex C B a0 s'.heap:=F;refine wpAny_leaves_onW (A:=A.deeper (envOfC qual scope s.heap.objs.size f cd)) (L:=s.heap.objs.size) I.ok.frames rfl F'.fly λh'' f1 up=>?_;obtain⟨un,hok,inB⟩:=F'.move f1.1 up;refine⟨ex,C,H',B,a0,rfl,hos.trans I.os,hbare,⟨?_,hok,f1,λb o e hb hw=>?_,λb hb=>F'.frf b (sup b hb)⟩,hE⟩
 ·have un0:Un (frs outer) [] H H1 s.heap s1.heap:=I.base;refine⟨λb o e n hb hx=>?_,λb o e n hb hx=>?_,λb o e n hx=>?_,λb o e hx=>?_,λb xs e=>un.tups b xs (un0.tups b xs e),λb ob u e=>un.frzs b ob u (un0.frzs b ob u e),λb ps e=>?_⟩
  ·exact un.keep b o (un0.keep b o e n hb hx) (un0.free b o e n hx) (old b o e hb) hx
  ·obtain⟨sl,e1⟩:=un0.slot b o e n hb hx;obtain⟨sl',e2⟩:=un.slot b _ e1 (un0.free b o e n hx) (sup b hb) hx;exact⟨sl',e2⟩
  ·obtain⟨o1,e1⟩:=un0.there b o e hx;exact un.free b o1 e1 (un0.free b o e n hx) hx
  ·obtain⟨o1,e1⟩:=un0.there b o e hx;exact un.there b o1 e1 hx
  ·obtain⟨m1,e1⟩:=un0.tbls b ps e;obtain⟨m2,e2⟩:=un.tbls b _ e1;exact⟨m1++m2,by rw[e2,Array.append_assoc]⟩
 ·refine inB b o e ?_ ?_
  ·rcases hw with ⟨o',e'⟩ | hw
   ·exact old b o' e' hb
   ·intro z;exact hw (F'.frf b z)
  ·rcases hw with ⟨o',e'⟩ | hw
   ·obtain⟨o1,e1⟩:=(show Un (frs outer) [] H H1 s.heap s1.heap from I.base).there b o' e' (by simp);exact .inl ⟨o1,e1⟩
   ·exact .inr hw
end
abbrev bmV:List Value:=[.type "ValueError",.type "Exception",.type "BaseException",.type "object"]
def Xif{K}{h}{C}{bmB}{newId}(X:K.In h)(q:excIn K C bmB newId=true):
  ∃bm N nm q bs hdct sn sub ab col dd k0 k1 k2 k3 k5 mN,h.get? C=some (excClassObj nm q C N bs bm hdct sn sub ab col dd k0 k1 k2 k3 k5 newId)/\h.Ns N mN/\mN "__init__" = none/\OwnTail h bmB bm:=by
 unfold excIn at q;split at q
 ·rename_i dd cd sl ho;split at q
  ·rename_i C' bm k0 k1 k2 k3 n k5 hm hs;simp only[O4,beq_iff_eq,Sz] at q;obtain⟨⟨⟨⟨⟨rfl,rfl⟩,hdel⟩,ht⟩,hok⟩,hni⟩:=q;obtain⟨nm,bs,mro,ns,qn,hd,sn,sub,ab,col,del⟩:=cd;dsimp only at hm hdel hok hni;subst hm hdel;have hsl:sl = #[k0,k1,k2,k3,some (.builtin n),k5]:=by
    obtain⟨l⟩:=sl;simp only at hs;rw[hs]
   subst hsl;exact⟨bm,ns,nm,qn,bs,hd,sn,sub,ab,col,dd,k0,k1,k2,k3,k5,_,X _ _ ho,.of_isNs (PySem.W.isNs_of_in X hok),PySem.W.nsMap_none_of_in X hok hni,PySem.W.tail_of_in X ht⟩
  ·cases q
 ·cases q
def Xig (C:Addr) (E:XK) (t:TA):TS:=λ_ Z H=>t Z H λvs H1=>vs.length<=sizeLine/\E (.ref C) none H1
def Ma{X:Cx}{C:Addr}{E:XK}{x:Str}{np cpos pos:Pos}{e:Expr}{es:List Expr}{t:TA}(hc:excIn X.K C bmV "ValueError.__new__" = true)(hcalm:X.calm=true)(hx:Leaves X E)(hg:Gl X x)(hm:X.mg x=some (.ref C))
  (ha:PA X (e::es) t) (hdb:(x==("__debug__" : Str))=false:=by decide) (he:starEach (e::es) X.env=(false,eval e X.env)::starEach es X.env:=by rfl) (hpl:(backTo cpos (starEach es X.env)).any (·.1)=false:=by rfl):
  PS X (.Raise (some (.Call (.Name x np) (e::es) [] cpos)) none pos) (Xig C E t):=by
 intro pins s Z H D I h;obtain⟨tl,N,nm,q,bs,hdct,sn,sub,ab,col,dd,k0,k1,k2,k3,k5,mN,hC,hN,hni,T⟩:=Xif I.mod.kin hc;refine wpAny_Raise_call_subT (C:=C) (nm:=nm) (q:=q) (N:=N) (bs:=bs) (bm:=tl) (hdct:=hdct) (sn:=sn) (sub:=sub) (ab:=ab) (col:=col) (dd:=dd) (k0:=k0) (k1:=k1) (k2:=k2) (k3:=k3) (k5:=k5)
  PySem.F.excBase_ValueError (mN:=mN) (T.hasType PySem.F.excBase_ValueError.hasBase) (I.ok.hd hcalm) (by rw[he];show (false||(backTo cpos (starEach es X.env)).any (·.1))=false;rw[hpl];rfl) hni (Gz I hg hm ⟨rfl,?_⟩ hdb)
 have hh:=thn (ha cpos pins s Z H _ I h) (Q':=λvs s₂=>vs.length<=sizeLine/\(∀b o,X.base.get? b=some o->s₂.heap.get? b=some o)/\∀h' e,Heap.MadeExcOf s₂.heap h' e (.ref C) vs->X.xe (.ref e) {s₂ with heap:=h'})
  (λus s2 ⟨vs,H2,I2,r2,hl,hE⟩=>⟨by rw[<-r2.length];exact hl,I2.bk,λh' ex hmk=>hx pins Z H2 s2 h' ex C us I2 hmk hE⟩)
 rw[he] at hh ⊢;exact Calls.evalArgs_plain (wpAny_mono hh (λvs s₂ h₂=>⟨rfl,h₂.1,h₂.2.1 _ _ hC,hN.keeps h₂.2.1,T.keeps h₂.2.1,h₂.2.2⟩) λ_ _ y=>y)
def Fun.ok1{P}{w}{K}{mg}{base}{x qual}{st}{f}{fd}{N ps}{k}{sp}(F:Fun K x qual st f fd)(S:FnScope N ps (defScope st))(len:∀vs H Q E,sp vs H Q E->vs.length=ps.length)
  (hbody:∀(cdv:Value) (A:Around) (outer:List Env) (s:Shared) (H:Hp) (vs:List V) (Q:VK) (E:XK),Room k (A.deeper (envOfC qual (defScope st) s.heap.objs.size f cdv))->sp vs H Q E ->
   ∃t,PSs (Cs (CX1 P w) P w K mg base N qual (defScope st) f cdv A outer s H E) (C3 st) t/\t {nx:=λ_ H'=>Q .non H',rt:=Q} (start N vs) H):FnOk P w K mg base (CX1 P w) (k+1) f fd ps sp:=by
 obtain⟨oc,od,kV,doc,pm,an,cdv,ct,osl,rfl,lk,hcd⟩:=F.ex;exact Ln lk hcd S len λA outer s H vs Q E hr hsp=>hbody cdv A outer s H vs Q E hr hsp
abbrev Cx.re (X:Cx) (pn:List (Addr×Obj)) (A:Around) (c:Bool) (E:Zc):Cx:={X with pn:=pn,A:=A,calm:=c,xe:=E}
section
variable {X:Cx}{pins pins' pn:List (Addr×Obj)}{Z:St}{H:Hp}{s:Shared}{A:Around}{c:Bool}{E:Zc}
def Inv.as(I:Inv X pins Z H s)(hd:c=true->A.handled=none)(hf:A.frames=some X.stack)(hp:∀p∈pn++pins',p∈X.pn++pins):Inv (X.re pn A c E) pins' Z H s:=
 ⟨⟨I.ok.mod,I.ok.kind,I.ok.glob,I.ok.blt,I.ok.above,I.ok.inj,I.ok.has,I.ok.cab,hd,hf,I.ok.stk,I.ok.exf,I.ok.bs,I.ok.bsz,I.ok.noex,I.ok.exfs,I.ok.funs,I.ok.frf⟩,
  I.os,I.bare,I.base,I.loc,I.cell,I.free,I.freeC,λp hp'=>I.pin p (hp p hp'),I.hok,I.len⟩
def Inv.back(I:Inv (X.re pn A c E) pins' Z H s)(ok:X.Ok)(hp:∀p∈X.pn++pins,p∈pn++pins'):Inv X pins Z H s:=
 ⟨ok,I.os,I.bare,I.base,I.loc,I.cell,I.free,I.freeC,λp hp'=>I.pin p (hp p hp'),I.hok,I.len⟩
def Inv.unbind{i}{n}{m}{v}{h'}{tk}(I:Inv X pins Z H s)(hN:X.N.Nodup)(hi:X.N[i]? = some n)(hl:X.env.scope.names.lookup n=some .local)
  (hm:∀(j:Nat) (x:Str) (v:V),X.N[j]? = some x -> Z[j]? = some (some v)->Vis X.env.scope x->∃u,Ai v u/\Look X.env s.heap m x u)
  (hn:h'.Ns X.env.locals (λx=>if x=n then v else m x)) (hs:Heap.SameBut X.env.locals s.heap h'):Inv X pins (Z.set i none) H {s with heap:=h',toks:=tk}:=by
 have hiZ:i < Z.length:=by rw[I.len];exact(Oy.mp hi).1
 have cne:=I.cne;refine⟨I.ok,I.os,I.bare,⟨λb o e n hb hx=>?_,λb o e n hb hx=>?_,I.base.free,λb o e hx=>?_,I.base.tups,I.base.frzs,I.base.tbls⟩,⟨_,hn,λj y v' e1 e2 e3=>?_⟩,λy c e=>?_,I.free,I.freeC,λp hp=>?_,λb ob e=>?_,by simpa using I.len⟩
 ·exact(hs.2 b (Ow (O7 (Tl e) I.ok.above))).trans (I.base.keep b o e n hb hx)
 ·obtain⟨sl,e1⟩:=I.base.slot b o e n hb hx;exact⟨sl,(hs.2 b (Ow (O7 (Tl e) I.ok.above))).trans e1⟩
 ·obtain⟨o',e1⟩:=I.base.there b o e hx;exact⟨o',(hs.2 b (Ow (O7 (Tl e) I.ok.above))).trans e1⟩
 ·have hj:j≠i:=by
   intro z;subst z;rw[R5 hiZ] at e2;cases e2
  rw[Se (Ne.symm hj)] at e2;obtain⟨u,r,l⟩:=hm j y v' e1 e2 e3;refine⟨u,r,?_⟩;rcases l with ⟨k,e⟩ | ⟨k,c,e,z⟩
  ·refine .inl ⟨k,?_⟩;have:y≠n:=λe=>hj (K6 hN e1 (e ▸ hi));simp[this,e]
  ·exact .inr ⟨k,c,e,z.sameBut hs (cne y c e)⟩
 ·obtain⟨w',z⟩:=I.cell y c e;exact⟨w',z.sameBut hs (cne y c e)⟩
 ·obtain⟨e,n,ne,nf,d⟩:=I.pin p hp;exact⟨(hs.2 p.1 ne).trans e,n,ne,nf,d⟩
 ·refine(I.hok b ob e).stay (λc' w' hc q=>(hs.2 c' ?_).trans q) (λ_ q=>q) λ_ _ q=>q;rintro rfl;rcases hc with z | z
  ·rw[<-z,I.free] at e;cases e
  ·rw[I.free] at z;cases z
def Inv.track{a}{φ}(I:Inv X pins Z H s)(hn:H a=none)(h0:X.s₀.heap.get? a=none)(hL:a≠X.env.locals)(hc:∀x c,X.env.cells.lookup x=some c->c≠a)(hp:∀p∈X.pn++pins,p.1≠a)
  (h1 : φ s.heap) (h2:∃o,s.heap.get? a=some o) (h3:∀h1 h2:Heap, φ h1->(∀o,h1.get? a=some o->h2.get? a=some o) -> φ h2):Inv X pins Z (upd H a (.ext φ)) s:=by
 refine⟨I.ok,I.os,I.bare,⟨I.base.keep,I.base.slot,λb o e n hx=>?_,I.base.there,λb xs e=>?_,λb o u e=>?_,λb ps e=>?_⟩,I.loc,I.cell,?_,λx c e=>?_,λp hp'=>?_,λb ob e=>?_,I.len⟩
 ·rw[Ad (λz=>by rw[z,h0] at e;cases e)];exact I.base.free b o e n hx
 ·have q:=I.base.tups b xs e;rw[Ad (Au q hn)];exact q
 ·have q:=I.base.frzs b o u e;rw[Ad (Au q hn)];exact q
 ·obtain⟨more,q⟩:=I.base.tbls b ps e;exact⟨more,by rw[Ad (Au q hn)];exact q⟩
 ·rw[Ad (Ne.symm hL)];exact I.free
 ·rw[Ad (hc x c e)];exact I.freeC x c e
 ·obtain⟨e,n,r⟩:=I.pin p hp';exact⟨e,by rw[Ad (hp p hp')];exact n,r⟩
 ·by_cases hb:b=a
  ·subst hb;rw[Ab] at e;cases e;exact⟨h1,h2,h3⟩
  ·rw[Ad hb] at e;exact(I.hok b ob e).stay (λ_ _ _ q=>q) (λc q=>by rw[Ad (Au q hn)];exact q) λc xs q=>by rw[Ad (Au q hn)];exact q
end
def Dq (ex C:Addr) (h:Heap):Prop:=∃o vs,h.get? ex=some o/\o.cls = .ref C/\o.data = .fields vs
def Fj (ex C:Addr):HO:=.ext (Dq ex C)
def Cx.tryC (X:Cx) (pn:List (Addr×Obj)) (R:Addr->St->Hp->Prop):Cx:=X.re pn X.A X.calm λe s1=>
 ∃Z Hc sc,Inv (X.re pn X.A X.calm λ_ _=>True) [] Z Hc sc/\CX1 X.prog X.w X.stack Hc sc (λc _ H1=>∃C,c = .ref C/\R C Z H1) e s1
def Cx.suite (X:Cx) (pn:List (Addr×Obj)) (ex:Addr):Cx:=X.re pn (X.A.mark (some (.ref ex))) false λ_ _=>False
section
variable {X:Cx}{pn:List (Addr×Obj)}{R:Addr->St->Hp->Prop}{k:Nat}{f:Addr}{fd:FuncData}{ps:Zb}{sp:Sp}{dvs:List V}{ds:List Value}{x:Str}{p pos:Pos}{e:Expr}{es:List Expr}{t:TA}
def Xih (sp:Sp) (dvs:List V) (R:Addr->St->Hp->Prop) (t:TA):TE:=fun Z H Q=>t Z H λvs H1=>sp (vs++dvs) H1 Q λc _ H'=>∃C,c = .ref C/\R C Z H'
def Xbr(F:FnOk X.prog X.w X.K X.mg X.base (CX1 X.prog X.w) k f fd ps sp)(hr:Room k X.A)(hg:Gl X x)(hm:X.mg x=some (.ref f))(hk:keepIn X.K (.ref f)=true)(hb:Binds X.K fd ps ds)(hd:Vals dvs ds)
  (ha:PA (X.tryC pn R) (e::es) t) (hdb:(x==("__debug__" : Str))=false:=by decide) (he:starEach (e::es) X.env=(false,eval e X.env)::starEach es X.env:=by rfl) (hpl:(backTo pos (starEach es X.env)).any (·.1)=false:=by rfl):
  PE (X.tryC pn R) (.Call (.Name x p) (e::es) [] pos) (Xih sp dvs R t):=by
 intro pins s Z H Q I h;refine wpAny_Call_Name_kw (Gz I (show Gl (X.tryC pn R) x from hg) hm ?_ hdb);refine callWith_K (h₀:=X.base) I.ok.mod.kin hk (thn (ha pos pins s Z H _ I h) λus s1 ⟨vs,H1,I1,r,q⟩=>⟨I1.kIn,?_⟩) he hpl;have r2:Vals (vs++dvs) (us++ds):=r.append hd;have hl:(us++ds).length=ps.length:=by rw[<-r2.length];exact F.len _ _ _ _ q
 refine wpAny_call (codeAny_mono (F.run X.A X.stack s1 H1 ⟨us,[]⟩ (us++ds) (vs++dvs) Q _ hr I1.env0 (hb s1 us I1.kIn hl) r2 q) λr s' hq=>?_);cases r with
 | error e=>exact⟨Z,H1,s1,(Inv.back (X:=X.re pn X.A X.calm λ_ _=>True) (pins:=[]) I1 (I1.as (X:=X.tryC pn R) (pins':=[]) (pn:=pn) (A:=X.A) (c:=X.calm) (E:=λ_ _=>True) I1.ok.hd I1.ok.frames (λp hp=>Op.mpr (.inl (show p∈pn from by simpa using hp)))).ok (λp hp=>Op.mpr (.inl (show p∈pn from by simpa using hp)))),hq⟩
 | ok fl=>
  cases fl with
  | ret u=>exact I1.after hq
  | next=>exact False.elim hq
  | brk=>exact False.elim hq
  | cont=>exact False.elim hq
end
section
variable {X:Cx}{pos np hpos:Pos}{body:List Stmt}{b0:Stmt}{suite:List Stmt}{n x:Str}{i:Nat}{Cc:Addr}{tb:(Addr->St->Hp->Prop)->TS}{th:TS}
def tTry (K:Za) (i:Nat) (Cc:Addr) (tb:(Addr->St->Hp->Prop)->TS) (th:TS):TS:=λD Z H=>∃R:Addr->St->Hp->Prop,tb R D Z H/\∀C Z1 H1,R C Z1 H1->exmOne K (.ref C) (.ref Cc)=some true /\
 ∀ex,H1 ex=none->th {nx:=fun Z2 H2=>D.nx (Z2.set i none) H2,rt:=D.rt,bk:=fun Z2 H2=>D.bk (Z2.set i none) H2,ct:=fun Z2 H2=>D.ct (Z2.set i none) H2} (Z1.set i (some (.ref ex))) (upd H1 ex (Fj ex C))
def Xii(hex:X.ex=[])(hst:X.stack=X.env::X.outer)(hfr:X.env.frame=some X.env.locals)(hN:X.N.Nodup)(hi:X.N[i]? = some n)(hl:X.env.scope.names.lookup n=some .local)(hg:Gl X x)(hm:X.mg x=some (.ref Cc))
  (hb:∀pn R,PSs (X.tryC pn R) body (tb R)) (hh:∀pn ex,PSs (X.suite pn ex) (b0::suite) th) (hdb:(x==("__debug__" : Str))=false:=by decide):
  PS X (.Try body [.ExceptHandler (some (.Name x np)) (some n) (b0::suite) hpos] [] [] pos) (tTry X.K i Cc tb th):=by
 intro pins s Z H D I h;obtain⟨R,hbd,hcx⟩:=h;have hsubs:∀p∈X.pn++pins++[],p∈X.pn++pins:=λp hp=>by simpa using hp
 have hsubs':∀p∈X.pn++pins,p∈X.pn++pins++[]:=λp hp=>by simpa using hp
 have I0:Inv (X.tryC (X.pn++pins) R) [] Z H s:=I.as I.ok.hd I.ok.frames hsubs;refine wpAny_Try_except (wpAny_mono (hb (X.pn++pins) R [] s Z H D I0 hbd) (λfl s1 q=>?_) λe s1 q=>?_)
 ·have toX:∀{Z':St} {H':Hp},Inv (X.tryC (X.pn++pins) R) [] Z' H' s1->Inv X pins Z' H' s1:=λJ=>J.back I.ok hsubs';cases fl with
  | next=>
   obtain⟨Z',H',J,q⟩:=q;exact wpAny_execs_nil ⟨Z',H',toX J,q⟩
  | brk=>
   obtain⟨Z',H',J,q⟩:=q;exact⟨Z',H',toX J,q⟩
  | cont=>
   obtain⟨Z',H',J,q⟩:=q;exact⟨Z',H',toX J,q⟩
  | ret u=>
   obtain⟨v, Z',H',J,r,q⟩:=q;exact⟨v, Z',H',toX J,r,q⟩
 ·-- it flies here
  obtain⟨Z1,Hc,sc,Ic,ex,c,H1,B,a0,rfl,hos,hbare,F,C,hC,hR⟩:=q;cases hC;obtain⟨hx,hth⟩:=hcx c Z1 H1 hR;have F':Flown X.prog X.w (X.env::X.outer) Hc sc.heap H1 ex c B a0 s1.heap:=by rw[<-hst];exact F
  have hfrm:X.A.frames=some (X.env::X.outer):=by rw[<-hst];exact I.ok.frames
  have step:∀(h5:Heap) (tk:Nat),B.StaysIn h5->s1.heap.UpToSlots h5->Inv (X.re (X.pn++pins) X.A X.calm λ_ _=>True) [] Z1 H1 {s1 with heap:=h5,toks:=tk}:=λh5 tk st up=>by
   obtain⟨un,hok,_⟩:=F'.move st up;refine Ic.call' (ch:=[]) hos ?_ hok hbare (λb z=>absurd z (by simp));show Un (frs X.stack) [] Hc H1 sc.heap h5;rw[hst];exact un
  refine wpAny_looks_onW (L:=X.env.locals) hfrm hfr F'.fly λh4 held up4=>?_;refine wpAny_landsW held λh5 fl5 up5=>?_;have I5:=step h5 s1.toks fl5.1 (up4.trans up5);have I5S:Inv (X.suite (X.pn++pins) ex) [] Z1 H1 {s1 with heap:=h5}:=Inv.as (X:=X.re (X.pn++pins) X.A X.calm λ_ _=>True) I5 (λz=>absurd z (by decide)) I.ok.frames (λp hp=>hp);have LT:PySem.W.Looks (model X.prog X.w) h5 (typeOf (.ref ex)) (.ref c):=by
   obtain⟨ob,hob,hobc⟩:=fl5.there;rw[<-hobc];exact(PySem.W.Looks.ld hob).andThen .now
  refine wpAny_handleBy_cons (codeAny_handlers_test ?_) (by intro q;cases q);refine Gz (X:=X.suite (X.pn++pins) ex) I5S (show Gl (X.suite (X.pn++pins) ex) x from hg) hm ?_ hdb;refine(PySem.W.exm_one (I5S.kIn) LT hx).here ?_;refine codeAny_handlers_suite_as (lands_againW fl5 λh6 fl6 up6=>?_);have up16:=(up4.trans up5).trans up6;have I6:=step h6 s1.toks fl6.1 up16;have I6S:Inv (X.suite (X.pn++pins) ex) [] Z1 H1 {s1 with heap:=h6}:=Inv.as (X:=X.re (X.pn++pins) X.A X.calm λ_ _=>True) I6 (λz=>absurd z (by decide)) I.ok.frames (λp hp=>hp);refine K7 (X:=X.suite (X.pn++pins) ex) I6S hN hi (.inl hl) (show Ai (.ref ex) (.ref ex) from rfl) (λs7 I7 ⟨a7,sb7,ha7⟩=>?_) (.inr hl);have I7':Inv (X.suite (X.pn++pins) ex) [] (Z1.set i (some (.ref ex))) H1 s7:=I7;obtain⟨f1,f2,f3,oe,vs,T,oT,ts,he,hce,hde,_⟩:=id fl6;have notFr:ex∉frs (X.env::X.outer):=λz=>by
   obtain⟨_,o',e',d⟩:=f3.mem z;rw[he] at e';cases e';exact d vs hde
  have inB6:=(F'.move fl6.1 up16).2.2;have hexH:H1 ex=none:=by
   cases q:H1 ex with
   | none=>rfl
   | some u=>
    have z:=inB6 ex oe he notFr (.inr (by rw[q];simp));rw[f2] at z;cases z
  have hexc:sc.heap.get? ex=none:=by
   cases q:sc.heap.get? ex with
   | none=>rfl
   | some u=>
    have z:=inB6 ex oe he notFr (.inl ⟨u,q⟩);rw[f2] at z;cases z
  have hex0:X.s₀.heap.get? ex=none:=by
   cases q:X.s₀.heap.get? ex with
   | none=>rfl
   | some u=>
    obtain⟨o1,e1⟩:=Ic.base.there ex u q (λz=>by
     have z':ex∈X.ex:=z;rw[hex] at z';cases z')
    rw[hexc] at e1;cases e1
  have hexL:ex≠X.env.locals:=λz=>notFr (by
   unfold frs;rw[Py,hfr,z];exact Os)
  have cellNe:∀y cc,X.env.cells.lookup y=some cc->cc≠ex:=λy cc e z=>by
   obtain⟨v,o,ho,hd⟩:=I6.cell y cc e;have ho':h6.get? cc=some o:=ho;rw[z,he] at ho';cases ho';rw[hde] at hd;cases hd
  have pinNe:∀p∈(X.pn++pins)++[],p.1≠ex:=λp hp z=>by
   have:=(Ic.pin p hp).1;rw[z,hexc] at this;cases this
  have ne7:ex≠a7:=by
   rcases ha7 with z | z
   ·rw[z];exact hexL
   ·exact λq=>cellNe n a7 z q.symm
  have he7:s7.heap.get? ex=some oe:=(sb7.2 ex ne7).trans he;have I8:=I7'.track (a:=ex) (φ:=Dq ex c) hexH hex0 hexL cellNe pinNe ⟨oe,vs,he7,hce.1,hde⟩ ⟨oe,he7⟩ (λg1 g2 ⟨o,ws,q1,q2,q3⟩ k=>⟨o,ws,k o q1,q2,q3⟩);have hgo:=hh (X.pn++pins) ex [] s7 _ _ _ I8 (hth ex hexH);refine wpAny_mono hgo (λfl s9 q9=>?_) λ_ _ z=>z.elim;have goes:∀{Z':St} {H':Hp} {Q:Unit->Shared->Prop},Inv (X.suite (X.pn++pins) ex) [] Z' H' s9->(∀s10,Inv X pins (Z'.set i none) H' s10->Q () s10) ->
    wpAny (model X.prog X.w) X.A (do bindName X.env n .none;unbindBehindTheSuite X.env n hpos) Q X.xe s9:=λ{Z' H' Q} J k=>by
   have JX:Inv X pins Z' H' s9:=J.back I.ok hsubs';obtain⟨m,hns,hlk⟩:=JX.loc;refine wpAny_nameGoes_keeps hl hns (by rw[I.ok.kind];rfl) λh' v hn' hs'=>?_;exact k _ (JX.unbind hN hi hl hlk hn' hs')
  cases fl with
  | next=>
   obtain⟨Z',H',J,q⟩:=q9;exact goes J λs10 I10=>⟨_,H',I10,q⟩
  | brk=>
   obtain⟨Z',H',J,q⟩:=q9;exact goes J λs10 I10=>⟨_,H',I10,q⟩
  | cont=>
   obtain⟨Z',H',J,q⟩:=q9;exact goes J λs10 I10=>⟨_,H',I10,q⟩
  | ret u=>
   obtain⟨v, Z',H',J,r,q⟩:=q9;exact goes J λs10 I10=>⟨v,_,H',I10,r,q⟩
end
section
variable {X:Cx}{pos p2:Pos}{e:Expr}{te:TE}
def tRev (K:Za) (te:TE):TE:=fun Z H Q=>te Z H λx H1=>∃a xs,x = .ref a/\SqL K H1 a xs/\∀p,H1 p=none->Q (.ref p) (upd H1 p (.lst xs.reverse))
def Mb{k}{p3 p4}(he:PE X e te):PE X (.Subscript e (.Slice none none (some (.UnaryOp .USub (.Constant (.int 1) k p3) p4)) p2) pos) (tRev X.K te):=by
 intro pins s Z H Q I h;refine Subscript_ (thn (he pins s Z H _ I h) λv s1 ⟨x,H1,I1,r1,q1⟩=>?_);have hstep:PE X (.UnaryOp .USub (.Constant (.int 1) k p3) p4) (tUn (rU λi=>.int (-i)) (tC (.int 1))):=Xai Xam Af;refine wpAny_Slice ?_;rw[evalPart_none];refine Tb (Tb ?_);rw[evalPart_some];refine thn (hstep pins s1 Z H1 (λy H2=>y = .int (-1)/\H2=H1) I1 ⟨1,rfl,rfl,rfl⟩) λu s2 ⟨y,H2,I2,r2,ey,eH⟩=>?_;subst ey eH;obtain⟨t,rfl⟩:=r2;obtain⟨a,xs,ex,hx,q⟩:=q1;subst ex;cases r1;obtain⟨its,r,ht,hz⟩:=I2.list hx;have I4:Inv X pins Z H2 {s2 with heap:=s2.heap.push {cls:=.type "slice",data:=.fields #[.none,.none,.int (-1) t]} }:=I2.kept (t':=s2.toks) λb ob q=>Tm _ q;obtain⟨its4,r4,ht4,hz4⟩:=I4.list hx;have hlen:=r4.length;refine tail_any (ops:=[.ref a,.ref s2.heap.objs.size]) ht4.isList.typeIs slot_list_getitem.lookup (wpAny_getItem_list_slice ht4.isList (Heap.IsSliceOf.new ..) .none .none (.int (-1) t) (by simp) ?_ (by rw[Ol]<;>omega)) (by with_unfolding_all rfl);rw[PySem.W.krv_pick];refine⟨.ref _,_,I4.laid (t':=s2.toks) (o:=.lst xs.reverse) (λb ob q=>Tm _ q) (Oj _) ?_,rfl,q _ (I4.hok.fresh (Oj _))⟩;exact⟨by rw[Qh];exact hz4,_,0,Vals.reverse r4,Heap.get?_push_size _ rfl⟩
def Ca (xs ys:List V):Bool:=(xs.length==ys.length)&&(List.range xs.length).all λj=>eqV (xs.getD j .non) (ys.getD j .non)
def Mc:∀(xs ys:Zb),Ca (xs.map V.str) (ys.map V.str)=decide (xs=ys):=by
 intro xs ys;unfold Ca;rw[Oh,Oh];by_cases e:xs=ys
 ·subst e;simp only[beq_self_eq_true,Qg,decide_true];rw[O9];intro j hj;have hj':j<xs.length:=P1.mp hj;simp[List.getD,hj',eqV]
 ·rw[Ti e];by_cases hl:xs.length=ys.length
  ·cases hb:((xs.length==ys.length)&&(List.range xs.length).all λj=>eqV ((xs.map V.str).getD j .non) ((ys.map V.str).getD j .non)) with
   | false=>rfl
   | true=>
    exfalso;refine e (Rx hl λj h1 h2=>?_);rw[O4,O9] at hb;have q:=hb.2 j (P1.mpr h1);simp[List.getD,h1,h2,eqV] at q;exact q
  ·have:(xs.length==ys.length)=false:=by simpa using hl
   rw[this,P7]
def Xbs (K:Za) (g:Bool->Bool):R2:=λx y H Q=>∃a b xs ys,x = .ref a/\y = .ref b/\SqL K H a xs/\SqL K H b ys/\(∀v∈xs,B1 v=true)/\(∀v∈ys,B1 v=true)/\Q (.bl (g (Ca xs ys))) H
def Xbt{A}{s}{xs ys}{us vs}(rx:Vals xs us)(ry:Vals ys vs)(fx:∀v∈xs,B1 v=true)(fy:∀v∈ys,B1 v=true)(j)(h1:j<us.toArray.size)(h2:j<vs.toArray.size):
  SeqAt.EqAt A s us.toArray[j] vs.toArray[j] (eqV (xs.getD j .non) (ys.getD j .non)):=by
 have l1:=rx.length;have l2:=ry.length;rw[Ol] at h1 h2;have g1:xs[j]? = some (xs[j]'(by omega)):=Oi (by omega);have g2:ys[j]? = some (ys[j]'(by omega)):=Oi (by omega);obtain⟨u,hu,ru⟩:=rx.get g1;obtain⟨v,hv,rv⟩:=ry.get g2;have e1:us.toArray[j]=u:=by
  rw[Sf];rw[Oi h1] at hu;exact O0 hu
 have e2:vs.toArray[j]=v:=by
  rw[Sf];rw[Oi h2] at hv;exact O0 hv
 rw[e1,e2];have d1:xs.getD j .non=xs[j]'(by omega):=by simp[List.getD,g1]
 have d2:ys.getD j .non=ys[j]'(by omega):=by simp[List.getD,g2]
 rw[d1,d2];exact Xa7 ru rv (fx _ (Pa _)) (fy _ (Pa _))
def Xbu(hu:X.A.units<cLine):OpR X (compareOp .Eq) (Xbs X.K id):=by
 intro pins s Z H x y v u Q I rx ry h;obtain⟨a,b,xs,ys,rfl,rfl,hx,hy,fx,fy,q⟩:=h;cases rx;cases ry;obtain⟨us,r1,p1,z1⟩:=I.list hx;obtain⟨vs,r2,p2,z2⟩:=I.list hy;have l1:=r1.length;have l2:=r2.length;by_cases hl:xs.length=ys.length
 ·refine SeqAt.eq_listAt (e:=λj=>eqV (xs.getD j .non) (ys.getD j .non)) p1.isList p2.isList (by rw[Ol,Ol];omega) hu (λj h1 h2=>Xbt r1 r2 fx fy j h1 h2) ?_;refine⟨.bl (Ca xs ys),H,I,?_,q⟩;show Value.bool _=Value.bool (Ca xs ys);unfold Ca;rw[Ol,<-l1,hl,beq_self_eq_true,Qg]
 ·refine SeqAt.eq_list_lengthsAt p1.isList p2.isList (by rw[Ol,Ol];simpa using (by omega:us.length≠vs.length)) hu ?_;refine⟨.bl (Ca xs ys),H,I,?_,q⟩;show Value.bool _=Value.bool (Ca xs ys);unfold Ca;have:(xs.length==ys.length)=false:=by simpa using hl
  rw[this,P7]
def Xbv(hu:X.A.units<cLine):OpR X (compareOp .NotEq) (Xbs X.K not):=by
 intro pins s Z H x y v u Q I rx ry h;obtain⟨a,b,xs,ys,rfl,rfl,hx,hy,fx,fy,q⟩:=h;cases rx;cases ry;obtain⟨us,r1,p1,z1⟩:=I.list hx;obtain⟨vs,r2,p2,z2⟩:=I.list hy;have l1:=r1.length;have l2:=r2.length;by_cases hl:xs.length=ys.length
 ·refine SeqAt.RcNeAt.lists (e:=λj=>eqV (xs.getD j .non) (ys.getD j .non)) p1.isList p2.isList (by rw[Ol,Ol];omega) hu (λj h1 h2=>Xbt r1 r2 fx fy j h1 h2) _ _ _ _ ?_;refine⟨.bl (!Ca xs ys),H,I,?_,q⟩;show Value.bool _=Value.bool (!Ca xs ys);unfold Ca;rw[Ol,<-l1,hl,beq_self_eq_true,Qg]
 ·refine SeqAt.RcNeAt.lists_lengths p1.isList p2.isList (by rw[Ol,Ol];simpa using (by omega:us.length≠vs.length)) hu _ _ _ _ ?_;refine⟨.bl (!Ca xs ys),H,I,?_,q⟩;show Value.bool _=Value.bool (!Ca xs ys);unfold Ca;have:(xs.length==ys.length)=false:=by simpa using hl
  rw[this,P7,Bool.not_false]
def Xij (K:Za) (n:Nat) (t:TGs):TG:=λv Z H Q=>∃a xs,v = .ref a/\SqL K H a xs/\xs.length=n/\t xs Z H Q
def Xik{es:List Expr}{k:Nat}{t:TGs}{n:Nat}(hc:X.calm=true)(h:PGs X es t)
  (hn:(assignEach es X.env).length=n:=by rfl) (hst:(assignEach es X.env).findIdx? (·.1)=none:=by rfl):PG X (.Tuple es k pos) (Xij X.K n t):=by
 intro pins s Z H v u Q I r hw;obtain⟨a,xs,e1,hq,hl,hw⟩:=hw;subst e1;cases r;obtain⟨its,rv,ht,hz⟩:=I.list hq;rw[assign_Tuple];refine Ta (wpAny_standAt ?_);unfold unpack;have hlen:(assignEach es X.env).length=its.toArray.size:=by rw[hn,<-hl,Ol];exact rv.length
 rw[hlen,hst];refine Ta (wpAny_holding (PySem.W.kun_itemsOf (I.ok.hd hc) ht.isList λh' hx=>?_));have I1:Inv X pins Z H {s with heap:=h'}:=I.kept (t':=s.toks) λb o e=>hx b o (Ow (Tl e)) e;exact h pins _ Z H xs _ Q I1 (by simpa using rv) hw
def repS (z:Str) (n:Nat):Str:=⟨(List.replicate n z.cps).foldl (· ++ ·) #[]⟩
def Xil(z):repS z 1=z:=by
 obtain⟨c⟩:=z;show (⟨(#[]:Array Nat)++c⟩:Str)=⟨c⟩;rw[Array.empty_append]
theorem Xbw(z):∀(n:Nat) (a:Array Nat),((List.replicate n z).foldl (· ++ ·) a).size=a.size+n * z.size
 | 0,a=>by simp
 | n+1,a=>by
  rw[Qx,List.foldl_cons,Xbw z n,Array.size_append,Nat.succ_mul];omega
def Md(z)(n):(repS z n).length=n * z.length:=by
 have e:=Xbw z.cps n #[];show ((List.replicate n z.cps).foldl (· ++ ·) #[]).size=n * z.cps.size;simpa using e
def Xim{z}(h:z.length=0)(n):repS z n=z:=by
 have e:=Md z n;rw[h,Nat.mul_zero] at e;generalize repS z n=y at e;obtain⟨c⟩:=z;obtain⟨d⟩:=y;have h':c.size=0:=h;have e':d.size=0:=e;rw[Array.size_eq_zero_iff] at h' e';rw[h',e']
def Xin:OpR X (binaryOp .Mult) (λx y H Q=>∃z n,x = .str z/\y = .int n/\0<=n/\n<=1000/\z.length<=1000/\Q (.str (repS z n.toNat)) H):=by
 intro pins s Z H x y v u Q I rx ry h;obtain⟨z,n,rfl,rfl,h0,h1,hz,q⟩:=h;obtain⟨t,rfl⟩:=rx;obtain⟨t',rfl⟩:=ry;have hle:z.length * n.toNat<=1000 * 1000:=Nat.mul_le_mul hz (by omega);refine PySem.P.mul_str ?_ (λhn hz1=>?_) (λhn hz1=>?_) ?_
 ·have h2:¬n < -(2 ^ 63:Int):=by omega
  have h3:¬n ≥ 2 ^ 63:=by omega
  rw[Ti h2,Ti h3];rfl
 ·have h4:(1000:Int)<=(2 ^ 63 - 1) / n:=by
   refine(Int.le_ediv_iff_mul_le (by omega)).mpr ?_;have:(1000:Int) * n<=1000 * 1000:=by omega
   omega
  omega
 ·show Builtin.Str.tooLong _=false;unfold Builtin.Str.tooLong
  first
   | (refine Ti ?_;have:=hle;rw[Te];omega)
   | (simp;omega)
 ·by_cases hn:n<1
  ·rw[Tg hn];have:n=0:=by omega
   subst this;exact⟨by decide,.str Str.empty,H,I.tok _,⟨_,rfl⟩,q⟩
  ·rw[Tf hn];by_cases hc:(n==1||z.length==0)=true
   ·rw[Tg hc];have e:repS z n.toNat=z:=by
     rcases Sk.mp hc with e | e
     ·have e':n=1:=by simpa using e
      subst e';exact Xil z
     ·exact Xim (by simpa using e) _
    rw[e] at q;exact⟨.str z,H,I,⟨_,rfl⟩,q⟩
   ·rw[Tf hc];refine⟨?_,.str (repS z n.toNat),H,I.tok _,⟨_,rfl⟩,q⟩;show (repS z n.toNat).length<=sizeLine;rw[Md,Nat.mul_comm,Te];omega
def F6:X.calm=true->Bv X (.builtin "all") (λxs H Q=>∃(a:Addr) (bs:List Bool),xs=[.ref a]/\H a=some (.lst (bs.map V.bl))/\Q (.bl (bs.all id)) H):=by
 intro hc pins s Z H xs us Q I r h;obtain⟨a,bs,rfl,ha,q⟩:=h;obtain⟨u,rfl,ru⟩:=Co r;cases ru;obtain⟨its,rv,p,hz⟩:=I.list (SqL.of ha);have hl:=rv.length;rw[Oh] at hl;refine call_all_walk (wpAny_pyIter_list p.isList ?_);have hlt:a≠s.heap.objs.size:=by
  obtain⟨o,ho,_⟩:=p.isList;exact Ow (Tl ho)
 refine⟨s.heap.objs.size,_,_,_,_,_,λj=>bs.getD j false,rfl,Walks.list (A:=X.A.in1) (show X.A.in1.handled=none from I.ok.hd hc) s.heap.objs.size a hlt its.toArray,⟨⟨_,Heap.get?_push_size _ rfl,rfl,rfl⟩,p.isList.push _⟩,λi v s' Q' E' hP hQ=>?_,λh' tk k=>?_⟩
 ·have hv:its[i]? = some v:=by simpa using hP
  have hi:i<its.length:=(Oy.mp hv).1;have g:(bs.map V.bl)[i]? = some (.bl (bs[i]'(by omega))):=by
   rw[Ox,Oi (by omega)];rfl
  obtain⟨u,hu,ru⟩:=rv.get g;rw[hv] at hu;cases hu;cases ru;have e:bs.getD i false=bs[i]'(by omega):=by simp[List.getD,(by omega:i<bs.length)]
  have hQ':Q' (bs.getD i false) s':=hQ;rw[e] at hQ';exact wpAny_truthy_bool hQ'
 ·refine⟨.bl (bs.all id),H,I.kept (t':=tk) λb o e=>k b o (λz=>?_) (Tm _ e),?_,q⟩
  ·have z':b=s.heap.objs.size:=by simpa using z
   exact absurd (Tl e) (by rw[z'];exact P5 _)
  ·show Value.bool _=Value.bool _;congr 1;rw[Ol,<-hl];rw[Qe,O9,O9];constructor
   ·intro hx b hb;obtain⟨j,hj,rfl⟩:=Po.mp hb;have:=hx j (P1.mpr hj);simpa [List.getD,hj] using this
   ·intro hx j hj;have hj':=P1.mp hj;have:=hx _ (Pa hj');simpa [List.getD,hj'] using this
end
def Itd (d:Addr) (o:Obj) (kvs:List (Key×V)):It:=
 ⟨λi H=>H d=some (.frz o (.dK kvs))/\i<kvs.length,λi H x H'=>H'=H/\∃p,kvs[i]? = some p/\x=kV p.1,λi H=>H d=some (.frz o (.dK kvs))/\kvs.length<=i⟩
def Xio{P}{w}{k}{u}(h:(Be P w).is k u=true):Ai (kV k) u:=by
 rcases Dx (show Ec k u=true from h) with ⟨i,t,rfl,rfl⟩ | ⟨x,t,rfl,rfl⟩
 ·exact⟨t,rfl⟩
 ·exact⟨t,rfl⟩
theorem Xbx:∀{kvs:List (Key×V)} {vs:List (Key×Value)} {i:Nat} {p:Key×V},KV kvs vs->kvs[i]? = some p->∃u,vs[i]? = some (p.1,u)
 | _,_,_,_,.nil,e=>by simp at e
 | _,_,0,p,.cons (b:=b) r _,e=>by
  simp at e;subst e;obtain⟨k,u⟩:=b;obtain⟨r1,r2⟩:=r;exact⟨u,by simp only[List.getElem?_cons_zero,Option.some.injEq,Prod.mk.injEq];exact⟨r1.symm,trivial⟩⟩
 | _,_,i+1,p,.cons _ t,e=>by
  obtain⟨u,h⟩:=Xbx (i:=i) t (by simpa using e);exact⟨u,by simpa using h⟩
def Me{P:Program}{w:World}{K:Za}{tg:Expr}(d it:Addr)(o:Obj)(es:Array DictEntry)(ep:Nat)(hd:o.data = .dict es ep)(kvs:List (Key×V))(hne:d≠it):
  Turn P w K tg (Itd d o kvs) [it] it (λi h=>h.IsKeyIter it d i kvs.length ep) where
 mem:=by simp
 obj:=λi h st b hb=>by
  have e:b=it:=by simpa using hb
  subst e;obtain⟨o,e,c,d⟩:=st;exact⟨o,e,λv z=>by rw[d] at z;cases z⟩
 keep:=λi h h' st k=>by
  obtain⟨o,e,r⟩:=st;exact⟨o,k it (by simp) o e,r⟩
 item:=by
  intro X hP hw hK hc i pins s Z H E I hf st hg;subst hP hw hK;obtain⟨hH,hi⟩:=hg;obtain⟨ho,hz,hm,vs,rv,o',es',ep',ho',hex,hd',r'⟩:=I.hok d _ hH;rw[ho] at ho';cases ho';rw[hd] at hd';cases hd';have hlen:kvs.length=vs.length:=Paired.length rv;obtain⟨f0,f1,f2,f3,f4,f5⟩:=hf it (by simp);have hp:kvs[i]? = some (kvs[i]'hi):=Oi hi;obtain⟨u,hu⟩:=Xbx rv hp;rw[hlen] at st;refine wpAny_pyNext_dict_item (knd:=Be X.prog X.w) st ⟨o,es,ho,hex,hd,r'⟩ hu λkey h' hk st' sb=>?_;have I1:Inv X pins Z H {s with heap:=h'}:=I.turned (t':=s.toks) (λb o hb e=>(sb.2 b hb).trans e) f0 f1 f3 f4 f5;obtain⟨o2,e2,c2,d2⟩:=id st';refine⟨key,rfl,Jg (s:={s with heap:=h'}) e2 c2 d2 (by decide) ⟨_,H,I1,Xio hk,⟨rfl,_,hp,rfl⟩,?_,λb hb=>(hf b hb).1⟩⟩;rw[hlen];exact st'
 done:=by
  intro X hP hw hK hc i pins s Z H E I hf st hg;subst hP hw hK;obtain⟨hH,hi⟩:=hg;obtain⟨ho,hz,hm,vs,rv,o',es',ep',ho',hex,hd',r'⟩:=I.hok d _ hH;rw[ho] at ho';cases ho';rw[hd] at hd';cases hd';have hlen:kvs.length=vs.length:=Paired.length rv;obtain⟨f0,f1,f2,f3,f4,f5⟩:=hf it (by simp);rw[hlen] at st;exact wpAny_pyNext_dict_end (knd:=Be X.prog X.w) (I.ok.hd hc) st ⟨o,es,ho,hex,hd,r'⟩ (Qo (by omega)) λh' eb=>⟨rfl,I.turned (t':=s.toks) (λb o hb e=>eb b o hb e) f0 f1 f3 f4 f5⟩
 self:=λA i s Q E st h=>by
  refine wpAny_pyIter_slot st.typeIs PySem.F.slot_dict_keyiterator_iter (wpAny_call_entry PySem.F.slot_dict_keyiterator_iter st.typeIs PySem.F.entry_dict_keyiterator_iter ?_ (PySem.F.args_dict_keyiterator_iter_1 _));show wpAny _ _ (ret (.ref it)) _ _ s;exact Tb ⟨_,rfl, "dict_keyiterator",_,st.typeIs,PySem.F.slot_dict_keyiterator_next.lookup,h⟩
section
variable {X:Cx}{tg:Expr}
def Inv.freeze{pins}{Z:St}{H}{s}{d}{kvs}{o}(I:Inv X pins Z H s)(hH:H d=some (.dK kvs))(ho:s.heap.get? d=some o):Inv X pins Z (upd H d (.frz o (.dK kvs))) s:=by
 have ne:∀{b:Addr} {u:HO},H b=some u->(HO.dK kvs≠u)->b≠d:=λ{b u} e n=>Xaa e hH (λz=>n z.symm);refine⟨I.ok,I.os,I.bare,⟨I.base.keep,I.base.slot,λb ob e n hx=>?_,I.base.there,λb xs e=>?_,λb ob u e=>?_,λb ps e=>?_⟩,I.loc,I.cell,?_,λx c e=>?_,λp hp'=>?_,λb ob e=>?_,I.len⟩
 ·have q:=I.base.free b ob e n hx;rw[Ad (λz=>by rw[z,hH] at q;cases q)];exact q
 ·have q:=I.base.tups b xs e;rw[Ad (ne q (by simp))];exact q
 ·have q:=I.base.frzs b ob u e;rw[Ad (ne q (by simp))];exact q
 ·obtain⟨more,q⟩:=I.base.tbls b ps e;exact⟨more,by rw[Ad (ne q (by simp))];exact q⟩
 ·rw[Ad (λz=>by have:=I.free;rw[z,hH] at this;cases this)];exact I.free
 ·have q:=I.freeC x c e;rw[Ad (λz=>by rw[z,hH] at q;cases q)];exact q
 ·obtain⟨e,n,r⟩:=I.pin p hp';exact⟨e,by rw[Ad (λz=>by rw[z,hH] at n;cases n)];exact n,r⟩
 ·by_cases hb:b=d
  ·subst hb;rw[Ab] at e;cases e;exact⟨ho,(I.hok b _ hH).stay (λ_ _ _ q=>q) (λc q=>by rw[Ad (ne q (by simp))];exact q) λc xs q=>by rw[Ad (ne q (by simp))];exact q⟩
  ·rw[Ad hb] at e;exact(I.hok b ob e).stay (λ_ _ _ q=>q) (λc q=>by rw[Ad (ne q (by simp))];exact q) λc xs q=>by rw[Ad (ne q (by simp))];exact q
def Xip (tl:TE):TI:=fun Z H R=>tl Z H λx H1=>∃d kvs,x = .ref d/\H1 d=some (.dK kvs)/\∀o,R (Itd d o kvs) (upd H1 d (.frz o (.dK kvs)))
def Xiq{l}{tl}(hl:PE X l tl):PI X tg l (Xip tl):=by
 intro pins s Z H R I h;refine thn (hl pins s Z H _ I h) λv s1 ⟨x,H1,I1,r1,q1⟩=>?_;obtain⟨d,kvs,e,hH,q⟩:=q1;subst e;cases r1;obtain⟨hz,hm,vs,rv,o,es,ep,ho,hex,hd,r⟩:=I1.hok d _ hH;have hlen:kvs.length=vs.length:=Paired.length rv;refine wpAny_pyIter_dict (knd:=Be X.prog X.w) hm ⟨o,es,ho,hex,hd,r⟩ ?_;have I2:=I1.freeze hH ho;refine⟨s1.heap.objs.size,[s1.heap.objs.size],_,_,_,rfl,I2.kept (t':=s1.toks) λb o e=>Tm _ e,Me d _ o es ep hd kvs (Ow (Tl ho)),⟨_,Heap.get?_push_size _ rfl,rfl,by rw[hlen];rfl⟩,λb hb=>?_,q o⟩;have e:b=s1.heap.objs.size:=by simpa using hb
 subst e;exact I2.fpOk (Oj _) (I2.hok.fresh (Oj _))
end
def PJ (X:Cx) (es:List Expr) (t:St->Hp->(Hp->Prop)->Prop):Prop:=
 ∀(out:Str) (pins:List (Addr×Obj)) (s:Shared) (Z:St) (H:Hp) (Q:Hp->Prop),Inv X pins Z H s->t Z H Q->out.length+5000 * es.length<=sizeLine ->
  wpAny (model X.prog X.w) X.A (joinParts out (evalEach es X.env)) (λu s'=>∃z tk H',u = .str z tk/\Inv X pins Z H' s'/\Q H') X.xe s
def Xby:St->Hp->(Hp->Prop)->Prop:=λ_ H Q=>Q H
def Xbz (t:St->Hp->(Hp->Prop)->Prop):St->Hp->(Hp->Prop)->Prop:=t
section
variable {X:Cx}{es:List Expr}{t:St->Hp->(Hp->Prop)->Prop}{e:Expr}{te:TE}{pos:Pos}
def Mf:PJ X [] Xby:=λout pins s Z H Q I h hz=>joinParts_nil ⟨out,_,H,rfl,I.tok _,h⟩ (by simpa using hz)
def Dr(a b:Str):(a++b).length=a.length+b.length:=strLen_append a b
def Hk{z:Str}{k:Nat}{p:Pos}(hz:z.length<=5000)(h:PJ X es t)(he:evalEach (.Constant (.str z) k p::es) X.env=eval (.Constant (.str z) k p) X.env::evalEach es X.env:=by rfl):PJ X (.Constant (.str z) k p::es) (Xbz t):=by
 intro out pins s Z H Q I hw hl;rw[he];rw[Pe] at hl;refine joinParts_cons (Calls.Constant_str ⟨by rw[Dr];omega,?_⟩);exact h (out++z) pins _ Z H Q (I.tok _) hw (by rw[Dr];omega)
def Xb0 (t:St->Hp->(Hp->Prop)->Prop):TE:=fun Z H Q=>t Z H λH1=>∀z,Q (.str z) H1
def Mg{a b:Expr}(h:PJ X (a::b::es) t)(hz:5000 * (a::b::es).length<=sizeLine:=by decide)(he:evalEach (a::b::es) X.env=eval a X.env::eval b X.env::evalEach es X.env:=by rfl):PE X (.JoinedStr (a::b::es) pos) (Xb0 t):=by
 intro pins s Z H Q I hw;refine JoinedStr_many ?_;rw[<-he];refine thn (h Str.empty pins s Z H _ I hw (by rw[show Str.empty.length=0 from rfl];omega)) λu s' ⟨z,tk,H',e,I',q⟩=>?_;subst e;exact⟨.str z,H',I',⟨tk,rfl⟩,q z⟩
end
end L2
namespace L2
open PySem.Calls Builtin Builtin.ObjectAttr Builtin.Getset_descriptor
structure ExcF (K:Za) (C:Addr):Prop where
 ga:findIn K (.ref C) "__getattribute__" = some (some (.builtin "BaseException.__getattribute__"))
 gn:findIn K (.ref C) "__getattr__" = some none
 cl:findIn K (.ref C) "__class__" = some (some (.builtin "object.__class__"))
 sb:subIn K (.ref C) (.type "BaseException")=some true
 so:subIn K (.ref C) (.type "object")=some true
 ic:(clsIn K C).isSome=true
section
variable {prog:Program}{w:World}{A:Around}{E:Zc}{K:Za}{C a:Addr}{h:Heap}{g:Array GenState}{d:Drawn}{t:Nat}{os:OsState}
open PySem.W in
def Hl{M:Model}(p:Dq a C h):Looks M h (typeOf (.ref a)) (.ref C):=by
 obtain⟨o,vs,h1,h2,h3⟩:=p;exact h2 ▸ (Looks.ld h1).andThen .now
open PySem.W in
def Xir{R:Result->Shared->Prop}(X:K.In h)(F:ExcF K C)(p:Dq a C h)(hq:R (.ok (.ret (.ref C))) ⟨h,g,d,t,os⟩):
  codeAny (model prog w) A (.call (.builtin "getset_descriptor.__get__") ⟨[.builtin "object.__class__",.ref a,.ref C],[]⟩) R ⟨h,g,d,t,os⟩:=by
 have L0:=Hl (M:=model prog w) p;have L1:Looks (model prog w) h (isSubtype (.ref C) (.type "object")) true:=looks_subIn X F.so;refine codeAny_call_builtin KF.slot_gs.plain KF.entry_gs (KF.slot_gs.check _ _ _ _ _ _ _ _ KF.type_class (KF.args_gs _ _ _) ?_);unfold Builtin.«getset_descriptor.__get__» descrGet;rw[dga_obj];refine Ta (Tb ?_);unfold descrGetter descrCheckInstance descrNameAndClass isInstance;simp only[KF.owner_class]
 repeat lk
 refine⟨Code.quiet_builtin _ (by decide +kernel),codeAny_builtin KF.entry_class ?_⟩;unfold Builtin.«object.__class__» shownTypeOf
 repeat lk
 exact hq
open PySem.W in
def Xis{tk:Tok}{Q:Fin->Shared->Prop}(X:K.In h)(F:ExcF K C)(p:Dq a C h)(hq:Q (.done (.ret (.ref C))) ⟨h,g,d,t,os⟩):
  wpAny (model prog w) A (Builtin.«object.__getattribute__» ⟨[.ref a,.str "__class__" tk],[]⟩) Q E ⟨h,g,d,t,os⟩:=by
 have L0:=Hl (M:=model prog w) p;have L1:=looks_findIn (M:=model prog w) X F.cl;have hT5:(⟨h,g,d,t,os⟩:Shared).TypeIs (.builtin "object.__class__") "getset_descriptor" := PySem.F.typeOf_object_class;have f5:=PySem.F.typeOf_object_class;have f6:=PySem.F.slot_gs_get.lookup;have f7:=PySem.F.slot_gs_set.lookup
 repeat (any_goals (first | assumption | (refine Ta (L0.at ?_)) | (refine Ta (L1.at ?_)) | wp_step))
 refine Xir X F p ?_
 repeat (any_goals (first | assumption | wp_step))
open PySem.W in
def Xit{M:Model}{nameV:Value}{Q:Unit->Shared->Prop}(X:K.In h)(F:ExcF K C)(p:Dq a C h)(hq:Q () ⟨h,g,d,t,os⟩):wpAny M A (checkBuiltinCall "BaseException.__getattribute__" ⟨[.ref a,nameV],[]⟩) Q E ⟨h,g,d,t,os⟩:=by
 have hk:builtinKind "BaseException.__getattribute__" = some .slot:=by decide +kernel
 have hsplit:splitId "BaseException.__getattribute__" = some ("BaseException", "__getattribute__"):=by decide +kernel
 have L0:=Hl (M:=M) p;have L1:Looks M h (isSubtype (.ref C) (.type "BaseException")) true:=looks_subIn X F.sb;have LI:Looks M h (isInstance (.ref a) (.type "BaseException")) true:=L0.andThen L1;have ha:=PySem.F.args_bexc_ga (.ref a) nameV;simp only[checkBuiltinCall,hk,hsplit];refine Ta (LI.at ?_)
 repeat (first | assumption | wp_step)
open PySem.W in
def Xiu{tk:Tok}{R:Result->Shared->Prop}(X:K.In h)(F:ExcF K C)(p:Dq a C h)(hq:R (.ok (.ret (.ref C))) ⟨h,g,d,t,os⟩):
  codeAny (model prog w) A (.call (.builtin "BaseException.__getattribute__") ⟨[.ref a,.str "__class__" tk],[]⟩) R ⟨h,g,d,t,os⟩:=
 codeAny_call_builtin (by decide +kernel) PySem.F.entry_bexc_ga (Xit X F p (Xis X F p hq))
open PySem.W in
def Xiv{tk:Tok}{Q:Zc}(X:K.In h)(F:ExcF K C)(p:Dq a C h)(hq:Q (.ref C) ⟨h,g,d,t,os⟩):
  wpAny (model prog w) A (getAttrBy (.ref a) (.str "__class__" tk) false) Q E ⟨h,g,d,t,os⟩:=by
 have L0:=Hl (M:=model prog w) p;have L1:=looks_findIn (M:=model prog w) X F.ga;have L2:=looks_findIn (M:=model prog w) X F.gn;have f3:bindSpecial (.builtin "BaseException.__getattribute__") (.ref a)=pure (.builtin "BaseException.__getattribute__",[.ref a]):=PySem.F.excAttr_ValueError.ga.bind (.ref a);have hx2:(Value.builtin "BaseException.__getattribute__" == Value.builtin "object.__getattribute__")=false:=by decide +kernel
 have hx1:(onTheHeap (Value.ref C)&&Value.builtin "BaseException.__getattribute__" == Value.builtin "object.__getattribute__")=false:=by rw[hx2];rfl
 repeat (any_goals (first | assumption | (refine Ta (L0.at ?_)) | (refine Ta (L1.at ?_)) | (refine Ta (L2.at ?_)) | wp_step))
 refine Xiu X F p ?_
 repeat (any_goals (first | assumption | wp_step))
open PySem.W in
def Xiw{Q:Option Value->Shared->Prop}(X:K.In h)(F:ExcF K C)(p:Dq a C h)(hq:Q (some (.ref C)) ⟨h,g,d,t+1,os⟩):wpAny (model prog w) A (getAttr? (.ref a) "__class__") Q E ⟨h,g,d,t,os⟩:=by
 unfold getAttr? getAttrBy?
 repeat (any_goals (first | assumption | with_reducible apply Xiv X F p | wp_step))
end
end L2
namespace L2
def Xix{K:Za}{C a:Addr}(F:ExcF K C):KitX K (.ref a) (.ref C) (Dq a C) where
 ty:=λM h X p=>Hl p
 it:=λM h X p=>by
  have z:=F.ic;unfold clsIn at z;split at z
  ·rename_i c' d' cd' sl' ho;intro A' Q' E' s' k q;unfold isType loadHead;exact Ta (wpAny_loadPart (k _ _ (X _ _ ho)) (Tb q))
  ·cases z
 ne:=λh tp dd its n sl X htp=>by
  refine Rg.mpr λq=>?_;have e:C=tp:=Value.ref.inj (beq_iff_eq.mp q);subst e;have z:=F.ic;unfold clsIn at z;split at z
  ·rename_i c' d' cd' sl' ho;have z:=(X _ _ ho).symm.trans htp;cases z
  ·cases z
 ca:=λ{prog w A E Q s} X p k=>by
  obtain⟨h,g,d,t,os⟩:=s;exact Xiw X F p k
def Hm:V->Option Value
 | .ty n=>some (.type n)
 | .ref a=>some (.ref a)
 | _=>none
def Xb1{c}{u v}(r:Ai c u)(h:Hm c=some v):u=v:=by
 cases c with
 | ty n=>cases r;exact O0 h
 | ref a=>cases r;exact O0 h
 | _=>cases h
section
variable {X:Cx}
def Jp:Bv X (.builtin "isinstance") (λxs H Q=>∃x c t cv b,xs=[x,c]/\TyOf X.K H x t/\Hm c=some cv/\kitOne X.K t cv=some b/\Q (.bl b) H):=by
 intro pins s Z H xs us Q I r h;obtain⟨x,c,t,cv,b,rfl,ty,hc,e,q⟩:=h;obtain⟨u,v,rfl,ru,rv⟩:=r.two;have:=Xb1 rv hc;subst this;exact Xg0 I ru ty e λtk=>⟨.bl b,H,I.tok _,rfl,q⟩
def Xiy:Bv X (.builtin "isinstance") (λxs H Q=>∃a C c cv b,xs=[.ref a,c]/\H a=some (Fj a C)/\ExcF X.K C/\Hm c=some cv/\kitOne X.K (.ref C) cv=some b/\Q (.bl b) H):=by
 intro pins s Z H xs us Q I r h;obtain⟨a,C,c,cv,b,rfl,ha,F,hc,e,q⟩:=h;obtain⟨u,v,rfl,ru,rv⟩:=r.two;have:=Xb1 rv hc;subst this;cases ru;obtain⟨p,_⟩:=(show A4 X.prog X.w H s.heap a (.ext (Dq a C)) from I.hok a _ ha);exact kia_one (Xix F) I.kIn p e (λz=>nomatch z) λtk=>⟨.bl b,H,I.tok _,rfl,q⟩
end
def wN (n:Nat) (Pv:Nat->St->Hp->Prop):Nat->Nat->St->Hp->Prop:=λi m Z H=>m=n - i/\i<=n/\Pv i Z H
def wput{n i}{Pv}{Z}{H}{D}{y}{ys}(hi:i<n)(hD:H D=some (.lst ys))(hl:ys.length<sizeLine)(p:Pv (i+1) Z (upd H D (.lst (ys++[y])))):
  ∃ys,H D=some (.lst ys)/\ys.length<sizeLine/\∃m',m'<n - i/\wN n Pv (i+1) m' Z (upd H D (.lst (ys++[y]))):=⟨ys,hD,hl,n - (i+1),by omega,rfl,hi,p⟩
def wskip{n i}{Pv}{Z}{H}(hi:i<n)(p:Pv (i+1) Z H):∃m',m'<n - i/\wN n Pv (i+1) m' Z H:=⟨n - (i+1),by omega,rfl,hi,p⟩
def Ey{cap}{g}{tt}{te}{J}{Z}{H1}{F}(n:Nat)(vs:Nat->V)(Pv:Addr->Nat->St->Hp->Prop)
  (h0:∀D,H1 D=none->Pv D 0 (Br cap Z) (upd H1 D (.lst [])))
  (hgo:∀D i Z2 H2,H1 D=none->i<n->Pv D i Z2 H2->J.go i H2/\∀x H3,J.yld i H2 x H3->H3=H2/\x=vs i)
  (hst:∀D Z2 H2,H1 D=none->Pv D n Z2 H2->J.stop n H2)
  (step:∀D i Z1 H2,H1 D=none->i<n->Pv D i Z1 H2->g (vs i) Z1 H2 fun Z2 H4=>tt Z2 H4 λb H5=>
   if b=true then te Z2 H5 λy H6=>∃ys,H6 D=some (.lst ys)/\ys.length<sizeLine/\∃m',m'<n - i/\wN n (Pv D) (i+1) m' Z2 (upd H6 D (.lst (ys++[y])))
   else ∃m',m'<n - i/\wN n (Pv D) (i+1) m' Z2 H5)
  (hd:∀D Z2 H2,H1 D=none->Pv D n Z2 H2->F D H2):Ex cap g tt te J Z H1 F:=by
 intro D hD;refine⟨wN n (Pv D),⟨n,by simp,Pm _,h0 D hD⟩,?_⟩;rintro i m Z1 H2 ⟨rfl,hi,p⟩;by_cases hlt:i<n
 ·obtain⟨h1,h2⟩:=hgo D i Z1 H2 hD hlt p;refine .inr ⟨h1,λx H3 y=>?_⟩;obtain⟨e1,e2⟩:=h2 x H3 y;subst e1 e2;exact step D i Z1 _ hD hlt p
 ·have e:i=n:=by omega
  subst e;exact .inl ⟨hst D Z1 H2 hD p,hd D Z1 H2 hD p⟩
def C6{K}{a}{xs}{H}{i}(h:SqL K H a xs)(hi:i<xs.length):(Itl K a).go i H/\∀x H3,(Itl K a).yld i H x H3->H3=H/\x=xs.getD i .non:=
 ⟨⟨xs,xs[i],h,by simp[hi]⟩,λx H3 ⟨e,y⟩=>⟨e,by have:=y xs h;simp[List.getD,this]⟩⟩
def C7{K}{a}{xs}{H}(h:SqL K H a xs):(Itl K a).stop xs.length H:=⟨xs,h,Oj _⟩
def Jq{K}{a}{xs}{H}{i}(h:SqT K H a xs)(hi:i<xs.length):(Itt K a).go i H/\∀x H3,(Itt K a).yld i H x H3->H3=H/\x=xs.getD i .non:=
 ⟨⟨xs,xs[i],h,by simp[hi]⟩,λx H3 ⟨e,y⟩=>⟨e,by have:=y xs h;simp[List.getD,this]⟩⟩
def Jr{K}{a}{xs}{H}(h:SqT K H a xs):(Itt K a).stop xs.length H:=⟨xs,h,Oj _⟩
def F7{d}{o}{kvs}{H}{i}(h:H d=some (.frz o (.dK kvs)))(hi:i<kvs.length):(Itd d o kvs).go i H/\∀x H3,(Itd d o kvs).yld i H x H3->H3=H/\x=(kvs.map λp=>kV p.1).getD i .non:=
 ⟨⟨h,hi⟩,λx H3 ⟨e,p,hp,y⟩=>⟨e,by rw[y];simp[List.getD,hp]⟩⟩
def F8{d}{o}{kvs}{H}(h:H d=some (.frz o (.dK kvs))):(Itd d o kvs).stop kvs.length H:=⟨h,Oj _⟩
end L2
namespace L2
open PySem.Calls
def Xiz(t:SetTable)(n):(t.orStandIn n).led=t.led:=by
 unfold SetTable.orStandIn;split
 ·rfl
 ·rfl
def Xi0(t)(es)(k)(x):(layNew t es k x).2.1.led=t.led:=by
 unfold layNew;split
 ·exact Xiz _ _
 ·rfl
def Xi1{mask finger moves}{led plain}{hs}{t}{o}(h:SetTable.laid mask finger moves led plain hs=some (t,o)):t.led=led/\t.plain=plain:=by
 unfold SetTable.laid at h;cases q:SetTable.layClean mask hs with
 | none=>rw[q] at h;cases h
 | some ow=>
  rw[q] at h;cases h;exact⟨rfl,rfl⟩
def Xi2(t)(es)(n)(hp:t.plain=false):(relayAll t es n).2.1.led=t.led/\(relayAll t es n).2.1.plain=false:=by
 unfold relayAll;split
 ·rename_i t' o e;obtain⟨e1,e2⟩:=Xi1 e;dsimp only;split
  ·exact⟨e1,e2.trans hp⟩
  ·exact⟨rfl,rfl⟩
 ·exact⟨rfl,rfl⟩
def Cg (w:World):Bool:=w.params.followText "set-order"
def SSet (P:Program) (w:World) (h:Heap) (a:Addr) (ks:Zb):Prop:=
 ∃o es ep t ls,h.get? a=some o/\o.ExactSet/\o.data = .set es ep t/\ElemsOf (PySem.strKind P w) es.toList/\StrsAre (es.toList.map (·.2)) ls/\ls.Perm ks/\es.size<scanBound/\t.fits es.size=true/\t.led = !Cg w/\(t.plain=true->es.size=0)
def Xb2{l1 l2:List (Int×Value)}{ls}(p:l1.Perm l2)(h:StrsAre (l2.map (·.2)) ls):∃ls',StrsAre (l1.map (·.2)) ls'/\ls'.Perm ls:=by
 refine⟨(l1.map (·.2)).map strOf,strsAre_map _ (λv hv=>?_),?_⟩
 ·exact h.all v ((p.map (·.2)).mem_iff.mp hv)
 ·rw[<-h.strs];exact(p.map (·.2)).map strOf
def Xi3{vs}{ls}{x}{t}(h:StrsAre vs ls):StrsAre (vs++[.str x t]) (ls++[x]):=by
 induction h with
 | nil=>exact .cons x t .nil
 | cons y u _ ih=>exact .cons y u ih
section
variable {P:Program}{w:World}{A:Around}{E:Zc}{s:Shared}{a:Addr}{ks:Zb}
def SSet.stay{h h'}(S:SSet P w h a ks)(k:∀o,h.get? a=some o->h'.get? a=some o):SSet P w h' a ks:=by
 obtain⟨o,es,ep,t,ls,ho,r⟩:=S;exact⟨o,es,ep,t,ls,k o ho,r⟩
def Xi4{vs:List (Int×Value)}{ls}(h:StrsAre (vs.map (·.2)) ls){x}:x∈ls ↔ ∃e∈vs,(PySem.strKind P w).is x e.2=true:=by
 rw[<-h.strs];constructor
 ·intro hx;obtain⟨v,hv,rfl⟩:=O5.mp hx;obtain⟨e,he,rfl⟩:=O5.mp hv;obtain⟨y,t,q⟩:=h.all e.2 hv;refine⟨e,he,?_⟩;rw[q];exact strKind_is P w y t
 ·rintro ⟨e,he,q⟩;obtain⟨t,e2⟩:=Value.isStrOf_shape q;exact O5.mpr ⟨e.2,O5.mpr ⟨e,he,rfl⟩,by rw[e2];rfl⟩
def Xb3{o}{es}{ep}{t}{h:Heap}(ho:h.get? a=some o)(hex:o.ExactSet)(hd:o.data = .set es ep t){es'}{t'}{ls}
  (hel:ElemsOf (PySem.strKind P w) es'.toList) (hs:StrsAre (es'.toList.map (·.2)) ls) (hp:ls.Perm ks) (hb:es'.size<scanBound) (hf:t'.fits es'.size=true) (hl:t'.led = !Cg w) (hpl:t'.plain=false):
  (h.update a (Obj.putSet es' t')).get? a=some {o with data:=.set es' (ep+1) t'}/\SSet P w (h.update a (Obj.putSet es' t')) a ks:=by
 have g:=Heap.get?_update_self (Obj.putSet es' t') ho (by rw[putSet_of es' t' hd];rfl);rw[putSet_of es' t' hd] at g;exact⟨g,_,es',ep+1,t',ls,g,hex,rfl,hel,hs,hp,hb,hf,hl,λz=>by rw[hpl] at z;cases z⟩
def Xb4{g:Bool->Sem Unit}(hg:∀(b:Bool) (s1:Shared) (Q':Unit->Shared->Prop),Q' () s1->wpAny (model P w) A (g b) Q' E s1)
    {o} {es} {ep} {t} (ho:s.heap.get? a=some o) (hex:o.ExactSet) (hd:o.data = .set es ep t) {es1} {t2} {ls}
    (hel:ElemsOf (PySem.strKind P w) es1.toList) (hs:StrsAre (es1.toList.map (·.2)) ls) (hp:ls.Perm ks) (hb:es1.size<scanBound) (hf:t2.fits es1.size=true) (hl:t2.led = !Cg w) (hpl:t2.plain=false) {wd} {R}
    (h:∀h',Heap.SameBut a s.heap h'->SSet P w h' a ks->R (some true) {s with heap:=h'}):
    wpAny (model P w) A (do
        storeSet a es1 t2
        if (!wd && t2.tooFull) = true then do g (relayAll t2 es1 (SetTable.grown es1.size)).2.2
                                              storeSet a (relayAll t2 es1 (SetTable.grown es1.size)).1 (relayAll t2 es1 (SetTable.grown es1.size)).2.1
                                              pure (some true)
        else pure (some true)) R E s:=by
  refine Ta (wpAny_storeSet_of ho hd ?_ (fits_of_scanBound hb));obtain⟨g1,S1⟩:=Xb3 (P:=P) (w:=w) ho hex hd hel hs hp hb hf hl hpl;have sb:=Tn s.heap a (Obj.putSet es1 t2);split
  . have pp:=relayAll_perm t2 es1 (SetTable.grown es1.size);have ff:=relayAll_fits t2 es1 (SetTable.grown es1.size);obtain⟨fl1,fl2⟩:=Xi2 t2 es1 (SetTable.grown es1.size) hpl;generalize relayAll t2 es1 (SetTable.grown es1.size)=R3 at pp ff fl1 fl2 ⊢;obtain⟨es3,t3,gv⟩:=R3;dsimp only at pp ff fl1 fl2 ⊢;obtain⟨ls3,s3,p3⟩:=Xb2 pp hs;have z:es3.size=es1.size:=by rw[<-O1,pp.length_eq,O1]
    refine Ta (hg _ _ _ ?_);refine Ta (wpAny_storeSet_of g1 rfl ?_ (fits_of_scanBound (by rw[z];exact hb)));obtain⟨_,S3⟩:=Xb3 (P:=P) (w:=w) (ks:=ks) g1 hex rfl (hel.perm pp) s3 (p3.trans hp) (by rw[z];exact hb) ff (fl1.trans hl) fl2;exact Tb (h _ (sb.trans (Tn _ a _)) S3)
  . exact Tb (h _ sb S1)
def Xb5{x}{tk}{Q}(S:SSet P w s.heap a ks)(hr:ks.length+1<scanBound)
  (h:∀b h',Heap.SameBut a s.heap h'->SSet P w h' a (if x∈ks then ks else ks++[x])->Q b {s with heap:=h'}):
  wpAny (model P w) A (setAddHashed a (.str x tk) ((PySem.strKind P w).hash x)) Q E s:=by
 obtain⟨o,es,ep,t,ls,ho,hex,hd,hel,hs,hp,hb,hf,hl,hpl⟩:=S;have hlen:es.size=ks.length:=by
  have:=hs.length;rw[Oh,O1] at this;rw[this,hp.length_eq]
 have hkey:(PySem.strKind P w).is x (.str x tk)=true:=strKind_is P w x tk;have hin:x∈ks ↔ ∃e∈es.toList,(PySem.strKind P w).is x e.2=true:=hp.mem_iff.symm.trans (Xi4 hs);unfold setAddHashed setAddHashedIn;refine wpAny_holding (Ta (wpAny_setState_of ho hd hf ?_));dsimp only;rw[byScan_of (knd:=PySem.strKind P w) rfl hb hel];simp only[↓reduceIte];unfold setAddByScan;refine Ta (Ta (wpAny_rule (Ta (wpAny_setScan_of hkey ho hd hf hel ?_))));cases hf1:List.findIdx? (λe=>(PySem.strKind P w).is x e.2) es.toList with
 | some j=>
  dsimp only;obtain⟨hj,hpj,_⟩:=List.findIdx?_eq_some_iff_getElem.mp hf1;have hx:x∈ks:=hin.mpr ⟨es.toList[j],Pa hj,hpj⟩;refine Tb (Tb ?_);have:=h false s.heap (Heap.SameBut.refl a s.heap) (by rw[Tg hx];exact⟨o,es,ep,t,ls,ho,hex,hd,hel,hs,hp,hb,hf,hl,hpl⟩);exact this
 | none=>
  dsimp only;have hx:x∉ks:=λz=>by
   obtain⟨e,he,q⟩:=hin.mp z;have:=List.findIdx?_eq_none_iff.mp hf1 e he;rw[q] at this;cases this
  have gw:∀(b:Bool) (s1:Shared) (Q':Unit->Shared->Prop),Q' () s1->wpAny (model P w) A (match b with | true=>rule "set.scan.the-table-gave-way" | false=>pure ()) Q' E s1:=λb s1 Q' q=>by
   cases b with
   | true=>exact wpAny_rule q
   | false=>exact Tb q
  have pp:=layNew_perm t es ((PySem.strKind P w).hash x) (.str x tk);have ff:=layNew_fits t es ((PySem.strKind P w).hash x) (.str x tk);have fl:=Xi0 t es ((PySem.strKind P w).hash x) (.str x tk);generalize layNew t es ((PySem.strKind P w).hash x) (.str x tk)=R at pp ff fl ⊢;obtain⟨es1,t1,wd,gv⟩:=R;dsimp only at pp ff fl ⊢;rw[Array.toList_push] at pp;have el1:=(hel.push hkey rfl).perm pp;have st0:StrsAre ((es.toList++[((PySem.strKind P w).hash x,Value.str x tk)]).map (·.2)) (ls++[x]):=by
   rw[Oq];exact Xi3 hs
  obtain⟨ls1,st1,p1⟩:=Xb2 pp st0;have z1:es1.size=ks.length+1:=by
   rw[<-O1,pp.length_eq,Oo,O1,hlen];rfl
  have p2:ls1.Perm (ks++[x]):=p1.trans (hp.append_right _);rw[Tf hx] at h;refine Ta (gw _ _ _ ?_);split
  ·refine Ta ?_;rw[hashByValue_scannable 8 (x:=Value.str x tk) rfl];refine Tb ?_;refine Xb4 (ks:=ks++[x]) gw ho hex hd el1 st1 p2 (by rw[z1];exact hr) (SetTable.fits_plain_off ff) (fl.trans hl) rfl (λh' sb S'=>?_);dsimp only;exact Tb (h true h' sb S')
  ·rename_i np;refine Ta (Tb ?_);simp only[↓reduceIte];refine Xb4 (ks:=ks++[x]) gw ho hex hd el1 st1 p2 (by rw[z1];exact hr) ff (fl.trans hl) (by cases q:t1.plain with | false=>rfl | true=>exact absurd q np) (λh' sb S'=>?_);dsimp only;exact Tb (h true h' sb S')
end
def dd1 (acc:Zb) (x:Str):Zb:=if x∈acc then acc else acc++[x]
def ddup (ss:Zb):Zb:=ss.foldl dd1 []
def Mh(ss)(x):ddup (ss++[x])=dd1 (ddup ss) x:=by
 unfold ddup;rw[List.foldl_append];rfl
def Mi{p:Zb->Zb->Prop}(h0:p [] [])(h1:∀ss x,p ss (ddup ss)->p (ss++[x]) (dd1 (ddup ss) x))(ss):p ss (ddup ss):=by
 have go:∀n ss,ss.length=n->p ss (ddup ss):=by
  intro n
  induction n with
  | zero=>
   intro ss e;rw[Pr.mp e];exact h0
  | succ n ih=>
   intro ss e;have hne:ss≠[]:=λz=>by rw[z] at e;cases e
   have e2:=List.dropLast_concat_getLast hne;rw[<-e2,Mh];exact h1 _ _ (ih _ (by rw[List.length_dropLast,e];rfl))
 exact go _ ss rfl
def Hn(ss):∀x,x∈ddup ss↔x∈ss:=by
 refine Mi (p:=λss d=>∀x,x∈d↔x∈ss) (λx=>Iff.rfl) (λss y ih x=>?_) ss;unfold dd1;split
 ·rename_i hy;rw[ih,Op,Om];constructor
  ·exact .inl
  ·rintro (z | z)
   ·exact z
   ·rw[z];exact(ih y).mp hy
 ·rw[Op,Op,ih]
def Ho(ss):(ddup ss).Nodup:=by
 refine Mi (p:=λ_ d=>d.Nodup) List.nodup_nil (λss y ih=>?_) ss;unfold dd1;split
 ·exact ih
 ·rename_i hy;exact Qi.mpr ⟨ih,by simp,λa ha b hb=>by rw[Om.mp hb];exact λz=>hy (z ▸ ha)⟩
def F9(ss):(ddup ss).length<=ss.length:=by
 refine Mi (p:=λss d=>d.length<=ss.length) (Oj _) (λss y ih=>?_) ss;unfold dd1;rw[Oo,Pw];split
 ·omega
 ·rw[Oo,Pw];omega
section
variable {P:Program}{w:World}{A:Around}{E:Zc}{s:Shared}
def Xb6{R}{I}{fp wr}{G}{Pv}{St}(ss)(W:WalksS P w A.in1 I fp wr G ss.length Pv St)(S)(nS:S∉fp)
  (hval:∀i v,Pv i v->∃t,v = .str (ss.getD i "") t) (hb:ss.length+1<scanBound):
  ∀k i s,ss.length - i=k->i<=ss.length->St i s->SSet P w s.heap S (ddup (ss.take i))->(∀s',Moved (S::wr) G s s'->SSet P w s'.heap S (ddup ss)->R (.ok (.ret .none)) s') ->
   codeAny (model P w) A (.builtin "set.update.loop" ⟨[.ref S,.ref I],[]⟩) R s:=by
 have nw:S∉wr:=λz=>nS (W.sub _ z);have up:∀b∈wr,b∈S::wr:=λb z=>Ot _ z;intro k
 induction k with
 | zero=>
  intro i s e hi st hS hR;have:i=ss.length:=by omega
  subst this;rw[Pt] at hS;refine codeAny_builtin F.entry_set_update_loop ?_;rw[Around.under_plainId F.plain_set_update_loop _];show wpAny _ A.in1 (pyNext (.ref I) >>= λ_=>_) _ _ s;refine Ta (W.done s _ _ st λs' mv=>?_);show wpAny _ A.in1 (ret Value.none) _ _ s';exact Tb (hR s' (mv.mono up) (hS.stay λo z=>mv.heap S o nw z))
 | succ k ih=>
  intro i s e hi st hS hR;have lt:i<ss.length:=by omega
  refine codeAny_builtin F.entry_set_update_loop ?_;rw[Around.under_plainId F.plain_set_update_loop _];show wpAny _ A.in1 (pyNext (.ref I) >>= λ_=>_) _ _ s;refine Ta (W.item i s _ _ lt st λv s' hP st' mv=>?_);obtain⟨t,rfl⟩:=hval i v hP;have hS':=hS.stay λo z=>mv.heap S o nw z;show wpAny _ A.in1 (holding [Value.str (ss.getD i "") t] (setAdd S (.str (ss.getD i "") t)) >>= λ_=>_) _ _ s';refine Ta (wpAny_holding ?_);unfold setAdd;refine wpAny_holding (Ta ((PySem.strKind P w).pyHash (k:=ss.getD i "") (strKind_is P w _ t) ?_));have hl1:(ddup (ss.take i)).length<=i:=Pd (F9 _) (by rw[Ov];omega);refine Xb5 (s:={s' with toks:=s'.toks+1}) hS' (by omega) λb h' sb S2=>?_;have e3:ddup (ss.take (i+1))=dd1 (ddup (ss.take i)) (ss.getD i ""):=by
   rw[O6 lt,Mh];congr 1;simp[List.getD,lt]
  have S3:SSet P w h' S (ddup (ss.take (i+1))):=by rw[e3];exact S2
  refine Tb ⟨plainId_quiet F.plain_set_update_loop _,ih (i+1) _ (by omega) lt (W.frame _ s' _ _ st' (Qc _) λb hb o q=>?_) S3 λs'' mv2 S4=>?_⟩
  ·rw[sb.2 b (λz=>nS (z ▸ hb))];exact q
  ·refine hR s'' (Moved.trans W.gtrans ((mv.mono up).then_heap (Qc _) λb o hb q=>?_) mv2) S4;rw[sb.2 b (λz=>hb (z ▸ Os))];exact q
inductive Src (h:Heap) (l:Addr) (items:Array Value):Prop
 | lst:h.IsList l items->Src h l items
 | tup:h.IsTuple l items->Src h l items
def Xi5(a){Q}(h:Q (.ref s.heap.objs.size) {s with heap:=s.heap.push {cls:=.type "set",dict:=none,data:=.set #[] 0 (.fresh 0 0 (!Cg w))} }):
    codeAny (model P w) A (.call (.builtin "set.__new__") ⟨[.type "set",a],[]⟩) (wants Q E) s:=by
  refine codeAny_of_tree ?_
  show wpAny _ A.in1 (do checkBuiltinCall "set.__new__" ⟨[.type "set",a],[]⟩
                         again (.builtin "set.__new__" ⟨[.type "set",a],[]⟩)) _ _ s
  refine Ta (wpAny_of_eq (PySem.F.newCall_set_1 a) (Tb ⟨plainId_quiet PySem.F.plain_set_new _,codeAny_builtin PySem.F.entry_set_new ?_⟩));rw[Around.under_plainId PySem.F.plain_set_new _];unfold Builtin.«set.__new__» Builtin.Frozenset.newClass;have q:=sub_set_self;obtain⟨hp,g,d,tk,os⟩:=s;dsimp only
  wp_walk
  refine wpAny_askSetting (Tb ?_);dsimp only;simp only[newObj];exact Ta (wpAny_alloc (Tb (Tb h)))
end
end L2
set_option maxHeartbeats 3200000
namespace L2
open PySem.Calls
section
variable {P:Program}{w:World}{A:Around}{E:Zc}{s:Shared}
abbrev D1 (w:World):Obj:={cls:=.type "set",dict:=none,data:=.set #[] 0 (.fresh 0 0 (!Cg w))}
def Xb7{h}{a}(g:h.get? a=some (D1 w)):SSet P w h a []:=
 ⟨_, #[],0,_,[],g,⟨rfl,rfl,rfl⟩,rfl,λe he=>by simp at he,.nil,.nil,by decide,rfl,rfl,λ_=>rfl⟩
def Xi6{l S}{items}{ss}{R}(hh:A.handled=none)(src:Src s.heap l items)(hs:StrsAre items.toList ss)(hb:ss.length+1<scanBound)(hS:SSet P w s.heap S [])(hlS:l≠S)
  (hTS:∀(Q:Bool->Shared->Prop),Q false s->wpAny (model P w) A (Builtin.Frozenset.isAnySet (.ref l)) Q E s)
  (h:∀(h':Heap) (tk:Nat),SSet P w h' S (ddup ss)->(∀b o,b≠S->s.heap.get? b=some o->h'.get? b=some o)->R () {s with heap:=h',toks:=tk}):
  wpAny (model P w) A (Builtin.Frozenset.updateFrom "set.__init__" S (.ref l)) R E s:=by
 have hlen:items.size=ss.length:=by
  have:=hs.length
  rwa [O1] at this
 have hval:∀(i:Nat) (v:Value),items[i]? = some v->∃t,v = .str (ss.getD i "") t:=λi v q=>by
  have q':items.toList[i]? = some v:=by rw[Rq];exact q
  obtain⟨x,t,rfl⟩:=hs.all v (Qk q');refine⟨t,?_⟩;congr 1;rw[<-hs.strs];simp[List.getD,Ox,q,strOf]
 obtain⟨oS,_,_,_,_,gS,_⟩:=id hS;have ltS:=Tl gS;unfold Builtin.Frozenset.updateFrom;refine Ta (hTS _ ?_);simp only[P6,if_false];cases src with
 | lst hl=>
  have hll:l<s.heap.objs.size:=by obtain⟨o,g,_⟩:=hl;exact Tl g
  refine Ta (wpAny_typeOf (T := "list") hl.typeIs ?_);have ne:(Value.type "list" == Value.type "dict")=false:=by decide
  simp only[ne,P6,if_false];refine Ta (wpAny_pyIter_list hl ?_);refine Ta (wpAny_runValue ?_);have nI:S∉[s.heap.objs.size,l]:=by simp only[O2,List.not_mem_nil,or_false,not_or];exact⟨Ow ltS,hlS.symm⟩
  have W:=(Walks.list (prog:=P) (w:=w) (A:=A.in1) (by simp[hh]) s.heap.objs.size l (Ow hll) items).toS;rw[hlen] at W;refine Xb6 ss W S nI hval hb _ 0 _ rfl (Pm _) ⟨⟨_,Heap.get?_push_size _ rfl,rfl,rfl⟩,hl.push _⟩ (hS.stay λo q=>Tm _ q) λs' mv S'=>?_;rw[Moved.eq_with mv];refine Tb (h s'.heap s'.toks S' λb o nb q=>mv.heap b o (λz=>?_) (Tm _ q));rcases O2.mp z with z | z
  ·exact nb z
  ·exact absurd (Tl q) (by rw[Om.mp z];exact P5 _)
 | tup hl=>
  have hll:l<s.heap.objs.size:=by obtain⟨o,g,_⟩:=hl;exact Tl g
  refine Ta (wpAny_typeOf (T := "tuple") hl.typeIs ?_);have ne:(Value.type "tuple" == Value.type "dict")=false:=by decide
  simp only[ne,P6,if_false];refine Ta (wpAny_pyIter_tuple hl ?_);refine Ta (wpAny_runValue ?_);have nI:S∉[s.heap.objs.size,l]:=by simp only[O2,List.not_mem_nil,or_false,not_or];exact⟨Ow ltS,hlS.symm⟩
  have W:=(Walks.tuple (prog:=P) (w:=w) (A:=A.in1) (by simp[hh]) s.heap.objs.size l (Ow hll) items).toS;rw[hlen] at W;refine Xb6 ss W S nI hval hb _ 0 _ rfl (Pm _) ⟨⟨_,Heap.get?_push_size _ rfl,rfl,rfl⟩,hl.push _⟩ (hS.stay λo q=>Tm _ q) λs' mv S'=>?_;rw[Moved.eq_with mv];refine Tb (h s'.heap s'.toks S' λb o nb q=>mv.heap b o (λz=>?_) (Tm _ q));rcases O2.mp z with z | z
  ·exact nb z
  ·exact absurd (Tl q) (by rw[Om.mp z];exact P5 _)
def Src.push{h}{l}{items}(x:Src h l items)(o):Src (h.push o) l items:=by
 cases x with
 | lst y=>exact .lst (y.push o)
 | tup y=>exact .tup (y.push o)
def Src.any{l}{items}(x:Src s.heap l items){Q}(q:Q false s):wpAny (model P w) A (Builtin.Frozenset.isAnySet (.ref l)) Q E s:=by
 cases x with
 | lst y=>
  obtain⟨o,g,c,n,d⟩:=y;obtain⟨oc,od,odt,os⟩:=o;simp only at c d;subst c d;have h1:=PySem.F.sub_list_set;have h2:=PySem.F.sub_list_frozenset;unfold Builtin.Frozenset.isAnySet
  wp_walk
  exact q
 | tup y=>
  obtain⟨o,g,c,n,d⟩:=y;obtain⟨oc,od,odt,os⟩:=o;simp only at c d;subst c d;have h1:isSubtype (.type "tuple") (.type "set")=pure false:=by rw[isSubtype_type];kernel_rfl
  have h2:isSubtype (.type "tuple") (.type "frozenset")=pure false:=by rw[isSubtype_type];kernel_rfl
  unfold Builtin.Frozenset.isAnySet
  wp_walk
  exact q
def Src.lt{h}{l}{items}(x:Src h l items):l<h.objs.size:=by
 cases x with
 | lst y=>obtain⟨o,g,_⟩:=y;exact Tl g
 | tup y=>obtain⟨o,g,_⟩:=y;exact Tl g
def Xi7{l}{items}{ss}{Q}(hh:A.handled=none)(src:Src s.heap l items)(hs:StrsAre items.toList ss)(hb:ss.length+1<scanBound)
  (h:∀(h':Heap) (tk:Nat),SSet P w h' s.heap.objs.size (ddup ss)->(∀b o,s.heap.get? b=some o->h'.get? b=some o)->Q (.ref s.heap.objs.size) {s with heap:=h',toks:=tk}):
  wpAny (model P w) A (call (.type "set") [.ref l]) Q E s:=by
 obtain⟨c,tl,hmro⟩:=PySem.F.called_set.mro;have hmade:=PySem.F.called_set.made;have hsub:=PySem.F.called_set.sub;refine wpAny_call (codeAny_of_tree ?_);show wpAny _ _ (callAny (.type "set") _) _ _ s;refine Tb ⟨Code.quiet_builtin _ (by decide +kernel),codeAny_builtin PySem.F.entry_type_call ?_⟩;rw[Around.under_plain (weight_type_call_type "set" [.ref l] []) rfl];have f1:=PySem.F.called_set.notType;have f2:=PySem.F.called_set.canCreate;have f3:=PySem.F.typeCall_set_1 (.ref l)
 repeat (any_goals (first | assumption | wp_step))
 refine codeAny_mono (Xi5 (.ref l) (E:=E) (Q:=λobj s1=>obj = .ref s.heap.objs.size/\s1 = {s with heap:=s.heap.push (D1 w)}) ⟨rfl,rfl⟩) λr s1 hr=>?_;cases r with
 | error e=>exact hr
 | ok fl=>
  cases fl with
  | ret obj=>
   obtain⟨rfl,rfl⟩:=hr;have gS:(s.heap.push (D1 w)).get? s.heap.objs.size=some (D1 w):=Heap.get?_push_size _ rfl;have hT:Shared.TypeIs {s with heap:=s.heap.push (D1 w)} (.ref s.heap.objs.size) "set" := ⟨_,gS,rfl⟩;have f4:=PySem.F.called_set.init.lookup;have f5:=PySem.F.called_set.init.bind (.ref s.heap.objs.size)
   repeat (any_goals (first | assumption | wp_step))
   refine codeAny_mono (codeAny_call_builtin (R:=wants (λr s2=>r = .none/\∃h' tk,s2 = {s with heap:=h',toks:=tk}/\SSet P w h' s.heap.objs.size (ddup ss)/\∀b o,s.heap.get? b=some o->h'.get? b=some o) E)
    PySem.F.called_set.init.plain PySem.F.entry_set_init (check_set_init_1 hT ?_)) λr2 s2 hr2=>?_
   ·have src':=src.push (D1 w);have lt:=src.lt;unfold Builtin.«set.__init__» noKeywords;generalize hU:Builtin.Frozenset.updateFrom=U
    wp_walk
    subst hU;refine Xi6 (s:={s with heap:=s.heap.push (D1 w)}) (by simp[hh]) src' hs hb (Xb7 gS) (Ow lt) (λQ q=>Src.any (s:={s with heap:=s.heap.push (D1 w)}) src' q) λh' tk S' kk=>?_;exact Tb ⟨rfl,h',tk,rfl,S',λb o q=>kk b o (Ow (Tl q)) (Tm _ q)⟩
   ·cases r2 with
    | error e=>exact hr2
    | ok fl2=>
     cases fl2 with
     | ret r=>
      obtain⟨rfl,h',tk,rfl,S',kk⟩:=hr2
      repeat (any_goals (first | assumption | wp_step))
      exact h _ _ S' kk
     | _=>exact hr2.elim
  | _=>exact hr.elim
end
namespace SF
def sIter:Slot "set" "__iter__" "set.__iter__" := PySem.F.slot_set_iter
def eIter:entryFor table "set.__iter__" = some Builtin.«frozenset.__iter__»:=entryFor_alias (id' := "frozenset.__iter__") (by kernel_rfl) rfl (by decide +kernel) (by kernel_rfl)
def sNext:Slot "set_iterator" "__next__" "set_iterator.__next__" := .of (owner := "set_iterator") (n := "__next__") (by rw[typeLookup_type,builtinLookup_eq_fast];kernel_rfl) (by decide +kernel) (by decide +kernel) (by decide +kernel) (by first | exact .inl (by decide +kernel) | exact .inr (by decide +kernel)) (by rw[isSubtype_type];kernel_rfl)
def eNext:entryFor table "set_iterator.__next__" = some Builtin.«set_iterator.__next__»:=entryFor_of_tree (by kernel_rfl)
def aNext(a):argsOk "set_iterator.__next__" ⟨[a],[]⟩:=by unfold argsOk;kernel_rfl
end SF
theorem Mj{α : Type}:∀(xs:List α) (i:Nat) (hi:i<xs.length),(xs[i]::xs.eraseIdx i).Perm xs
 | x::xs,0,_=>Rv _
 | x::xs,i+1,hi=>by
  have ih:=Mj xs i (by simpa using hi);rw[List.eraseIdx_cons_succ,List.getElem_cons_succ];exact(List.Perm.swap x _ _).trans (ih.cons x)
def Xi8{α : Type}(next):∀(n k:Nat) (left:List α) (out:Array α),left.length=n->(pickOrder.go next n k left out).toList.Perm (out.toList++left):=by
 intro n
 induction n with
 | zero=>
  intro k left out e;rw[Pr.mp e,Ps];exact Rv _
 | succ n ih=>
  intro k left out e;have hlt:next k % left.length<left.length:=Nat.mod_lt _ (by omega);unfold pickOrder.go;rw[Oi hlt];dsimp only;refine(ih _ _ _ (by rw[List.length_eraseIdx_of_lt hlt,e];rfl)).trans ?_;rw[Array.toList_push,Pg];exact(Mj left _ hlt).append_left _
def Xi9{α : Type}(next)(xs:Array α):(pickOrder next xs).toList.Perm xs.toList:=by
 have:=Xi8 next xs.size 0 xs.toList #[] (by simp);simpa [pickOrder] using this
section
variable {P:Program}{w:World}{A:Around}{E:Zc}{s:Shared}
def Xja{src}{n}{Q}(hn:n≠0)(h:∀i d,i<n->Q i {s with drawn:=d}):wpAny (model P w) A (choose src n) Q E s:=by
 intro Γ p hΓ;exact⟨hn,h _ _ (Nat.mod_lt _ (Nat.pos_of_ne_zero hn))⟩
def Xjb{α : Type}:∀(n:Nat) (xs:List α) (s:Shared) (Q:List α->Shared->Prop),xs.length=n->(∀os d,os.Perm xs->Q os {s with drawn:=d})->wpAny (model P w) A (drawOrder n xs) Q E s:=by
 intro n
 induction n with
 | zero=>
  intro xs s Q e h;rw[Pr.mp e] at h ⊢;unfold drawOrder;exact Tb (h [] s.drawn (Rv _))
 | succ n ih=>
  intro xs s Q e h;cases xs with
  | nil=>cases e
  | cons y ys=>
   unfold drawOrder;refine Ta (Xja (by simp) λi d hi=>?_);rw[Oi hi];dsimp only;refine Ta (ih _ _ _ (by rw[List.length_eraseIdx_of_lt hi,e];rfl) λos d' hp=>?_);exact Tb (h _ d' ((hp.cons _).trans (Mj _ i hi)))
def SAt (h:Heap) (a:Addr) (es:Array (Int×Value)) (ep:Nat) (t:SetTable):Prop:=∃o,h.get? a=some o/\o.ExactSet/\o.data = .set es ep t/\t.fits es.size=true
def Xjc{a}{es}{ep}{t}{Q}(hs:SAt s.heap a es ep t)(h:Q (!Cg w&&(!t.plain&&decide (es.size > 1))) s):wpAny (model P w) A (setDrawn a) Q E s:=by
 obtain⟨o,ho,hex,hd,hf⟩:=hs;unfold setDrawn setsByText;refine Ta (wpAny_setState_of ho hd hf ?_);dsimp only;refine Ta (Ta (wpAny_askSetting (Tb ?_)));exact Tb h
abbrev itO (f0:Value) (i:Nat) (a:Addr) (n ep:Nat):Obj:={cls:=.type "set_iterator",data:=.fields #[f0,.int i 0,.ref a,.int n 0,.int ep 0]}
inductive Ord (w:World) (h:Heap) (a:Addr) (es:Array (Int×Value)) (ep:Nat) (t:SetTable) (f0:Value) (i:Nat):List Value->Prop
 | txt:Cg w=true->f0 = .int 0 0->Ord w h a es ep t f0 i ((pickOrder (w.params.setOrder a ep) es).toList.map (·.2))
 | drw (p:Addr) (os:List Nat):Cg w=false->os.Perm (List.range es.size)->f0 = .ref p->(∃n,h.get? p=some ⟨.type "tuple",none,.seq (os.map λj=>Value.int (j:Nat) 0).toArray n, #[]⟩)->Ord w h a es ep t f0 i (os.map λj=>((es[j]?).map (·.2)).getD .none)
 | one (sl:Nat):Cg w=false->t.led=true->es.size<=1->f0 = .int sl 0->(i=0->sl=0)->(∀j,i=1->t.place[0]? = some j->sl=j+1)->Ord w h a es ep t f0 i (es.toList.map (·.2))
def Xjd{a}{es}{ep}{t}{Q}(hs:SAt s.heap a es ep t)(hb:es.size<scanBound)(hl:t.led = !Cg w)(hp:t.plain=true->es.size=0)
    (h:∀(f0:Value) (vs:List Value) (h1:Heap) (d:Drawn),(∀b o,s.heap.get? b=some o->h1.get? b=some o)->h1.objs.size<=s.heap.objs.size+1->s.heap.objs.size<=h1.objs.size->(∀p,f0 = .ref p->p<h1.objs.size)->Ord w (h1.push (itO f0 0 a es.size ep)) a es ep t f0 0 vs ->
      vs.Perm (es.toList.map (·.2))->Q (.ref h1.objs.size) {s with heap:=h1.push (itO f0 0 a es.size ep),drawn:=d}):
    wpAny (model P w) A (pyIter (.ref a)) Q E s:=by
  obtain⟨o,ho,hex,hd,hf⟩:=id hs;have hT:s.TypeIs (.ref a) "set" := ⟨o,ho,hex.1⟩;refine wpAny_pyIter_slot hT SF.sIter (wpAny_call_entry SF.sIter hT SF.eIter ?_ (PySem.F.args_set_iter_1 _));unfold Builtin.«frozenset.__iter__» Builtin.Frozenset.slot0 slotArgs;simp only[List.isEmpty_nil,Bool.not_true,P6, ↓reduceIte,bind_assoc,Qn,bne_self_eq_false];unfold Builtin.Frozenset.addrOf Builtin.Frozenset.sizeOf;refine Ta (Tb ?_);dsimp only;refine Ta (Tb ?_);refine Ta (Ta (wpAny_setEntries_of ho hd hf (Tb ?_)));refine Ta (Xjc hs ?_);have fin:∀(f0:Value) (vs:List Value) (h1:Heap) (d:Drawn),(∀b o,s.heap.get? b=some o->h1.get? b=some o)->h1.objs.size<=s.heap.objs.size+1->s.heap.objs.size<=h1.objs.size->(∀p,f0 = .ref p->p<h1.objs.size)->Ord w (h1.push (itO f0 0 a es.size ep)) a es ep t f0 0 vs->vs.Perm (es.toList.map (·.2)) ->
      wpAny (model P w) A.in1 (do let r <-newFields "set_iterator" [f0,rawInt 0,.ref a,rawInt es.size,rawInt ep]
                                  ret r) (λfin s'=>∃r,fin = .done (.ret r)/\∃T v,s'.TypeIs r T/\typeLookup (.type T) (Str.ofString "__next__")=pure (some v)/\Q r s') E {s with heap:=h1,drawn:=d}:=λf0 vs h1 d k1 k2 k3 k4 k5 k6=>
    Ta (wpAny_newObj_type (Tb ⟨_,rfl, "set_iterator",_,⟨_,Heap.get?_push_size _ rfl,rfl⟩,SF.sNext.lookup,h f0 vs h1 d k1 k2 k3 k4 k5 k6⟩))
  by_cases hc:(!Cg w&&(!t.plain&&decide (es.size > 1)))=true
  . rw[Tg hc];simp only[O4,Sz,decide_eq_true_eq] at hc;obtain⟨c1,c2,c3⟩:=hc;refine Ta (Xjb _ _ _ _ Px λos d po=>?_);have hol:os.length=es.size:=by rw[po.length_eq,Px]
    refine Ta (wpAny_newTuple ?_ (by rw[Oh,hol];exact fits_of_scanBound hb));refine Ta (wpAny_setEpoch_of (Tm _ ho) hd hf ?_);refine fin _ _ _ d (λb o q=>Tm _ q) (by rw[size_push'];exact Oj _) (by rw[size_push'];exact Qc _) (λp e=>by cases e;rw[size_push'];exact Nat.lt_succ_self _) (.drw s.heap.objs.size os c1 po rfl ⟨0,Tm _ (Heap.get?_push_size _ rfl)⟩) ?_;have e:(os.map λj=>((es[j]?).map (·.2)).getD Value.none).Perm ((List.range es.size).map λj=>((es[j]?).map (·.2)).getD Value.none):=po.map _;refine e.trans ?_;have e2:((List.range es.size).map λj=>((es[j]?).map (·.2)).getD Value.none)=es.toList.map (·.2):=by
      apply List.ext_getElem?;intro i;have q:es.toList[i]? = es[i]?:=Rq;rw[Ox,Ox,q];by_cases hi:i<es.size
      . rw[List.getElem?_range hi,Qy,getElem?_pos es i hi];rfl
      . rw[Qo (by simpa using hi),getElem?_neg es i hi];rfl
    rw[e2]
  . rw[Tf hc];refine Ta (Tb ?_);refine Ta (wpAny_setEpoch_of ho hd hf ?_);cases hw:Cg w with
    | true=>exact fin _ _ _ s.drawn (λb o q=>q) (Qc _) (Oj _) (λp e=>by cases e) (.txt hw rfl) ((Xi9 _ es).map _)
    | false=>
      have h1:es.size<=1:=by
        cases hpl:t.plain with
        | true=>rw[hp hpl];exact Pm _
        | false=>
          simp only[hw,hpl,Bool.not_false,Qg,decide_eq_true_eq] at hc;omega
      exact fin _ _ _ s.drawn (λb o q=>q) (Qc _) (Oj _) (λp e=>by cases e) (.one 0 hw (by rw[hl,hw];rfl) h1 rfl (λ_=>rfl) (λj e=>by cases e)) (Rv _)
end
end L2
namespace L2
open PySem.Calls
section
variable {P:Program}{w:World}{A:Around}{E:Zc}{s:Shared}{I a:Addr}{es:Array (Int×Value)}{ep:Nat}{t:SetTable}
def ItS (w:World) (I a:Addr) (es:Array (Int×Value)) (ep:Nat) (t:SetTable) (vs:List Value) (fp:Option Addr) (i:Nat) (h:Heap):Prop:=
 ∃f0,h.get? I=some (itO f0 i a es.size ep)/\Ord w h a es ep t f0 i vs/\SAt h a es ep t/\(∀p,f0 = .ref p->fp=some p)
def Xb8{i:Nat}{f0:Value}{Q:Fin->Shared->Prop}(hI:s.heap.get? I=some (itO f0 i a es.size ep))(hS:SAt s.heap a es ep t)
  (h1:∀sl,f0 = .int sl 0->wpAny (model P w) A (do
   match <-setNext a sl.toNat i ep with
   | some (x,next)=>setField (.ref I) 0 (rawInt next);setField (.ref I) 1 (rawInt ((i:Int)+1));ret x
   | none=>setField (.ref I) 2 .none;raiseNew (<-newExc (.type "StopIteration") [])) Q E s)
  (h2:∀p,f0 = .ref p->wpAny (model P w) A (do
   let some places <-seqItems? (.ref p) | unsupported "internal:set_iterator"
   match places[i]? with
   | some (.int place _)=>let x <-setNextDrawn a place.toNat ep;setField (.ref I) 1 (rawInt ((i:Int)+1));ret x
   | some _=>unsupported "internal:set_iterator"
   | none=>setField (.ref I) 0 (rawInt 0);setField (.ref I) 2 .none;raiseNew (<-newExc (.type "StopIteration") [])) Q E s)
  (hf:(∃sl,f0 = .int sl 0) \/ ∃p,f0 = .ref p):wpAny (model P w) A (Builtin.«set_iterator.__next__» ⟨[.ref I],[]⟩) Q E s:=by
 obtain⟨o,ho,hex,hd,hft⟩:=id hS;unfold Builtin.«set_iterator.__next__» slotArgs;simp only[List.isEmpty_nil,Bool.not_true,P6, ↓reduceIte,bind_assoc,Qn,bne_self_eq_false];refine Ta (Tb ?_);dsimp only;refine Ta (wpAny_fieldsOf hI rfl ?_);dsimp only;refine Ta (wpAny_setEntries_of ho hd hft ?_);rw[Tf (by simp)];rcases hf with ⟨sl,rfl⟩ | ⟨p,rfl⟩
 ·exact h1 sl rfl
 ·exact h2 p rfl
def Js{h:Heap}{f0 x:Value}{i j n:Nat}(hI:h.get? I=some (itO f0 i a n ep))(k)(v):
  (h.update I (Obj.mapFields (·.setIfInBounds k v))).get? I=some {cls:=.type "set_iterator",data:=.fields ((#[f0,.int i 0,.ref a,.int n 0,.int ep 0]:Array Value).setIfInBounds k v)}:=
 Heap.get?_update_self _ hI rfl
def SAt.at{h h'}(x:SAt h a es ep t)(k:∀o,h.get? a=some o->h'.get? a=some o):SAt h' a es ep t:=by
 obtain⟨o,ho,r⟩:=x;exact⟨o,k o ho,r⟩
def Xb9{sl i}{Q}(hw:Cg w=true)(hS:SAt s.heap a es ep t)(h:Q (((pickOrder (w.params.setOrder a ep) es)[i]?).map λe=>(e.2,sl)) s):wpAny (model P w) A (setNext a sl i ep) Q E s:=by
 obtain⟨o,ho,hex,hd,hf⟩:=id hS;unfold setNext setsByText;refine Ta (wpAny_setState_of ho hd hf ?_);dsimp only;refine Ta (Ta (wpAny_askSetting (Tb ?_)));rw[Tg (show (model P w).w.params.followText "set-order" = true from hw),Tf (by simp)];unfold setWalk setsByText;refine Ta (Ta (wpAny_setState_of ho hd hf ?_));dsimp only;refine Ta (Ta (wpAny_askSetting (Tb ?_)));rw[Tg (show (model P w).w.params.followText "set-order" = true from hw)];exact Ta (wpAny_askSetting (Tb (Tb h)))
def Xca{sl i:Nat}{Q:Option (Value×Nat)->Shared->Prop}(hw:Cg w=false)(hl:t.led=true)(h1:es.size<=1)(hS:SAt s.heap a es ep t)
  (h:Q (match es[SetTable.below t.place sl]?,t.place[SetTable.below t.place sl]? with | some (_,x),some j=>some (x,j+1) | _,_=>none) s):wpAny (model P w) A (setNext a sl i ep) Q E s:=by
 obtain⟨o,ho,hex,hd,hf⟩:=id hS;unfold setNext setsByText;refine Ta (wpAny_setState_of ho hd hf ?_);dsimp only;refine Ta (Ta (wpAny_askSetting (Tb ?_)));rw[Tf (show ¬(model P w).w.params.followText "set-order" = true from by show ¬Cg w=true;rw[hw];decide)];have d1:(!t.plain&&decide (es.size > 1))=false:=by rw[Ti (by omega),Sx]
 refine wpAny_ite_split (λz=>?_) (λ_=>?_)
 ·have z':(!t.plain&&decide (es.size > 1))=true:=z;rw[d1] at z';cases z'
 refine Ta ?_;have m1:(!t.led && !es.isEmpty)=false:=by rw[hl];rfl
 refine wpAny_ite_split (λz=>?_) (λ_=>Tb (Tb h));have z':(!t.led && !es.isEmpty)=true:=z;rw[m1] at z';cases z'
def Xje{t:SetTable}(h:t.place.size<=1):SetTable.below t.place 0=0:=by
 generalize t.place=pl at *;obtain⟨l⟩:=pl
 match l,h with
 | [],_=>rfl
 | [x],_=>simp[SetTable.below,SetTable.below.go]
def Xjf{t:SetTable}{j}(h:t.place.size<=1)(hj:t.place[0]? = some j):SetTable.below t.place (j+1)=1:=by
 generalize t.place=pl at *;obtain⟨l⟩:=pl
 match l,h,hj with
 | [x],_,hj=>
  have:x=j:=by simpa using hj
  subst this;simp[SetTable.below,SetTable.below.go]
def Xcb{n}(h:t.fits n=true):t.place.size=n:=by
 unfold SetTable.fits at h;simp only[O4,beq_iff_eq] at h;exact h.1
end
section
variable {P:Program}{w:World}{A:Around}{E:Zc}{s:Shared}{I a:Addr}{es:Array (Int×Value)}{ep:Nat}{t:SetTable}{vs:List Value}{fp:Option Addr}
def Ord.cases0{h}{f0}{i}(x:Ord w h a es ep t f0 i vs):(∃sl:Int,f0 = .int sl 0) \/ ∃p,f0 = .ref p:=by
 cases x with
 | txt _ e=>exact .inl ⟨0,e⟩
 | drw p os _ _ e _=>exact .inr ⟨p,e⟩
 | one sl _ _ _ e _ _=>exact .inl ⟨sl,e⟩
def Xjg{i}{Q}(st:ItS w I a es ep t vs fp i s.heap)(hi:i<vs.length)(hl:vs.length=es.size)(nIa:a≠I)(nIp:∀p,fp=some p->p≠I)
  (hQ:∀h',ItS w I a es ep t vs fp (i+1) h'->Heap.SameBut I s.heap h'->Q (some vs[i]) {s with heap:=h'}):wpAny (model P w) A (pyNext (.ref I)) Q E s:=by
 obtain⟨f0,hI,hO,hS,hp⟩:=st;have hT:s.TypeIs (.ref I) "set_iterator" := ⟨_,hI,rfl⟩;unfold pyNext;refine Ta (wpAny_attempt (wpAny_callSpecial?_slot (name:=Str.ofString "__next__") hT SF.sNext (wpAny_call_entry SF.sNext hT SF.eNext ?_ (SF.aNext _))));have e1:((i:Int)+1)=((i+1:Nat):Int):=by omega
 have fin:∀(E':Zc) (nx:Nat),Ord w ((s.heap.update I (Obj.mapFields (·.setIfInBounds 0 (rawInt nx)))).update I (Obj.mapFields (·.setIfInBounds 1 (rawInt ((i:Int)+1))))) a es ep t (.int nx 0) (i+1) vs ->
   wpAny (model P w) A.in1 (do
    setField (.ref I) 0 (rawInt nx)
    setField (.ref I) 1 (rawInt ((i:Int)+1))
    ret vs[i]) (λfin s'=>∃r,fin = .done (.ret r)/\wpAny (model P w) A (pure (some r)) Q E s') E' s:=λE' nx O=>by
  refine Ta (wpAny_setField hI rfl (by simp) ?_);refine Ta (wpAny_setField (Js (x:=.none) (j:=0) hI 0 (rawInt nx)) rfl (by simp) ?_);have g:=Heap.get?_update_self (Obj.mapFields (·.setIfInBounds 1 (rawInt ((i:Int)+1)))) (Js (x:=.none) (j:=0) hI 0 (rawInt nx)) rfl;refine Tb ⟨_,rfl,Tb (hQ _ ⟨_,g.trans ?_,O,hS.at λo q=>?_,λp z=>by cases z⟩ ((Tn ..).trans (Tn ..)))⟩
  ·rw[e1];rfl
  ·rw[((Tn s.heap I _).trans (Tn _ I _)).2 a nIa];exact q
 refine Xb8 hI hS (λsl e=>?_) (λp e=>?_) hO.cases0
 ·subst e;cases hO with
  | txt hw e=>
   cases e;have hi2:i<(pickOrder (w.params.setOrder a ep) es).size:=by simpa using hi
   refine Ta (Xb9 hw hS ?_);rw[getElem?_pos _ i hi2];have ev:((pickOrder (w.params.setOrder a ep) es).toList.map (·.2))[i]=((pickOrder (w.params.setOrder a ep) es)[i]).2:=by simp
   have f:=λE'=>fin E' 0 (.txt hw rfl);rw[ev] at f;exact f _
  | drw p os _ _ e _=>cases e
  | one sl' hw hld h1 e hz ho=>
   cases e;obtain⟨_,_,_,_,hft⟩:=id hS;have hps:=Xcb hft;have i0:i=0:=by
    have:i<es.size:=by rw[<-hl];exact hi
    omega
   subst i0;have z0:=hz rfl;subst z0;have he:0<es.size:=by rw[<-hl];exact hi
   have hpl:0<t.place.size:=by rw[hps];exact he
   refine Ta (Xca hw hld h1 hS ?_);have b0:SetTable.below t.place ((0:Nat):Int).toNat=0:=Xje (by rw[hps];exact h1);rw[b0,getElem?_pos es 0 he,getElem?_pos t.place 0 hpl];have ev:(es.toList.map (·.2))[0]=(es[0]).2:=by simp
   have f:=λE'=>fin E' (t.place[0]+1) (.one (t.place[0]+1) hw hld h1 rfl (λz=>by cases z) (λj _ q=>by rw[getElem?_pos t.place 0 hpl] at q;cases q;rfl));rw[ev] at f;exact f _
 ·subst e;cases hO with
  | txt hw e=>cases e
  | one sl' hw hld h1 e hz ho=>cases e
  | drw p' os hw hp2 e htp=>
   cases e;obtain⟨n,htp⟩:=htp;have hil:i<os.length:=by simpa using hi
   have hos:os[i]<es.size:=P1.mp (hp2.mem_iff.mp (Pa hil));refine Ta (wpAny_seqItems htp rfl ?_);have g:((os.map λj=>Value.int (j:Nat) 0).toArray)[i]? = some (.int ((os[i]:Nat):Int) 0):=by simp[hil]
   dsimp only;rw[g];dsimp only;obtain⟨o,ho,hex,hd,hft⟩:=id hS;unfold setNextDrawn;refine Ta (Ta (wpAny_setState_of ho hd hft ?_));dsimp only;rw[Tf (by simp),show ((os[i]:Nat):Int).toNat=os[i] from Rs _,getElem?_pos es _ hos];refine Tb ?_;refine Ta (wpAny_setField hI rfl (by simp) ?_);have ev:(os.map λj=>((es[j]?).map (·.2)).getD Value.none)[i]=(es[os[i]]).2:=by simp[hos]
   have g2:=Js (x:=.none) (j:=0) hI 1 (rawInt ((i:Int)+1));have nI2:p≠I:=nIp p (hp p rfl);have q:=hQ (s.heap.update I (Obj.mapFields (·.setIfInBounds 1 (rawInt ((i:Int)+1))))) ⟨_,g2.trans (by rw[e1];rfl),.drw p os hw hp2 rfl ⟨n,?_⟩,hS.at λo q=>?_,λp' z=>hp p' z⟩ (Tn ..)
   ·rw[ev] at q;exact Tb ⟨_,rfl,Tb q⟩
   ·rw[(Tn s.heap I _).2 p nI2];exact htp
   ·rw[(Tn s.heap I _).2 a nIa];exact q
end
section
variable {P:Program}{w:World}{A:Around}{E:Zc}{s:Shared}{I a:Addr}{es:Array (Int×Value)}{ep:Nat}{t:SetTable}{vs:List Value}{fp:Option Addr}
def Xcc{α : Type}{h0:Heap}{Q}{E'}(hh:A.handled=none)
  (k:∀e h',(∀b o,s.heap.get? b=some o->h'.get? b=some o)->Shared.TypeIs {s with heap:=h'} e "StopIteration" -> E' e {s with heap:=h'}):
  wpAny (model P w) A (do raiseNew (<-newExc (.type "StopIteration") []):Sem α) Q E' s:=by
 refine Ta ?_;simp only[newExc,newTuple];refine Ta (wpAny_newObj_type ?_ (by size_fits));refine Ta (m:=firstArgMember _ _) (wpAny_of_eq (a:=Value.none) (by first | rfl | (simp only[firstArgMember];rfl)) ?_);refine wpAny_newObj_type ?_ (by size_fits);simp only[raiseNew];refine Ta (wpAny_handled ?_);rw[hh];refine Ta (Tb (wpAny_throw ?_));exact k _ _ (λb o q=>Tm _ (Tm _ q)) ⟨_,Heap.get?_push_size _ rfl,rfl⟩
def Xjh{Q}(hh:A.handled=none)(st:ItS w I a es ep t vs fp vs.length s.heap)(hl:vs.length=es.size)
    (hQ:∀h',(∀b o,b≠I->s.heap.get? b=some o->h'.get? b=some o)->Q none {s with heap:=h'}):wpAny (model P w) A (pyNext (.ref I)) Q E s:=by
  obtain⟨f0,hI,hO,hS,hp⟩:=st;have hT:s.TypeIs (.ref I) "set_iterator" := ⟨_,hI,rfl⟩;unfold pyNext;refine Ta (wpAny_attempt (wpAny_callSpecial?_slot (name:=Str.ofString "__next__") hT SF.sNext (wpAny_call_entry SF.sNext hT SF.eNext ?_ (SF.aNext _))));have hh1:A.in1.handled=none:=hh;have stp:∀(e:Value) (h':Heap),(∀b o,b≠I->s.heap.get? b=some o->h'.get? b=some o)->Shared.TypeIs {s with heap:=h'} e "StopIteration" ->
      wpAny (model P w) A (do if <-isInstance e (.type "StopIteration") then pure none else throw e) Q E {s with heap:=h'}:=λe h' k ty=>
    Ta (wpAny_isInstance (T := "StopIteration") (b:=true) ty isSubtype_stop (Tb (hQ h' k)))
  have keep1:∀(f:Obj->Obj) b o,b≠I->s.heap.get? b=some o->(s.heap.update I f).get? b=some o:=λf b o nb q=>by
    rw[(Tn s.heap I f).2 b nb];exact q
  have fin:∀(Q':PySem.Fin->Shared->Prop),wpAny (model P w) A.in1 (do
        setField (.ref I) 2 .none
        raiseNew (<-newExc (.type "StopIteration") [])) Q' (λe s'=>wpAny (model P w) A (do if <-isInstance e (.type "StopIteration") then pure none else throw e) Q E s') s:=λQ'=>by
    refine Ta (wpAny_setField hI rfl (by simp) ?_);refine Xcc (h0:=s.heap) (s:={s with heap:=s.heap.update I (Obj.mapFields (·.setIfInBounds 2 Value.none))}) hh1 λe h' k ty=>?_;exact stp e h' (λb o nb q=>k b o (keep1 _ b o nb q)) ty
  refine Xb8 hI hS (λsl e=>?_) (λp e=>?_) hO.cases0
  . subst e;cases hO with
    | txt hw e=>
      cases e;refine Ta (Xb9 hw hS ?_);rw[getElem?_neg _ _ (by simp)];exact fin _
    | drw p os _ _ e _=>cases e
    | one sl' hw hld h1 e hz ho=>
      cases e;obtain⟨_,_,_,_,hft⟩:=id hS;have hps:=Xcb hft;refine Ta (Xca hw hld h1 hS ?_);have hn:es[SetTable.below t.place ((sl':Nat):Int).toNat]? = none:=by
        rw[Rs];by_cases h0:es.size=0
        . exact getElem?_neg _ _ (by omega)
        . have e1:es.size=1:=by omega
          have hpl:0<t.place.size:=by rw[hps,e1];decide
          have:=ho t.place[0] (by rw[hl,e1]) (getElem?_pos t.place 0 hpl);rw[this,Xjf (by rw[hps];exact h1) (getElem?_pos t.place 0 hpl)];exact getElem?_neg _ _ (by omega)
      rw[hn];exact fin _
  . subst e;cases hO with
    | txt hw e=>cases e
    | one sl' hw hld h1 e hz ho=>cases e
    | drw p' os hw hp2 e htp=>
      cases e;obtain⟨n,htp⟩:=htp;refine Ta (wpAny_seqItems htp rfl ?_);dsimp only;rw[getElem?_neg _ _ (by simp)];dsimp only;refine Ta (wpAny_setField hI rfl (by simp) ?_);refine Ta (wpAny_setField (Js (x:=.none) (j:=0) hI 0 (rawInt 0)) rfl (by simp) ?_);refine Xcc (h0:=s.heap) (s:={s with heap:=(s.heap.update I (Obj.mapFields (·.setIfInBounds 0 (rawInt 0)))).update I (Obj.mapFields (·.setIfInBounds 2 Value.none))}) hh1 λe h' k ty=>?_;refine stp e h' (λb o nb q=>k b o ?_) ty;show ((s.heap.update I _).update I _).get? b=some o;rw[(Tn _ I _).2 b nb];exact keep1 _ b o nb q
end
namespace SF
def sSelf:Slot "set_iterator" "__iter__" "set_iterator.__iter__" := .of (owner := "set_iterator") (n := "__iter__") (by rw[typeLookup_type,builtinLookup_eq_fast];kernel_rfl) (by decide +kernel) (by decide +kernel) (by decide +kernel) (by first | exact .inl (by decide +kernel) | exact .inr (by decide +kernel)) (by rw[isSubtype_type];kernel_rfl)
def eSelf:entryFor table "set_iterator.__iter__" = some Builtin.«dict_keyiterator.__iter__»:=entryFor_alias (id' := "dict_keyiterator.__iter__") (by kernel_rfl) rfl (by decide +kernel) (by kernel_rfl)
def aSelf(a):argsOk "set_iterator.__iter__" ⟨[a],[]⟩:=by unfold argsOk;kernel_rfl
end SF
section
variable {P:Program}{w:World}{A:Around}{E:Zc}{s:Shared}{I a:Addr}{es:Array (Int×Value)}{ep:Nat}{t:SetTable}{vs:List Value}{fp:Option Addr}{ks:Zb}
def ItS.at{i}{h h'}(x:ItS w I a es ep t vs fp i h)(k:∀b∈I::a::fp.toList,∀o,h.get? b=some o->h'.get? b=some o):ItS w I a es ep t vs fp i h':=by
 obtain⟨f0,h1,h2,h3,h4⟩:=x;refine⟨f0,k I (by simp) _ h1,?_,h3.at λo q=>k a (by simp) o q,h4⟩;cases h2 with
 | txt e1 e2=>exact .txt e1 e2
 | drw p os e1 e2 e3 e4=>
  obtain⟨n,e4⟩:=e4;exact .drw p os e1 e2 e3 ⟨n,k p (by rw[h4 p e3];simp) _ e4⟩
 | one sl e1 e2 e3 e4 e5 e6=>exact .one sl e1 e2 e3 e4 e5 e6
def Xji(hh:A.handled=none)(hl:vs.length=es.size)(nIa:a≠I)(nIp:∀p,fp=some p->p≠I):Walks P w A I (I::a::fp.toList) [I] vs.length (λi v=>vs[i]? = some v) (ItS w I a es ep t vs fp) where
 sub:=λb hb=>by simp at hb;simp[hb]
 frame:=λ_ _ _ st hk=>st.at hk
 item:=λi s Q E hi st hQ=>by
  refine Xjg st hi hl nIa nIp λh' st' sb=>?_;exact hQ vs[i] h' s.toks (by simp[hi]) st' λb o hb e=>by rw[sb.2 b (λz=>hb (by simp[z]))];exact e
 done:=λs Q E st hQ=>Xjh hh st hl λh' k=>hQ h' s.toks λb o hb e=>k b o (λz=>hb (by simp[z])) e
 self:=λi s Q E st hQ=>by
  obtain⟨f0,h1,_⟩:=st;have hT:s.TypeIs (.ref I) "set_iterator" := ⟨_,h1,rfl⟩;refine wpAny_pyIter_slot hT SF.sSelf (wpAny_call_entry SF.sSelf hT SF.eSelf ?_ (SF.aSelf _));show wpAny _ _ (ret (.ref I)) _ _ s;exact Tb ⟨_,rfl, "set_iterator",_,hT,SF.sNext.lookup,hQ⟩
def Xjj{r}{Q}(hT:s.TypeIs (.ref r) "set")(h:Q false s):wpAny (model P w) A (Builtin.List.listLengthHint (.ref r)) Q E s:=by
 unfold Builtin.List.listLengthHint;refine Ta (wpAny_specialOf hT PySem.F.slot_set_len.lookup ?_);generalize hid:("set.__len__" : String)=id0
 wp_delta
 rw[show splitId id0=some ("set", "__len__") from by subst hid;decide +kernel];subst hid;refine Ta (wpAny_isInstance (T := "set") (b:=true) hT (by rw[isSubtype_type];kernel_rfl) ?_);refine wpAny_ite_split (λz=>absurd z (by decide)) (λ_=>?_);refine wpAny_ite_split (λ_=>?_) (λz=>absurd (by decide +kernel) z);exact Ta (wpAny_typeOf hT (Tb h))
end
end L2
namespace L2
open PySem.Calls
section
variable {P:Program}{w:World}{A:Around}{E:Zc}{s:Shared}{a:Addr}{ks:Zb}
def Xjk{R:Result->Shared->Prop}{S:Addr}{res:Value}{c0:Nat}(hh:A.handled=none)(hs:SSet P w s.heap a ks)(nS:S≠a)(gS:s.heap.get? S=some {cls:=.type "list",data:=.seq #[] c0})
  (hR:∀s' acc c vs ls,(∀b o,b≠S->s.heap.get? b=some o->s'.heap.get? b=some o)->s'.os=s.os->s'.gens=s.gens->s'.heap.get? S=some {cls:=.type "list",dict:=none,data:=.seq acc c,slots := #[]}->acc.toList=vs->StrsAre vs ls->ls.Perm ks->R (.ok (.ret res)) s'):
  wpAny (model P w) A.in1 (Builtin.List.listExtendWith (.ref S) (.ref a) res)
   (λfin s'=>match fin with | .done f=>R (.ok f) s' | .again c'=>c'.quiet=true/\codeAny (model P w) A c' R s') (λe s'=>R (.error e) s') s:=by
 obtain⟨o,es,ep,t,ls0,ho,hex,hd,hel,hst,hpm,hb,hf,hl,hpl⟩:=id hs;have hT:s.TypeIs (.ref a) "set" := ⟨o,ho,hex.1⟩;have la:=Tl ho;have lS:=Tl gS;unfold Builtin.List.listExtendWith;refine Ta (wpAny_typeOf (T := "set") hT ?_);have n1:Builtin.List.listSameRef (.ref S) (.ref a)=false:=by simp[Builtin.List.listSameRef,nS]
 have n2:(Value.type "set" == Value.type "list")=false:=by decide
 have n3:(Value.type "set" == Value.type "tuple")=false:=by decide
 simp only[n1,n2,n3,S6,P6,if_false];refine Ta (Xjd ⟨o,ho,hex,hd,hf⟩ hb hl hpl λf0 vs h1 d k1 z1 z2 kp O pv=>?_);have hvl:vs.length=es.size:=by rw[pv.length_eq,Oh,O1]
 have nI:∀b,b<h1.objs.size->b≠h1.objs.size:=λb q=>Ow q;have kI:∀b o,s.heap.get? b=some o->(h1.push (itO f0 0 a es.size ep)).get? b=some o:=λb o q=>Tm _ (k1 b o q);obtain⟨fp,hfp⟩:∃fp:Option Addr,(∀p,f0 = .ref p->fp=some p)/\∀p,fp=some p->p≠h1.objs.size/\p≠S:=by
  cases f0 with
  | ref p=>
   refine⟨some p,⟨λq e=>(by cases e;rfl),λq e=>?_⟩⟩;cases e;refine⟨Ow (kp p rfl),λz=>?_⟩;subst z;cases O with
   | drw p' os _ _ e ht=>
    cases e;obtain⟨n,ht⟩:=ht;rw[kI _ _ gS] at ht;have hc:=congrArg Obj.cls (O0 ht);exact absurd hc (by simp)
   | txt _ e=>cases e
   | one _ _ _ _ e _ _=>cases e
  | _=>exact⟨none,⟨λq e=>(by cases e),λq e=>(by cases e)⟩⟩
 have st0:ItS w h1.objs.size a es ep t vs fp 0 (h1.push (itO f0 0 a es.size ep)):=⟨f0,Heap.get?_push_size _ rfl,O,⟨o,kI _ _ ho,hex,hd,hf⟩,hfp.1⟩;have W:=Xji (P:=P) (w:=w) (A:=A.in1) (I:=h1.objs.size) (a:=a) (es:=es) (ep:=ep) (t:=t) (vs:=vs) (fp:=fp) hh hvl (Ow (O7 la z2)) (λp e=>(hfp.2 p e).1);have nSf:S∉h1.objs.size::a::fp.toList:=by
  simp only[O2,not_or];refine⟨Ow (O7 lS z2),nS,λz=>?_⟩;cases hfq:fp with
  | none=>rw[hfq] at z;simp at z
  | some p=>
   rw[hfq] at z;have:S=p:=by simpa using z
   exact(hfp.2 p hfq).2 this.symm
 have key:∀(h:Heap) (c1:Nat),ItS w h1.objs.size a es ep t vs fp 0 h->(∀b o,b≠S->s.heap.get? b=some o->h.get? b=some o)->h.get? S=some {cls:=.type "list",data:=.seq #[] c1} ->
   codeAny (model P w) A (.builtin "list.extend.loop" ⟨[.ref S,.ref h1.objs.size,res],[]⟩) R {s with heap:=h,drawn:=d}:=by
  intro h c1 hst1 hk gS1;refine codeAny_extend_loopS W.toS (by rw[hvl];exact fits_of_scanBound hb) S nSf res vs.length 0 _ #[] c1 rfl (Pm _) hst1 gS1 (ItemsOf.nil _) λs' acc c hm gS' hacc=>?_;have hav:acc.toList=vs:=by
   apply List.ext_getElem?;intro i;by_cases hi:i<vs.length
   ·have hi2:i<acc.size:=by rw[hacc.1];exact hi
    have:=hacc.2 i acc[i] (getElem?_pos acc i hi2);rw[this];simp[hi2]
   ·rw[Qo (by rw[O1,hacc.1];omega),Qo (by omega)]
  have hls:StrsAre vs (vs.map strOf):=strsAre_map vs λv hv=>hst.all v (pv.mem_iff.mp hv);refine hR s' acc c vs (vs.map strOf) (λb o nb q=>hm.heap b o (λz=>?_) (hk b o nb q)) hm.os hm.gens gS' hav hls ?_
  ·rcases O2.mp z with z | z
   ·exact nb z
   ·exact absurd (O7 (Tl q) z2) (by rw[Om.mp z];exact P5 _)
  ·have:=pv.map strOf;rw[hst.strs] at this;exact this.trans hpm
 have gS1:=kI _ _ gS;have hT1:Shared.TypeIs {s with heap:=h1.push (itO f0 0 a es.size ep),drawn:=d} (.ref a) "set" := ⟨o,kI _ _ ho,hex.1⟩;refine Ta (wpAny_holding (Xjj hT1 ?_));refine wpAny_ite_split (λ_=>?_) (λ_=>Tb ⟨plainId_quiet PySem.F.plain_extend_loop _,key _ c0 st0 (λb o _ q=>kI b o q) gS1⟩);refine Ta (wpAny_rule (Ta ?_));show wpAny _ _ (updateSeq S (·.push .none) >>= λ_=>updateSeq S (·.pop)) _ _ _;refine Ta (wpAny_updateSeq gS1 rfl ?_);have gS2:=Heap.get?_update_self (Obj.mapSeq (·.push Value.none)) gS1 rfl;refine wpAny_updateSeq (hz:=by seq_fits) gS2 rfl ?_;have gS3:=Heap.get?_update_self (Obj.mapSeq (·.pop)) gS2 rfl;have other:∀b,b≠S->(((h1.push (itO f0 0 a es.size ep)).update S (Obj.mapSeq (·.push Value.none))).update S (Obj.mapSeq (·.pop))).get? b=(h1.push (itO f0 0 a es.size ep)).get? b:=λb nb=>
  (Heap.get?_update_other _ _ (Ne.symm nb)).trans (Heap.get?_update_other _ _ (Ne.symm nb))
 refine Tb ⟨plainId_quiet PySem.F.plain_extend_loop _,key _ _ (st0.at λb hb2 o q=>?_) (λb o nb q=>?_) gS3⟩
 ·rw[other b (λz=>nSf (z ▸ hb2))];exact q
 ·rw[other b nb];exact kI b o q
def Xjl{R}(hh:A.handled=none)(hs:SSet P w s.heap a ks)
    (h:∀s' vs ls,(∀b o,s.heap.get? b=some o->s'.heap.get? b=some o)->s'.os=s.os->s'.gens=s.gens->StrsAre vs ls->ls.Perm ks->R vs s'):wpAny (model P w) A (collect (.ref a)) R E s:=by
  have la:a<s.heap.objs.size:=by obtain⟨o,_,_,_,_,g,_⟩:=hs;exact Tl g
  unfold collect;refine Ta (wpAny_runValue (codeAny_builtin entry_proto_collect' ?_));rw[Around.under_plainId PySem.F.plain_proto_collect _];show wpAny _ A.in1 (newList [] >>= λl=>again (.builtin "list.__iadd__" ⟨[l,Value.ref a],[]⟩)) _ _ s;refine Ta (wpAny_newObj_type ?_);refine Tb ⟨plainId_quiet PySem.F.plain_list_iadd _,codeAny_builtin entry_list_iadd' ?_⟩;rw[Around.under_plainId PySem.F.plain_list_iadd _];have gS:(s.heap.push {cls:=.type "list",data:=.seq ([]:List Value).toArray}).get? s.heap.objs.size=some {cls:=.type "list",data:=.seq #[] 0}:=Heap.get?_push_size _ rfl;show wpAny _ A.in1 (Builtin.List.listExtendWith (.ref s.heap.objs.size) (.ref a) (.ref s.heap.objs.size)) _ _ _;have key:=Xjk (A:=A) (s:={s with heap:=s.heap.push {cls:=.type "list",data:=.seq ([]:List Value).toArray} }) (S:=s.heap.objs.size) (res:=.ref s.heap.objs.size)
    (R:=λq s'=>∃acc c vs ls,q = .ok (.ret (.ref s.heap.objs.size))/\(∀b o,s.heap.get? b=some o->s'.heap.get? b=some o)/\s'.os=s.os/\s'.gens=s.gens/\s'.heap.get? s.heap.objs.size=some {cls:=.type "list",dict:=none,data:=.seq acc c,slots := #[]}/\acc.toList=vs/\StrsAre vs ls/\ls.Perm ks)
    hh (hs.stay λo q=>Tm _ q) (Nat.ne_of_gt la) gS (λs' acc c vs ls k e1 e2 g e3 e4 e5=>⟨acc,c,vs,ls,rfl,λb o q=>k b o (Ow (Tl q)) (Tm _ q),e1,e2,g,e3,e4,e5⟩)
  have done:∀(q:Result) (s':Shared),(∃acc c vs ls,q = .ok (.ret (.ref s.heap.objs.size))/\(∀b o,s.heap.get? b=some o->s'.heap.get? b=some o)/\s'.os=s.os/\s'.gens=s.gens/\s'.heap.get? s.heap.objs.size=some {cls:=.type "list",dict:=none,data:=.seq acc c,slots := #[]}/\acc.toList=vs/\StrsAre vs ls/\ls.Perm ks) ->
      wants (λv s2=>wpAny (model P w) A (match v with
        | .ref l=>(do match (<-load l).data with
                        | .seq xs _=>pure xs.toList
                        | _=>unsupported "internal:collect")
        | _=>unsupported "internal:collect") R E s2) E q s':=λq s' ⟨acc,c,vs,ls,e0,k,e1,e2,g,e3,e4,e5⟩=>by
    subst e0;show wpAny _ A (load s.heap.objs.size >>= _) _ _ s';refine Ta (wpAny_load g ?_);refine Tb ?_;rw[e3];exact h s' vs ls k e1 e2 e4 e5
  refine wpAny_mono key (λfin s' x=>?_) λe s' x=>?_
  . cases fin with
    | done f=>exact done _ _ x
    | again c1=>exact⟨x.1,codeAny_mono x.2 λq s2 y=>done q s2 y⟩
  . obtain⟨_,_,_,_,e',_⟩:=x;cases e'
end
section
variable {X:Cx}{pins:List (Addr×Obj)}{Z:St}{H:Hp}{s s':Shared}
def Inv.moved(I:Inv X pins Z H s)(k:∀b u,s.heap.get? b=some u->s'.heap.get? b=some u)(ho:s'.os=s.os)(hg:s'.gens=s.gens):Inv X pins Z H s':=by
 have J:=I.kept (h':=s'.heap) (t':=s'.toks) k;exact⟨J.ok,ho.trans I.os,by rw[hg];exact I.bare,J.base,J.loc,J.cell,J.free,J.freeC,J.pin,J.hok,J.len⟩
def Inv.laidM{a:Addr}{o}(I:Inv X pins Z H s)(k:∀b u,s.heap.get? b=some u->s'.heap.get? b=some u)(ho:s'.os=s.os)(hg:s'.gens=s.gens)(hp:s.heap.objs.size<=a)(new:A4 X.prog X.w (upd H a o) s'.heap a o):Inv X pins Z (upd H a o) s':=by
 have J:=I.laid (h':=s'.heap) (t':=s'.toks) k hp new;exact⟨J.ok,ho.trans I.os,by rw[hg];exact I.bare,J.base,J.loc,J.cell,J.free,J.freeC,J.pin,J.hok,J.len⟩
end
section
variable {P:Program}{w:World}{A:Around}{E:Zc}{s:Shared}{ks:Zb}
def Ml{r}{Q}(h64:ks.length<64)
  (hc:∀(R:List Value->Shared->Prop),(∀s' vs ls,(∀b o,s.heap.get? b=some o->s'.heap.get? b=some o)->s'.os=s.os->s'.gens=s.gens->StrsAre vs ls->ls.Perm ks->R vs s')->wpAny (model P w) A.in1 (collect (.ref r)) R E s)
  (h:∀(s1 s':Shared) (vs:List Value) (ls:Zb) (e:Nat),(∀b o,s.heap.get? b=some o->s1.heap.get? b=some o)->s1.os=s.os->s1.gens=s.gens->(∀b o,s1.heap.get? b=some o->s'.heap.get? b=some o)->s'.os=s1.os->s'.gens=s1.gens->s'.heap.get? s1.heap.objs.size=some (seqObj "list" vs.toArray e)->StrsAre vs ls->ls.Perm ks->sortedS ls=true->Q (.ref s1.heap.objs.size) s'):
  wpAny (model P w) A (call (.builtin "sorted") [.ref r]) Q E s:=by
 refine Calls.call_function_entry kind_sorted plain_sorted entry_sorted (args_sorted1 _) ?_;unfold Builtin.«sorted»;refine Ta (m:=checkCount "sorted" 1 1 _) (Tb ?_);refine Ta (hc _ λs1 vs ls k1 o1 g1 st p=>?_);have hl:vs.length<64:=by rw[st.length,p.length_eq];exact h64
 refine Ta (wpAny_newList ?_ (by rw[Te];omega));have gL:(s1.heap.push (seqObj "list" vs.toArray 0)).get? s1.heap.objs.size=some (seqObj "list" vs.toArray 0):=Heap.get?_push_size _ rfl;refine Ta (wpAny_holding (wpAny_call_entry (s:={s1 with heap:=s1.heap.push (seqObj "list" vs.toArray 0)}) slot_list_sort ⟨_,gL,rfl⟩ entry_list_sort (list_sort_treeK strKind_oneLt gL st.keysOf (λa b rest e=>keyKind_strs (by rw[<-e];exact st)) hl λst' pp so=>⟨_,rfl,?_⟩) (args_list_sort _)));obtain⟨ls',a1,a2,a3⟩:=sorted_out_str st pp so;obtain⟨e,he⟩:=sortedHeap_at (out:=(arrOf st').map (·.2)) gL;refine Tb ⟨_,rfl,h s1 _ ((arrOf st').map (·.2)).toList ls' e k1 o1 g1 (λb o q=>?_) rfl rfl he a1 (a2.trans p) a3⟩;have lt:=Tl q;show (sortedHeap (s1.heap.push (seqObj "list" vs.toArray 0)) s1.heap.objs.size vs ((arrOf st').map (·.2))).get? b=some o;rw[sortedHeap_old (Ow lt) (by rw[size_push'];exact Qb lt)];exact Tm _ q
end
def Ch (P:Program) (w:World) (a:Addr) (ks:Zb):HO:=.ext λh=>SSet P w h a ks
def Xcd{ss}{vs}(h:StrsAre vs ss):Vals (ss.map V.str) vs:=by
 induction h with
 | nil=>exact .nil
 | cons x t _ ih=>exact .cons ⟨t,rfl⟩ ih
theorem Ga:∀{ss:Zb} {vs:List Value},Vals (ss.map V.str) vs->StrsAre vs ss
 | [],_,r=>by cases r;exact .nil
 | x::ss,_,r=>by
  cases r with
  | cons r1 r2=>
   obtain⟨t,rfl⟩:=r1;exact .cons x t (Ga r2)
section
variable {X:Cx}
def Mm:X.calm=true->Bv X (.type "set") (λxs H Q=>∃p ss,xs=[.ref p]/\(SqL X.K H p (ss.map V.str)\/SqT X.K H p (ss.map V.str))/\ss.length+1<scanBound/\∀a,H a=none->Q (.ref a) (upd H a (Ch X.prog X.w a (ddup ss)))):=by
 intro hcalm pins s Z H xs us Q I r h;obtain⟨p,ss,rfl,hq,hb,q⟩:=h;obtain⟨u,rfl,rx⟩:=Co r;cases rx;obtain⟨its,r',src⟩:∃its:List Value,Vals (ss.map V.str) its/\Src s.heap p its.toArray:=by
  rcases hq with hq | hq
  ·obtain⟨its,r',pl,_⟩:=I.list hq;exact⟨its,r',.lst pl.isList⟩
  ·obtain⟨its,r',pl,_⟩:=I.tuple hq;exact⟨its,r',.tup pl⟩
 refine Xi7 (I.ok.hd hcalm) src (Ga r') hb λh' tk S k=>?_;refine⟨.ref s.heap.objs.size,_,I.laidM (s':={s with heap:=h',toks:=tk}) k rfl rfl (Oj _) ?_,rfl,q _ (I.hok.fresh (Oj _))⟩;exact⟨S,by obtain⟨o,_,_,_,_,g,_⟩:=S;exact⟨o,g⟩,λh1 h2 S1 kk=>S1.stay kk⟩
def Mn{pins}{Z:St}{H}{s s1 s':Shared}{Q}{vs}{ls ks}{e}(I:Inv X pins Z H s)(h64:ks.length<64)(k1:∀b o,s.heap.get? b=some o->s1.heap.get? b=some o)(o1:s1.os=s.os)(g1:s1.gens=s.gens)
  (k2:∀b o,s1.heap.get? b=some o->s'.heap.get? b=some o) (o2:s'.os=s1.os) (g2:s'.gens=s1.gens) (he:s'.heap.get? s1.heap.objs.size=some (seqObj "list" vs.toArray e)) (st:StrsAre vs ls) (p:ls.Perm ks)
  (q:∀l,H l=none->Q (.ref l) (upd H l (.lst (ls.map V.str)))):EP X pins Z Q (.ref s1.heap.objs.size) s':=by
 have I1:=I.moved k1 o1 g1;refine⟨.ref s1.heap.objs.size,_,I1.laidM k2 o2 g2 (Oj _) (show A4 X.prog X.w _ s'.heap _ (.lst (ls.map V.str)) from ⟨?_,vs,e,Xcd st,he⟩),rfl,q _ (I1.hok.fresh (Oj _))⟩;rw[Oh,p.length_eq,Te];omega
def Jt:X.calm=true->Bv X (.builtin "sorted") (λxs H Q=>∃a ks,xs=[.ref a]/\H a=some (Ch X.prog X.w a ks)/\ks.length<64/\∀l ls,H l=none->ls.Perm ks->sortedS ls=true->Q (.ref l) (upd H l (.lst (ls.map V.str)))):=by
 intro hcalm pins s Z H xs us Q I r h;obtain⟨a,ks,rfl,ha,h64,q⟩:=h;obtain⟨u,rfl,rx⟩:=Co r;cases rx;obtain⟨S,_⟩:=(show A4 X.prog X.w H s.heap a (.ext λh=>SSet X.prog X.w h a ks) from I.hok a _ ha);refine Ml h64 (λR k=>Xjl (by show X.A.in1.handled=none;simp[I.ok.hd hcalm]) S k) λs1 s' vs ls e k1 o1 g1 k2 o2 g2 he st p so=>?_;exact Mn I h64 k1 o1 g1 k2 o2 g2 he st p λl hl=>q l ls hl p so
end
def Inv.turned2{X}{pins}{Z:St}{H}{s}{h'}{t'}{e1 e2}(I:Inv X pins Z H s)(k:∀b o,b≠e1->b≠e2->s.heap.get? b=some o->h'.get? b=some o)(f1:FpOk X pins H e1)(f2:FpOk X pins H e2):Inv X pins Z H {s with heap:=h',toks:=t'}:=by
 have no:∀b u,H b=some u->b≠e1/\b≠e2:=λb u q=>⟨λz=>(by rw[z,f1.1] at q;cases q),λz=>(by rw[z,f2.1] at q;cases q)⟩;have nn:∀b,b∉[e1,e2]->b≠e1/\b≠e2:=λb hb=>by simpa using hb
 refine I.step (g':=s.gens) (d':=s.drawn) (ch:=[e1,e2]) (λb hb=>?_) (λb o _ _ hc q _=>k b o (nn b hc).1 (nn b hc).2 q) (λb o _ _ hc q _=>⟨o.slots,k b o (nn b hc).1 (nn b hc).2 q⟩) (λ_ _ _ _ n=>n) (λb o hc q=>⟨o,k b o (nn b hc).1 (nn b hc).2 q⟩) (λ_ _ q=>q) (λ_ _ _ q=>q) (λb ps q=>⟨#[],by rw[q];simp⟩) (λm hm=>?_) (λb u q=>?_) I.bare
 ·have hb':b=e1\/b=e2:=by simpa using hb
  rcases hb' with z | z
  ·subst z;exact⟨f1.2.2.2.1,f1.2.1,f1.2.2.2.2.1,f1.2.2.2.2.2⟩
  ·subst z;exact⟨f2.2.2.2.1,f2.2.1,f2.2.2.2.2.1,f2.2.2.2.2.2⟩
 ·obtain⟨o,es,ep,ho,r⟩:=hm;exact⟨o,es,ep,k _ o (Ne.symm f1.2.1) (Ne.symm f2.2.1) ho,r⟩
 ·refine(I.hok b u q).stay (λc v hc z=>k c v ?_ ?_ z) (λ_ z=>z) λ_ _ z=>z
  ·rcases hc with y | y
   ·rw[y];exact(no b u q).1
   ·exact(no c _ y).1
  ·rcases hc with y | y
   ·rw[y];exact(no b u q).2
   ·exact(no c _ y).2
def Ite (K:Za) (a:Addr):It:=
 ⟨λi H=>∃xs x,SqL K H a xs/\xs[i]? = some x,λi H x H'=>∃tp,x = .ref tp/\H tp=none/\∀xs,SqL K H a xs->∃y,xs[i]? = some y/\H'=upd H tp (.tup [.int i,y]),λi H=>∃xs,SqL K H a xs/\xs.length<=i⟩
def Xjm{P:Program}{w:World}{K:Za}{es:List Expr}{k:Nat}{p:Pos}(a e it:Addr)(ne:e≠it):Turn P w K (.Tuple es k p) (Ite K a) [e,it] e (λi h=>(∃old,IsEnum h e it i old)/\h.IsListIter it a i) where
 mem:=by simp
 obj:=λi h st b hb=>by
  have hb':b=e\/b=it:=by simpa using hb
  rcases hb' with z | z
  ·subst z;obtain⟨⟨old,q⟩,_⟩:=st;exact⟨_,q,λv z=>by
    have z':Data.fields _=Data.cell v:=z;cases z'⟩
  ·subst z;obtain⟨o,q,c,d⟩:=st.2;exact⟨o,q,λv z=>by rw[d] at z;cases z⟩
 keep:=λi h h' st k=>by
  obtain⟨⟨old,q⟩,l⟩:=st;exact⟨⟨old,k e (by simp) _ q⟩,l.at λo z=>k it (by simp) o z⟩
 item:=by
  intro X hP hw hK hc i pins s Z H E I hf st hg;subst hP hw hK;obtain⟨xs,x,hq,hx⟩:=hg;obtain⟨its,rv,pl,hz⟩:=I.list hq;obtain⟨u,hu,ru⟩:=rv.get hx;have f1:=hf e (by simp);have f2:=hf it (by simp);obtain⟨⟨old,q⟩,l⟩:=st;refine wpAny_pyNext_enum_item q l pl.isList (x:=u) (by simpa using hu) ne λh' qo l' tp sz kk=>?_;have I1:Inv X pins Z H {s with heap:=h',toks:=s.toks+1}:=I.turned2 kk f1 f2;refine⟨_,rfl,?_⟩;have le:e<s.heap.objs.size:=Tl q;obtain⟨ol,hol,_⟩:=id l;have lit:it<s.heap.objs.size:=Tl hol;unfold letOwnedTupleGo;refine Ta (wpAny_load qo ?_);dsimp only;rw[Tg (by simp[rawInt])];refine Ta (wpAny_rule ?_);show wpAny _ _ (setField (.ref e) 0 .none) _ _ _;refine wpAny_setField qo rfl (by simp) ?_;have g:=Heap.get?_update_self (Obj.mapFields (·.setIfInBounds 0 Value.none)) qo rfl;have sb:=Tn h' e (Obj.mapFields (·.setIfInBounds 0 Value.none));have I2:Inv X pins Z (upd H s.heap.objs.size (.tup [.int i,x])) {s with heap:=h'.update e (Obj.mapFields (·.setIfInBounds 0 Value.none)),toks:=s.toks+1}:=by
   have J:=I.laid (a:=s.heap.objs.size) (o:=.tup [.int i,x]) (h':=s.heap.push {cls:=.type "tuple",data:=.seq #[.int i s.toks,u]}) (t':=s.toks+1) (λb o z=>Tm _ z) (Oj _) (show A4 X.prog X.w _ _ _ (.tup [.int i,x]) from ⟨by show 2<=sizeLine;decide,[.int i s.toks,u],.cons ⟨_,rfl⟩ (.cons ru .nil),IsTup.new _ _⟩);have g1:FpOk X pins (upd H s.heap.objs.size (.tup [.int i,x])) e:=⟨by rw[Ad (Ow le)];exact f1.1,f1.2⟩;have g2:FpOk X pins (upd H s.heap.objs.size (.tup [.int i,x])) it:=⟨by rw[Ad (Ow lit)];exact f2.1,f2.2⟩;refine J.turned2 (λb o n1 n2 z=>?_) g1 g2;show (h'.update e _).get? b=some o;rw[sb.2 b n1];by_cases hb:b=s.heap.objs.size
   ·subst hb;have z':(s.heap.push {cls:=.type "tuple",data:=.seq #[.int i s.toks,u]}).get? s.heap.objs.size=some o:=z;rw[Heap.get?_push_size _ rfl] at z';cases z';exact tp
   ·have z':(s.heap.push {cls:=.type "tuple",data:=.seq #[.int i s.toks,u]}).get? b=some o:=z;rw[Heap.get?_push_ne _ _ _ hb] at z';exact kk b o n1 n2 z'
  refine⟨.ref s.heap.objs.size,_,I2,rfl,⟨_,rfl,I.hok.fresh (Oj _),λys hy=>⟨x,by rw[I.list_inj hy hq];exact hx,rfl⟩⟩,⟨⟨u,g.trans ?_⟩,l'.at λo z=>?_⟩,λb hb=>?_⟩
  ·rfl
  ·rw[sb.2 it (Ne.symm ne)];exact z
  ·have hb':b=e\/b=it:=by simpa using hb
   rcases hb' with z | z
   ·subst z;rw[Ad (Ow le)];exact f1.1
   ·subst z;rw[Ad (Ow lit)];exact f2.1
 done:=by
  intro X hP hw hK hc i pins s Z H E I hf st hg;subst hP hw hK;obtain⟨xs,hq,hx⟩:=hg;obtain⟨its,rv,pl,hz⟩:=I.list hq;have hl:=rv.length;have f2:=hf it (by simp);obtain⟨⟨old,q⟩,l⟩:=st;exact wpAny_pyNext_enum_end (I.ok.hd hc) q l pl.isList (by simp;omega) λh' eb=>⟨rfl,I.turned (t':=s.toks) (λb o hb z=>eb b o hb z) f2.1 f2.2.1 f2.2.2.2.1 f2.2.2.2.2.1 f2.2.2.2.2.2⟩
 self:=λ_ _ _ _ _ st h=>by
  obtain⟨⟨old,q⟩,_⟩:=st;exact wpAny_pyIter_enum q h
def Xjn (K:Za) (ta:TA):TI:=fun Z H R=>ta Z H λvs H1=>∃a,vs=[.ref a]/\(∃xs,SqL K H1 a xs)/\R (Ite K a) H1
def Xjo{X:Cx}{es:List Expr}{k:Nat}{p2:Pos}{l:Expr}{ta:TA}{p pos:Pos}(hg:Gl X "enumerate")(hm:X.mg "enumerate" = none)(ha:PA X [l] ta)(hs:starEach [l] X.env=[(false,eval l X.env)]:=by rfl):PI X (.Tuple es k p2) (.Call (.Name "enumerate" p) [l] [] pos) (Xjn X.K ta):=by
 intro pins s Z H R I h;refine Call_ (Fx I hg hm (show bootBuiltins "enumerate" = some (.type "enumerate") by decide +kernel) (PyProof.Rows.callWith_type1 (thn (ha pos pins s Z H _ I h) λus s1 ⟨vs,H1,I1,r1,q1⟩=>?_) hs rfl));obtain⟨a,e,⟨xs,hq⟩,q⟩:=q1;subst e;cases r1 with
 | cons r rr=>
  cases rr;cases r;obtain⟨its,rv,pl,hz⟩:=I1.list hq;refine call_enumerate_list pl.isList λh' qe ql sz kk=>?_;refine wpAny_pyIter_enum qe ?_;have I2:Inv X pins Z H1 {s1 with heap:=h'}:=I1.kept (t':=s1.toks) kk;refine⟨_,[s1.heap.objs.size+1,s1.heap.objs.size],_,_,H1,rfl,I2,Xjm a _ _ (Nat.succ_ne_self _),⟨⟨_,qe⟩,ql⟩,λb hb=>?_,q⟩;have hb':b=s1.heap.objs.size+1\/b=s1.heap.objs.size:=by simpa using hb
  rcases hb' with z | z
  ·subst z;exact I1.fpOk (Qc _) (I1.hok.fresh (Qc _))
  ·subst z;exact I1.fpOk (Oj _) (I1.hok.fresh (Oj _))
section
variable {X:Cx}{es:List Expr}{t:St->Hp->(Hp->Prop)->Prop}{e:Expr}{te:TE}{pos:Pos}
def Xjp (te:TE) (t:St->Hp->(Hp->Prop)->Prop):St->Hp->(Hp->Prop)->Prop:=fun Z H Q=>te Z H λx H1=>∃z,x = .str z/\z.length<=400/\(∀c∈z.cps.toList,c<16 ^ 8)/\t Z H1 Q
def Xjq{p:Pos}(ha:PE X e te)(h:PJ X es t)(he:evalEach (.FormattedValue e 114 none p::es) X.env=eval (.FormattedValue e 114 none p) X.env::evalEach es X.env:=by rfl):PJ X (.FormattedValue e 114 none p::es) (Xjp te t):=by
 intro out pins s Z H Q I hw hl;rw[he];rw[Pe] at hl;refine joinParts_cons (wpAny_FormattedValue_repr (thn (ha pins s Z H _ I hw) λv s1 ⟨x,H1,I1,r1,q1⟩=>?_));obtain⟨z,ez,h1,h2,q⟩:=q1;subst ez;obtain⟨tk,rfl⟩:=r1;have hz:=StrLaws.reprText_len z h2;have hz2:(reprText z).length<=sizeLine:=by rw[Te];omega
 refine wpAny_pyReprObj_str ?_ hz2;refine formatField_str (λt' k=>⟨by rw[Dr];omega,?_⟩) hz2;exact h _ pins _ Z H1 Q ((I1.tok _).tok _) q (by rw[Dr];omega)
theorem Xce:∀ss l,l.length=ss.length->(∀i (hi:i<ss.length),∃t,l[i]? = some (.str ss[i] t))->StrsAre l ss
 | [],l,e,_=>by rw[Pr.mp e];exact .nil
 | y::ys,[],e,_=>by cases e
 | y::ys,v::vs,e,each=>by
  obtain⟨t,q⟩:=each 0 (by simp);have:v = .str y t:=by simpa using q
  subst this;refine .cons y t (Xce ys vs (by simpa using e) λi hi=>?_);obtain⟨t',e'⟩:=each (i+1) (by simpa using hi);exact⟨t',by simpa using e'⟩
def Xcf:X.calm=true->Bv X (.builtin "sorted") (λxs H Q=>∃d kvs ss,xs=[.ref d]/\Rd H d (.dK kvs)/\kvs.map (·.1)=ss.map (λx=>(Sum.inr x:Key))/\ss.length<64/\∀l ls,H l=none->ls.Perm ss->sortedS ls=true->Q (.ref l) (upd H l (.lst (ls.map V.str)))):=by
 intro hcalm pins s Z H xs us Q I r h;obtain⟨d,kvs,ss,rfl,hd,hk,h64,q⟩:=h;obtain⟨u,rfl,rx⟩:=Co r;cases rx;obtain⟨hz,hm,vs,rv,o,es,ep,ho,hex,hdd,hr⟩:=Fi I.hok hd;have hkl:kvs.length=ss.length:=by have:=congrArg List.length hk;simpa using this
 have hvl:vs.length=ss.length:=by rw[<-hkl];exact(Paired.length rv).symm
 have hvk:vs.map (·.1)=ss.map (λx=>(Sum.inr x:Key)):=by rw[<-hk];exact rv.keys.symm
 have each:∀acc:Array Value,ItemsOf (λi v=>∃k x,vs[i]? = some (k,x)/\(Be X.prog X.w).is k v=true) acc vs.length->StrsAre acc.toList ss:=λacc hacc=>by
  refine Xce ss _ (by rw[O1,hacc.1,hvl]) λi hi=>?_;have hi2:i<acc.size:=by rw[hacc.1,hvl];exact hi
  obtain⟨k',x,hx,his⟩:=hacc.2 i acc[i] (getElem?_pos acc i hi2);have hk':k'=Sum.inr ss[i]:=by
   have:=congrArg (λl=>l[i]?) hvk;simp only[Ox,hx,Qy,Oi hi] at this;exact O0 this
  subst hk';obtain⟨t,e⟩:=Value.isStrOf_shape his;exact⟨t,by rw[Rq,getElem?_pos acc i hi2,e]⟩
 refine Ml h64 (λR kR=>PySem.W.kdu_collect (PySem.W.kdl_dict (knd:=Be X.prog X.w) (kvs:=vs) (ep:=ep) hm) (by show X.A.in1.handled=none;simp[I.ok.hd hcalm]) ⟨o,es,ho,hex,hdd,hr⟩ (by rw[hvl,Te];omega) (λh' tk acc kk hacc=>kR {s with heap:=h',toks:=tk} acc.toList ss kk rfl rfl (each acc hacc) (Rv _)))
  λs1 s' vs ls e k1 o1 g1 k2 o2 g2 he st p so=>Mn I h64 k1 o1 g1 k2 o2 g2 he st p λl hl=>q l ls hl p so
def rSlS:V->Option Int->Option Int->Hp->VK->Prop:=λx lo hi H Q=>∃z,x = .str z/\lo=none/\(∃j,hi=some j)/\z.length<=1000/\Q (.str (Txt.slice z lo hi)) H
def Xjr:SlR X rSlS:=by
 intro pins s Z H x v vl vu lo hi sl Q I rx hs pl pu h;obtain⟨z,rfl,rfl,⟨j,rfl⟩,hz,q⟩:=h;obtain⟨tz,rfl⟩:=rx;cases pl;cases pu;rename_i tu;refine⟨"str",_,PySem.F.slot_str_getitem.lookup,typeIs_str _ _ _,wpAny_getItem_str_slice (l:=none) (u:=some (j,tu)) (st:=none) hs rfl (post_val_or_str ⟨?_,λt' k=>?_⟩)⟩
 ·exact Pd (Txt.slice_le z none (some j)) (by rw[Te];omega)
 ·exact⟨.str (Txt.slice z none (some j)),H,I.tok _,⟨t',rfl⟩,q⟩
end
end L2
set_option maxHeartbeats 4000000
namespace L2
def leS (x y:Str):Prop:=x.cps.toList<=y.cps.toList
def Xjs{x y:Str}(h:x.cps.toList=y.cps.toList):x=y:=by
 obtain⟨⟨a⟩⟩:=x;obtain⟨⟨b⟩⟩:=y;have:a=b:=h;rw[this]
def Xcg{x y}(h:leS x y)(g:leS y x):x=y:=Xjs (List.le_antisymm h g)
def Xch{x y z}(h:leS x y)(g:leS y z):leS x z:=List.le_trans h g
def Mo(x y):leS x y\/leS y x:=List.le_total _ _
def ltS (x y:Str):Prop:=x.cps.toList<y.cps.toList
instance (x y:Str):Decidable (ltS x y):=inferInstanceAs (Decidable (x.cps.toList<y.cps.toList))
instance (x y:Str):Decidable (leS x y):=inferInstanceAs (Decidable (x.cps.toList<=y.cps.toList))
def Hq(x):¬ltS x x:=List.lt_irrefl _
def Hr{x y z}(h:ltS x y)(g:ltS y z):ltS x z:=List.lt_trans h g
def Mp{x y}:¬ltS x y↔leS y x:=List.not_lt
def ltS_of{x y}(h:leS x y)(n:x≠y):ltS x y:=by
 by_cases q:ltS x y
 ·exact q
 ·exact absurd (Xcg h (Mp.mp q)) n
def Xjt{x y}(h:ltS x y):leS x y:=List.le_of_lt h
def Hs{x y}(h:ltS x y):x≠y:=λe=>Hq y (e ▸ h)
theorem Xci:∀l p,risingS p l=true->(p::l).Pairwise leS
 | [],p,_=>by simp
 | x::r,p,h=>by
  have h':(!ltCps x.cps.toList p.cps.toList&&risingS x r)=true:=h;rw[O4,ltCps_eq] at h';have ih:=Xci r x h'.2;have hpx:leS p x:=by
   have:=h'.1;simp only[Sz,decide_eq_false_iff_not] at this;exact this
  refine Q7.mpr ⟨λy hy=>?_,ih⟩;rcases O2.mp hy with e | e
  ·rw[e];exact hpx
  ·exact Xch hpx ((Q7.mp ih).1 y e)
theorem Xcj:∀l,sortedS l=true->l.Pairwise leS
 | [],_=>by simp
 | x::r,h=>Xci r x h
theorem Ez:∀{a b:Zb},a.Perm b->a.Pairwise leS->b.Pairwise leS->a=b
 | [],b,p,_,_=>by rw[List.nil_perm.mp p]
 | x::a,[],p,_,_=>by have:=p.length_eq;simp at this
 | x::a,y::b,p,ha,hb=>by
  obtain⟨a1,a2⟩:=Q7.mp ha;obtain⟨b1,b2⟩:=Q7.mp hb;have e:x=y:=by
   have hx:x∈y::b:=p.mem_iff.mp Os;have hy:y∈x::a:=p.mem_iff.mpr Os;rcases O2.mp hx with e | hx
   ·exact e
   ·rcases O2.mp hy with e | hy
    ·exact e.symm
    ·exact Xcg (a1 y hy) (b1 x hx)
  subst e;rw[Ez (List.Perm.cons_inv p) a2 b2]
def srt (l:Zb):Zb:=l.mergeSort λx y=>decide (leS x y)
def Cq(l):(srt l).Perm l:=List.mergeSort_perm ..
def Ei(l):(srt l).Pairwise leS:=by
 have h:=List.pairwise_mergeSort (le:=λx y=>decide (leS x y)) (λa b c h1 h2=>Th (Xch (Tj h1) (Tj h2)))
  (λa b=>by rcases Mo a b with h | h<;>simp[h]) l
 exact h.imp λh=>Tj h
def Gb{ls ks}(p:ls.Perm ks)(h:sortedS ls=true):ls=srt ks:=Ez (p.trans (Cq ks).symm) (Xcj _ h) (Ei _)
def Xju{a b}(p:a.Perm b):srt a=srt b:=Ez ((Cq a).trans (p.trans (Cq b).symm)) (Ei _) (Ei _)
def Gc{l}{x}:x∈srt l↔x∈l:=(Cq l).mem_iff
def dit (row:Zb):Zb:=srt (ddup row)
def Ap{row}{x}:x∈dit row↔x∈row:=Gc.trans (Hn row x)
def Ge(row):(dit row).Nodup:=(Cq _).nodup_iff.mpr (Ho row)
def Ej(row):(dit row).Pairwise ltS:=by
 have h1:=Ei (ddup row);have h2:(dit row).Pairwise (· ≠ ·):=Ge row;exact(h1.and h2).imp λh=>ltS_of h.1 h.2
def D3(row):(dit row).length<=row.length:=by
 have:=(Cq (ddup row)).length_eq;have h:=F9 row;unfold dit;omega
def Ht{a b:Zb}(ha:a.Nodup)(hb:b.Nodup)(h:∀x,x∈a↔x∈b):a.Perm b:=(List.perm_ext_iff_of_nodup ha hb).mpr h
def Xck{ls row ks}(p:ls.Perm ks)(h:sortedS ls=true)(nd:ks.Nodup)(m:∀x,x∈ks↔x∈row):ls=dit row:=
 Ez (p.trans ((Ht nd (Ho row) λx=>(m x).trans (Hn row x).symm).trans (Cq _).symm)) (Xcj _ h) (Ei _)
structure Fn (P:Program) (w:World) (K:Za) (mg:Str->Option Value) (base:Heap) (CX:CXT) (k:Nat) (x:Str) (ps:Zb) (sp:Sp):Prop where
 ex:∃f fd,mg x=some (.ref f)/\keepIn K (.ref f)=true/\Binds K fd ps []/\FnOk P w K mg base CX k f fd ps sp
section
variable {X:Cx}{CX:CXT}{k:Nat}{ps:Zb}{sp:Sp}{E:XK}{x:Str}{p pos:Pos}{e:Expr}{es:List Expr}{t:TA}
def Ah(F:Fn X.prog X.w X.K X.mg X.base CX k x ps sp)(hr:Room k X.A)(hg:Gl X x)(hx:Passes CX X E)
  (ha:PA X (e::es) t) (hdb:(x==("__debug__" : Str))=false:=by decide) (he:starEach (e::es) X.env=(false,eval e X.env)::starEach es X.env:=by rfl) (hpl:(backTo pos (starEach es X.env)).any (·.1)=false:=by rfl):
  PE X (.Call (.Name x p) (e::es) [] pos) (Lm sp [] E t):=by
 obtain⟨f,fd,hm,hk,hb,hF⟩:=F.ex;exact Xg2 hF hr hg hm hk hb .nil hx ha hdb he hpl
def Xjv{st}{rest}{D}{Z}{H}(P:St->Hp->Prop)(h2:∃u,PSs X rest u/\∀Z' H',P Z' H'->u D Z' H')
  (h1:∀nx,(∀Z' H',P Z' H'->nx Z' H')->∃t,PS X st t/\t {D with nx:=nx} Z H):∃t,PSs X (st::rest) t/\t D Z H:=by
 obtain⟨u,hu,ru⟩:=h2;obtain⟨t,ht,rt⟩:=h1 (u D) ru;exact⟨Je t u,Ae ht hu,rt⟩
end
def A0{c}{A B:Prop}(h1:c=true->A)(h2:c=false->B):if c=true then A else B:=by
 cases c with
 | true=>exact Bq (h1 rfl)
 | false=>exact Bp (h2 rfl)
def Same.upd{H H':Hp}{a:Addr}{o:HO}(s:Same H H')(h:H a=none):Same H (upd H' a o):=λb u e=>by
 rw[Ad (Au e h)];exact s b u e
def Same.upd0{H}{a}{o}(h:H a=none):Same H (L2.upd H a o):=(Same.refl H).upd h
def ku{H}{b p}{o u}(h:H b=some o)(hp:H p=none):upd H p u b=some o:=by
 rw[Ad (Au h hp)];exact h
def Same.step{H H1}{p}{o}(s:Same H H1)(hp:H1 p=none):Same H (L2.upd H1 p o):=s.upd (s.free hp)
def Same.go{H H1}{p q}{o}(s:Same H H1)(hp:H1 p=none)(hq:L2.upd H1 p o q=none):Same H (L2.upd H1 p o):=s.step hp
def Ds{α : Type}(f)(xs:List α)(b)(hb:b<=xs.length):B8 (xs.map f) none (some (b:Int))=(xs.take b).map f:=by
 unfold B8;rw[HT.sIx_none,Rl,HT.sIx_nat,Oh,Sh,Ss,Qz hb]
def Dt{α : Type}(f)(xs:List α)(a)(ha:a<=xs.length):B8 (xs.map f) (some (a:Int)) none=(xs.drop a).map f:=by
 unfold B8;rw[HT.sIx_none,HT.sIx_nat,Oh,Qz ha,Si];exact P0 (by rw[Pk,Oh];omega)
def Xjw{α : Type}(f)(xs:List α)(a b)(hab:a<=b)(hb:b<=xs.length):B8 (xs.map f) (some (a:Int)) (some (b:Int))=((xs.drop a).take (b - a)).map f:=by
 unfold B8;rw[HT.sIx_nat,HT.sIx_nat,Oh,Qz hb,Qz (Pd hab hb),Sh,Si]
def Xcl (fsc:Scope) (fN N:Zb) (cap:List (Option Nat)) (scope:Scope):Bool:=
 (scope.names.all λy=>decide (scope.names.lookup y.1=some y.2)) &&
 (scope.names.all λy=>decide (y.2 ≠ .free)||decide (fsc.names.lookup y.1=some .cell)||decide (fsc.names.lookup y.1=some .free))&&decide (cap.length=N.length) &&
 ((List.range N.length).all λi=>match cap[i]?,N[i]? with
  | some (some j),some x=>decide (fN[j]? = some x)&&decide (scope.names.lookup x=some .free)
  | _,_=>true)
def CompScope.of{X}{N}{cap}{scope}(fsc)(fN)(h1:X.env.scope=fsc)(h2:X.N=fN)(hk:scope.kind = .function)(h:Xcl fsc fN N cap scope=true):CompScope X N cap scope:=by
 unfold Xcl at h;simp only[O4,O9,Rr,decide_eq_true_eq] at h;obtain⟨⟨⟨a1,a3⟩,a4⟩,a5⟩:=h;refine⟨hk,a1,λy hy e=>?_,a4,λi x j hN hc=>?_⟩
 ·show X.env.scope.names.lookup y.1=some .cell\/X.env.scope.names.lookup y.1=some .free;rw[h1];rcases a3 y hy with (z | z) | z
  ·exact absurd e z
  ·exact .inl z
  ·exact .inr z
 ·have hi:i<N.length:=(Oy.mp hN).1;have q:=a5 i (P1.mpr hi);rw[hc,hN] at q;simp only[O4,decide_eq_true_eq] at q;rw[h2];exact q
section
variable {X:Cx}
def Xjx(K)(h:X.K=K):Bv X (.builtin "isinstance") (λxs H Q=>∃x c t cv b,xs=[x,c]/\TyOf K H x t/\Hm c=some cv/\kitOne K t cv=some b/\Q (.bl b) H):=by subst h;exact Jp
def Xjy{cap}{te}{J}{Z}{H1}{F}{j}(n:Nat)(vs:Nat->V)(Pv:Addr->Nat->St->Hp->Prop)
  (h0:∀D,H1 D=none->Pv D 0 (Br cap Z) (upd H1 D (.lst [])))
  (hgo:∀D i Z2 H2,H1 D=none->i<n->Pv D i Z2 H2->J.go i H2/\∀x H3,J.yld i H2 x H3->H3=H2/\x=vs i)
  (hst:∀D Z2 H2,H1 D=none->Pv D n Z2 H2->J.stop n H2)
  (step:∀D i Z1 H2,H1 D=none->i<n->Pv D i Z1 H2->te (Z1.set j (some (vs i))) H2 λy H6=>∃ys,H6 D=some (.lst ys)/\ys.length<sizeLine/\∃m',m'<n - i/\wN n (Pv D) (i+1) m' (Z1.set j (some (vs i))) (upd H6 D (.lst (ys++[y]))))
  (hd:∀D Z2 H2,H1 D=none->Pv D n Z2 H2->F D H2):Ex cap (A6 j) C5 te J Z H1 F:=
 Ey n vs Pv h0 hgo hst (λD i Z1 H2 a b c=>by
  show if true=true then te (Z1.set j (some (vs i))) H2 (λy H6=>∃ys,H6 D=some (.lst ys)/\ys.length<sizeLine/\∃m',m'<n - i/\wN n (Pv D) (i+1) m' (Z1.set j (some (vs i))) (upd H6 D (.lst (ys++[y])))) else ∃m',m'<n - i/\wN n (Pv D) (i+1) m' (Z1.set j (some (vs i))) H2
  rw[Tg rfl];exact step D i Z1 H2 a b c) hd
def Xjz(K)(h:X.K=K):IxR X (Lr K):=by subst h;exact Bd
def Df(K)(h:X.K=K):IxR X (Ls K):=by subst h;exact G6
def Xj0(K)(h:X.K=K):Bv X (.builtin "len") (λxs H Q=>∃p ys,xs=[.ref p]/\(SqL K H p ys\/SqT K H p ys)/\Q (.int ys.length) H):=by subst h;exact B9
def Hu(K)(h:X.K=K):OpR X (compareOp .In) (rIn K false):=by subst h;exact Jm
end
def Mq{X}(K)(h:X.K=K):Bv X (.builtin "isinstance") (λxs H Q=>∃a C c cv b,xs=[.ref a,c]/\H a=some (Fj a C)/\ExcF K C/\Hm c=some cv/\kitOne K (.ref C) cv=some b/\Q (.bl b) H):=by subst h;exact Xiy
def Gf{cap}{tt}{te}{J}{Z}{H1}{F}{j}(n:Nat)(hn:n<sizeLine)(vs:Nat->V)(ok:Nat->Bool)(ys:Nat->V)
  (hgo:∀i H2,i<n->Same H1 H2->J.go i H2/\∀x H3,J.yld i H2 x H3->H3=H2/\x=vs i)
  (hst:∀H2,Same H1 H2->J.stop n H2)
  (tst:∀i H2 Q,i<n->Same H1 H2->(∀H',Same H2 H'->Q (ok i) H')->tt ((Br cap Z).set j (some (vs i))) H2 Q)
  (step:∀i H2 Q,i<n->ok i=true->Same H1 H2->(∀H',Same H2 H'->Q (ys i) H')->te ((Br cap Z).set j (some (vs i))) H2 Q)
  (hd:∀D H2,H1 D=none->Same H1 H2->H2 D=some (.lst (((List.range n).filter ok).map ys))->F D H2):Ex cap (A6 j) tt te J Z H1 F:=by
 refine Ey n vs (λD i Z2 H2=>(∀v, Z2.set j v=(Br cap Z).set j v)/\Same H1 H2/\H2 D=some (.lst (((List.range i).filter ok).map ys))) ?_ ?_ ?_ ?_ ?_
 ·intro D hD;exact⟨λ_=>rfl,(Same.refl H1).step hD,Ab⟩
 ·rintro D i Z2 H2 hD hi ⟨_,s2,_⟩;exact hgo i H2 hi s2
 ·rintro D Z2 H2 hD ⟨_,s2,_⟩;exact hst H2 s2
 ·rintro D i Z2 H2 hD hi ⟨e,s2,hb⟩;show tt (Z2.set j (some (vs i))) H2 _;rw[e];refine tst i H2 _ hi s2 λH3 s3=>?_;have s13:=s2.trans s3;have hb3:=s3 _ _ hb;have hss:∀v,((Br cap Z).set j (some (vs i))).set j v=(Br cap Z).set j v:=λv=>by rw[Sc]
  have hl:(((List.range i).filter ok).map ys).length<=i:=by
   rw[Oh];exact Pd (Pn ..) (by rw[Px];omega)
  refine A0 (λhk=>?_) (λhk=>?_)
  ·refine step i H3 _ hi hk s13 λH4 s4=>?_;refine wput hi (s4 _ _ hb3) (by omega) ⟨hss,λb u e'=>?_,?_⟩
   ·rw[Ad (Au e' hD)];exact s4 _ _ (s13 b u e')
   ·rw[Ab,Pz,O8,Oq];simp[hk]
  ·refine wskip hi ⟨hss,s13,?_⟩;rw[hb3,Pz,O8,Oq];simp[hk]
 ·rintro D Z2 H2 hD ⟨_,s2,hb⟩;exact hd D H2 hD s2 hb
def Ju{cap}{te}{J}{Z}{H1}{F}{j}(n:Nat)(hn:n<sizeLine)(vs:Nat->V)(ys:Nat->V)
  (hgo:∀i H2,i<n->Same H1 H2->J.go i H2/\∀x H3,J.yld i H2 x H3->H3=H2/\x=vs i)
  (hst:∀H2,Same H1 H2->J.stop n H2)
  (step:∀i H2 Q,i<n->Same H1 H2->(∀H',Same H2 H'->Q (ys i) H')->te ((Br cap Z).set j (some (vs i))) H2 Q)
  (hd:∀D H2,H1 D=none->Same H1 H2->H2 D=some (.lst ((List.range n).map ys))->F D H2):Ex cap (A6 j) C5 te J Z H1 F:=
 Gf n hn vs (λ_=>true) ys hgo hst (λi H2 Q _ _ k=>k H2 (Same.refl _)) (λi H2 Q hi _ s k=>step i H2 Q hi s k) λD H2 hD s e=>hd D H2 hD s (by rw[e,Pi.mpr (λ_ _=>rfl)])
def Jv{X}:Passes (CX1 X.prog X.w) X E0:=λ_ _ _ _ _ _ _ h=>by
 obtain⟨_,_,_,_,_,_,_,_,_,h⟩:=h;exact h.elim
structure DefAt (K:Za) (x:Str) (st:Stmt):Prop where
 ex:∃f fd,nsIn K mainGlobals x=some (some (.ref f))/\keepIn K (.ref f)=true/\Fun K x x st f fd
def DefAt.of{K}{x}{st}{f}{oc}{od an}{osl}{kV doc pm cdv ct}(a:nsIn K mainGlobals x=some (some (.ref f)))
  (l:K.lookup f=some ⟨oc,od,.func (fnOf x x (Eh st) (C3 st) (defScope st) .none kV doc pm an cdv ct),osl⟩) (c:codeIn K cdv x=true) (k:keepIn K (.ref f)=true):DefAt K x st:=
 ⟨⟨f,_,a,k,Xbl l c k⟩⟩
def Fn.of{P}{w}{K}{h}{mg}{base}{CX}{k}{x}{st}{ps}{sp}(X:K.In h)(G:h.Ns mainGlobals mg)(D:DefAt K x st)
  (hb:∀(kV doc pm:Value) (an:Option Addr) (cdv ct:Value) (us:List Value),us.length=ps.length->bindArgs (fnOf x x (Eh st) (C3 st) (defScope st) .none kV doc pm an cdv ct) ⟨us,[]⟩=pure (ps.zip us))
  (ok:∀f fd,Fun K x x st f fd->FnOk P w K mg base CX k f fd ps sp):Fn P w K mg base CX k x ps sp:=by
 obtain⟨f,fd,a,hk,F⟩:=D.ex;exact⟨⟨f,fd,mg_of X G a,hk,F.binds hb,ok f fd F⟩⟩
structure ExcAt (K:Za) (x:Str) (C:Addr):Prop where
 a:nsIn K mainGlobals x=some (some (.ref C))
 e:excIn K C bmV "ValueError.__new__" = true
 ga:findIn K (.ref C) "__getattribute__" = some (some (.builtin "BaseException.__getattribute__"))
 gn:findIn K (.ref C) "__getattr__" = some none
 cl:findIn K (.ref C) "__class__" = some (some (.builtin "object.__class__"))
 sb:subIn K (.ref C) (.type "BaseException")=some true
 so:subIn K (.ref C) (.type "object")=some true
 sv:subIn K (.ref C) (.type "ValueError")=some true
 ss:subIn K (.ref C) (.ref C)=some true
 ic:isClsIn K C=true
 ty:typeIn K (.ref C)=some (.type "type")
section
variable {K:Za}{x:Str}{C:Addr}
def ExcAt.f(E:ExcAt K x C):ExcF K C:=⟨E.ga,E.gn,E.cl,E.sb,E.so,E.ic⟩
def Xcm{t}{S}{b}(ic:isClsIn K S=true)(ty:typeIn K (.ref S)=some (.type "type"))(h:subIn K t (.ref S)=some b):kitCls K t (.ref S)=some b:=by
 unfold kitCls;have ic':(clsIn K S).isSome=true:=ic;simp only[ic',ty];exact h
def Xcn{S}{b}(ne:C≠S)(ic:isClsIn K S=true)(ty:typeIn K (.ref S)=some (.type "type"))(h:subIn K (.ref C) (.ref S)=some b):kitOne K (.ref C) (.ref S)=some b:=by
 unfold kitOne;rw[Tf (λz=>ne (Value.ref.inj (beq_iff_eq.mp z)))];exact Xcm ic ty h
def ExcAt.val(E:ExcAt K x C):kitOne K (.ref C) (.type "ValueError")=some true:=by
 unfold kitOne;rw[Tf (λz=>by cases (beq_iff_eq.mp z))];show (if PySem.W.kitMeta "ValueError" = true then subIn K (.ref C) (.type "ValueError") else none)=some true;rw[Tg (by decide +kernel)];exact E.sv
end
structure ClsAt (K:Za) (x:Str) (C:Addr):Prop where
 a:nsIn K mainGlobals x=some (some (.ref C))
 ic:isClsIn K C=true
 ty:typeIn K (.ref C)=some (.type "type")
def Dg(x)(row:Zb):inV (.str x) (row.map V.str)=decide (x∈row):=by
 unfold inV;rw[Qe,Qu,decide_eq_true_eq];constructor
 ·rintro ⟨y,hy,e⟩;obtain⟨z,hz,rfl⟩:=O5.mp hy;have:z=x:=by simpa [eqV] using e
  rw[<-this];exact hz
 ·intro hx;exact⟨.str x,O5.mpr ⟨x,hx,rfl⟩,by simp[eqV]⟩
def C8(row:Zb):(row.map V.str).all B1=true:=by
 rw[O9];intro v h;obtain⟨x,_,rfl⟩:=O5.mp h;rfl
def Xj1{K}{cap}{tt}{te}{a}{xs}{Z}{H1}{F}{p q}(hpq:p≠q)(hS:SqL K H1 a xs)(hn:xs.length<sizeLine)(ok)(ys)
  (tst:∀(i:Nat) x H2 Q,xs[i]? = some x->Same H1 H2->(∀H',Same H2 H'->Q (ok i) H')->tt (((Br cap Z).set p (some (.int i))).set q (some x)) H2 Q)
  (step:∀(i:Nat) x H2 Q,xs[i]? = some x->ok i=true->Same H1 H2->(∀H',Same H2 H'->Q (ys i) H')->te (((Br cap Z).set p (some (.int i))).set q (some x)) H2 Q)
  (hd:∀D H2,H1 D=none->Same H1 H2->H2 D=some (.lst (((List.range xs.length).filter ok).map ys))->F D H2):Ex cap (La K 2 (K9 (A6 p) (K9 (A6 q) Xag))) tt te (Ite K a) Z H1 F:=by
 intro D hD;refine⟨wN xs.length λi Z2 H2=>(∀u v,(Z2.set p u).set q v=((Br cap Z).set p u).set q v)/\Same H1 H2/\H2 D=some (.lst (((List.range i).filter ok).map ys)),⟨xs.length,by simp,Pm _,λ_ _=>rfl,(Same.refl H1).step hD,Ab⟩,?_⟩;rintro i m Z1 H2 ⟨rfl,hi,e,s2,hb⟩;have hS2:SqL K H2 a xs:=s2.seq hS;by_cases hlt:i<xs.length
 ·have hx:xs[i]? = some xs[i]:=Oi hlt;refine .inr ⟨⟨xs,xs[i],hS2,hx⟩,?_⟩;rintro x H3 ⟨tp,rfl,ht,hy⟩;obtain⟨y,hy1,rfl⟩:=hy xs hS2;rw[hx] at hy1;cases hy1;refine⟨tp,_,rfl,SqT.of Ab,rfl,_,_,rfl,_,_,rfl,rfl,?_⟩;have s3:Same H1 (upd H2 tp (.tup [.int i,xs[i]])):=s2.step ht;have hb3:upd H2 tp (.tup [.int i,xs[i]]) D=some (.lst (((List.range i).filter ok).map ys)):=ku hb ht;rw[e];refine tst i _ _ _ hx s3 λH4 s4=>?_;have s14:=s3.trans s4;have hb4:=s4 _ _ hb3;have hss:∀u v,(((((Br cap Z).set p (some (.int i))).set q (some xs[i])).set p u).set q v)=((Br cap Z).set p u).set q v:=λu v=>by
   rw[List.set_comm _ _ (Ne.symm hpq),Sc,Sc]
  have hl:(((List.range i).filter ok).map ys).length<=i:=by
   rw[Oh];exact Pd (Pn ..) (by rw[Px];omega)
  refine A0 (λhk=>?_) (λhk=>?_)
  ·refine step i _ H4 _ hx hk s14 λH5 s5=>?_;refine wput hlt (s5 _ _ hb4) (by omega) ⟨hss,λb u e'=>?_,?_⟩
   ·rw[Ad (Au e' hD)];exact s5 _ _ (s14 b u e')
   ·rw[Ab,Pz,O8,Oq];simp[hk]
  ·refine wskip hlt ⟨hss,s14,?_⟩;rw[hb4,Pz,O8,Oq];simp[hk]
 ·have ei:i=xs.length:=by omega
  subst ei;exact .inl ⟨⟨xs,hS2,Oj _⟩,hd D H2 hD s2 hb⟩
def Jw{X:Cx}{pos:Pos}{es:List Expr}{k:Nat}{t:TGs}(K:Za)(n:Nat)(hK:X.K=K)(hc:X.calm=true)(h:PGs X es t)
  (hn:(assignEach es X.env).length=n:=by rfl) (hst:(assignEach es X.env).findIdx? (·.1)=none:=by rfl):PG X (.Tuple es k pos) (La K n t):=by
 subst hK;exact Lb hc h hn hst
def Ct{α : Type}(d)(p):∀(xs:List α),((List.range xs.length).filter λi=>p (xs.getD i d)).map (λi=>xs.getD i d)=xs.filter p:=by
 intro xs;have go:∀n,n<=xs.length->((List.range n).filter λi=>p (xs.getD i d)).map (λi=>xs.getD i d)=(xs.take n).filter p:=by
  intro n
  induction n with
  | zero=>intro _;rfl
  | succ n ih=>
   intro h;have hn:n<xs.length:=by omega
   have e:xs.getD n d=xs[n]:=by simp[List.getD,hn]
   rw[Pz,O8,Oq,ih (by omega),O6 hn,O8,Pu,Pu,e];split
   ·simp[hn]
   ·simp
 rw[go _ (Oj _),Pt]
abbrev TM:=St->Hp->(St->Hp->Prop)->Prop
def PM (X:Cx) (m:Sem Unit) (t:TM):Prop:=∀pins s Z H (Q:St->Hp->Prop),Inv X pins Z H s->t Z H Q ->
 wpAny (model X.prog X.w) X.A m (λ_ s'=>∃Z' H',Inv X pins Z' H' s'/\Q Z' H') X.xe s
def Ek (e:Expr) (d:Nat) (tg iter:Expr) (ifs:List Expr) (act:Sem Unit) (it acc:Value) (env:Env):Sem Fin:=do
 standAt iter.pos
 match <-pyNext it with
 | none=>pure (.done .next)
 | some v=>
  letOwnedTupleGo tg it v
  assign tg env v
  let mut ok:=true
  for c in ifs do
   if ok then ok <-isTrue c env (eval c env)
  if ok then act
  again (.compLoop e d it acc env)
structure Cm (e:Expr):Prop where
 den1 : ∀ (P : Program) (w : World) (d : Nat) (it acc : Value) (env : Env), (model P w).den (.compLoop e d it acc env) = (compTurn e d it acc env).onRaise (fun x => do noteFrame x env; theTreesLotGoes x)
 den2 : ∀ (P : Program) (w : World) (d : Nat) (it acc : Value) (env : Env), (model P w).den (.compStart e d it acc env) = (compStart e d it acc env).onRaise (fun x => do noteFrame x env; standAt theWindowsPlace)
 und1:∀(A:Around) (d:Nat) (it acc:Value) (env:Env),A.under (.compLoop e d it acc env)=A
 und2:∀(A:Around) (d:Nat) (it acc:Value) (env:Env),A.under (.compStart e d it acc env)=A
def Hv{elt}{gs}{sc}{p}:Cm (.ListComp elt gs sc p):=⟨λ_ _ _ _ _ _=>rfl,λ_ _ _ _ _ _=>rfl,λ_ _ _ _ _=>rfl,λ_ _ _ _ _=>rfl⟩
def Xj2{k v}{gs}{sc}{p}:Cm (.DictComp k v gs sc p):=⟨λ_ _ _ _ _ _=>rfl,λ_ _ _ _ _ _=>rfl,λ_ _ _ _ _=>rfl,λ_ _ _ _ _=>rfl⟩
def tLp (g:TG) (tt:TT) (tm:TM) (J:It) (Z:St) (H1:Hp) (F:St->Hp->Prop):Prop:=
 ∃W:Nat->Nat->St->Hp->Prop,(∃m,W 0 m Z H1)/\∀i m Z1 H2,W i m Z1 H2 ->
  (J.stop i H2/\F Z1 H2)\/(J.go i H2/\∀x H3,J.yld i H2 x H3->g x Z1 H3 fun Z2 H4=>tt Z2 H4 λb H5=>
   if b=true then tm Z2 H5 fun Z3 H6=>∃m',m'<m/\W (i+1) m' Z3 H6 else ∃m',m'<m/\W (i+1) m' Z2 H5)
section
variable {Y:Cx}{e tg iter:Expr}{d:Nat}{ifs:List Expr}{act:Sem Unit}{acc:Value}{g:TG}{tt:TT}{tm:TM}{pins:List (Addr×Obj)}{Z:St}{H:Hp}{s:Shared}{J:It}{fp:List Addr}{it:Addr}{tn:Nat->Heap->Prop}{F:St->Hp->Prop}{R:Result->Shared->Prop}
def Xco(cm:Cm e)(hx:Y.xe=λ_ _=>False)(hc:Y.calm=true)(eq:compTurn e d (.ref it) acc Y.env=Ek e d tg iter ifs act (.ref it) acc Y.env)(hg:PG Y tg g)(ht:PIfs Y ifs tt)(hm:PM Y act tm)
  (I:Inv Y pins Z H s) (T:Turn Y.prog Y.w Y.K tg J fp it tn) (h0:tn 0 s.heap) (hf:∀b∈fp,FpOk Y pins H b) (hb:tLp g tt tm J Z H F) (fin:∀Z' H' s',Inv Y pins Z' H' s'->F Z' H'->R (.ok .next) s'):
  codeAny (model Y.prog Y.w) Y.A (.compLoop e d (.ref it) acc Y.env) R s:=by
 obtain⟨W,⟨m0,w0⟩,turn⟩:=hb;have stat:∀{H':Hp},(∀b∈fp,H' b=none)->∀b∈fp,FpOk Y pins H' b:=λhn b hb=>⟨hn b hb,(hf b hb).2⟩;refine codeAny_loop rfl (λn s'=>∃i Z1 H2,Inv Y pins Z1 H2 s'/\tn i s'.heap/\(∀b∈fp,H2 b=none)/\W i n Z1 H2) (λn s' hI=>?_) m0 ⟨0, Z,H,I,h0,λb hb=>(hf b hb).1,w0⟩;obtain⟨i, Z1,H2,I',st',fr',w'⟩:=hI;rw[cm.den1,cm.und1];refine wpAny_noted ?_;rw[eq];have no:∀{α : Type} {t:Sem α} {Q : α->Shared->Prop} {E':Zc} {s₁ : Shared},wpAny (model Y.prog Y.w) Y.A t Q Y.xe s₁->wpAny (model Y.prog Y.w) Y.A t Q E' s₁:=λh=>wpAny_mono h (λ_ _ q=>q) λ_ _ z=>by rw[hx] at z;exact z.elim
 unfold Ek;rcases turn i n Z1 H2 w' with ⟨stop,q⟩ | ⟨go,step⟩
 ·refine Ta (wpAny_standAt (Ta (thn (T.done Y rfl rfl rfl hc i pins s' Z1 H2 _ I' (stat fr') st' stop) λr s1 ⟨hr,I1⟩=>?_)));subst hr;exact Tb (fin Z1 H2 s1 I1 q)
 ·refine Ta (wpAny_standAt (Ta (thn (T.item Y rfl rfl rfl hc i pins s' Z1 H2 _ I' (stat fr') st' go) λr s1 ⟨u,hr,h4⟩=>?_)));subst hr;refine Ta (thn h4 λ_ s5 ⟨x,H5,I5,r5,y5,st5,fr5⟩=>?_);have I5':=I5.pinned (stat fr5) (T.obj _ _ st5);refine Ta (thn (no (hg _ s5 Z1 H5 x u _ I5' r5 (step x H5 y5))) λ_ s6 ⟨Z6,H6,I6,q6⟩=>?_);refine Ta (thn (no (ht _ s6 Z6 H6 _ I6 q6)) λb s7 ⟨H7,I7,q7⟩=>?_);have again:∀{s8:Shared} {Z8:St} {H8:Hp},Inv Y (pins++G4 fp s5.heap) Z8 H8 s8->(∃m',m'<n/\W (i+1) m' Z8 H8)->∃m,m<n/\∃i Z1 H2,Inv Y pins Z1 H2 s8/\tn i s8.heap/\(∀b∈fp,H2 b=none)/\W i m Z1 H2:=λ{s8 Z8 H8} I8 ⟨m',hm,w8⟩=>by
   refine⟨m',hm,i+1, Z8,H8,I8.unpinned,T.keep _ _ _ st5 λb hb o e=>(I8.pin (b,o) (Ph _ (Ph _ (Ji hb e)))).1,λb hb=>?_,w8⟩;obtain⟨o,e,d⟩:=T.obj _ _ st5 b hb;exact(I8.pin (b,o) (Ph _ (Ph _ (Ji hb e)))).2.1
  cases b with
  | false=>
   rw[Tf O3] at q7;exact Tb ⟨rfl,again I7 q7⟩
  | true=>
   rw[Tg rfl] at q7;exact Ta (thn (no (hm _ s7 Z6 H7 _ I7 q7)) λ_ s8 ⟨Z8,H8,I8,q8⟩=>Tb ⟨rfl,again I8 q8⟩)
def Xcp{prog}{w}{A}{env}{itv}{cl}(cm:Cm e)(hcl:(clausesOf e)[d]? = some cl)(has:cl.is_async=0)
  (h0:codeAny (model prog w) A (.compLoop e d itv acc env) R s)
  (h:wpAny (model prog w) A (pyIter itv) (λit' s'=>codeAny (model prog w) A (.compLoop e d it' acc env) R s') (notedBy (model prog w) A env λx s'=>R (.error x) s') s):
  codeAny (model prog w) A (.compStart e d itv acc env) R s:=by
 refine codeAny_of_tree ?_;rw[cm.den2,cm.und2];refine wpAny_notedAt ?_;unfold compStart;rw[hcl];have e1:(Option.elim (some cl) false λx=>x.is_async != 0)=false:=by
  show (cl.is_async != 0)=false;rw[has];rfl
 rw[e1,Tf O3];show wpAny _ A (ask >>= _) _ _ s;refine Ta (wpAny_askSetting (wpAny_ite ?_));split
 ·first
   | exact Ta (Tb (Tb (And.intro rfl h0)))
   | exact Tb (And.intro rfl h0)
 ·first
   | exact Ta (wpAny_rule (Ta (wpAny_standAt (Ta (wpAny_mono h (λit' s' h'=>Tb (And.intro rfl h')) λ_ _ x=>x)))))
   | (refine Ta (wpAny_rule ?_);show wpAny _ _ (standAt cl.iter.pos >>= _) _ _ s;exact Ta (wpAny_standAt (Ta (wpAny_mono h (λit' s' h'=>Tb (And.intro rfl h')) λ_ _ x=>x))))
end
def Hw (te:TE) (D:Addr):TM:=fun Z H Q=>te Z H λy H6=>∃ys,H6 D=some (.lst ys)/\ys.length<sizeLine/\Q Z (upd H6 D (.lst (ys++[y])))
def Jx{Y}{elt}{te}{D}(he:PE Y elt te):PM Y (do let _ <-call (.builtin "list.append") [.ref D,<-eval elt Y.env]) (Hw te D):=by
 intro pins s Z H Q I h;refine Ta (thn (he pins s Z H _ I h) λyv s8 ⟨y,H8,I8,r8,ys,hD,hlt,q8⟩=>?_);exact Ta (thn (G9 (X:=Y) _ s8 Z H8 (.ref D) [y] (.ref D) [yv] (λ_ H9=>Q Z H9) I8 rfl (.cons r8 .nil) ⟨_,ys,y,rfl,rfl,hD,hlt,q8⟩) λ_ s9 ⟨_,H9,I9,_,q9⟩=>Tb ⟨Z,H9,I9,q9⟩)
def Xcq (tk tv:TE) (D:Addr):TM:=fun Z H Q=>tk Z H λk H1=>tv Z H1 λv H2=>∃kvs ky,k=kV ky/\H2 D=some (.dK kvs)/\kvs.length<sizeLine/\Q Z (upd H2 D (.dK (Bf kvs ky v)))
def Xj3{Y}{kx vx}{tk tv}{D}(hk:PE Y kx tk)(hv:PE Y vx tv):PM Y (do
  let kv <-eval kx Y.env
  let vv <-holding [kv] (eval vx Y.env)
  standAt {kx.pos with endLine:=vx.pos.endLine,endCol:=vx.pos.endCol}
  holding [kv,vv] (dictSet D kv vv)) (Xcq tk tv D):=by
 intro pins s Z H Q I h;refine Ta (thn (hk pins s Z H _ I h) λkv s1 ⟨k,H1,I1,rk,q1⟩=>Ta (wpAny_holding (thn (hv pins s1 Z H1 _ I1 q1) λvv s2 ⟨v,H2,I2,rv,kvs,ky,ek,hD,hl,q⟩=>Ta (wpAny_standAt (wpAny_holding ?_)))));subst ek;obtain⟨z,hd,vs,rel,dd⟩:=Lw I2.hok hD;have hz:vs.length<=sizeLine:=by rw[<-rel.length];exact z
 have hl':(Bf kvs ky v).length<=sizeLine:=by have:=Hf kvs ky v;omega
 refine wpAny_dictSet_pairs (knd:=Be Y.prog Y.w) (hsz:=hz) (Fh rk) dd λh' dd' hs=>⟨Z,_,?_,q⟩;have he:∃q,h'.get? D=some q:=let ⟨q,_,_,hq,_⟩:=dd'; ⟨q,hq⟩;exact Hi I2 (by rw[hD];exact True.intro) hs he (Lx hl' hd (rel.put ky rv) dd')
def Xcr (wi:TI) (g:TG) (tt:TT) (tm:TM):TM:=fun Z H Q=>wi Z H λJ H1=>tLp g tt tm J Z H1 Q
def Xj4{Y:Cx}{e tg iter:Expr}{ifs:List Expr}{d:Nat}{D:Addr}{wi:TI}{g:TG}{tt:TT}{tm:TM}{act:Sem Unit}(cm:Cm e)(hx:Y.xe=λ_ _=>False)(hc:Y.calm=true)(hcl:(clausesOf e)[d]? = some ⟨tg,iter,ifs,0⟩)
  (eq:∀it,compTurn e d it (.ref D) Y.env=Ek e d tg iter ifs act it (.ref D) Y.env) (hi:PI Y tg iter wi) (hg:PG Y tg g) (ht:PIfs Y ifs tt) (hm:PM Y act tm)
  (hs:∀x,foldedSetIterable iter Y.env x=pure x:=by intro _;rfl):PM Y (do
   let x <-eval iter Y.env
   standAt iter.pos
   let x <-foldedSetIterable iter Y.env x
   let _ <-runOwn (.compStart e d (<-holding [x] (pyIter x)) (.ref D) Y.env) Y.env) (Xcr wi g tt tm):=by
 intro pins s Z H Q I h;refine Ta (thn (hi pins s Z H _ I h) λv s1 h1=>Ta (wpAny_standAt (Ta (wpAny_of_eq (hs v) (Ta (wpAny_holding (thn h1 λitv s2 h2=>?_)))))));obtain⟨it,fp,tn,J,H2,ei,I2,T,st2,f2,lp⟩:=h2;subst ei;refine Ta (wpAny_runOwn ?_);have go:∀s3,s3=s2->codeAny (model Y.prog Y.w) Y.A (.compLoop e d (.ref it) (.ref D) Y.env) (λr s'=>match r with | .ok _=>∃Z' H',Inv Y pins Z' H' s'/\Q Z' H' | .error e=>False) s3:=by
  rintro s3 rfl;exact Xco cm hx hc (eq _) hg ht hm I2 T st2 f2 lp fun Z' H' s' I' q=>⟨Z',H',I',q⟩
 have st:=Xcp (s:=s2) (R:=λr s'=>match r with | .ok _=>∃Z' H',Inv Y pins Z' H' s'/\Q Z' H' | .error e=>False) cm hcl rfl (go s2 rfl) (T.self Y.A 0 s2 _ _ st2 (go s2 rfl));refine codeAny_mono st λr s' hr=>?_;cases r with
 | ok f=>exact Tb hr
 | error e=>exact hr.elim
def Mr (cap:List (Option Nat)) (o0:Addr->HO) (g:TG) (tt:TT) (tm:Addr->TM) (J:It) (Z:St) (H1:Hp) (F:Addr->Hp->Prop):Prop:=
 ∀D,H1 D=none->tLp g tt (tm D) J (Br cap Z) (upd H1 D (o0 D)) λ_ H2=>F D H2
def Xcs (cap:List (Option Nat)) (o0:HO) (g:TG) (tt:TT) (tm:Addr->TM) (J:It) (Z:St) (H1:Hp) (F:Addr->Hp->Prop):Prop:=
 ∀D,H1 D=none->tLp g tt (tm D) J (Br cap Z) (upd H1 D o0) λ_ H2=>F D H2
section
variable {X:Cx}{N:Zb}{cap:List (Option Nat)}{scope:Scope}{e tg iter:Expr}{ifs:List Expr}{g:TG}{tt:TT}{tm:Addr->TM}{E:Zc}{newAcc:Sem Value}{ob:Obj}{o0:HO}{o1:Addr->HO}{act:Addr->Env->Sem Unit}
def Xct(C:CompScope X N cap scope)(hcalm:X.calm=true)(cm:Cm e)(hcl:(clausesOf e)[0]? = some ⟨tg,iter,ifs,0⟩)
  (hnew:∀(s:Shared) (Q:Zc) (E':Zc),Q (.ref s.heap.objs.size) {s with heap:=s.heap.push ob}->wpAny (model X.prog X.w) X.A newAcc Q E' s)
  (hlay:∀pins Z H s,Inv X pins Z H s->Inv X pins Z (upd H s.heap.objs.size (o1 s.heap.objs.size)) {s with heap:=s.heap.push ob})
  (heq:∀it D env,compTurn e 0 it (.ref D) env=Ek e 0 tg iter ifs (act D env) it (.ref D) env)
  (hg:∀s0 H0 ex,PG (X.comp N scope s0 H0 ex) tg g) (ht:∀s0 H0 ex,PIfs (X.comp N scope s0 H0 ex) ifs tt) (hm:∀D s0 H0 ex,PM (X.comp N scope s0 H0 ex) (act D (X.comp N scope s0 H0 ex).env) (tm D))
  {pins} {Z:St} {H} {s} {J} {fp} {it} {tn} {F} {RR:Value->Addr->Result->Shared->Prop}
  (I:Inv X pins Z H s) (T:Turn X.prog X.w X.K tg J fp it tn) (h0:tn 0 s.heap) (hf:∀b∈fp,FpOk X pins H b) (hb:Mr cap o1 g tt tm J Z H F)
  (fin:∀D L H' s' m,Inv X pins Z H' s'->FpOk X pins H' L->s'.heap.Ns L m->F D H'->RR (.ref D) L (.ok .next) s'):
  wpAny (model X.prog X.w) X.A newAcc (λacc s₃=>wpAny (model X.prog X.w) X.A (newFunctionEnv scope X.env.globals (Cp X.env scope.names []) [] X.env.qual none .none (some X.env)) (λcenv s₄=>
   codeAny (model X.prog X.w) X.A (.compStart e 0 (.ref it) acc {cenv with scope:=relabel scope X.env}) (RR acc cenv.locals) s₄) E s₃) E s:=by
 have hDn:H s.heap.objs.size=none:=I.hok.fresh (Oj _);have lp:=hb s.heap.objs.size hDn;have flt:∀b∈fp,b<s.heap.objs.size:=λb hb=>by
  obtain⟨o,e,_⟩:=T.obj _ _ h0 b hb;exact Tl e
 refine hnew s _ _ (Xib ?_);have I3:Inv X pins Z (upd H s.heap.objs.size (o1 s.heap.objs.size)) {s with heap:=s.heap.push ob}:=hlay pins Z H s I;generalize e3:({s with heap:=s.heap.push ob}:Shared)=s3 at I3;have es3:s3.heap=s.heap.push ob:=by rw[<-e3]
 have hsz:s3.heap.objs.size=s.heap.objs.size+1:=by rw[es3,Heap.size_push]
 have hf3:∀b∈fp,FpOk X pins (upd H s.heap.objs.size (o1 s.heap.objs.size)) b:=λb hb=>by
  obtain⟨f0,f⟩:=hf b hb;exact⟨by rw[Ad (Ow (flt b hb))];exact f0,f⟩
 have flt3:∀b∈fp,b<s3.heap.objs.size:=λb hb=>by rw[hsz];exact Qb (flt b hb)
 have hk:∀b o,s3.heap.get? b=some o->(pushCells (s3.heap.push {cls:=.type "dict",data:=.dict #[]}) scope.names).get? b=some o:=λb o e=>pushCells_keeps _ _ b o (Tm _ e);have IY:=Xic (tk:=s3.toks) C I3 hf3 flt3;generalize eY:X.comp N scope s3 (upd H s.heap.objs.size (o1 s.heap.objs.size)) fp=Y at IY;have hz3:(s3.heap.push {cls:=.type "dict",data:=.dict #[]}).objs.size=s3.heap.objs.size+1:=Heap.size_push ..;have hst1:tn 0 (pushCells (s3.heap.push {cls:=.type "dict",data:=.dict #[]}) scope.names):=T.keep _ _ _ h0 λb hb o e=>hk b o (by rw[es3];exact Tm _ e);have fY:∀{H':Hp},(∀b∈fp,H' b=none)->∀b∈fp,FpOk Y [] H' b:=λ{H'} hn b hb=>by
  subst eY;obtain⟨_,f1,f2,_,f4,_⟩:=hf3 b hb;refine⟨hn b hb,Ow (flt3 b hb),λz=>?_,.inl hb,λx c h=>?_,λp hp=>absurd (show p∈([]:List (Addr×Obj)) from hp) (by simp)⟩
  ·rcases O2.mp (I3.stkSub b z) with e | e
   ·exact f1 e
   ·exact f2 e
  ·rcases Xbq (s:=s3) C I3.ok hz3 h with ⟨a,_⟩ | ⟨_,a⟩
   ·exact λz=>P5 _ (Qv a (by rw[z];exact flt3 b hb))
   ·exact f4 x c a
 have loop:∀s4:Shared,s4 = {s3 with heap:=pushCells (s3.heap.push {cls:=.type "dict",data:=.dict #[]}) scope.names} ->
   codeAny (model X.prog X.w) X.A (.compLoop e 0 (.ref it) (.ref s.heap.objs.size) (compEnvC scope (Hj X scope s3) s3.heap.objs.size X.env))
    (RR (.ref s.heap.objs.size) s3.heap.objs.size) s4:=by
  rintro s4 rfl;have pP:Y.prog=X.prog:=by subst eY;rfl
  have pW:Y.w=X.w:=by subst eY;rfl
  have pK:Y.K=X.K:=by subst eY;rfl
  have pC:Y.calm=true:=by subst eY;exact hcalm
  have pA:Y.A=X.A:=by subst eY;rfl
  have pE:Y.env=compEnvC scope (Hj X scope s3) s3.heap.objs.size X.env:=by subst eY;rfl
  have pX:Y.xe=λ_ _=>False:=by subst eY;rfl
  have T':Turn Y.prog Y.w Y.K tg J fp it tn:=by rw[pP,pW,pK];exact T
  have go:=Xco (Y:=Y) (acc:=.ref s.heap.objs.size) (pins:=[]) (R:=RR (.ref s.heap.objs.size) s3.heap.objs.size) cm pX pC (heq _ _ _) (by subst eY;exact hg _ _ _) (by subst eY;exact ht _ _ _) (show PM Y (act s.heap.objs.size Y.env) (tm s.heap.objs.size) by subst eY;exact hm _ _ _ _)
   IY T' hst1 (fY λb hb=>(hf3 b hb).1) lp ?_
  ·rw[pP,pW,pA,pE] at go;exact go
  ·intro Z' H2 s1 I1 q;have IX:Inv X pins Z H2 s1:=by
    subst eY;refine I3.call' (ch:=fp) I1.os I1.base I1.hok I1.bare λb hb=>?_;obtain⟨_,f1,_,f3,f4,f5⟩:=hf3 b hb;exact⟨f3,f1,f4,f5⟩
   have hL:H2 s3.heap.objs.size=none:=by
    have z:=I1.free;rw[pE] at z;exact z
   obtain⟨m,hm,_⟩:=I1.loc;rw[pE] at hm;exact fin s.heap.objs.size s3.heap.objs.size H2 s1 m IX (I3.fpOk (Oj _) hL) hm q
 have lp:=loop _ rfl;have T1:=T.self;subst e3;exact Xcp cm hcl rfl lp (T1 X.A 0 _ _ _ hst1 lp)
structure AccA (X:Cx) (newAcc:Sem Value) (ob:Obj) (o1:Addr->HO):Prop where
 new:∀(s:Shared) (Q:Zc) (E':Zc),Q (.ref s.heap.objs.size) {s with heap:=s.heap.push ob}->wpAny (model X.prog X.w) X.A newAcc Q E' s
 lay:∀pins Z H s,Inv X pins Z H s->Inv X pins Z (upd H s.heap.objs.size (o1 s.heap.objs.size)) {s with heap:=s.heap.push ob}
structure Acc (X:Cx) (newAcc:Sem Value) (ob:Obj) (o0:HO):Prop where
 new:∀(s:Shared) (Q:Zc) (E':Zc),Q (.ref s.heap.objs.size) {s with heap:=s.heap.push ob}->wpAny (model X.prog X.w) X.A newAcc Q E' s
 lay:∀pins Z H s,Inv X pins Z H s->Inv X pins Z (upd H s.heap.objs.size o0) {s with heap:=s.heap.push ob}
def Jy:Acc X (newList []) {cls:=.type "list",data:=.seq ([]:List Value).toArray} (.lst []):=⟨λs Q E' h=>wpAny_newObj_type h,λpins Z H s I=>I.lnew (t':=s.toks) .nil (Pm _)⟩
def Xj5:Acc X newDict {cls:=.type "dict",data:=.dict #[]} (.dK []):=⟨λs Q E' h=>wpAny_newObj_type h,λpins Z H s I=>I.laid (a:=s.heap.objs.size) (o:=.dK []) (t':=s.toks) (λ_ _ q=>Tm _ q) (Oj _) (Ly s.heap I.big)⟩
def Ms (cap:List (Option Nat)) (o0:Addr->HO) (wi:TI) (g:TG) (tt:TT) (tm:Addr->TM):TE:=fun Z H Q=>wi Z H λJ H1=>Mr cap o0 g tt tm J Z H1 λD H2=>Q (.ref D) H2
def Xcu{wi}{pos}{gens}(ac:AccA X newAcc ob o1)(he:eval e X.env=comprehension e scope X.env pos newAcc false (eval iter X.env))(hcls:clausesOf e=⟨tg,iter,ifs,0⟩::gens)
  (C:CompScope X N cap scope) (hcalm:X.calm=true) (cm:Cm e) (hi:PI X tg iter wi)
  (heq:∀it D env,compTurn e 0 it (.ref D) env=Ek e 0 tg iter ifs (act D env) it (.ref D) env)
  (hg:∀s0 H0 ex,PG (X.comp N scope s0 H0 ex) tg g) (ht:∀s0 H0 ex,PIfs (X.comp N scope s0 H0 ex) ifs tt) (hm:∀D s0 H0 ex,PM (X.comp N scope s0 H0 ex) (act D (X.comp N scope s0 H0 ex).env) (tm D))
  (hs:∀x,foldedSetIterable iter X.env x=pure x):PE X e (Ms cap o1 wi g tt tm):=by
 intro pins s Z H Q I h;rw[he];refine wpAny_comprehension_free (use:=none) hcls hs (Xbm (L9 C I.ok)) C.kind (λx hx hl=>by rw[C.uniq x hx,hl]) (thn (hi pins s Z H _ I h) λv s1 h1=>thn h1 λitv s2 h2=>?_);obtain⟨it,fp,tn,J,H2,ei,I2,T,st2,f2,R⟩:=h2;subst ei;refine Xct (RR:=λacc L=>compPost (model X.prog X.w) X.A X.xe none (EP X pins Z Q) acc L) C hcalm cm (by rw[hcls];rfl) ac.new ac.lay heq hg ht hm I2 T st2 f2 R ?_;intro D L H' s' m I' fL hm q;refine⟨m,hm,λh' hs'=>?_⟩;obtain⟨f0,f1,_,f3,f4,f5⟩:=fL;exact⟨.ref D,H',I'.turned (t':=s'.toks) (λb o hb e=>(hs'.2 b hb).trans e) f0 f1 f3 f4 f5,rfl,q⟩
def Mt (cap:List (Option Nat)) (o0:HO) (wi:TI) (g:TG) (tt:TT) (tm:Addr->TM):TE:=fun Z H Q=>wi Z H λJ H1=>Xcs cap o0 g tt tm J Z H1 λD H2=>Q (.ref D) H2
def Mu{wi}{pos}{gens}(ac:Acc X newAcc ob o0)(he:eval e X.env=comprehension e scope X.env pos newAcc false (eval iter X.env))(hcls:clausesOf e=⟨tg,iter,ifs,0⟩::gens)
  (C:CompScope X N cap scope) (hcalm:X.calm=true) (cm:Cm e) (hi:PI X tg iter wi)
  (heq:∀it D env,compTurn e 0 it (.ref D) env=Ek e 0 tg iter ifs (act D env) it (.ref D) env)
  (hg:∀s0 H0 ex,PG (X.comp N scope s0 H0 ex) tg g) (ht:∀s0 H0 ex,PIfs (X.comp N scope s0 H0 ex) ifs tt) (hm:∀D s0 H0 ex,PM (X.comp N scope s0 H0 ex) (act D (X.comp N scope s0 H0 ex).env) (tm D))
  (hs:∀x,foldedSetIterable iter X.env x=pure x):PE X e (Mt cap o0 wi g tt tm):=
 Xcu (o1:=λ_=>o0) ⟨ac.new,ac.lay⟩ he hcls C hcalm cm hi heq hg ht hm hs
def Xcv (i:Nat) (cap:List (Option Nat)) (o0:HO) (wi:TI) (g:TG) (tt:TT) (tm:Addr->TM):TS:=λD Z H=>wi Z H λJ H1=>Xcs cap o0 g tt tm J Z H1 λl H2=>D.nx (Z.set i (some (.ref l))) H2
def Xcw{wi}{i}{y}{py spos cpos}{gens}(ac:Acc X newAcc ob o0)(he:∀use,evalThenUse e X.env use=(do let _ <-comprehension e scope X.env cpos newAcc false (eval iter X.env) (some use)))(hcls:clausesOf e=⟨tg,iter,ifs,0⟩::gens)
  (C:CompScope X N cap scope) (hcalm:X.calm=true) (cm:Cm e) (hN:X.N.Nodup) (hiN:X.N[i]? = some y) (hy:X.env.scope.names.lookup y=some .local) (hi:PI X tg iter wi)
  (heq:∀it D env,compTurn e 0 it (.ref D) env=Ek e 0 tg iter ifs (act D env) it (.ref D) env)
  (hg:∀s0 H0 ex,PG (X.comp N scope s0 H0 ex) tg g) (ht:∀s0 H0 ex,PIfs (X.comp N scope s0 H0 ex) ifs tt) (hm:∀D s0 H0 ex,PM (X.comp N scope s0 H0 ex) (act D (X.comp N scope s0 H0 ex).env) (tm D))
  (hsw:swapsWith e (some (.Name y py)) spos.line X.env=pure true) (hs:∀x,foldedSetIterable iter X.env x=pure x):PS X (.Assign [.Name y py] e spos) (Xcv i cap o0 wi g tt tm):=by
 intro pins s Z H D I h;rw[exec_Assign_Name_used _ _ _ _ hsw];refine Ta (wpAny_standAt (Ta ?_));rw[he];refine Ta (thn (wpAny_comprehension_free (use:=some (assign (.Name y py) X.env)) (Q:=λ_ s'=>SP X pins D .next s') hcls hs (Xbm (L9 C I.ok)) C.kind (λx hx hl=>by rw[C.uniq x hx,hl])
  (thn (hi pins s Z H _ I h) λv s1 h1=>thn h1 λitv s2 h2=>?_)) (λ_ s' hq=>Tb (Tb hq)))
 obtain⟨it,fp,tn,J,H2,ei,I2,T,st2,f2,R⟩:=h2;subst ei;refine Xct (o1:=λ_=>o0) (RR:=λacc L=>compPost (model X.prog X.w) X.A X.xe (some (assign (.Name y py) X.env)) (λ_ s'=>SP X pins D .next s') acc L) C hcalm cm (by rw[hcls];rfl) ac.new ac.lay heq hg ht hm I2 T st2 f2 R ?_;intro l L H' s' m I' fL hm q;obtain⟨f0,f1,_,f3,f4,f5⟩:=fL;show wpAny _ X.A (assign (.Name y py) X.env (.ref l)) _ _ s';refine wpAny_assign_Name (K7 I' hN hiN (.inl hy) (show Ai (.ref l) (.ref l) from rfl) (λs3 I3 ⟨a,sb,ha⟩=>?_) (.inr hy));have hLa:L≠a:=by
  rcases ha with rfl | ha
  ·exact f1
  ·exact λz=>f4 y a ha z.symm
 refine⟨m,hm.sameBut sb hLa,λh' hs'=>?_⟩;exact⟨_,H',I3.turned (t':=s3.toks) (λb o hb e=>(hs'.2 b hb).trans e) f0 f1 f3 f4 f5,q⟩
end
def act2 (elt tg iter tg2 iter2:Expr) (ifs ifs2:List Expr) (scope:Scope) (pos:Pos) (D:Addr) (env:Env):Sem Unit:=do
      let x <-eval iter2 env
      standAt iter2.pos
      let x <-foldedSetIterable iter2 env x
      let _ <-runOwn (.compStart (.ListComp elt [⟨tg,iter,ifs,0⟩,⟨tg2,iter2,ifs2,0⟩] scope pos) 1 (<-holding [x] (pyIter x)) (.ref D) env) env
def Xj6(elt tg iter tg2 iter2)(ifs ifs2)(scope)(pos)(it)(D)(env):
  compTurn (.ListComp elt [⟨tg,iter,ifs,0⟩,⟨tg2,iter2,ifs2,0⟩] scope pos) 0 it (.ref D) env=Ek (.ListComp elt [⟨tg,iter,ifs,0⟩,⟨tg2,iter2,ifs2,0⟩] scope pos) 0 tg iter ifs (act2 elt tg iter tg2 iter2 ifs ifs2 scope pos D env) it (.ref D) env:=by
 unfold compTurn Ek act2;dsimp only;simp only[List.getElem?_cons_zero,List.getElem?_cons_succ,bind_assoc,pure_bind];simp;rfl
section
variable {X:Cx}{N:Zb}{cap:List (Option Nat)}{scope:Scope}{tg iter tg2 iter2 elt kx vx:Expr}{ifs ifs2:List Expr}{g g2:TG}{tt tt2:TT}{te tk tv:TE}{wi wi2:TI}{pos:Pos}
def Dh(C:CompScope X N cap scope)(hcalm:X.calm=true)(hi:PI X tg iter wi)
  (hg:∀s0 H0 ex,PG (X.comp N scope s0 H0 ex) tg g) (ht:∀s0 H0 ex,PIfs (X.comp N scope s0 H0 ex) ifs tt) (he:∀s0 H0 ex,PE (X.comp N scope s0 H0 ex) elt te)
  (hs:∀x,foldedSetIterable iter X.env x=pure x:=by intro _;rfl):PE X (.ListComp elt [⟨tg,iter,ifs,0⟩] scope pos) (Xid cap wi g tt te):=
 Mu (act := fun D env => do let _ <- call (.builtin "list.append") [.ref D, <- eval elt env]) Jy rfl rfl C hcalm Hv hi (fun it D env => rfl) hg ht (fun D s0 H0 ex => Jx (he s0 H0 ex)) hs
def Hx{i:Nat}{y:Str}{py spos:Pos}(C:CompScope X N cap scope)(hcalm:X.calm=true)(hN:X.N.Nodup)(hiN:X.N[i]? = some y)(hy:X.env.scope.names.lookup y=some .local)(hi:PI X tg iter wi)
  (hg:∀s0 H0 ex,PG (X.comp N scope s0 H0 ex) tg g) (ht:∀s0 H0 ex,PIfs (X.comp N scope s0 H0 ex) ifs tt) (he:∀s0 H0 ex,PE (X.comp N scope s0 H0 ex) elt te)
  (hsw:swapsWith (.ListComp elt [⟨tg,iter,ifs,0⟩] scope pos) (some (.Name y py)) spos.line X.env=pure true:=by rfl)
  (hs:∀x,foldedSetIterable iter X.env x=pure x:=by intro _;rfl):PS X (.Assign [.Name y py] (.ListComp elt [⟨tg,iter,ifs,0⟩] scope pos) spos) (Xie i cap wi g tt te):=
 Xcw (act := fun D env => do let _ <- call (.builtin "list.append") [.ref D, <- eval elt env]) Jy (fun use => rfl) rfl C hcalm Hv hN hiN hy hi (fun it D env => rfl) hg ht (fun D s0 H0 ex => Jx (he s0 H0 ex)) hsw hs
def Mv(C:CompScope X N cap scope)(hcalm:X.calm=true)(hi:PI X tg iter wi)
  (hg:∀s0 H0 ex,PG (X.comp N scope s0 H0 ex) tg g) (ht:∀s0 H0 ex,PIfs (X.comp N scope s0 H0 ex) ifs tt) (hk:∀s0 H0 ex,PE (X.comp N scope s0 H0 ex) kx tk) (hv:∀s0 H0 ex,PE (X.comp N scope s0 H0 ex) vx tv)
  (hs:∀x,foldedSetIterable iter X.env x=pure x:=by intro _;rfl):PE X (.DictComp kx vx [⟨tg,iter,ifs,0⟩] scope pos) (Mt cap (.dK []) wi g tt (Xcq tk tv)):=
 Mu Xj5 rfl rfl C hcalm Xj2 hi (λit D env=>compTurn_dict kx vx tg iter ifs scope pos it D env) hg ht (λD s0 H0 ex=>Xj3 (hk s0 H0 ex) (hv s0 H0 ex)) hs
def Xcx(C:CompScope X N cap scope)(hcalm:X.calm=true)(hi:PI X tg iter wi)
  (hg:∀s0 H0 ex,PG (X.comp N scope s0 H0 ex) tg g) (ht:∀s0 H0 ex,PIfs (X.comp N scope s0 H0 ex) ifs tt)
  (hi2:∀s0 H0 ex,PI (X.comp N scope s0 H0 ex) tg2 iter2 wi2) (hg2:∀s0 H0 ex,PG (X.comp N scope s0 H0 ex) tg2 g2) (ht2:∀s0 H0 ex,PIfs (X.comp N scope s0 H0 ex) ifs2 tt2) (he:∀s0 H0 ex,PE (X.comp N scope s0 H0 ex) elt te)
  (hs:∀x,foldedSetIterable iter X.env x=pure x:=by intro _;rfl) (hs2:∀s0 H0 ex x,foldedSetIterable iter2 (X.comp N scope s0 H0 ex).env x=pure x:=by intro _ _ _ _;rfl):
  PE X (.ListComp elt [⟨tg,iter,ifs,0⟩,⟨tg2,iter2,ifs2,0⟩] scope pos) (Mt cap (.lst []) wi g tt λD=>Xcr wi2 g2 tt2 (Hw te D)):=
 Mu (act:=λD env=>act2 elt tg iter tg2 iter2 ifs ifs2 scope pos D env) Jy rfl rfl C hcalm Hv hi (λit D env=>Xj6 ..) hg ht (λD s0 H0 ex=>Xj4 (Y:=X.comp N scope s0 H0 ex) (e:=.ListComp elt [⟨tg,iter,ifs,0⟩,⟨tg2,iter2,ifs2,0⟩] scope pos) (d:=1) Hv rfl hcalm rfl (λit=>rfl) (hi2 s0 H0 ex) (hg2 s0 H0 ex) (ht2 s0 H0 ex) (Jx (he s0 H0 ex)) (hs2 s0 H0 ex)) hs
end
mutual
def DAt (H:Hp):PyData->V->Prop
 | .none,v=>v = .non
 | .bool b,v=>v = .bl b
 | .int i,v=>v = .int i
 | .str x,v=>v = .str x
 | .list ds,v=>∃p xs,v = .ref p/\H p=some (.lst xs)/\DAll H ds xs
 | .tuple ds,v=>∃p xs,v = .ref p/\H p=some (.tup xs)/\DAll H ds xs
 | .dict _,_=>False
def DAll (H:Hp):List PyData->List V->Prop
 | [],vs=>vs=[]
 | d::ds,vs=>∃v r,vs=v::r/\DAt H d v/\DAll H ds r
end
mutual
theorem DAt.same{H H':Hp}(s:Same H H'):∀(d:PyData) (v:V),DAt H d v->DAt H' d v
 | .none,v,h=>by unfold DAt at h ⊢; exact h
 | .bool b,v,h=>by unfold DAt at h ⊢; exact h
 | .int i,v,h=>by unfold DAt at h ⊢; exact h
 | .str x,v,h=>by unfold DAt at h ⊢; exact h
 | .list ds,v,h=>by
  unfold DAt at h ⊢;obtain⟨p,xs,h1,h2,h3⟩:=h;exact⟨p,xs,h1,s _ _ h2,DAll.same s ds xs h3⟩
 | .tuple ds,v,h=>by
  unfold DAt at h ⊢;obtain⟨p,xs,h1,h2,h3⟩:=h;exact⟨p,xs,h1,s _ _ h2,DAll.same s ds xs h3⟩
 | .dict _,v,h=>by unfold DAt at h;exact h.elim
theorem DAll.same{H H':Hp}(s:Same H H'):∀(ds:List PyData) (vs:List V),DAll H ds vs->DAll H' ds vs
 | [],vs,h=>by unfold DAll at h ⊢; exact h
 | d::ds,vs,h=>by
  unfold DAll at h ⊢;obtain⟨v,r,h1,h2,h3⟩:=h;exact⟨v,r,h1,DAt.same s d v h2,DAll.same s ds r h3⟩
end
def D4{H}:DAll H [] []:=by unfold DAll;rfl
def Hy{H}{d}{ds}{v}{vs}(h:DAt H d v)(hs:DAll H ds vs):DAll H (d::ds) (v::vs):=by unfold DAll;exact⟨v,vs,rfl,h,hs⟩
theorem Jz{H}{d}{v}:∀{ds:List PyData} {vs:List V},DAll H ds vs->DAt H d v->DAll H (ds++[d]) (vs++[v])
 | [],vs,h,hd=>by
  unfold DAll at h;subst h;exact Hy hd D4
 | e::ds,vs,h,hd=>by
  unfold DAll at h;obtain⟨u,r,rfl,h2,h3⟩:=h;exact Hy h2 (Jz h3 hd)
theorem Gg{H}:∀{ds:List PyData} {vs:List V},DAll H ds vs->vs.length=ds.length
 | [],vs,h=>by unfold DAll at h;subst h;rfl
 | e::ds,vs,h=>by
  unfold DAll at h;obtain⟨u,r,rfl,h2,h3⟩:=h;rw[Pe,Pe,Gg h3]
theorem Mw{H}:∀{ds:List PyData} {vs:List V} {i:Nat} {d:PyData},DAll H ds vs->ds[i]? = some d->∃v,vs[i]? = some v/\DAt H d v
 | [],vs,i,d,h,e=>by simp at e
 | c::ds,vs,0,d,h,e=>by
  unfold DAll at h;obtain⟨u,r,rfl,h2,h3⟩:=h;simp at e;subst e;exact⟨u,rfl,h2⟩
 | c::ds,vs,i+1,d,h,e=>by
  unfold DAll at h;obtain⟨u,r,rfl,h2,h3⟩:=h;simpa using Mw h3 (by simpa using e)
def Mx{H}(row:Zb):DAll H (row.map PyData.str) (row.map V.str):=by
 induction row with
 | nil=>exact D4
 | cons x r ih=>exact Hy (by unfold DAt;rfl) ih
def Xj7{H}(row:List Int):DAll H (row.map PyData.int) (row.map V.int):=by
 induction row with
 | nil=>exact D4
 | cons x r ih=>exact Hy (by unfold DAt;rfl) ih
def My{H}{ds}{p}{xs}(h:H p=some (.tup xs))(hs:DAll H ds xs):DAt H (.tuple ds) (.ref p):=by unfold DAt;exact⟨p,xs,rfl,h,hs⟩
def J3{H}{ds}{p}{xs}(h:H p=some (.lst xs))(hs:DAll H ds xs):DAt H (.list ds) (.ref p):=by unfold DAt;exact⟨p,xs,rfl,h,hs⟩
def Mz{H}{ds}{v}(h:DAt H (.tuple ds) v):∃p xs,v = .ref p/\H p=some (.tup xs)/\DAll H ds xs:=by unfold DAt at h;exact h
section
variable {X:Cx}{pins:List (Addr×Obj)}{Z:St}{H:Hp}{s:Shared}
mutual
theorem El(I:Inv X pins Z H s):∀(d:PyData) (v:V) (u:Value),DAt H d v->Ai v u->∃as,Reads s.heap u d as
 | .none,v,u,h,r=>by unfold DAt at h;subst h;cases r;exact⟨_,.none⟩
 | .bool b,v,u,h,r=>by unfold DAt at h;subst h;cases r;exact⟨_,.bool b⟩
 | .int i,v,u,h,r=>by unfold DAt at h;subst h;obtain⟨t,rfl⟩:=r;exact⟨_,.int i t⟩
 | .str x,v,u,h,r=>by unfold DAt at h;subst h;obtain⟨t,rfl⟩:=r;exact⟨_,.str x t⟩
 | .list ds,v,u,h,r=>by
  unfold DAt at h;obtain⟨p,xs,rfl,hp,hs⟩:=h;cases r;obtain⟨its,rv,pl,hz⟩:=I.list (SqL.of (K:=X.K) hp);obtain⟨as,ra⟩:=M0 I ds xs its hs rv;obtain⟨o,ho,hc,n,hd⟩:=pl.isList;exact⟨_,.list ho hc hd (by simpa using ra)⟩
 | .tuple ds,v,u,h,r=>by
  unfold DAt at h;obtain⟨p,xs,rfl,hp,hs⟩:=h;cases r;obtain⟨its,rv,pl,hz⟩:=I.tuple (SqT.of (K:=X.K) hp);obtain⟨as,ra⟩:=M0 I ds xs its hs rv;obtain⟨o,ho,hc,n,hd⟩:=pl;exact⟨_,.tuple ho hc hd (by simpa using ra)⟩
 | .dict _,v,u,h,r=>by unfold DAt at h;exact h.elim
theorem M0(I:Inv X pins Z H s):∀(ds:List PyData) (vs:List V) (us:List Value),DAll H ds vs->Vals vs us->∃as,ReadsAll s.heap us ds as
 | [],vs,us,h,r=>by unfold DAll at h;subst h;cases r;exact⟨_,.nil⟩
 | d::ds,vs,us,h,r=>by
  unfold DAll at h;obtain⟨v,vr,rfl,h1,h2⟩:=h;cases r with
  | cons r1 r2=>
   obtain⟨a1,q1⟩:=El I d v _ h1 r1;obtain⟨a2,q2⟩:=M0 I ds vr _ h2 r2;exact⟨_,.cons q1 q2⟩
end
def Hz(hu:X.A.units+3<cLine):OpR X (compareOp .Eq) (λx y H Q=>∃d d',DAt H d x/\DAt H d' y/\d.canLay0=true/\d'.canLay0=true/\min d.depth d'.depth<=3/\Q (.bl (PyData.eqv d d')) H):=by
 intro pins s Z H x y v u Q I rx ry h;obtain⟨d,d',h1,h2,c1,c2,hd,q⟩:=h;obtain⟨as,ra⟩:=El I d x v h1 rx;obtain⟨bs,rb⟩:=El I d' y u h2 ry;exact SeqAt.compareEq_reads ra rb c1 c2 (by omega) ⟨.bl _,H,I,rfl,q⟩
def J4(hu:X.A.units+3<cLine):OpR X (compareOp .NotEq) (λx y H Q=>∃d d',DAt H d x/\DAt H d' y/\d.canLay0=true/\d'.canLay0=true/\min d.depth d'.depth<=3/\Q (.bl (!PyData.eqv d d')) H):=by
 intro pins s Z H x y v u Q I rx ry h;obtain⟨d,d',h1,h2,c1,c2,hd,q⟩:=h;obtain⟨as,ra⟩:=El I d x v h1 rx;obtain⟨bs,rb⟩:=El I d' y u h2 ry;exact SeqAt.compareNe_reads ra rb c1 c2 (by omega) ⟨.bl _,H,I,rfl,q⟩
def Xcy(hu:X.A.units+4<cLine):OpR X (compareOp .In) (λx y H Q=>∃d ds,DAt H d x/\DAt H (.list ds) y/\d.canLay0=true/\PyData.canLayAll0 ds=true/\d.depth<=3/\Q (.bl (ds.any λe=>PyData.eqv e d)) H):=by
 intro pins s Z H x y v u Q I rx ry h;obtain⟨d,ds,h1,h2,c1,c2,hd,q⟩:=h;obtain⟨as,ra⟩:=El I d x v h1 rx;obtain⟨bs,rb⟩:=El I (.list ds) y u h2 ry;exact SeqAt.in_list_reads rb ra c2 c1 (by omega) ⟨.bl _,H,I,rfl,q⟩
end
mutual
def Ci:PyData->Bool
 | .none | .int _=>true
 | .str x=>PyData.strOk x
 | .list xs | .tuple xs=>Di xs
 | .bool _ | .dict _=>false
def Di:List PyData->Bool
 | []=>true
 | x::xs=>Ci x&&Di xs
end
mutual
theorem Cb:∀d:PyData,Ci d=true->d.canLay0=true
 | .none,_=>rfl
 | .int _,_=>rfl
 | .str x,h=>h
 | .list xs,h=>Gh xs h
 | .tuple xs,h=>Gh xs h
 | .bool _,h=>nomatch h
 | .dict _,h=>nomatch h
theorem Gh:∀ds:List PyData,Di ds=true->PyData.canLayAll0 ds=true
 | [],_=>rfl
 | d::ds,h=>by
  have h':(Ci d&&Di ds)=true:=h;rw[O4] at h';show (d.canLay0&&PyData.canLayAll0 ds)=true;rw[Cb d h'.1,Gh ds h'.2];rfl
end
mutual
theorem M3:∀(d d':PyData),Ci d=true->Ci d'=true->(PyData.eqv d d'=true↔d=d')
 | .none,d',_,h=>by cases d'<;>simp[PyData.eqv]
 | .int i,d',_,h=>by cases d'<;>simp_all [PyData.eqv,Ci]
 | .str x,d',_,h=>by cases d'<;>simp_all [PyData.eqv,Ci]
 | .list xs,d',g,h=>by
  cases d' with
  | list ys=>
   have:=M4 xs ys g h;simp only[PyData.eqv,this,PyData.list.injEq]
  | _=>simp[PyData.eqv]
 | .tuple xs,d',g,h=>by
  cases d' with
  | tuple ys=>
   have:=M4 xs ys g h;simp only[PyData.eqv,this,PyData.tuple.injEq]
  | _=>simp[PyData.eqv]
 | .bool _,_,g,_=>nomatch g
 | .dict _,_,g,_=>nomatch g
theorem M4:∀(xs ys:List PyData),Di xs=true->Di ys=true->(PyData.eqvAll xs ys=true↔xs=ys)
 | [],[],_,_=>by simp[PyData.eqvAll]
 | [],_::_,_,_=>by simp[PyData.eqvAll]
 | _::_,[],_,_=>by simp[PyData.eqvAll]
 | x::xs,y::ys,g,h=>by
  have g':(Ci x&&Di xs)=true:=g;have h':(Ci y&&Di ys)=true:=h;rw[O4] at g' h';have e1:=M3 x y g'.1 h'.1;have e2:=M4 xs ys g'.2 h'.2;simp only[PyData.eqvAll,O4,e1,e2,List.cons.injEq]
end
def Xcz{α : Type}[DecidableEq α](f : α->PyData)(inj:∀a b,f a=f b->a=b)(a b)(ha:Ci (f a)=true)(hb:Ci (f b)=true):PyData.eqv (f a) (f b)=decide (a=b):=by
 rw[Qe,M3 _ _ ha hb,decide_eq_true_eq];exact⟨inj a b,λe=>by rw[e]⟩
theorem plainAll_map{α : Type}(f):∀(xs:List α),(∀x∈xs,Ci (f x)=true)->Di (xs.map f)=true
 | [],_=>rfl
 | x::xs,h=>by
  show (Ci (f x)&&Di (xs.map f))=true;rw[h x Os,plainAll_map f xs λy hy=>h y (Ot _ hy)];rfl
section
variable {X:Cx}{tg:Expr}
def Xj8 (tl:TE):TI:=fun Z H R=>tl Z H λx H1=>∃d kvs,x = .ref d/\((H1 d=some (.dK kvs)/\∀o,R (Itd d o kvs) (upd H1 d (.frz o (.dK kvs)))) \/ ∃o,H1 d=some (.frz o (.dK kvs))/\R (Itd d o kvs) H1)
def Fl{l}{tl}(hl:PE X l tl):PI X tg l (Xj8 tl):=by
 intro pins s Z H R I h;refine thn (hl pins s Z H _ I h) λv s1 ⟨x,H1,I1,r1,q1⟩=>?_;obtain⟨d,kvs,e,q⟩:=q1;subst e;cases r1;rcases q with ⟨hH,q⟩ | ⟨o,hH,q⟩
 ·obtain⟨hz,hm,vs,rv,o,es,ep,ho,hex,hd,r⟩:=I1.hok d _ hH;have hlen:kvs.length=vs.length:=Paired.length rv;refine wpAny_pyIter_dict (knd:=Be X.prog X.w) hm ⟨o,es,ho,hex,hd,r⟩ ?_;have I2:=I1.freeze hH ho;refine⟨s1.heap.objs.size,[s1.heap.objs.size],_,_,_,rfl,I2.kept (t':=s1.toks) λb o e=>Tm _ e,Me d _ o es ep hd kvs (Ow (Tl ho)),⟨_,Heap.get?_push_size _ rfl,rfl,by rw[hlen];rfl⟩,λb hb=>?_,q o⟩;have e:b=s1.heap.objs.size:=by simpa using hb
  subst e;exact I2.fpOk (Oj _) (I2.hok.fresh (Oj _))
 ·obtain⟨ho',hok⟩:=(show A4 X.prog X.w H1 s1.heap d (.frz o (.dK kvs)) from I1.hok d _ hH);obtain⟨hz,hm,vs,rv,o',es,ep,ho,hex,hd,r⟩:=hok;have eo:o'=o:=by rw[ho'] at ho;exact(O0 ho).symm
  subst eo;have hlen:kvs.length=vs.length:=Paired.length rv;refine wpAny_pyIter_dict (knd:=Be X.prog X.w) hm ⟨o',es,ho,hex,hd,r⟩ ?_;refine⟨s1.heap.objs.size,[s1.heap.objs.size],_,_,_,rfl,I1.kept (t':=s1.toks) λb o e=>Tm _ e,Me d _ o' es ep hd kvs (Ow (Tl ho)),⟨_,Heap.get?_push_size _ rfl,rfl,by rw[hlen];rfl⟩,λb hb=>?_,q⟩;have e:b=s1.heap.objs.size:=by simpa using hb
  subst e;exact I1.fpOk (Oj _) (I1.hok.fresh (Oj _))
end
def hid (D:Addr) (H:Hp):Hp:=λb=>if b=D then none else H b
def E1(D)(H):Same (hid D H) H:=λb o e=>by
 unfold hid at e;split at e
 ·cases e
 ·exact e
def Xc0(D)(H)(o):hid D (upd H D o)=hid D H:=by
 funext b;unfold hid;split
 ·rfl
 ·rename_i h;rw[Ad h]
def Ia{D}{H H'}(s:Same H H'):Same (hid D H) (hid D H'):=λb o e=>by
 unfold hid at e ⊢;split at e
 ·cases e
 ·rename_i h;rw[Tf h];exact s b o e
def Cr{D b}{H}{o}(h:H b=some o)(n:b≠D):hid D H b=some o:=by
 unfold hid;rw[Tf n];exact h
def Xc1{D p}{H}{o}{ds}{xs}(hD:H D=some o)(np:H p=none)(h:DAll (hid D (upd H p (.tup xs))) ds xs):DAt (hid D (upd H p (.tup xs))) (.tuple ds) (.ref p):=
 My (Cr Ab (Au hD np).symm) h
section
variable {tt:TT}{te:TE}{J:It}{Z:St}{H0 H1:Hp}{D:Addr}{F:St->Hp->Prop}{j:Nat}{xs0:List V}
def M5(n)(vs:Nat->V)(ok)(dat)(acc)(hH:H0 D=none)(s0:Same H0 H1)(hxs:H1 D=some (.lst xs0))(hall:DAll (hid D H1) acc xs0)(hbd:acc.length+n<sizeLine)
  (hgo:∀i H2,i<n->Same H0 H2->J.go i H2/\∀x H3,J.yld i H2 x H3->H3=H2/\x=vs i)
  (hst:∀H2,Same H0 H2->J.stop n H2)
  (tst:∀(i:Nat) H2 Q,i<n->Same H0 H2->(∀H',Same H2 H'->Q (ok i) H')->tt (Z.set j (some (vs i))) H2 Q)
  (step:∀(i:Nat) xs H2 Q,i<n->ok i=true->Same H0 H2->H2 D=some (.lst xs)->(∀v H',Same H2 H'->DAt (hid D H') (dat i) v->Q v H')->te (Z.set j (some (vs i))) H2 Q)
  (fin:∀Z' H2 xs,(∀v, Z'.set j v = Z.set j v)->Same H0 H2->H2 D=some (.lst xs)->DAll (hid D H2) (acc++((List.range n).filter ok).map dat) xs->F Z' H2):
  tLp (A6 j) tt (Hw te D) J Z H1 F:=by
 refine⟨wN n λi Z2 H2=>(∀v, Z2.set j v = Z.set j v)/\Same H0 H2/\∃xs,H2 D=some (.lst xs)/\DAll (hid D H2) (acc++((List.range i).filter ok).map dat) xs,⟨n,by simp,Pm _,λ_=>rfl,s0,xs0,hxs,by simpa using hall⟩,?_⟩;rintro i m Z1 H2 ⟨rfl,hi,e,s2,xs,hD,hal⟩;by_cases hlt:i<n
 ·obtain⟨h1,h2⟩:=hgo i H2 hlt s2;refine .inr ⟨h1,λx H3 y=>?_⟩;obtain⟨e1,e2⟩:=h2 x H3 y;subst e1 e2;show tt (Z1.set j (some (vs i))) H3 _;rw[e];refine tst i H3 _ hlt s2 λH4 s4=>?_;have s04:=s2.trans s4;have hD4:=s4 _ _ hD;have hal4:=DAll.same (Ia (D:=D) s4) _ _ hal;have hss:∀v,(Z.set j (some (vs i))).set j v = Z.set j v:=λv=>by rw[Sc]
  have hl:xs.length<=acc.length+i:=by
   rw[Gg hal,Oo,Oh];have:((List.range i).filter ok).length<=i:=Pd (Pn ..) (by rw[Px];omega);omega
  refine A0 (λhk=>?_) (λhk=>?_)
  ·show te (Z.set j (some (vs i))) H4 _;refine step i xs H4 _ hlt hk s04 hD4 λv H5 s5 hv=>?_;refine⟨xs,s5 _ _ hD4,by omega,?_⟩;refine wskip hlt ⟨hss,λb u e'=>?_,xs++[v],Ab,?_⟩
   ·rw[Ad (Au e' hH)];exact s5 _ _ (s04 b u e')
   ·rw[Xc0,Pz,O8,Oq,<-Pg];simp only[Pu,hk,if_true,Sl,Pb,S8];exact Jz (DAll.same (Ia (D:=D) s5) _ _ hal4) hv
  ·refine wskip hlt ⟨hss,s04,xs,hD4,?_⟩;rw[Pz,O8];simpa [hk] using hal4
 ·have ei:i=n:=by omega
  subst ei;exact .inl ⟨hst H2 s2,fin Z1 H2 xs e s2 hD hal⟩
def Xj9{tm}(n:Nat)(vs:Nat->V)(acc:Nat->List PyData)(hH:H0 D=none)(s0:Same H0 H1)(hxs:H1 D=some (.lst xs0))(hall:DAll (hid D H1) (acc 0) xs0)(EZ:St->Prop)(hE:EZ Z)
  (hgo:∀i H2,i<n->Same H0 H2->J.go i H2/\∀x H3,J.yld i H2 x H3->H3=H2/\x=vs i)
  (hst:∀H2,Same H0 H2->J.stop n H2)
  (step:∀(i:Nat) Z1 xs H2 (Q:St->Hp->Prop),i<n->EZ Z1->Same H0 H2->H2 D=some (.lst xs)->DAll (hid D H2) (acc i) xs->(∀Z' H' xs',EZ Z'->Same H0 H'->H' D=some (.lst xs')->DAll (hid D H') (acc (i+1)) xs'->Q Z' H')->tm (Z1.set j (some (vs i))) H2 Q)
  (fin:∀Z' H2 xs,Same H0 H2->H2 D=some (.lst xs)->DAll (hid D H2) (acc n) xs->F Z' H2):
  tLp (A6 j) C5 tm J Z H1 F:=by
 refine⟨wN n λi Z2 H2=>EZ Z2/\Same H0 H2/\∃xs,H2 D=some (.lst xs)/\DAll (hid D H2) (acc i) xs,⟨n,by simp,Pm _,hE,s0,xs0,hxs,hall⟩,?_⟩;rintro i m Z1 H2 ⟨rfl,hi,e,s2,xs,hD,hal⟩;by_cases hlt:i<n
 ·obtain⟨h1,h2⟩:=hgo i H2 hlt s2;refine .inr ⟨h1,λx H3 y=>?_⟩;obtain⟨e1,e2⟩:=h2 x H3 y;subst e1 e2;unfold A6 C5;dsimp only;rw[Tg rfl];exact step i Z1 xs H3 _ hlt e s2 hD hal fun Z' H' xs' e' s' hD' hal'=>wskip hlt ⟨e',s',xs',hD',hal'⟩
 ·have ei:i=n:=by omega
  subst ei;exact .inl ⟨hst H2 s2,fin Z1 H2 xs s2 hD hal⟩
def Xka{tm}(n:Nat)(vs:Nat->V)(acc:Nat->List PyData)(G:Hp->Prop)(hH:H0 D=none)(s0:Same H0 H1)(g0:G H1)(hxs:H1 D=some (.lst xs0))(hall:DAll (hid D H1) (acc 0) xs0)(EZ:St->Prop)(hE:EZ Z)
  (hgo:∀i H2,i<n->Same H0 H2->J.go i H2/\∀x H3,J.yld i H2 x H3->H3=H2/\x=vs i)
  (hst:∀H2,Same H0 H2->J.stop n H2)
  (step:∀(i:Nat) Z1 xs H2 (Q:St->Hp->Prop),i<n->EZ Z1->Same H0 H2->G H2->H2 D=some (.lst xs)->DAll (hid D H2) (acc i) xs->(∀Z' H' xs',EZ Z'->Same H0 H'->G H'->H' D=some (.lst xs')->DAll (hid D H') (acc (i+1)) xs'->Q Z' H')->tm (Z1.set j (some (vs i))) H2 Q)
  (fin:∀Z' H2 xs,Same H0 H2->G H2->H2 D=some (.lst xs)->DAll (hid D H2) (acc n) xs->F Z' H2):
  tLp (A6 j) C5 tm J Z H1 F:=by
 refine⟨wN n λi Z2 H2=>EZ Z2/\Same H0 H2/\G H2/\∃xs,H2 D=some (.lst xs)/\DAll (hid D H2) (acc i) xs,⟨n,by simp,Pm _,hE,s0,g0,xs0,hxs,hall⟩,?_⟩;rintro i m Z1 H2 ⟨rfl,hi,e,s2,g2,xs,hD,hal⟩;by_cases hlt:i<n
 ·obtain⟨h1,h2⟩:=hgo i H2 hlt s2;refine .inr ⟨h1,λx H3 y=>?_⟩;obtain⟨e1,e2⟩:=h2 x H3 y;subst e1 e2;unfold A6 C5;dsimp only;rw[Tg rfl];exact step i Z1 xs H3 _ hlt e s2 g2 hD hal fun Z' H' xs' e' s' g' hD' hal'=>wskip hlt ⟨e',s',g',xs',hD',hal'⟩
 ·have ei:i=n:=by omega
  subst ei;exact .inl ⟨hst H2 s2,fin Z1 H2 xs s2 g2 hD hal⟩
end
section
variable {X:Cx}{pos np hpos:Pos}{body:List Stmt}{b0:Stmt}{suite:List Stmt}{x:Str}{Cc:Addr}{tb:(Addr->St->Hp->Prop)->TS}{th:TS}
end
section
variable {X:Cx}
def Xkb:X.calm=true->Bv X (.builtin "any") (λxs H Q=>∃(a:Addr) (bs:List Bool),xs=[.ref a]/\H a=some (.lst (bs.map V.bl))/\Q (.bl (bs.any id)) H):=by
 intro hc pins s Z H xs us Q I r h;obtain⟨a,bs,rfl,ha,q⟩:=h;obtain⟨u,rfl,ru⟩:=Co r;cases ru;obtain⟨its,rv,p,hz⟩:=I.list (SqL.of ha);have hl:=rv.length;rw[Oh] at hl;refine call_any_walk (wpAny_pyIter_list p.isList ?_);have hlt:a≠s.heap.objs.size:=by
  obtain⟨o,ho,_⟩:=p.isList;exact Ow (Tl ho)
 refine⟨s.heap.objs.size,_,_,_,_,_,λj=>bs.getD j false,rfl,Walks.list (A:=X.A.in1) (show X.A.in1.handled=none from I.ok.hd hc) s.heap.objs.size a hlt its.toArray,⟨⟨_,Heap.get?_push_size _ rfl,rfl,rfl⟩,p.isList.push _⟩,λi v s' Q' E' hP hQ=>?_,λh' tk k=>?_⟩
 ·have hv:its[i]? = some v:=by simpa using hP
  have hi:i<its.length:=(Oy.mp hv).1;have g:(bs.map V.bl)[i]? = some (.bl (bs[i]'(by omega))):=by
   rw[Ox,Oi (by omega)];rfl
  obtain⟨u,hu,ru⟩:=rv.get g;rw[hv] at hu;cases hu;cases ru;have e:bs.getD i false=bs[i]'(by omega):=by simp[List.getD,(by omega:i<bs.length)]
  have hQ':Q' (bs.getD i false) s':=hQ;rw[e] at hQ';exact wpAny_truthy_bool hQ'
 ·refine⟨.bl (bs.any id),H,I.kept (t':=tk) λb o e=>k b o (λz=>?_) (Tm _ e),?_,q⟩
  ·have z':b=s.heap.objs.size:=by simpa using z
   exact absurd (Tl e) (by rw[z'];exact P5 _)
  ·show Value.bool _=Value.bool _;congr 1;rw[Ol,<-hl];rw[Qe,Qu,Qu];constructor
   ·rintro ⟨j,hj,e⟩;have hj':=P1.mp hj;refine⟨_,Pa hj',?_⟩;simpa [List.getD,hj'] using e
   ·rintro ⟨b,hb,e⟩;obtain⟨j,hj,rfl⟩:=Po.mp hb;exact⟨j,P1.mpr hj,by simpa [List.getD,hj] using e⟩
def Xkc:V->List V->Hp->VK->Prop:=λx vs H Q=>∃l xs y,x = .ref l/\vs=[y]/\H l=some (.lst xs)/\B1 y=true/\xs.all B1=true/\Q (.int (xs.countP λz=>eqV z y)) H
theorem Xc2{y}:∀{xs:List V} {its:List Value},Vals xs its->xs.all B1=true->its.countP (eqU y)=xs.countP λz=>eqV z y
 | _,_,.nil,_=>rfl
 | _,_,.cons (a:=a) (b:=b) r t,f=>by
  rw[S7,O4] at f;rw[Qa,Qa,Xc2 t f.2,Jl r f.1]
def Xc3:MtM X "list.count" Xkc:=by
 intro pins s Z H x vs v us Q I rx rv h;obtain⟨l,xs,y,rfl,rfl,hH,fy,fs,q⟩:=h;cases rx;obtain⟨u,rfl,ru⟩:=rv.one;obtain⟨z,its,n,r,hl,e⟩:=I.lstM hH;refine call_meets F.slot_list_count ⟨_,e,rfl⟩ F.entry_list_count (F.args_list_count_2 _ _) (SeqAt.list_countAt l its.toArray n _ _ u (eqU y)) ⟨e,λw hw=>Fg ru fy r fs w (by simpa using hw),?_⟩;refine⟨.int _,H,I.tok _,⟨_,rfl⟩,?_⟩;have e2:((its.toArray.toList.countP (eqU y):Nat):Int)=((xs.countP λz=>eqV z y:Nat):Int):=by rw[<-Xc2 r fs]
 exact e2 ▸ q
def Xkd:Bv X (.builtin "sorted") (λxs H Q=>∃a ks,xs=[.ref a]/\H a=some (.lst (ks.map V.str))/\ks.length<64/\∀l,H l=none->Q (.ref l) (upd H l (.lst ((srt ks).map V.str)))):=by
 intro pins s Z H xs us Q I r h;obtain⟨a,ks,rfl,ha,h64,q⟩:=h;obtain⟨u,rfl,rx⟩:=Co r;cases rx;obtain⟨its,rv,pl,hz⟩:=I.list (SqL.of ha);have hl:=rv.length;rw[Oh] at hl;refine sorted_strs pl.isList (Ga rv) (by omega) λout ss' h1 h2 h3=>?_;obtain⟨e,he⟩:=sortedAll_at s.heap its out;have es:ss'=srt ks:=Gb h2 h3;subst es;have hf:H (s.heap.objs.size+1)=none:=I.hok.fresh (Qc _);refine⟨.ref (s.heap.objs.size+1),_,I.laid (t':=s.toks) (h':=sortedAll s.heap its out) (o:=.lst ((srt ks).map V.str)) (λb ob q=>sortedAll_old q) (Qc _) ?_,rfl,q _ hf⟩;refine⟨by rw[Oh,h2.length_eq,Te];omega,out.toList,e,Xcd h1,?_⟩;rw[he]
def M6:R2:=λx y H Q=>∃a b xs ys,x = .ref a/\y = .ref b/\H a=some (.tup xs)/\H b=some (.tup ys)/\xs.length+ys.length<=sizeLine/\∀p H',Same H H'->H' p=some (.tup (xs++ys))->Q (.ref p) H'
def Ib:OpR X (binaryOp .Add) M6:=by
 intro pins s Z H x y v u Q I rx ry h;obtain⟨a,b,xs,ys,rfl,rfl,ha,hb,hz,q⟩:=h;by_cases hx:xs=[]
 ·subst hx;cases rx;cases ry;obtain⟨its,r1,p1,_⟩:=I.tuple (SqT.of (K:=X.K) ha);obtain⟨its2,r2,p2,_⟩:=I.tuple (SqT.of (K:=X.K) hb);cases r1;obtain⟨⟨cls,dd,data,sl⟩,ho,hc,n,hd⟩:=id p1;obtain⟨⟨cls2,dd2,data2,sl2⟩,ho2,hc2,n2,hd2⟩:=id p2;simp only at hc hd hc2 hd2;subst hc hd hc2 hd2;exact concat_meets ⟨_,ho,rfl⟩ ⟨_,ho2,rfl⟩ noFill_tuple_add seq_tuple_add PySem.F.slot_tuple_add PySem.F.entry_tuple_add (PySem.F.args_tuple_add_2 _ _)
   (tuple_addW0 a b _ _ n n2 dd dd2 sl sl2 (by simp)) ⟨ho,ho2,⟨.ref b,H,I,rfl,q b H (Same.refl H) hb⟩⟩
 ·refine Xhc pins s Z H (.ref a) (.ref b) v u Q I rx ry ⟨a,b,xs,ys,rfl,rfl,SqT.of ha,SqT.of hb,hx,hz,λhy=>?_,λhy p np=>?_⟩
  ·subst hy;exact q a H (Same.refl H) (by rw[Ps];exact ha)
  ·exact q p _ ((Same.refl H).step np) Ab
end
end L2
namespace HT
open PySem.Calls L2
section
variable {prog:Program}{w:World}{A:Around}{E:Zc}{s:Shared}
def getItem_tuple_whole{t sl}{items}{vl vu}{lo hi}{Q}(ht:IsTup s.heap t items)(hs:s.heap.IsSliceOf sl vl vu .none)(pl:IsPart vl lo)(pu:IsPart vu hi)
  (hw:sIx items.size 0 lo=0/\sIx items.size items.size hi=items.size) (h:Q (.ref t) s):wpAny (model prog w) A (getItem (.ref t) (.ref sl)) Q E s:=by
 obtain⟨os,hos,hcs,hds⟩:=id hs;have hTs:s.TypeIs (.ref sl) "slice" := ⟨os,hos,hcs⟩;unfold getItem
 try with_reducible refine wpAny_holding ?_
 first | refine Ta (Tb ?_) | skip
 refine Ta (wpAny_sequenceKey ht.typeIs (by decide) ?_);refine Ta (wpAny_callSpecial?_slot (name:=Str.ofString "__getitem__") ht.typeIs PyProof.Rows.slot_tuple_getitem
  (wpAny_call_entry PyProof.Rows.slot_tuple_getitem ht.typeIs entry_tuple_getitem ?_ (args_tuple_getitem _ _)))
 show wpAny _ _ (Builtin.Tuple.tupleItemsOf (.ref t) >>= _) _ _ s;refine Ta (tupleItemsOf_ ht ?_);refine Ta (wpAny_typeOf hTs ?_);rw[Tg (by decide)];refine Ta (Xa3 hs pl pu ?_);have hyes:((((sIx items.size 0 lo:Nat):Int)==0&&(1:Int)==1&&(sIx items.size items.size hi - sIx items.size 0 lo)==items.size)=true):=by
  rw[hw.1,hw.2];simp
 show wpAny _ _ (if (((sIx items.size 0 lo:Nat):Int)==0&&(1:Int)==1&&(sIx items.size items.size hi - sIx items.size 0 lo)==items.size)=true then _ else _) _ _ s;rw[Tg hyes];have hx:∀{Q':Bool->Shared->Prop},Q' true s->wpAny (model prog w) A.in1 (Builtin.Tuple.tupleIsExact (.ref t)) Q' E s:=λ{Q'} q=>by
  unfold Builtin.Tuple.tupleIsExact;obtain⟨o,ho,hc,n,hd⟩:=ht
  repeat (first | exact Tb q | refine Ta (wpAny_typeOf ⟨o,ho,hc⟩ ?_) | refine wpAny_typeOf ⟨o,ho,hc⟩ ?_ | wp_step)
 refine Ta (hx ?_);rw[Tg rfl];exact Ta (wpAny_rule (Ta (Tb (Tb ⟨_,rfl,Tb h⟩))))
def Xke(n:Nat):Builtin.Slice.sliceAdjust none none (-1) (n:Int)=((n:Int) - 1, -1):=by
 unfold Builtin.Slice.sliceAdjust;simp
def Xkf(n:Nat):Builtin.Slice.slicePlaces ((n:Int) - 1) (-1) (-1)=n:=by
 unfold Builtin.Slice.slicePlaces;rw[Tf (by decide)];by_cases h:(n:Int) - 1 > -1
 ·rw[Tg h,show (- -1:Int)=1 from rfl,Int.ediv_one];omega
 ·rw[Tf h];omega
def Xkg{sl}{n:Nat}{tk}{Q}(hs:s.heap.IsSliceOf sl .none .none (.int (-1) tk))
  (h:Q ((n:Int) - 1, -1,n) s):wpAny (model prog w) A (Builtin.Slice.sliceApplied (.ref sl) (pure (n:Int))) Q E s:=by
 obtain⟨os,hos,hcs,hds⟩:=id hs;unfold Builtin.Slice.sliceApplied Builtin.Slice.sliceFields;refine Ta (Ta (wpAny_field hos hds (x:=.none) rfl (Ta (wpAny_field hos hds (x:=.none) rfl (Ta (wpAny_field hos hds (x:=.int (-1) tk) rfl (Tb ?_)))))));refine Ta (slicePart_int ?_);show wpAny _ _ (if ((-1:Int)==0)=true then _ else _) _ _ s;rw[Tf (by decide)];refine Ta (slicePart_none (Ta (slicePart_none (Ta (Tb ?_)))));show wpAny _ _ (match Builtin.Slice.sliceAdjust none none (-1) (n:Int) with | (lo,hi)=>pure (lo,(-1:Int),Builtin.Slice.slicePlaces lo hi (-1))) _ _ s;rw[Xke];show wpAny _ _ (pure ((n:Int) - 1,(-1:Int),Builtin.Slice.slicePlaces ((n:Int) - 1) (-1) (-1))) _ _ s;rw[Xkf];exact Tb h
def Xkh(xs:Array Value):((List.range xs.size).filterMap λ(m:Nat)=>xs[((xs.size:Int) - 1+(m:Int) * -1).toNat]?).toArray=xs.toList.reverse.toArray:=by
 have e:(List.range xs.size).filterMap (λ(m:Nat)=>xs[((xs.size:Int) - 1+(m:Int) * -1).toNat]?)=((List.range xs.size).map λk=>xs.size - 1 - k).filterMap (xs[·]?):=by
  rw[List.filterMap_map];have key:∀(l:List Nat),(∀m∈l,m<xs.size)->l.filterMap (λ(m:Nat)=>xs[((xs.size:Int) - 1+(m:Int) * -1).toNat]?)=l.filterMap ((λx=>xs[x]?) ∘ λk=>xs.size - 1 - k):=by
   intro l
   induction l with
   | nil=>intro _;rfl
   | cons m l ih=>
    intro hm;have h1:=hm m Os;have e1:((xs.size:Int) - 1+(m:Int) * -1).toNat=xs.size - 1 - m:=by omega
    rw[Py,Py,ih λx hx=>hm x (Ot _ hx),e1];rfl
  exact key _ λm hm=>P1.mp hm
 rw[e,PySem.W.krv_range,List.filterMap_reverse,PySem.W.krv_all]
def getItem_tuple_rev{t sl}{items}{tk}{Q}(ht:IsTup s.heap t items)(hs:s.heap.IsSliceOf sl .none .none (.int (-1) tk))
  (h:Q (.ref s.heap.objs.size) {s with heap:=s.heap.push {cls:=.type "tuple",data:=.seq items.toList.reverse.toArray} })
  (hsz:items.size<=sizeLine):wpAny (model prog w) A (getItem (.ref t) (.ref sl)) Q E s:=by
 have htake:sizeOk (.seq items.toList.reverse.toArray):=by
  show items.toList.reverse.toArray.size<=sizeLine;rw[Ol,Qh,O1];exact hsz
 obtain⟨os,hos,hcs,hds⟩:=id hs;have hTs:s.TypeIs (.ref sl) "slice" := ⟨os,hos,hcs⟩;unfold getItem
 try with_reducible refine wpAny_holding ?_
 first | refine Ta (Tb ?_) | skip
 refine Ta (wpAny_sequenceKey ht.typeIs (by decide) ?_);refine Ta (wpAny_callSpecial?_slot (name:=Str.ofString "__getitem__") ht.typeIs PyProof.Rows.slot_tuple_getitem
  (wpAny_call_entry PyProof.Rows.slot_tuple_getitem ht.typeIs entry_tuple_getitem ?_ (args_tuple_getitem _ _)))
 show wpAny _ _ (Builtin.Tuple.tupleItemsOf (.ref t) >>= _) _ _ s;refine Ta (tupleItemsOf_ ht ?_);refine Ta (wpAny_typeOf hTs ?_);rw[Tg (by decide)];refine Ta (Xkg hs ?_);have hno:¬((((items.size:Int) - 1)==0&&(-1:Int)==1&&items.size==items.size)=true):=by
  intro q;rw[O4,O4] at q;exact absurd (eq_of_beq q.1.2) (by decide)
 show wpAny _ _ (if (((items.size:Int) - 1)==0&&(-1:Int)==1&&items.size==items.size)=true then _ else _) _ _ s;rw[Tf hno,Xkh]
 first
  | exact Ta (m:=Builtin.Tuple.tupleExact _) (wpAny_newObj_type (Tb ⟨_,rfl,Tb h⟩) htake)
  | exact Ta (m:=Builtin.Tuple.tupleExact _) (wpAny_newObj_type (Ta (Tb (Tb ⟨_,rfl,Tb h⟩))) htake)
  | exact Ta (Ta (m:=Builtin.Tuple.tupleExact _) (wpAny_newObj_type (Tb (Tb ⟨_,rfl,Tb h⟩)) htake))
  | exact Ta (Ta (m:=Builtin.Tuple.tupleExact _) (wpAny_newObj_type (Tb ⟨_,rfl,Tb h⟩) htake))
end
end HT
namespace L2
section
variable {X:Cx}{pos p2:Pos}{e:Expr}{te:TE}
def M7:V->Option Int->Option Int->Hp->VK->Prop:=λx lo hi H Q=>∃a xs,x = .ref a/\H a=some (.tup xs)/\∀p H',Same H H'->H' p=some (.tup (B8 xs lo hi))->Q (.ref p) H'
def Ie:SlR X M7:=by
 intro pins s Z H x v vl vu lo hi sl Q I rx hs pl pu h;obtain⟨a,xs,rfl,hx,q⟩:=h;by_cases hw:HT.sIx xs.length 0 lo=0/\HT.sIx xs.length xs.length hi=xs.length
 ·cases rx;obtain⟨its,r,ht,hz⟩:=I.tuple (SqT.of (K:=X.K) hx);have hlen:its.toArray.size=xs.length:=by rw[Ol];exact r.length.symm
  refine⟨"tuple",_,PyProof.Rows.slot_tuple_getitem.lookup,ht.typeIs,?_⟩;refine HT.getItem_tuple_whole ht hs pl pu (by rw[hlen];exact hw) ⟨.ref a,H,I,rfl,q a H (Same.refl H) ?_⟩;unfold B8;rw[hw.1,hw.2,Rl,Ss,Pt];exact hx
 ·exact Xha pins s Z H (.ref a) v vl vu lo hi sl Q I rx hs pl pu ⟨a,xs,rfl,SqT.of hx,hw,λp np=>q p _ ((Same.refl H).step np) Ab⟩
def Xki (te:TE):TE:=fun Z H Q=>te Z H λx H1=>∃a xs,x = .ref a/\H1 a=some (.tup xs)/\∀p,H1 p=none->Q (.ref p) (upd H1 p (.tup xs.reverse))
def Xkj{k}{p3 p4}(he:PE X e te):PE X (.Subscript e (.Slice none none (some (.UnaryOp .USub (.Constant (.int 1) k p3) p4)) p2) pos) (Xki te):=by
 intro pins s Z H Q I h;refine Subscript_ (thn (he pins s Z H _ I h) λv s1 ⟨x,H1,I1,r1,q1⟩=>?_);have hstep:PE X (.UnaryOp .USub (.Constant (.int 1) k p3) p4) (tUn (rU λi=>.int (-i)) (tC (.int 1))):=Xai Xam Af;refine wpAny_Slice ?_;rw[evalPart_none];refine Tb (Tb ?_);rw[evalPart_some];refine thn (hstep pins s1 Z H1 (λy H2=>y = .int (-1)/\H2=H1) I1 ⟨1,rfl,rfl,rfl⟩) λu s2 ⟨y,H2,I2,r2,ey,eH⟩=>?_;subst ey eH;obtain⟨t,rfl⟩:=r2;obtain⟨a,xs,ex,hx,q⟩:=q1;subst ex;cases r1;have I4:Inv X pins Z H2 {s2 with heap:=s2.heap.push {cls:=.type "slice",data:=.fields #[.none,.none,.int (-1) t]} }:=I2.kept (t':=s2.toks) λb ob q=>Tm _ q;obtain⟨its4,r4,ht4,hz4⟩:=I4.tuple (SqT.of (K:=X.K) hx);have hlen:=r4.length;refine tail_any (ops:=[.ref a,.ref s2.heap.objs.size]) ht4.typeIs PyProof.Rows.slot_tuple_getitem.lookup (HT.getItem_tuple_rev ht4 (Heap.IsSliceOf.new ..) ?_ (by rw[Ol];omega)) (by with_unfolding_all rfl);refine⟨.ref _,_,I4.laid (t':=s2.toks) (o:=.tup xs.reverse) (λb ob q=>Tm _ q) (Oj _) ?_,rfl,q _ (I4.hok.fresh (Oj _))⟩;exact⟨by rw[Qh];exact hz4,_,Vals.reverse r4,IsTup.new _ _⟩
end
section
variable {X:Cx}{es:List Expr}{t:L2.St->Hp->(Hp->Prop)->Prop}{e:Expr}{te:TE}{pos:Pos}
def Xkk (te:TE) (t:L2.St->Hp->(Hp->Prop)->Prop):L2.St->Hp->(Hp->Prop)->Prop:=fun Z H Q=>te Z H λx H1=>∃(a:Addr) (ss:Zb),x = .ref a/\H1 a=some (.tup (ss.map V.str))/\ss.length<=24/\(∀z∈ss,z.length<=20/\∀c∈z.cps.toList,c<16 ^ 8)/\t Z H1 Q
theorem Xc4:∀(ss:Zb),(∀z∈ss,z.length<=20/\∀c∈z.cps.toList,c<16 ^ 8)->piled (ss.map reprText)<=204 * ss.length
 | [],_=>by simp[piled]
 | z::ss,h=>by
  obtain⟨h1,h2⟩:=h z Os;have:=StrLaws.reprText_len z h2;have ih:=Xc4 ss λy hy=>h y (Ot _ hy);rw[Pb,piled_cons,Pe];omega
def Xc5(ts):(tupleText ts).length<=piled ts+3:=by
 unfold tupleText;rw[strLen_append,strLen_append];have e1:((("(" : String):Str)).length=1:=rfl;have e3:(((if ts.length==1 then ",)" else ")" : String):Str)).length<=2:=by split<;>decide
 rw[e1];by_cases h:ts=[]
 ·subst h;have:(Str.join ", " []).length=0:=rfl;omega
 ·have:=join_length_add ts h;omega
theorem M8{P}{w}:∀{ss:Zb} {us:List Value},(∀z∈ss,z.length<=20/\∀c∈z.cps.toList,c<16 ^ 8)->Vals (ss.map V.str) us->ReprAll P w us (ss.map reprText)
 | [],_,_,r=>by cases r;exact .nil
 | z::ss,_,h,r=>by
  cases r with
  | cons r1 r2=>
   obtain⟨tk,rfl⟩:=r1;obtain⟨h1,h2⟩:=h z Os;have:=StrLaws.reprText_len z h2;exact .cons (ReprIs.str z tk (by rw[Te];omega)) (M8 (λy hy=>h y (Ot _ hy)) r2)
def Xkl{k:Nat}{p:Pos}(hr:Room k X.A)(ha:PE X e te)(h:PJ X es t)(he:evalEach (.FormattedValue e 114 none p::es) X.env=eval (.FormattedValue e 114 none p) X.env::evalEach es X.env:=by rfl):PJ X (.FormattedValue e 114 none p::es) (Xkk te t):=by
 intro out pins s Z H Q I hw hl;rw[he];rw[Pe] at hl;refine joinParts_cons (wpAny_FormattedValue_repr (thn (ha pins s Z H _ I hw) λv s1 ⟨x,H1,I1,r1,q1⟩=>?_));obtain⟨a,ss,ez,hp,h1,h2,q⟩:=q1;subst ez;cases r1;obtain⟨its,rv,pl,hz⟩:=I1.tuple (SqT.of (K:=X.K) hp);obtain⟨o,ho,hc,n,hd⟩:=pl;have hz1:=Xc5 (ss.map reprText);have hz2:=Xc4 ss h2;have hz3:(tupleText (ss.map reprText)).length<=5000:=by omega
 have hz4:(tupleText (ss.map reprText)).length<=sizeLine:=by rw[Te];omega
 refine wpAny_pyReprObj_tuple (g:=[]) ⟨o,ho,hc⟩ hr.gd (by simp) hr.units0 ho hd (M8 h2 (by simpa using rv)) (λu tk=>?_) hz4;refine formatField_str (λt' k=>⟨by rw[Dr];omega,?_⟩) hz4;exact h _ pins _ Z H1 Q ((I1.tok _).tok _) q (by rw[Dr];omega)
def Xkm:V->List V->Hp->VK->Prop:=λx vs H Q=>∃l xs y j,x = .ref l/\vs=[y]/\H l=some (.lst xs)/\B1 y=true/\xs.all B1=true/\xs.length<=1000/\(∃z,xs[j]? = some z/\eqV z y=true)/\(∀m z,m<j->xs[m]? = some z->eqV z y=false)/\Q (.int (j:Nat)) H
def Xkn:MtM X "list.index" Xkm:=by
 intro pins s Z H x vs v us Q I rx rv h;obtain⟨l,xs,y,j,rfl,rfl,hH,fy,fs,hlen,⟨z,hz,hzy⟩,hno,q⟩:=h;cases rx;obtain⟨u,rfl,ru⟩:=rv.one;obtain⟨zz,its,n,r,hl,e⟩:=I.lstM hH;have hj:j<xs.length:=(Oy.mp hz).1;have hji:j<its.toArray.size:=by rw[Ol];omega
 have at':∀m (hm:m<its.toArray.size),∃w,xs[m]? = some w/\eqU y its.toArray[m]=eqV w y:=λm hm=>by
  rw[Ol] at hm;have g:xs[m]? = some (xs[m]'(by omega)):=Oi (by omega);obtain⟨uu,hu,ruu⟩:=r.get g;have e1:its.toArray[m]=uu:=by
   rw[Sf];rw[Oi hm] at hu;exact O0 hu
  refine⟨_,g,?_⟩;rw[e1];exact Jl ruu (O9.mp fs _ (Pa _))
 refine call_meets F.slot_list_index ⟨_,e,rfl⟩ F.entry_list_index (F.args_list_index_2 _ _) (SeqAt.list_indexAt l its.toArray n _ _ u (eqU y) j hji (by omega) ?_ ?_) ⟨e,λw hw=>Fg ru fy r fs w (by simpa using hw),?_⟩
 ·obtain⟨w,h1,h2⟩:=at' j hji;rw[hz] at h1;cases h1;rw[h2];exact hzy
 ·intro m hm hmj;obtain⟨w,h1,h2⟩:=at' m hm;rw[h2];exact hno m w hmj h1
 ·exact⟨.int _,H,I.tok _,⟨_,rfl⟩,q⟩
end
def Xc6{K}{C S}(sb:subIn K (.ref C) (.type "BaseException")=some true)(sbS:subIn K (.ref S) (.type "BaseException")=some true)(ic:isClsIn K S=true)(ty:typeIn K (.ref S)=some (.type "type"))
  {b} (h:subIn K (.ref C) (.ref S)=some b):exmOne K (.ref C) (.ref S)=some b:=by
 unfold exmOne;rw[sbS,Tg (by decide)];exact Xcm ic ty h
def E2 (c:Addr) (q:Str):Heap->Prop:=λh=>h.CodeRec (.ref c) q
def E3 (f:Addr) (fd:FuncData):Heap->Prop:=λh=>∃o,h.get? f=some o/\o.data = .func fd
def Xko{c}{q}:∀h1 h2:Heap,E2 c q h1->(∀o,h1.get? c=some o->h2.get? c=some o)->E2 c q h2:=by
 rintro h1 h2 ⟨c1,o,vs,t,e,ho,r⟩ k;cases e;exact⟨c,o,vs,t,rfl,k _ ho,r⟩
def Xc7{f}{fd}:∀h1 h2:Heap,E3 f fd h1->(∀o,h1.get? f=some o->h2.get? f=some o)->E3 f fd h2:=by
 rintro h1 h2 ⟨o,ho,r⟩ k;exact⟨o,k _ ho,r⟩
def Xkp{CX}{P}{w}{K}{mg}{base}{A}{outer}{s}{H}{k}{f c}{name qual}{params}{body}{scope}{pm ctv}
  {N ps} {us} {vs} {Q} {E} {t}
  (hf:H f=some (.ext (E3 f (kla_fn name qual params body scope [] pm (.ref c) ctv)))) (hc:H c=some (.ext (E2 c qual))) (S:FnScope N ps scope) (hr:Room (k+1) A) (e0:Env0 P w K mg base A outer s H)
  (hl:vs.length=ps.length) (r:Vals vs us) (hb:bindArgs (kla_fn name qual params body scope [] pm (.ref c) ctv) ⟨us,[]⟩=pure (ps.zip us))
  (ht:PE (Cs CX P w K mg base N qual scope f (.ref c) A outer s H E) body t) (hq:t (start N vs) H Q):
  codeAny (model P w) A (.call (.ref f) ⟨us,[]⟩) (CR CX outer P w H s Q E) s:=by
 obtain⟨⟨of,hof,hod⟩,_⟩:=e0.hok f _ hf;obtain⟨hcod,_⟩:=e0.hok c _ hc;have lim:s.heap.NoLimit:=e0.mod.nolimit.keeps λb o e=>(e0.bs b o e).1;have hkind:∀y∈ps.zip us,scope.names.lookup y.1=some .local\/(scope.names.lookup y.1=some .cell/\((cellsFrom (s.heap.objs.size+1) scope.names []).lookup y.1).isSome=true):=λ⟨n,v⟩ hy=>by
  rcases S.par n (Sj hy).1 with q | q
  ·exact .inl q
  ·exact .inr ⟨q,cellsFrom_some _ _ _ (.inl q)⟩
 refine PySem.W.kla_callFunE hr.depth hof hod S.co S.gen rfl hcod ?_;rw[hb];refine Tb ?_;refine wpAny_newFunctionEnv_cells S.kind hkind λenv he s1 x=>?_;subst he;refine⟨lim.keeps x.toInCall.keep,PySem.W.kla_codeExpr ?_⟩;have I:Inv (Cs CX P w K mg base N qual scope f (.ref c) A outer s H E) [] (start N vs) H s1:=Xa0 S hr.hd e0 hl r x;refine wpAny_mono (ht [] s1 (start N vs) H _ I hq) (λu s' hs=>?_) λe s' hs=>hs;obtain⟨v,H',J,rv,q⟩:=hs;exact⟨v,H',J.os,J.bare,J.base,J.hok,rv,q⟩
def BmOk (mg:Str->Option Value) (base:Heap):Prop:=∃bm ob,mg "__builtins__" = some (.ref bm)/\bm≠builtinsNs/\base.get? bm=some ob/\ob.cls = .type "module" /\ ob.dict=some builtinsNs/\ob.data = .plain
def Aq (T:Addr) (pos:Pos) (q:Str) (H:Hp):Prop:=H T=some (.tbl #[]) \/ ∃c,H T=some (.tbl #[rawInt pos.line,rawInt pos.col,.ref c])/\H c=some (.ext (E2 c q))
def tLam (T:Addr) (q:Str) (params:Arguments) (body:Expr) (scope:Scope) (pos:Pos):TE:=λ_ H Q=>Aq T pos q H /\
 ∀(f c:Addr) (pm ctv:Value) (H':Hp),H f=none->H' f=some (.ext (E3 f (kla_fn "<lambda>" q params body scope [] pm (.ref c) ctv)))->H' c=some (.ext (E2 c q))->Aq T pos q H'->(∀b o,H b=some o->b≠T->H' b=some o)->Q (.ref f) H'
section
variable {X:Cx}{T c0:Addr}{params:Arguments}{body:Expr}{scope:Scope}{pos:Pos}{q:Str}
def Xkq{pins}{Z:St}{H}{s}{h':Heap}{tk}{fd}{o}(I:Inv X pins Z H s)(k:∀b o,s.heap.get? b=some o->h'.get? b=some o)(hsz:s.heap.objs.size<=h'.objs.size)(ho:o.data = .func fd)(hfr:o.isFreed=false):
  Inv X pins Z (upd H h'.objs.size (.ext (E3 h'.objs.size fd))) {s with heap:=h'.push o,toks:=tk}:=by
 refine I.laid (t':=tk) (h':=h'.push o) (λb ob e=>Tm _ (k b ob e)) hsz ?_;exact⟨⟨o,Heap.get?_push_size _ hfr,ho⟩,⟨o,Heap.get?_push_size _ hfr⟩,Xc7⟩
def Xkr{pins}{Z:St}{H}{s}{h'}{tk}{fd}{o}{c:Addr}{ps}(I:Inv X pins Z H s)(hT:H T=some (.tbl #[]))(hx:Heap.ExtBut T s.heap h')(hge:s.heap.objs.size<=c)(hlt:c<h'.objs.size)
  (hrec:h'.CodeRec (.ref c) q) (htb:h'.get? T=some (tabObj (#[]++ps))) (ho:o.data = .func fd) (hfr:o.isFreed=false):
  Inv X pins Z (upd (upd (upd H T (.tbl ps)) c (.ext (E2 c q))) h'.objs.size (.ext (E3 h'.objs.size fd))) {s with heap:=h'.push o,toks:=tk}:=by
 have htb':h'.get? T=some {cls:=.none,data:=.fields ps}:=by simpa using htb
 have nf:∀b u,s.heap.get? b=some u->b≠c/\b≠h'.objs.size:=λb u e=>by
  have z:=O7 (Tl e) hge;exact⟨Ow z,Ow (Qv z hlt)⟩
 have nH:∀b u,H b=some u->b≠c/\b≠h'.objs.size:=λb u e=>by
  have z:=O7 (I.hok.lt e) hge;exact⟨Ow z,Ow (Qv z hlt)⟩
 have nT:∀b,H b=none->b≠T:=λb n z=>by rw[z,hT] at n;cases n
 have kp:∀b u,b≠T->s.heap.get? b=some u->(h'.push o).get? b=some u:=λb u n e=>Tm _ (hx b u n e);have up:∀b u,H b=some u->b≠T->(upd (upd (upd H T (.tbl ps)) c (.ext (E2 c q))) h'.objs.size (.ext (E3 h'.objs.size fd))) b=some u:=λb u e n=>by
  rw[Ad (nH b u e).2,Ad (nH b u e).1,Ad n];exact e
 refine I.step (g':=s.gens) (d':=s.drawn) (t':=tk) (h':=h'.push o) (ch:=[]) (λ_ z=>nomatch z) (λb u _ _ _ e n=>kp b u (nT b n) e) (λb u _ _ _ e n=>⟨u.slots,kp b u (nT b n) e⟩) (λb u _ e n=>?_) (λb u _ e=>?_)
  (λb xs e=>up b _ e λz=>by rw[z,hT] at e;cases e) (λb u v e=>up b _ e λz=>by rw[z,hT] at e;cases e) (λb pz e=>?_) (λm hn=>(hn.extBut hx (nT _ I.free)).push _) ?_ I.bare
 ·rw[Ad (nf b u e).2,Ad (nf b u e).1,Ad (nT b n)];exact n
 ·by_cases z:b=T
  ·exact⟨_,z ▸ Tm _ htb'⟩
  ·exact⟨u,kp b u z e⟩
 ·by_cases z:b=T
  ·subst z;rw[hT] at e;cases e;refine⟨ps,?_⟩;rw[Ad (nH b _ hT).2,Ad (nH b _ hT).1,Ab];simp
  ·exact⟨#[],by rw[up b _ e z];simp⟩
 ·intro b u e;by_cases z1:b=h'.objs.size
  ·subst z1;rw[Ab] at e;cases e;exact⟨⟨o,Heap.get?_push_size _ hfr,ho⟩,⟨o,Heap.get?_push_size _ hfr⟩,Xc7⟩
  ·rw[Ad z1] at e;by_cases z2:b=c
   ·subst z2;rw[Ab] at e;cases e;obtain⟨c1,oc,vs,t,e1,hoc,r⟩:=hrec;cases e1;exact⟨⟨b,oc,vs,t,rfl,Tm _ hoc,r⟩,⟨oc,Tm _ hoc⟩,Xko⟩
   ·rw[Ad z2] at e;by_cases z3:b=T
    ·subst z3;rw[Ab] at e;cases e;exact Tm _ htb'
    ·rw[Ad z3] at e;refine(I.hok b u e).stay (λd v hd g=>kp d v ?_ g) (λd g=>up d _ g λz=>by rw[z,hT] at g;cases g) λd xs g=>up d _ g λz=>by rw[z,hT] at g;cases g
     rcases hd with rfl | hd
     ·exact z3
     ·intro z;rw[z,hT] at hd;cases hd
def Xks(hbm:BmOk X.mg X.base)(hdef:defaultsOf params X.env=([],[]))(hcl:closureFor scope X.env=pure [])(hcode:X.env.code = .ref c0)(hhd:codeHdIn X.K c0 T=true)(hq:X.env.qual ++ "<lambda>" = q):
  PE X (.Lambda params body scope pos) (tLam T q params body scope pos):=by
 intro pins s Z H Q I h;obtain⟨tab,k⟩:=h;obtain⟨bm,ob,b1,b2,b3,b4,b5,b6⟩:=hbm;have hg:s.heap.Ns mainGlobals X.mg:=I.mod.glob.keeps I.bk;have C:CodeHd s.heap c0 T:=codeHd_of_K I.kIn hhd;have nb:bm≠T:=λz=>by
  have n:=(I.bs bm ob b3).2;rw[z] at n;rcases tab with e | ⟨c,e,_⟩<;>(rw[e] at n;cases n)
 have hbG:bm≠mainGlobals:=λz=>by
  obtain⟨o,es,ep,e,hd,_⟩:=I.mod.glob;rw[z,e] at b3;cases b3;rw[hd] at b6;cases b6
 have hB:s.heap.BuiltinsAt X.mg T:=⟨bm,ob,b1,b2,hbG,nb,I.bk _ _ b3,b4,b5,b6⟩;refine PySem.W.kla_eval hdef ?_;rw[hq];rcases tab with e | ⟨c,e,ec⟩
 ·have hP:s.heap.get? T=some (tabObj #[]):=I.hok T _ e;have hgT:mainGlobals≠T:=λz=>by
   obtain⟨o,es,ep,e2,hd,_⟩:=hg;rw[z,hP] at e2;cases e2;cases hd
  refine PySem.W.kla_makeFunction (mg:=X.mg) (clos:=[]) hcl I.ok.glob hg hcode C hP trivial rfl hgT hB λc' ctv h' tk hx hge hlt hrec htb=>?_;have J:=Xkr (tk:=tk) (o:=PySem.W.kla_obj "<lambda>" q params body scope [] ((X.mg "__name__").getD .none) c' ctv) I e hx hge hlt hrec htb rfl rfl;have ltf:∀b o,H b=some o->b<c':=λb o eb=>O7 (I.hok.lt eb) hge;have ncT:c'≠T:=(Ow (ltf _ _ e)).symm;have nfc:c'≠h'.objs.size:=Ow hlt;have nTf:T≠h'.objs.size:=Ow (Qv (ltf _ _ e) hlt);refine⟨.ref h'.objs.size,_,J,rfl,k _ c' _ ctv _ (I.hok.fresh (Rz (Sr hge hlt))) Ab (by rw[Ad nfc,Ab]) (.inr ⟨c',by rw[Ad nTf,Ad ncT.symm,Ab],by rw[Ad nfc,Ab]⟩) λb o eb nb=>?_⟩;rw[Ad (Ow (Qv (ltf _ _ eb) hlt)),Ad (Ow (ltf _ _ eb)),Ad nb];exact eb
 ·have hP:s.heap.get? T=some (tabObj #[rawInt pos.line,rawInt pos.col,.ref c]):=I.hok T _ e;refine PySem.W.kla_makeFunctionHit (mg:=X.mg) (clos:=[]) (cv:=.ref c) hcl I.ok.glob hg hcode C hP trivial (by simp[codeAmong,rawInt]) hB λctv h' tk hk hsz=>?_;have J:=Xkq (tk:=tk) (fd:=kla_fn "<lambda>" q params body scope [] ((X.mg "__name__").getD .none) (.ref c) ctv) (o:={cls:=.type "function",data:=.func (kla_fn "<lambda>" q params body scope [] ((X.mg "__name__").getD .none) (.ref c) ctv)}) I hk hsz rfl rfl;have nf:∀b o,H b=some o->b≠h'.objs.size:=λb o eb=>Ow (O7 (I.hok.lt eb) hsz);refine⟨.ref h'.objs.size,_,J,rfl,k _ c _ ctv _ (I.hok.fresh hsz) Ab (by rw[Ad (nf _ _ ec)];exact ec) (.inr ⟨c,by rw[Ad (nf _ _ e)];exact e,by rw[Ad (nf _ _ ec)];exact ec⟩) λb o eb _=>?_⟩;rw[Ad (nf b o eb)];exact eb
end
end L2
namespace SH
open L2
structure Bl (mg:Str->Option Value):Prop where
 len:mg "len" = none
 range:mg "range" = none
 list:mg "list" = none
 min:mg "min" = none
 isi:mg "isinstance" = none
 all:mg "all" = none
 str:mg "str" = none
 val:mg "ValueError" = none
 sorted:mg "sorted" = none
 set:mg "set" = none
 enum:mg "enumerate" = none
 int:mg "int" = none
 bool:mg "bool" = none
 tuple:mg "tuple" = none
 any:mg "any" = none
 dict:mg "dict" = none
 sum:mg "sum" = none
 max:mg "max" = none
structure DrawOk (H:Hp) (dr sc:Addr):Prop where
 ex:∃(ns:List Int) (p:Nat) (c m k:Int),H dr=some (.lst [.ref sc,.int p,.int c,.int m,.int k])/\H sc=some (.lst (ns.map V.int))/\p<=ns.length/\ns.length<=63/\0<=m/\m<1000000007
def Xc8 (K:Za):Sp:=λvs H Q _=>∃(a:Addr) (ns:List Int),vs=[.ref a]/\SqL K H a (ns.map V.int)/\ns.length<=63/\∀dr sc H',H dr=none->H sc=none->DrawOk H' dr sc->Same H H'->Q (.ref dr) H'
def Xc9:Sp:=λvs H Q _=>∃(dr sc:Addr) (n:Int),vs=[.ref dr,.int n]/\0<n/\n<=1000/\DrawOk H dr sc /\
 ∀r H',0<=r->r<n->DrawOk H' dr sc->(∀b o,H b=some o->b≠dr->H' b=some o)->Q (.int r) H'
abbrev NP:Zb:=["_law_draw", "_law_many", "_law_cell", "_law_got"]
def D5 (H:Hp) (dr sc:Addr) (ns:List Int) (p:Nat) (c m k:Int):Prop:=H dr=some (.lst [.ref sc,.int p,.int c,.int m,.int k])/\H sc=some (.lst (ns.map V.int))
def cpow3{m}(h0:0<=m)(h1:m<1000000007):CPow m 3:=⟨by decide,by decide,by omega⟩
def E4 (row:Zb) (x:Str) (a b:Nat):Zb:=row.take a++[x]++(row.drop a).take (b - a)++[x]++row.drop b
def Xda(row)(x)(a b)(hab:a<=b):(E4 row x a b).Perm (x::x::row):=by
 unfold E4;have e:row=row.take a++((row.drop a).take (b - a)++row.drop b):=by
  have e1:row.drop b=(row.drop a).drop (b - a):=by rw[List.drop_drop];congr 1;omega
  rw[e1,Pf,Pf]
 generalize hA:row.take a=A at *;generalize hB:(row.drop a).take (b - a)=B at *;generalize hC:row.drop b=C at *;rw[e];have p1:(A++[x]++B++[x]++C).Perm (x::(A++B++[x]++C)):=by
  have:A++[x]++B++[x]++C=A++x::(B++[x]++C):=by simp
  rw[this];refine Rk.trans ?_;simp
 refine p1.trans (List.Perm.cons x ?_);have:A++B++[x]++C=(A++B)++x::C:=by simp
 rw[this];refine Rk.trans ?_;simp
def Xdb:Sp:=λvs H Q _=>∃(r:Addr) (row:Zb) (x:Str) (a b:Nat),vs=[.ref r,.str x,.int a,.int b]/\H r=some (.lst (row.map V.str))/\row.length<=1000/\a<=b/\b<=row.length /\
 ∀l H',H l=none->H' l=some (.lst ((E4 row x a b).map V.str))->Same H H'->Q (.ref l) H'
abbrev NPut:Zb:=["_law_row_here", "_law_name", "_law_at", "_law_to", "_law_told"]
def A7 (x:Str):Nat->Zb->List Int
 | _,[]=>[]
 | n,y::r=>if y=x then (n:Int)::A7 x (n+1) r else A7 x (n+1) r
def plc (row:Zb) (x:Str):List Int:=A7 x 0 row
theorem Xdc(x y):∀n r,A7 x n (r++[y])=A7 x n r++(if y=x then [((n+r.length:Nat):Int)] else [])
 | n,[]=>by
  show (if y=x then ((n:Nat):Int)::A7 x (n+1) [] else A7 x (n+1) [])=_;split<;>simp[A7]
 | n,z::r=>by
  have ih:=Xdc x y (n+1) r;show (if z=x then (n:Int)::A7 x (n+1) (r++[y]) else A7 x (n+1) (r++[y]))=(if z=x then (n:Int)::A7 x (n+1) r else A7 x (n+1) r)++_;rw[ih,Pe,show n+1+r.length=n+(r.length+1) by omega];split<;>simp
theorem J5(x):∀n r,(A7 x n r).length=r.count x
 | _,[]=>rfl
 | n,z::r=>by
  show (if z=x then (n:Int)::A7 x (n+1) r else A7 x (n+1) r).length=_;rw[List.count_cons];split
  ·rename_i e;rw[Pe,J5,Tg (by simpa using e)]
  ·rename_i e;rw[J5,Tf (by simpa using e)];rfl
def M9(row)(x):(plc row x).length=row.count x:=J5 x 0 row
def Na(r)(x y):plc (r++[y]) x=plc r x++(if y=x then [(r.length:Int)] else []):=by
 have e:=Xdc x y 0 r;rw[Qw] at e;exact e
structure Wh (H:Hp) (kvs:List (Key×V)) (row:Zb):Prop where
 keys:∀k∈kvs.map (·.1),∃x,k=Sum.inr x/\x∈row
 val:∀x∈row,∃l,Ay kvs (Sum.inr x:Key)=some (.ref l)/\H l=some (.lst ((plc row x).map V.int))
 none:∀x,x∉row->Ay kvs (Sum.inr x:Key)=none
 nd:(kvs.map (·.1)).Nodup
 len:kvs.length<=row.length
def Xdd{kvs}{k:Key}{v}{l}(h:Ay kvs k=some l):(Bf kvs k v).map (·.1)=kvs.map (·.1):=by
 unfold Bf;rw[Ew,h,Tg Sq,Pj];refine P9 λp _=>?_;show (if p.1=k then (p.1,v) else p).1=p.1;split<;>rfl
def Wh.snoc{H H'}{kvs}{row}(w:Wh H kvs row)(y)(l)(hl:H' l=some (.lst ((plc (row++[y]) y).map V.int)))
  (s:∀b xs,H b=some (.lst xs)->H' b=some (.lst xs)):Wh H' (Bf kvs (Sum.inr y) (.ref l)) (row++[y]):=by
 refine⟨λk hk=>?_,λx hx=>?_,λx hx=>?_,?_,?_⟩
 ·by_cases hy:y∈row
  ·obtain⟨l0,e,_⟩:=w.val y hy;rw[Xdd e] at hk;obtain⟨x,e1,e2⟩:=w.keys k hk;exact⟨x,e1,P2 _ e2⟩
  ·rw[Hg _ (w.none y hy),Oq] at hk;rcases Op.mp hk with hk | hk
   ·obtain⟨x,e1,e2⟩:=w.keys k hk;exact⟨x,e1,P2 _ e2⟩
   ·exact⟨y,by simpa using hk,by simp⟩
 ·rw[He];by_cases e:x=y
  ·subst e;exact⟨l,Tg rfl,hl⟩
  ·have hx':x∈row:=by
    rcases Op.mp hx with z | z
    ·exact z
    ·exact absurd (Om.mp z) e
   obtain⟨l0,e1,e2⟩:=w.val x hx';refine⟨l0,by rw[Tf (λz=>e (Qt z))];exact e1,?_⟩;rw[Na,Tf (λz=>e z.symm),Ps];exact s _ _ e2
 ·rw[He];have h1:x∉row:=λz=>hx (P2 _ z);have h2:x≠y:=λz=>hx (by rw[z];simp);rw[Tf (λz=>h2 (Qt z))];exact w.none x h1
 ·by_cases hy:y∈row
  ·obtain⟨l0,e,_⟩:=w.val y hy;rw[Xdd e];exact w.nd
  ·exact Xia _ w.nd (w.none y hy)
 ·have:=Hf kvs (Sum.inr y:Key) (.ref l);have:=w.len;rw[Oo,Pw];omega
def Nb:Sp:=λvs H Q _=>∃(r:Addr) (row:Zb),vs=[.ref r]/\H r=some (.lst (row.map V.str))/\row.length<=1000 /\
 ∀d kvs H',H d=none->H' d=some (.dK kvs)->Wh H' kvs row->Same H H'->Q (.ref d) H'
abbrev NWh:Zb:=["_law_row_here", "_law_told", "_law_at"]
def inn (a b:Int) (ys:List Int):List Int:=ys.filter λt=>decide (a<t)&&decide (t<b)
def Nc(a b)(ys):(inn a b ys).length<=ys.length:=Pn ..
def words3:Zb:=["same", "cross", "around"]
def D6 (a b c e:Int) (same:Bool):Str:=
 if (same||decide (0<(inn a b [c,e]).length))=true then words3.getD (inn a b [c,e]).length "apart" else if c<a/\b<e then "within" else "apart"
def spWord:Sp:=λvs H Q _=>∃(d l1 l2:Addr) (kvs:List (Key×V)) (x y:Str) (a b c e:Int),vs=[.ref d,.str x,.str y]/\Rd H d (.dK kvs)/\Ay kvs (Sum.inr x:Key)=some (.ref l1)/\Ay kvs (Sum.inr y:Key)=some (.ref l2) /\
 H l1=some (.lst [.int a,.int b])/\H l2=some (.lst [.int c,.int e])/\∀H',Same H H'->Q (.str (D6 a b c e (decide (x=y)))) H'
abbrev NWo:Zb:=["_law_where_here", "_law_one", "_law_other", "_law_low", "_law_high", "_law_inner"]
def Rd.same{H H'}{d}{o}(r:Rd H d o)(s:Same H H'):Rd H' d o:=by
 rcases r with r | ⟨u,r⟩
 ·exact .inl (s _ _ r)
 ·exact .inr ⟨u,s _ _ r⟩
def DGet.rd{H}{a}{kvs}{x}{v}(e:Rd H a (.dK kvs))(h:Ay kvs (Sum.inr x:Key)=some v):DGet H a (.str x) (some v):=.inl ⟨kvs,Sum.inr x,e,rfl,h.symm⟩
def Xkt{row}{x}(h:row.count x=2):∃a b,plc row x=[a,b]:=by
 have e:=M9 row x;rw[h] at e
 match q:plc row x,e with
 | [a,b],_=>exact⟨a,b,rfl⟩
abbrev NBa:Zb:=["_law_row_here", "_law_name", "_law_where_here", "_law_met", "_law_at", "_law_other"]
abbrev NBc:Zb:=["_law_one", "_law_name", "_law_where_here"]
abbrev Fm:Str := "kqvzbdgmprtxhnjfwlycsaeiou"
def signOf (i:Nat):Str:=⟨#[(Fm.cps.toList).getD i 0]⟩
def Ig (st:Nat) (late:Bool) (k:Nat):Str:=
 if late=true then (repS "m" ((st+k * k) % 7)++signOf ((st+k) % 26)) ++ "y" else signOf ((st+k) % 26)++repS "m" ((st+k * k) % 7)
def Bb (st:Nat) (late:Bool) (n:Nat):Zb:=(List.range n).map (Ig st late)
def Xku:∀st<26,∀late:Bool,(Bb st late 14).Nodup:=by decide +kernel
def Nd{st}{late}{n}(hs:st<26)(hn:n<=14):(Bb st late n).Nodup:=by
 refine(Xku st hs late).sublist ?_;unfold Bb;refine List.Sublist.map _ ?_;have e:List.range 14=List.range n++(List.range (14 - n)).map (n + ·):=by
  rw[<-List.range_add];congr 1;omega
 rw[e];exact List.sublist_append_left ..
def But (dr:Addr) (H H':Hp):Prop:=∀b o,H b=some o->b≠dr->H' b=some o
def But.refl(dr)(H):But dr H H:=λ_ _ e _=>e
def But.trans{dr}{H H1 H2}(a:But dr H H1)(b:But dr H1 H2):But dr H H2:=λc o e h=>b c o (a c o e h) h
def But.same{dr}{H H1 H2}(a:But dr H H1)(b:Same H1 H2):But dr H H2:=λc o e h=>b c o (a c o e h)
def But.free{dr b}{H H'}{o}(a:But dr H H')(hd:H' dr=some o)(h:H' b=none):H b=none:=by
 cases q:H b with
 | none=>rfl
 | some u=>
  by_cases e:b=dr
  ·rw[e,hd] at h;cases h
  ·rw[a b u q e] at h;cases h
def But.upd{dr a}{H H'}{o}(x:But dr H H')(h:H a=none):But dr H (L2.upd H' a o):=λb u e hb=>by
 rw[Ad (Au e h)];exact x b u e hb
def DrawOk.at{H}{dr sc}(d:DrawOk H dr sc):∃xs,H dr=some (.lst xs):=let ⟨_,_,_,_,_,h,_⟩:=d.ex; ⟨_,h⟩
def DrawOk.same{H H'}{dr sc}(d:DrawOk H dr sc)(s:Same H H'):DrawOk H' dr sc:=
 let ⟨ns,p,c,m,k,h1,h2,r⟩:=d.ex; ⟨ns,p,c,m,k,s _ _ h1,s _ _ h2,r⟩
def DrawOk.upd{H}{dr sc a}{o}(d:DrawOk H dr sc)(h1:a≠dr)(h2:a≠sc):DrawOk (L2.upd H a o) dr sc:=
 let ⟨ns,p,c,m,k,e1,e2,r⟩:=d.ex; ⟨ns,p,c,m,k,by rw[Ad h1.symm];exact e1,by rw[Ad h2.symm];exact e2,r⟩
def DrawOk.ne{H}{dr sc a}(d:DrawOk H dr sc)(h:H a=none):a≠dr/\a≠sc:=by
 obtain⟨ns,p,c,m,k,e1,e2,r⟩:=d.ex;exact⟨(Au e1 h).symm,(Au e2 h).symm⟩
def Xde:Sp:=λvs H Q _=>∃(dr sc:Addr) (n:Nat),vs=[.ref dr,.int n]/\n<=14/\DrawOk H dr sc /\
 ∀l st late H',H l=none->st<26->H' l=some (.lst ((Bb st late n).map V.str))->l≠sc->DrawOk H' dr sc->But dr H H'->Q (.ref l) H'
abbrev FnPick (P:Program) (w:World) (K:Za) (mg:Str->Option Value) (base:Heap):Prop:=Fn P w K mg base CX0 1 "_law_pick" ["_law_draw", "_law_many"] Xc9
abbrev NNa:Zb:=["_law_draw", "_law_many", "_law_base", "_law_start", "_law_late", "_law_told", "_law_k", "_law_sign", "_law_hum"]
def Xkv{i:Nat}(h:i<26):atI Fm.cps.toList (i:Int)=some ((Fm.cps.toList).getD i 0):=by
 have hl:i<Fm.cps.toList.length:=h;refine Dz ?_;rw[Oi hl];simp[List.getD,Oi hl]
def Gi{l}(h:l.Nodup){row:Zb}(p:row.Perm (l++l)):∀y∈row,row.count y=2:=λy hy=>by
 rw[p.count_eq,Rh];have hy':y∈l:=by
  rcases Op.mp (p.mem_iff.mp hy) with z | z
  ·exact z
  ·exact z
 have e1:l.count y<=1:=List.nodup_iff_count.mp h y;have e2:0<l.count y:=Su.mpr hy';omega
def Xdf{A row more:Zb}{x}(p:row.Perm (A++A))(q:more.Perm (x::x::row)):more.Perm ((A++[x])++(A++[x])):=by
 refine q.trans (((p.cons x).cons x).trans ?_);have e:(A++[x])++(A++[x])=A++x::(A++x::[]):=by simp
 rw[e];refine List.Perm.trans ?_ Rk.symm;refine List.Perm.cons x ?_;have e2:A++(A++x::[])=(A++A)++x::[]:=by simp
 rw[e2];refine List.Perm.trans ?_ Rk.symm;simp
abbrev NRo:Zb:=["_law_draw", "_law_names_here", "_law_cut", "_law_row_here", "_law_name", "_law_at", "_law_to", "_law_more"]
def Xqr:Sp:=λvs H Q _=>∃(dr sc:Addr) (m:Nat),vs=[.ref dr,.int m]/\m<=14/\DrawOk H dr sc /\
 ∀(l:Addr) (row:Zb) (n st:Nat) (late:Bool) (H':Hp),H l=none->n<=m->st<26->H' l=some (.lst (row.map V.str))->row.Perm (Bb st late n++Bb st late n)->DrawOk H' dr sc->But dr H H'->Q (.ref l) H'
def J6(K)(T):kitOne K (.type T) (.type T)=some true:=by
 unfold kitOne;rw[Tg (beq_self_eq_true _)]
def Nf(row)(x):((List.range row.length).filter λi=>decide (row.getD i Str.empty=x)).map (λi:Nat=>(i:Int))=plc row x:=by
 have go:∀n,n<=row.length->((List.range n).filter λi=>decide (row.getD i Str.empty=x)).map (λi:Nat=>(i:Int))=plc (row.take n) x:=by
  intro n
  induction n with
  | zero=>intro _;rfl
  | succ n ih=>
   intro h;have hn:n<row.length:=by omega
   have e:row.getD n Str.empty=row[n]:=by simp[List.getD,hn]
   rw[Pz,O8,Oq,ih (by omega),O6 hn,Na,Pu,e,Ov,Qz (by omega)];by_cases q:row[n]=x
   ·rw[Tg q,Tg (Th q)];rfl
   ·rw[Tf q,Tf (by simpa using q)];rfl
 rw[go _ (Oj _),Pt]
def okN (x:Str):Prop:=x.length<=20/\∀c∈x.cps.toList,c<0x110000
def Xdg (C:Addr):Sp:=λvs H Q E=>∃(r:Addr) (row:Zb) (x:Str),vs=[.ref r,.str x]/\H r=some (.lst (row.map V.str))/\okN x /\
 (x∈row->∀H',Same H H'->Q .non H')/\(x∉row->∀H',Same H H'->E (.ref C) none H')
def spDitches:Sp:=λvs H Q _=>∃(r:Addr) (row:Zb),vs=[.ref r]/\H r=some (.lst (row.map V.str))/\row.length<=60 /\
 ∀l H',H l=none->H' l=some (.lst ((dit row).map V.str))->Same H H'->Q (.ref l) H'
def Xdh (C:Addr):Sp:=λvs H Q E=>∃(r:Addr) (row:Zb) (x:Str),vs=[.ref r,.str x]/\H r=some (.lst (row.map V.str))/\okN x/\row.length<=1000 /\
 (x∈row->∃a b,plc row x=[a,b]/\∀l H',H l=none->H' l=some (.tup [.int a,.int b])->Same H H'->Q (.ref l) H')/\(x∉row->∀H',Same H H'->E (.ref C) none H')
abbrev NEn:Zb:=["row", "name", "found"]
abbrev NEc:Zb:=["at", "end", "name"]
end SH
namespace L2
def D7(x y):decide (V.str x=V.str y)=decide (x=y):=by
 by_cases z:x=y
 ·rw[z];simp
 ·rw[Ti z,Ti (λq=>z (by injection q))]
def J7(row:Zb):∀v∈row.map V.str,B1 v=true:=λv h=>by
 obtain⟨x,_,rfl⟩:=O5.mp h;rfl
def Bu{α : Type}(f : α->V)(d : α)(xs:List α){i}(hi:i<xs.length):(xs.map f).getD i .non=f (xs.getD i d):=by simp[List.getD,hi]
def Xkw{α : Type}(f : α->V)(d : α)(xs:List α){i}(hi:i<xs.length):atI (xs.map f) (i:Int)=some (f (xs.getD i d)):=by
 refine Dz ?_;rw[Ox,Oi hi];simp[List.getD,hi]
end L2
namespace SH
open L2
def Wh.names{H}{kvs}{row}(w:Wh H kvs row):∃ss:Zb,kvs.map (·.1)=ss.map (λx=>(Sum.inr x:Key))/\ss.Nodup/\∀x,x∈ss↔x∈row:=by
 have e:∀ks:List Key,(∀k∈ks,∃x,k=Sum.inr x)->∃ss:Zb,ks=ss.map (λx=>(Sum.inr x:Key)):=by
  intro ks
  induction ks with
  | nil=>intro _;exact⟨[],rfl⟩
  | cons k r ih=>
   intro h;obtain⟨x,rfl⟩:=h k Os;obtain⟨ss,rfl⟩:=ih λk hk=>h k (Ot _ hk);exact⟨x::ss,rfl⟩
 obtain⟨ss,hs⟩:=e (kvs.map (·.1)) λk hk=>let ⟨x,h,_⟩:=w.keys k hk; ⟨x,h⟩;have inj:∀x,x∈ss↔(Sum.inr x:Key)∈kvs.map (·.1):=λx=>by
  rw[hs,O5];constructor
  ·exact λh=>⟨x,h,rfl⟩
  ·rintro ⟨y,hy,e⟩;rw[<-Qt e];exact hy
 refine⟨ss,hs,?_,λx=>?_⟩
 ·have:=w.nd;rw[hs] at this;exact List.Pairwise.of_map _ (λa b hab e=>hab (congrArg _ e)) this
 ·rw[inj];constructor
  ·intro h;obtain⟨y,e,hy⟩:=w.keys _ h;rw[Qt e];exact hy
  ·intro h;obtain⟨l,e,_⟩:=w.val x h;exact F5 e
structure Isl (row:Zb):Prop where
 ex:∃n st late,n<=14/\st<26/\row.Perm (Bb st late n++Bb st late n)
def J8{st n}{late}(hn:n<=14){x}(h:x∈Bb st late n):x∈Bb st late 14:=by
 unfold Bb at h ⊢;obtain⟨i,hi,rfl⟩:=O5.mp h;exact O5.mpr ⟨i,P1.mpr (by have:=P1.mp hi;omega),rfl⟩
instance (x:Str):Decidable (okN x):=inferInstanceAs (Decidable (_/\_))
def Xkx:∀st<26,∀late:Bool,∀x∈Bb st late 14,okN x:=by decide +kernel
def Isl.two{row}(h:Isl row):∀y∈row,row.count y=2:=by
 obtain⟨n,st,late,hn,hs,p⟩:=h.ex;exact Gi (Nd hs hn) p
def Isl.len{row}(h:Isl row):row.length<=28:=by
 obtain⟨n,st,late,hn,hs,p⟩:=h.ex;have:=p.length_eq;unfold Bb at this;simp at this;omega
def Isl.ok{row}(h:Isl row):∀y∈row,okN y:=λy hy=>by
 obtain⟨n,st,late,hn,hs,p⟩:=h.ex;refine Xkx st hs late y (J8 hn ?_);rcases Op.mp (p.mem_iff.mp hy) with z | z<;>exact z
def E5:Zb->Str
 | [] => "noneatal"
 | y::_=>Txt.slice y none (some 7)++Str.ofString "q"
def stranger14:∀st<26,∀late:Bool,∀y∈Bb st late 14,okN (Txt.slice y none (some 7)++Str.ofString "q")/\Txt.slice y none (some 7)++Str.ofString "q" ∉ Bb st late 14:=by decide +kernel
def Isl.stranger{row}(h:Isl row):okN (E5 row)/\E5 row∉row:=by
 cases row with
 | nil=>exact⟨by decide +kernel,by simp⟩
 | cons y r=>
  obtain⟨n,st,late,hn,hs,p⟩:=h.ex;have sub:∀z∈y::r,z∈Bb st late 14:=λz hz=>J8 hn (by rcases Op.mp (p.mem_iff.mp hz) with q | q<;>exact q);obtain⟨h1,h2⟩:=stranger14 st hs late y (sub y Os);exact⟨h1,λz=>h2 (sub _ z)⟩
def Xky{x}(h:okN x):Ci (.str x)=true:=by
 show PyData.strOk x=true;unfold PyData.strOk;rw[<-Array.all_toList,O9];intro c hc;exact Th (h.2 c hc)
def Xdi{row}{x}{i}:i∈plc row x ↔ ∃k:Nat,i=k/\row[k]? = some x:=by
 rw[<-Nf,O5];constructor
 ·rintro ⟨k,hk,rfl⟩;obtain⟨h1,h2⟩:=Ou.mp hk;have hk':=P1.mp h1;refine⟨k,rfl,?_⟩;have:=Tj h2;rw[Oi hk'];simpa [List.getD,hk'] using this
 ·rintro ⟨k,rfl,hk⟩;have hk':k<row.length:=(Oy.mp hk).1;refine⟨k,Ou.mpr ⟨P1.mpr hk',Th ?_⟩,rfl⟩;simp[List.getD,hk]
def Xkz(row)(x):(plc row x).Pairwise (· < ·):=by
 rw[<-Nf,Rt];refine List.Pairwise.imp ?_ (List.Pairwise.filter _ (List.pairwise_lt_range (n:=row.length)));intro a b h;omega
def pl (row:Zb) (x:Str):Int×Int:=((plc row x).getD 0 0,(plc row x).getD 1 0)
def Xdj{row}{x}{a b}(h:plc row x=[a,b]):pl row x=(a,b):=by
 unfold pl;rw[h];rfl
def Fo{row}{x}(h:row.count x=2):plc row x=[(pl row x).1,(pl row x).2]:=by
 obtain⟨a,b,e⟩:=Xkt h;rw[Xdj e,e]
def Cj{row}{x}(h:row.count x=2):(pl row x).1<(pl row x).2:=by
 have h1:=Xkz row x;rw[Fo h] at h1;simpa using h1
def Fp{row}{x y}(hx:row.count x=2)(hy:row.count y=2)(n:x≠y):(pl row x).1≠(pl row y).1/\(pl row x).1≠(pl row y).2/\(pl row x).2≠(pl row y).1/\(pl row x).2≠(pl row y).2:=by
 have key:∀i,i∈plc row x->i∈plc row y->False:=λi h1 h2=>by
  obtain⟨k,e1,g1⟩:=Xdi.mp h1;obtain⟨m,e2,g2⟩:=Xdi.mp h2;have:k=m:=by omega
  subst this;rw[g1] at g2;exact n (O0 g2)
 rw[Fo hx,Fo hy] at key;refine⟨λe=>key (pl row x).1 (by simp) (by rw[e];simp),λe=>key (pl row x).1 (by simp) (by rw[e];simp),λe=>key (pl row x).2 (by simp) (by rw[e];simp),λe=>key (pl row x).2 (by simp) (by rw[e];simp)⟩
def nIn (a b:Int) (ys:List Int):Nat:=(inn a b ys).length
def Ck(a b c e):nIn a b [c,e]=(if a<c/\c<b then 1 else 0)+(if a<e/\e<b then 1 else 0):=by
 unfold nIn inn;simp only[Pu,Sl,O4,decide_eq_true_eq];split<;>split<;>rfl
def lieT (a b c e:Int):Str:=if a=c/\b=e then "same" else if nIn c e [a,b]=1 then "cross" else if nIn c e [a,b]=2 then "within" else if nIn a b [c,e]=2 then "around" else "apart"
def Xk0{a b c e}(h1:a<b)(h2:c<e)(n1:a≠c)(n2:a≠e)(n3:b≠c)(n4:b≠e):lieT a b c e=D6 a b c e false:=by
  unfold lieT D6;rw[Tf (λz=>n1 z.1)];have e1:=Ck a b c e;have e2:=Ck c e a b;have e3:(inn a b [c,e]).length=nIn a b [c,e]:=rfl;rw[e3];generalize nIn a b [c,e]=p at *;generalize nIn c e [a,b]=q at *;by_cases p1:a<c/\c<b<;>by_cases p2:a<e/\e<b<;>by_cases q1:c<a/\a<e<;>by_cases q2:c<b/\b<e <;>
    (first | rw[Tg p1] at e1 | rw[Tf p1] at e1)<;>(first | rw[Tg p2] at e1 | rw[Tf p2] at e1) <;>
    (first | rw[Tg q1] at e2 | rw[Tf q1] at e2)<;>(first | rw[Tg q2] at e2 | rw[Tf q2] at e2)<;>subst e1 e2<;>first
    | (exfalso;omega)
    | rfl
    | (have hw:(c<a/\b<e):=by omega
       rw[Tg hw];rfl)
    | (have hw:¬(c<a/\b<e):=by omega
       rw[Tf hw];rfl)
def Xk1{a b}:lieT a b a b=D6 a b a b true:=by
 unfold lieT D6;rw[Tg ⟨rfl,rfl⟩,Bool.true_or,Tg rfl];have e1:=Ck a b a b;have e3:(inn a b [a,b]).length=nIn a b [a,b]:=rfl;rw[e3,e1,Tf (by omega),Tf (by omega)];rfl
def lieR (row:Zb) (x y:Str):Str:=lieT (pl row x).1 (pl row x).2 (pl row y).1 (pl row y).2
def Gj{row}{x y}(hx:row.count x=2)(hy:row.count y=2):lieR row x y=D6 (pl row x).1 (pl row x).2 (pl row y).1 (pl row y).2 (decide (x=y)):=by
 unfold lieR;by_cases n:x=y
 ·subst n;rw[Th rfl];exact Xk1
 ·rw[Ti n];obtain⟨n1,n2,n3,n4⟩:=Fp hx hy n;exact Xk0 (Cj hx) (Cj hy) n1 n2 n3 n4
def crs (row:Zb):List (Str×Str):=(dit row).flatMap λx=>((dit row).filter λy=>decide (ltS x y)&&decide (lieR row x y = "cross")).map λy=>(x,y)
def prD (p:Str×Str):PyData:=.tuple [.str p.1,.str p.2]
structure Spn (H:Hp) (kvs:List (Key×V)) (row:Zb) (ns:Zb):Prop where
 keys:kvs.map (·.1)=ns.map (λx=>(Sum.inr x:Key))
 val:∀x∈ns,∃l,Ay kvs (Sum.inr x:Key)=some (.ref l)/\H l=some (.tup [.int (pl row x).1,.int (pl row x).2])
def Spn.mono{H H'}{kvs}{row ns}(s:Spn H kvs row ns)(h:Same H H'):Spn H' kvs row ns:=⟨s.keys,λx hx=>let ⟨l,h1,h2⟩:=s.val x hx; ⟨l,h1,h _ _ h2⟩⟩
end SH
namespace L2
open PySem
def hu3{A}{k}(hr:Room k A):A.units+3<cLine:=by have:=hr.units;omega
def hu4{A}{k}(hr:Room k A):A.units+4<cLine:=by have:=hr.units;omega
end L2
namespace SH
open L2
structure Row2 (row:Zb):Prop where
 two:∀y∈row,row.count y=2
 ok:∀y∈row,okN y
 len:row.length<=60
def Isl.row2{row}(h:Isl row):Row2 row:=⟨h.two,h.ok,by have:=h.len;omega⟩
def spSpans:Sp:=λvs H Q _=>∃(r:Addr) (row:Zb),vs=[.ref r]/\H r=some (.lst (row.map V.str))/\Row2 row /\
 ∀d kvs H',H d=none->H' d=some (.dK kvs)->Spn H' kvs row (dit row)->Same H H'->Q (.ref d) H'
def Lie4 (a b c e:Int):Prop:=c<=e/\(b=e->a=c)
def lie4{row}{x y}(hx:row.count x=2)(hy:row.count y=2):Lie4 (pl row x).1 (pl row x).2 (pl row y).1 (pl row y).2:=
 ⟨Int.le_of_lt (Cj hy),λe=>by
  by_cases n:x=y
  ·rw[n]
  ·exact absurd e (Fp hx hy n).2.2.2⟩
def Xk2{a b c e}(n:¬(a=c/\b=e))(h:((decide (c<a)&&decide (a<e))==(decide (c<b)&&decide (b<e)))=false):lieT a b c e = "cross" := by
 unfold lieT;rw[Tf n,Tg];rw[Ck];rw[<-Bool.decide_and,<-Bool.decide_and] at h;by_cases q1:c<a/\a<e<;>by_cases q2:c<b/\b<e<;>simp[q1,q2] at h ⊢
def Xk3{a b c e}(n:¬(a=c/\b=e))(h:((decide (c<a)&&decide (a<e))==(decide (c<b)&&decide (b<e)))=true)(h2:(decide (c<a)&&decide (a<e))=true):lieT a b c e = "within" := by
 unfold lieT;rw[h2,beq_iff_eq] at h;simp only[O4,decide_eq_true_eq] at h2;have h3:c<b/\b<e:=by simpa using h.symm
 rw[Tf n,Ck,Tg h2,Tg h3,Tf (by decide),Tg rfl]
def Xk4{a b c e}(l:Lie4 a b c e)(n:¬(a=c/\b=e))(h:((decide (c<a)&&decide (a<e))==(decide (c<b)&&decide (b<e)))=true)(h2:(decide (c<a)&&decide (a<e))=false):lieT a b c e=if (decide (a<c)&&decide (c<b))=true then "around" else "apart" := by
 unfold lieT;rw[h2,beq_iff_eq] at h;have h2:¬(c<a/\a<e):=λz=>by rw[Th z.1,Th z.2] at h2;cases h2
 have h3:¬(c<b/\b<e):=λz=>by rw[Th z.1,Th z.2] at h;cases h
 rw[Tf n,Ck,Tf h2,Tf h3,Tf (by decide),Tf (by decide),Ck];obtain⟨l1,l2⟩:=l;have key:a<c/\c<b->a<e/\e<b:=λz=>by
  have:b≠e:=λq=>n ⟨l2 q,q⟩;omega
 by_cases q:a<c/\c<b
 ·rw[Tg q,Tg (key q),Tg rfl,Tg (by simp[q])]
 ·rw[Tf q,Tf (by split<;>decide),Tf (by simpa using q)]
def spLieOf:Sp:=λvs H Q _=>∃(p q:Addr) (a b c e:Int),vs=[.ref p,.ref q]/\H p=some (.tup [.int a,.int b])/\H q=some (.tup [.int c,.int e])/\Lie4 a b c e/\∀H',Same H H'->Q (.str (lieT a b c e)) H'
def Ng{ta tb tc}{Z}{H}{Q}{x y z}(ha:∀Q':VK,Q' (.int x) H->ta Z H Q')(hb:∀Q':VK,Q' (.int y) H->tb Z H Q')(hc:∀Q':VK,Q' (.int z) H->tc Z H Q')(h:Q (.bl (decide (x<y)&&decide (y<z))) H):
  Li (rI0 λi j=>.bl (decide (i<j))) (rI0 λi j=>.bl (decide (i<j))) ta tb tc Z H Q:=by
 refine ha _ (hb _ ⟨x,y,rfl,rfl,_,rfl,?_⟩);refine A0 (λq=>hc _ ⟨y,z,rfl,rfl,?_⟩) (λq=>?_)
 ·rw[q,Qg] at h;exact h
 ·rw[q,P7] at h;exact h
def Xdk:Sp:=λvs H Q _=>∃(r:Addr) (row:Zb),vs=[.ref r]/\H r=some (.lst (row.map V.str))/\Row2 row /\
 ∀l xs H',H l=none->H' l=some (.lst xs)->DAll (hid l H') ((crs row).map prD) xs->Same H H'->Q (.ref l) H'
abbrev NSp:Zb:=["name", "row"]
abbrev NLo:Zb:=["here", "there", "first", "last"]
abbrev NCr:Zb:=["row", "span"]
abbrev NCc:Zb:=["one", "other", "span"]
def Spn.snoc{H H'}{kvs}{row ns}{x}{l}(s:Spn H kvs row ns)(nx:x∉ns)(h:H' l=some (.tup [.int (pl row x).1,.int (pl row x).2]))(k:∀b xs,H b=some (.tup xs)->H' b=some (.tup xs)):
  Spn H' (Bf kvs (Sum.inr x) (.ref l)) row (ns++[x]):=by
 have hn:Ay kvs (Sum.inr x:Key)=none:=by
  cases e:Ay kvs (Sum.inr x:Key) with
  | none=>rfl
  | some v=>
   exfalso;have:=F5 e;rw[s.keys] at this;obtain⟨y,hy,e2⟩:=O5.mp this;rw[Qt e2] at hy;exact nx hy
 refine⟨by rw[Hg _ hn,Oq,Oq,s.keys];rfl,λy hy=>?_⟩;rw[He];by_cases e:y=x
 ·subst e;exact⟨l,Tg rfl,h⟩
 ·have hy':y∈ns:=by
   rcases Op.mp hy with z | z
   ·exact z
   ·exact absurd (Om.mp z) e
  obtain⟨l0,h1,h2⟩:=s.val y hy';exact⟨l0,by rw[Tf (λz=>e (Qt z))];exact h1,k _ _ h2⟩
def Spn.get{H}{kvs}{row ns}{d}{x}(s:Spn H kvs row ns)(hd:Rd H d (.dK kvs))(hx:x∈ns):∃l,DGet H d (.str x) (some (.ref l))/\H l=some (.tup [.int (pl row x).1,.int (pl row x).2]):=by
 obtain⟨l,h1,h2⟩:=s.val x hx;exact⟨l,DGet.rd hd h1,h2⟩
def Spn.at{H}{kvs}{row ns}(s:Spn H kvs row ns)(i)(hi:i<ns.length):(kvs.map λp=>kV p.1).getD i .non = .str (ns.getD i Str.empty):=by
 have e:(kvs.map λp=>kV p.1)=ns.map V.str:=by
  have:(kvs.map λp=>kV p.1)=(kvs.map (·.1)).map kV:=by rw[Pj];rfl
  rw[this,s.keys,Pj];rfl
 rw[e];exact Bu V.str Str.empty ns hi
def Spn.len{H}{kvs}{row ns}(s:Spn H kvs row ns):kvs.length=ns.length:=by
 have:=congrArg List.length s.keys;simpa using this
def Cl{ns:Zb}{i}(hi:i<ns.length):ns.getD i Str.empty∈ns:=by
 have:ns.getD i Str.empty=ns[i]:=by simp[List.getD,hi]
 rw[this];exact Pa hi
def Wh.two'{H}{kvs}{row}{x}(w:Wh H kvs row)(hx:x∈row)(h:row.count x=2):∃l,Ay kvs (Sum.inr x:Key)=some (.ref l)/\H l=some (.lst [.int (pl row x).1,.int (pl row x).2]):=by
 obtain⟨l,h1,h2⟩:=w.val x hx;rw[Fo h] at h2;exact⟨l,h1,h2⟩
theorem Ih{H}:∀{ss:Zb} {xs:List V},DAll H (ss.map PyData.str) xs->xs=ss.map V.str
 | [],xs,h=>by unfold List.map DAll at h;exact h
 | s::ss,xs,h=>by
  rw[Pb] at h;unfold DAll at h;obtain⟨v,r,rfl,h1,h2⟩:=h;unfold DAt at h1;rw[h1,Ih h2];rfl
def J9:Sp:=λvs H Q _=>∃(r:Addr) (row:Zb),vs=[.ref r]/\H r=some (.lst (row.map V.str))/\(∀y∈row,y.length<=20)/\∀H',Same H H'->Q (.str (E5 row)) H'
def spTuple:Sp:=λvs H Q _=>∃(v:V) (ss:Zb),vs=[v]/\DAt H (.tuple (ss.map PyData.str)) v/\ss.length<=1000/\∀H',Same H H'->Q (.bl true) H'
def Cd (how:Str) (off:Bool):Bool:=if how = "within" then off else (!decide (how = "apart") || !off)
def told (ss:Zb):Zb:=srt (ddup ss)
def Am (row plot:Zb):Bool:=decide (plot=told plot)&&plot.all (λx=>decide (x∈row))&&plot.all λx=>(dit row).all λy=>Cd (lieR row x y) (decide (y∈plot))
def trD (t:Str×Str×Str):PyData:=.tuple [.str t.1,.str t.2.1,.str t.2.2]
def Cu (row:Zb) (x y:Str):Bool:=decide (lieR row x y = "within")||(decide (lieR row x y = "apart")&&decide (ltS x y))
def bars (row:Zb):List (Str×Str×Str):=(dit row).flatMap λx=>((dit row).filter (Cu row x)).map λy=>(x,y,lieR row x y)
def C9 (bs:List (Str×Str×Str)) (plot:Zb):Bool:=bs.all λt => !(decide (t.1∈plot) && !decide (decide (t.2.1∈plot)=decide (t.2.2 = "within")))
def E6 (row plot:Zb):Bool:=decide (plot=(dit row).filter λy=>decide (y∈plot))&&C9 (bars row) plot
def Xk5{a b c e}(h1:a<b)(h2:c<e)(n1:a≠c)(n2:a≠e)(n3:b≠c)(n4:b≠e)(h:lieT a b c e = "apart"):lieT c e a b = "apart" := by
 unfold lieT at h ⊢;rw[Tf (λz=>n1 z.1)] at h;rw[Tf (λz=>n1 z.1.symm)];have e1:=Ck a b c e;have e2:=Ck c e a b;generalize nIn a b [c,e]=p at *;generalize nIn c e [a,b]=q at *;by_cases p1:a<c/\c<b<;>by_cases p2:a<e/\e<b<;>by_cases q1:c<a/\a<e<;>by_cases q2:c<b/\b<e <;>
  (first | rw[Tg p1] at e1 | rw[Tf p1] at e1)<;>(first | rw[Tg p2] at e1 | rw[Tf p2] at e1) <;>
  (first | rw[Tg q1] at e2 | rw[Tf q1] at e2)<;>(first | rw[Tg q2] at e2 | rw[Tf q2] at e2)<;>subst e1 e2<;>first
  | (exfalso;omega)
  | rfl
  | (exfalso;revert h;decide +kernel)
def Xk6{row}{x y}(hx:row.count x=2)(hy:row.count y=2)(h:lieR row x y = "apart"):lieR row y x = "apart" := by
 by_cases n:x=y
 ·subst n;exact h
 ·obtain⟨n1,n2,n3,n4⟩:=Fp hx hy n;exact Xk5 (Cj hx) (Cj hy) n1 n2 n3 n4 h
def Ka(row)(x):lieR row x x = "same" := by
 unfold lieR lieT;rw[Tg ⟨rfl,rfl⟩]
def Kb{l:Zb}(h:l.Pairwise ltS):l.Pairwise leS:=h.imp λh=>Xjt h
def E7{l:Zb}(h:l.Pairwise ltS):l.Nodup:=h.imp λh=>Hs h
def Xdl{l}(h:l.Nodup):(ddup l).Perm l:=Ht (Ho l) h (Hn l)
def Kc{l}(h:l.Pairwise ltS):told l=l:=Ez ((Cq _).trans (Xdl (E7 h))) (Ei _) (Kb h)
def Nh(l):(told l).Pairwise ltS:=Ej l
def Xdm{l}{x}:x∈told l↔x∈l:=Ap
def Ni{row plot}:(plot=(dit row).filter λy=>decide (y∈plot))↔(plot=told plot/\∀x∈plot,x∈row):=by
 constructor
 ·intro h;have hp:plot.Pairwise ltS:=by
   rw[h];exact(Ej row).filter _
  refine⟨(Kc hp).symm,λx hx=>?_⟩;rw[h] at hx;exact Ap.mp (Ou.mp hx).1
 ·rintro ⟨h1,h2⟩;have hp:plot.Pairwise ltS:=by rw[h1];exact Nh plot
  have hq:((dit row).filter λy=>decide (y∈plot)).Pairwise ltS:=(Ej row).filter _;refine Ez (Ht (E7 hp) (E7 hq) λx=>?_) (Kb hp) (Kb hq);rw[Ou,decide_eq_true_eq,Ap];exact⟨λh=>⟨h2 x h,h⟩,λh=>h.2⟩
def Kd{row}{t}:t∈bars row↔t.1∈row/\t.2.1∈row/\Cu row t.1 t.2.1=true/\t.2.2=lieR row t.1 t.2.1:=by
 unfold bars;rw[List.mem_flatMap];constructor
 ·rintro ⟨x,hx,h⟩;obtain⟨y,hy,rfl⟩:=O5.mp h;obtain⟨h1,h2⟩:=Ou.mp hy;exact⟨Ap.mp hx,Ap.mp h1,h2,rfl⟩
 ·rintro ⟨h1,h2,h3,h4⟩;refine⟨t.1,Ap.mpr h1,O5.mpr ⟨t.2.1,Ou.mpr ⟨Ap.mpr h2,h3⟩,?_⟩⟩;rw[<-h4]
def Ke{row plot}(h:∀y∈row,row.count y=2):E6 row plot=Am row plot:=by
 unfold E6 Am;by_cases hp:plot=(dit row).filter λy=>decide (y∈plot)
 ·obtain⟨p1,p2⟩:=Ni.mp hp;have e1:plot.all (λx=>decide (x∈row))=true:=O9.mpr λx hx=>Th (p2 x hx);rw[Th hp,Th p1,e1,Qg,Qg];show C9 (bars row) plot=(true&&_);rw[Qg,Qe];unfold C9;rw[O9,O9];constructor
  ·intro hf x hx;rw[O9];intro y hy;have hyr:=Ap.mp hy;unfold Cd;by_cases hw:lieR row x y = "within"
   ·rw[Tg hw];have:=hf (x,y,lieR row x y) (Kd.mpr ⟨p2 x hx,hyr,by unfold Cu;rw[Th hw];rfl,rfl⟩);simpa [hx,hw] using this
   ·rw[Tf hw];by_cases ha:lieR row x y = "apart"
    ·have hne:x≠y:=λz=>by
      rw[z,Ka] at ha
      revert ha
      decide
     have ha2:=Xk6 (h x (p2 x hx)) (h y hyr) ha;have key:y∉plot:=λhy2=>by
      rcases Mo x y with hle | hle
      ·have hlt:=ltS_of hle hne;have:=hf (x,y,lieR row x y) (Kd.mpr ⟨p2 x hx,hyr,by unfold Cu;rw[Th ha,Th hlt,Bool.and_self,S9],rfl⟩);rw[ha] at this;simp[hx,hy2] at this
       revert this
       decide
      ·have hlt:=ltS_of hle (λz=>hne z.symm);have:=hf (y,x,lieR row y x) (Kd.mpr ⟨hyr,p2 x hx,by unfold Cu;rw[Th ha2,Th hlt,Bool.and_self,S9],rfl⟩);rw[ha2] at this;simp[hx,hy2] at this
       revert this
       decide
     rw[Ti key];simp
    ·rw[Ti ha];rfl
  ·intro hf t ht;obtain⟨h1,h2,h3,h4⟩:=Kd.mp ht;by_cases hx:t.1∈plot
   ·have:=hf t.1 hx;rw[O9] at this;have:=this t.2.1 (Ap.mpr h2);rw[h4];unfold Cd at this;by_cases hw:lieR row t.1 t.2.1 = "within"
    ·rw[Tg hw] at this;simp[hw,Tj this]
    ·rw[Tf hw] at this;have ha:lieR row t.1 t.2.1 = "apart" := by
      unfold Cu at h3;rw[Ti hw,Bool.false_or,O4] at h3;exact Tj h3.1
     rw[ha] at this;have hn:t.2.1∉plot:=by simpa using this
     have hne:¬(("apart" : Str) = "within"):=by decide
     simp[hn,ha,hne]
   ·simp[hx]
 ·rw[Ti hp,P7];by_cases p1:plot=told plot
  ·have:¬ ∀x∈plot,x∈row:=λp2=>hp (Ni.mpr ⟨p1,p2⟩);have e1:plot.all (λx=>decide (x∈row))=false:=by
    rw[Rg];intro z;rw[O9] at z;exact this λx hx=>Tj (z x hx)
   rw[e1,Sx,P7]
  ·rw[Ti p1,P7,P7]
theorem Nj{H}:∀{bs:List Bool} {xs:List V},DAll H (bs.map PyData.bool) xs->xs=bs.map V.bl
 | [],xs,h=>by unfold List.map DAll at h;exact h
 | s::ss,xs,h=>by
  rw[Pb] at h;unfold DAll at h;obtain⟨v,r,rfl,h1,h2⟩:=h;unfold DAt at h1;rw[h1,Nj h2];rfl
def Xdn(a b:Zb)(h:PyData.tuple (a.map PyData.str)=PyData.tuple (b.map PyData.str)):a=b:=by
 injection h with h
 exact(Sv (λx y e=>by injection e)).mp h
def Xk7{ss:Zb}(h:∀y∈ss,okN y):Di (ss.map PyData.str)=true:=plainAll_map PyData.str ss λx hx=>Xky (h x hx)
def Em{ss:Zb}(h:∀y∈ss,okN y):Ci (.tuple (ss.map PyData.str))=true:=Xk7 h
theorem Ii:∀(ss:Zb),PyData.depthAll (ss.map PyData.str)=0
 | []=>rfl
 | s::ss=>by
  rw[Pb];unfold PyData.depthAll;rw[Ii ss];rfl
def Xdo(a b:Zb):min (PyData.depth (.tuple (a.map PyData.str))) (PyData.depth (.tuple (b.map PyData.str)))<=3:=by
 have e:PyData.depth (.tuple (a.map PyData.str))=PyData.depthAll (a.map PyData.str)+1:=rfl;rw[e,Ii];omega
def Ij{a b:Zb}(ha:∀y∈a,okN y)(hb:∀y∈b,okN y):PyData.eqv (.tuple (a.map PyData.str)) (.tuple (b.map PyData.str))=decide (a=b):=
 Xcz (λl:Zb=>PyData.tuple (l.map PyData.str)) Xdn a b (Em ha) (Em hb)
def En{H}{p}{ss:Zb}(h:H p=some (.tup (ss.map V.str))):DAt H (.tuple (ss.map PyData.str)) (.ref p):=My h (Mx ss)
def spTold (K:Za):Sp:=λvs H Q _=>∃(p:Addr) (ss:Zb),vs=[.ref p]/\(SqL K H p (ss.map V.str)\/SqT K H p (ss.map V.str))/\ss.length<=60 /\
 ∀l H',H l=none->H' l=some (.tup ((told ss).map V.str))->Same H H'->Q (.ref l) H'
def spAllows:Sp:=λvs H Q _=>∃(how:Str) (off:Bool),vs=[.str how,.bl off]/\Q (.bl (Cd how off)) H
def Xdp:Sp:=λvs H Q _=>∃(r p:Addr) (row ss:Zb),vs=[.ref r,.ref p]/\H r=some (.lst (row.map V.str))/\Row2 row/\H p=some (.tup (ss.map V.str))/\(∀y∈ss,okN y)/\ss.length<=60 /\
 ∀H',Same H H'->Q (.bl (Am row ss)) H'
abbrev NIp:Zb:=["row", "plot", "span"]
abbrev NI1:Zb:=["name", "span"]
abbrev NI2:Zb:=["name", "other", "plot", "span"]
def Spn.has{H}{kvs}{row}{x}(s:Spn H kvs row (dit row)):(Ay kvs (Sum.inr x:Key)).isSome=decide (x∈row):=by
 by_cases hx:x∈row
 ·obtain⟨l,h1,_⟩:=s.val x (Ap.mpr hx);rw[h1,Th hx];rfl
 ·rw[Ti hx];cases e:Ay kvs (Sum.inr x:Key) with
  | none=>rfl
  | some v=>
   exfalso;have:=F5 e;rw[s.keys] at this;obtain⟨y,hy,e2⟩:=O5.mp this;rw[Qt e2] at hy;exact hx (Ap.mp hy)
def Xdq{ss}(h:∀y∈ss,okN y):∀y∈told ss,okN y:=λy hy=>h y (Xdm.mp hy)
def Xk8{α : Type}(d)(p)(xs:List α):((List.range xs.length).map λi=>p (xs.getD i d)).any id=xs.any p:=by
 have e:(List.range xs.length).map (λi=>p (xs.getD i d))=xs.map p:=by
  have:=Ct d (λ_=>true) xs;rw[Pi.mpr (λ_ _=>rfl),Pi.mpr (λ_ _=>rfl)] at this
  conv=>rhs;rw[<-this]
  rw[Pj];rfl
 rw[e,List.any_map];rfl
theorem Xdr{α : Type}(f):∀(xs:List α),(xs.flatMap f).all id=xs.all λx=>(f x).all id
 | []=>rfl
 | x::xs=>by
  rw[Ri,List.all_append,S7,Xdr f xs]
def Xk9{α β : Type}(d)(f : α->List β)(xs:List α):(List.range xs.length).flatMap (λi=>f (xs.getD i d))=xs.flatMap f:=by
 have this:=Ct d (λ_=>true) xs;rw[Pi.mpr (λ_ _=>rfl),Pi.mpr (λ_ _=>rfl)] at this
 conv=>rhs;rw[<-this]
 rw[List.flatMap_map]
end SH
namespace L2
def Nk{X:Cx}{o e:Expr}{es:List Expr}{to:TE}{t:TA}{name:Str}{apos cpos:Pos}{T id:String}{r:V->List V->Hp->VK->Prop}(K:Za)(hK:X.K=K)(pa:PlainAttrs T)(slot:Slot T name id)(hty:typeOf (.builtin id)=pure (.type "method_descriptor"))(hm:MtR X id r)(ho:PE X o to)(ha:PA X (e::es) t)
  (hbase:attributeBase o name X.env (eval o X.env)=eval o X.env:=by rfl)
  (hfew:((backTo cpos (starEach (e::es) X.env)).all (λx => !x.1)&&(backToKw cpos (keywordEach [] X.env)).all (λx=>x.1.isSome)
   && decide ((e::es).length+([]:List Keyword).length+(if ([]:List Keyword).isEmpty then 0 else 1)<30))=true:=by rfl)
  (hline:(apos.endLine==cpos.line)=true:=by rfl) (hs:starEach (e::es) X.env=(false,eval e X.env)::starEach es X.env:=by rfl) (hplain:(backTo cpos (starEach es X.env)).any (·.1)=false:=by rfl):
  PE X (.Call (.Attribute o name apos) (e::es) [] cpos) (tBM K T r to t):=by
 subst hK;exact G8 pa slot hty hm ho ha hbase hfew hline hs hplain
def Xla (K:Za) (i:Nat):TE:=fun Z H Q=>∃v, Z[i]? = some (some v)/\∃p ss,v = .ref p/\(SqL K H p (ss.map V.str)\/SqT K H p (ss.map V.str))/\ss.length<=60/\∀l H',H l=none->H' l=some (.lst ((dit ss).map V.str))->Same H H'->Q (.ref l) H'
def Nl{X:Cx}{i:Nat}{x:Str}{pos p1 p2 q1 q2:Pos}(hc:X.calm=true)(hg1:Gl X "sorted")(hm1:X.mg "sorted" = none)(hg2:Gl X "set")(hm2:X.mg "set" = none)(hv:PE X (.Name x pos) (C0 i))
  (h1:starEach [.Call (.Name "set" p2) [.Name x pos] [] q2] X.env=[(false,eval (.Call (.Name "set" p2) [.Name x pos] [] q2) X.env)]:=by rfl) (h2:starEach [.Name x pos] X.env=[(false,eval (.Name x pos) X.env)]:=by rfl):
  PE X (.Call (.Name "sorted" p1) [.Call (.Name "set" p2) [.Name x pos] [] q2] [] q1) (Xla X.K i):=by
 intro pins s Z H Q I h;obtain⟨v,hv1,p,ss,ev,hq,hl,k⟩:=h;refine(A2 (Jt hc) hg1 hm1 (by rfl) (Aa (B7 (Mm hc) hg2 hm2 (by rfl) (Aa hv Ac) (by decide) (by decide) h2) Ac) (by decide) (by decide) h1) pins s Z H Q I ?_;refine⟨v,hv1,p,ss,by rw[ev],hq,by unfold scanBound;omega,λa na=>?_⟩;have hdl:=F9 ss;refine⟨a,ddup ss,rfl,Ab,by omega,λl ls nl hp hs=>?_⟩;rw[Gb hp hs];have s1:Same H (upd H a (Ch X.prog X.w a (ddup ss))):=(Same.refl H).step na;exact k l _ (s1.free nl) Ab (s1.step nl)
end L2
namespace SH
open L2
def Isl.dlen{row}(h:Isl row):(dit row).length<=14:=by
 obtain⟨n,st,late,hn,hs,p⟩:=h.ex;have hp:(dit row).Perm (Bb st late n):=Ht (Ge row) (Nd hs hn) λx=>by
  rw[Ap,p.mem_iff,Op,or_self]
 rw[hp.length_eq];unfold Bb;rw[Oh,Px];exact hn
def Ik (ss:Zb) (x:Str):Zb:=srt (ss.filter (λy=>decide (y≠x))++(if x∈ss then [] else [x]))
def spFlip:Sp:=λvs H Q _=>∃(p:Addr) (ss:Zb) (x:Str),vs=[.ref p,.str x]/\H p=some (.tup (ss.map V.str))/\ss.length<=60 /\
 ∀q H',H q=none->H' q=some (.tup ((Ik ss x).map V.str))->Same H H'->Q (.ref q) H'
def Xlb{ss}{x y}(h:y∈Ik ss x):y∈ss\/y=x:=by
 unfold Ik at h;rw[Gc,Op] at h;rcases h with h | h
 ·exact .inl (Ou.mp h).1
 ·split at h
  ·simp at h
  ·exact .inr (Om.mp h)
def Xlc(ss)(x):(Ik ss x).length<=ss.length+1:=by
 unfold Ik;rw[(Cq _).length_eq,Oo];have:=Pn (λy=>decide (y≠x)) ss;generalize (ss.filter λy=>decide (y≠x)).length=n at *;split
 ·rw[Qn];omega
 ·rw[Pw];omega
def spOdd:Sp:=λvs H Q _=>∃(dr sc r p:Addr) (row ss:Zb),vs=[.ref dr,.ref r,.ref p]/\DrawOk H dr sc/\H r=some (.lst (row.map V.str))/\r≠dr/\Isl row/\H p=some (.tup (ss.map V.str))/\(∀y∈ss,okN y)/\ss.length<=50 /\
 ∀(q:Addr) (ss':Zb) (H':Hp),H' q=some (.tup (ss'.map V.str))->(∀y∈ss',okN y)->ss'.length<=ss.length+1->DrawOk H' dr sc->But dr H H'->Q (.ref q) H'
def Nm:Sp:=λvs H Q _=>∃(b p:Addr) (xs:List V) (bs:List (Str×Str×Str)) (ss:Zb),vs=[.ref b,.ref p]/\H b=some (.lst xs)/\DAll H (bs.map trD) xs/\H p=some (.tup (ss.map V.str)) /\
 ∀H',Same H H'->Q (.bl (C9 bs ss)) H'
def spBars:Sp:=λvs H Q _=>∃(r:Addr) (row:Zb),vs=[.ref r]/\H r=some (.lst (row.map V.str))/\Row2 row /\
 ∀l xs H',H l=none->H' l=some (.lst xs)->DAll H' ((bars row).map trD) xs->Same H H'->Q (.ref l) H'
def spGood:Sp:=λvs H Q _=>∃(r p:Addr) (row ss:Zb),vs=[.ref r,.ref p]/\H r=some (.lst (row.map V.str))/\Row2 row/\H p=some (.tup (ss.map V.str))/\(∀y∈ss,okN y)/\ss.length<=60 /\
 ∀H',Same H H'->Q (.bl (E6 row ss)) H'
def Xld{H}{t}{v}(h:DAt H (trD t) v):∃p,v = .ref p/\H p=some (.tup [.str t.1,.str t.2.1,.str t.2.2]):=by
 obtain⟨p,xs,rfl,hp,hs⟩:=Mz h;have:=Ih (ss:=[t.1,t.2.1,t.2.2]) hs;rw[this] at hp;exact⟨p,rfl,hp⟩
def Da (row:Zb) (x:Str) (ys:Zb):List (Str×Str×Str):=(ys.filter (Cu row x)).map λy=>(x,y,lieR row x y)
def Dj (row:Zb) (i:Nat):List (Str×Str×Str):=((dit row).take i).flatMap λx=>Da row x (dit row)
def Xle(row):Dj row (dit row).length=bars row:=by
 unfold Dj;rw[Pt];rfl
def Xlf(row){i}(hi:i<(dit row).length):Dj row (i+1)=Dj row i++Da row ((dit row).getD i Str.empty) (dit row):=by
 unfold Dj;rw[O6 hi,Rj,Ri,Ry,Ps];simp[List.getD,hi]
def Xlg(row)(x){j}(hj:j<(dit row).length):Da row x ((dit row).take (j+1))=Da row x ((dit row).take j)++(if Cu row x ((dit row).getD j Str.empty)=true then [(x,(dit row).getD j Str.empty,lieR row x ((dit row).getD j Str.empty))] else []):=by
 unfold Da;have e:(dit row).getD j Str.empty=(dit row)[j]:=by simp[List.getD,hj]
 rw[O6 hj,O8,Oq,e,Pu];split<;>rfl
def Xds(row)(x)(ys):(Da row x ys).length<=ys.length:=by
 unfold Da;rw[Oh];exact Pn ..
def Xlh(row)(i):(Dj row i).length<=i * (dit row).length:=by
 unfold Dj;rw[List.length_flatMap];have h:∀l:Zb,(l.map λx=>(Da row x (dit row)).length).sum<=l.length * (dit row).length:=by
  intro l
  induction l with
  | nil=>simp
  | cons x l ih=>
   rw[Pb,Q8,Pe,Nat.succ_mul];have:=Xds row x (dit row);omega
 refine Pd (h _) (Nat.mul_le_mul_right _ ?_);rw[Ov];omega
abbrev NFl:Zb:=["_law_plot", "_law_name"]
abbrev NFl1:Zb:=["_law_one", "_law_name"]
abbrev NOd:Zb:=["_law_draw", "_law_row_here", "_law_plot", "_law_way", "_law_at", "_law_name"]
abbrev NFi:Zb:=["_law_bars_here", "_law_plot", "_law_one", "_law_other", "_law_word_here"]
abbrev NBr:Zb:=["_law_row_here", "_law_where_here", "_law_told", "_law_one", "_law_other", "_law_word_here"]
abbrev NGo:Zb:=["_law_row_here", "_law_plot"]
abbrev NGo1:Zb:=["_law_name", "_law_plot"]
def Xli{α : Type}(f)(xs:List α)(b:Nat):B8 (xs.map f) none (some (b:Int))=(xs.take b).map f:=by
 by_cases hb:b<=xs.length
 ·exact Ds f xs b hb
 ·unfold B8;rw[HT.sIx_none,Rl,HT.sIx_nat,Oh,Nat.min_eq_right (by omega),Ss,P0 (by rw[Oh];omega),P0 (by omega)]
def Xdt (C:Addr):Sp:=λvs H Q E=>∃(r p:Addr) (row ss:Zb),vs=[.ref r,.ref p]/\H r=some (.lst (row.map V.str))/\Row2 row/\H p=some (.tup (ss.map V.str))/\(∀y∈ss,okN y)/\ss.length<=24 /\
 (Am row ss=true->∀H',Same H H'->Q .non H')/\(Am row ss=false->∀H',Same H H'->E (.ref C) none H')
def spBankOf:Sp:=λvs H Q _=>∃(p:Addr) (ss:Zb) (x:Str),vs=[.ref p,.str x]/\H p=some (.tup (ss.map V.str))/\∀H',Same H H'->Q (.str (if x∈ss then "off" else "home")) H'
def Xlj{ss:Zb}(h:∀y∈ss,okN y):∀z∈ss,z.length<=20/\∀c∈z.cps.toList,c<16 ^ 8:=λz hz=>⟨(h z hz).1,λc hc=>Qv ((h z hz).2 c hc) (by decide)⟩
def DrawOk.ntup{H}{dr sc}(d:DrawOk H dr sc):∀q ys,H q=some (.tup ys)->q≠dr:=λq ys e z=>by
 obtain⟨xs,h⟩:=d.at;rw[z,h] at e;cases e
def mid (row:Zb) (x:Str):Zb:=((row.dropWhile λy=>decide (y≠x)).tail).takeWhile λy=>decide (y≠x)
def Xdu{x y:Str}{r}(h:x∉y::r):decide (y≠x)=true:=by
 have:y≠x:=λe=>h (by rw[e];exact Os);simpa using this
def drop_split{A R}{x:Str}(h:x∉A):(A++x::R).dropWhile (λy=>decide (y≠x))=x::R:=by
 induction A with
 | nil=>rw[Rf,Q0,Tf (by simp)]
 | cons y r ih=>
  rw[List.cons_append,Q0,Tg (Xdu h)];exact ih λz=>h (Ot _ z)
def take_split{A R}{x:Str}(h:x∉A):(A++x::R).takeWhile (λy=>decide (y≠x))=A:=by
 induction A with
 | nil=>rw[Rf,Q3,Tf (by simp)]
 | cons y r ih=>
  rw[List.cons_append,Q3,Tg (Xdu h)];rw[ih λz=>h (Ot _ z)]
def Nn{A B C}{x}(hA:x∉A)(hB:x∉B):mid (A++x::(B++x::C)) x=B:=by
 unfold mid;rw[drop_split hA,List.tail_cons,take_split hB]
def split1{x}:∀{row:Zb},x∈row->∃A R,row=A++x::R/\x∉A:=by
 intro row
 induction row with
 | nil=>intro h;cases h
 | cons y r ih=>
  intro h;by_cases e:x=y
  ·exact⟨[],r,by rw[e];rfl,by simp⟩
  ·obtain⟨A,R,h1,h2⟩:=ih ((O2.mp h).resolve_left e);exact⟨y::A,R,by rw[h1];rfl,λz=>(O2.mp z).elim e h2⟩
def split2{row}{x:Str}(h:row.count x=2):∃A B C,row=A++x::(B++x::C)/\x∉A/\x∉B/\x∉C:=by
 obtain⟨A,R,h1,h2⟩:=split1 (Su.mp (by omega:0<row.count x));rw[h1,Rh,Rm.mpr h2,Ru] at h;have hR:R.count x=1:=by omega
 obtain⟨B,C,h3,h4⟩:=split1 (Su.mp (by omega:0<R.count x));rw[h3,Rh,Rm.mpr h4,Ru] at hR;exact⟨A,B,C,by rw[h1,h3],h2,h4,Rm.mp (by omega)⟩
theorem Il(x):∀n l r,A7 x n (l++r)=A7 x n l++A7 x (n+l.length) r
 | n,[],r=>rfl
 | n,y::l,r=>by
  have ih:=Il x (n+1) l r;have e:n+(y::l).length=n+1+l.length:=by rw[Pe];omega
  rw[e];show (if y=x then (n:Int)::A7 x (n+1) (l++r) else A7 x (n+1) (l++r))=(if y=x then (n:Int)::A7 x (n+1) l else A7 x (n+1) l)++_;rw[ih];split<;>rfl
theorem Kf(x):∀n l,∀i∈A7 x n l,(n:Int)<=i/\i<n+l.length
 | n,[]=>λi h=>by cases h
 | n,y::l=>λi h=>by
  have ih:=Kf x (n+1) l;have h':i=n\/i∈A7 x (n+1) l:=by
   change i∈(if y=x then (n:Int)::A7 x (n+1) l else A7 x (n+1) l) at h;split at h
   ·exact O2.mp h
   ·exact .inr h
  rw[Pe];rcases h' with rfl | h'
  ·omega
  ·have:=ih i h';omega
theorem Kg{x}:∀n l,x∉l->A7 x n l=[]
 | _,[],_=>rfl
 | n,y::l,h=>by
  show (if y=x then (n:Int)::A7 x (n+1) l else A7 x (n+1) l)=[];rw[Tf (λe=>h (by rw[e];exact Os))];exact Kg _ _ λz=>h (Ot _ z)
def Xlk{row}{x y}(hx:row.count x=2)(n:x≠y):nIn (pl row x).1 (pl row x).2 (plc row y)=(mid row x).count y:=by
 obtain⟨A,B,C,e,hA,hB,hC⟩:=split2 hx;have ex:plc row x=[(A.length:Int),((A.length+1+B.length:Nat):Int)]:=by
  unfold plc;rw[e,Il,Kg _ _ hA];show []++(if x=x then _ else _)=_;rw[Tg rfl,Il,Kg _ _ hB];show []++(_::([]++(if x=x then _ else _)))=_;rw[Tg rfl,Kg _ _ hC];simp
 have ey:plc row y=A7 y 0 A++(A7 y (A.length+1) B++A7 y (A.length+1+B.length+1) C):=by
  unfold plc;rw[e,Il];show _++(if x=y then _ else _)=_;rw[Tf n,Il];show _++(_++(if x=y then _ else _))=_;rw[Tf n];simp
 rw[Xdj ex,ey];unfold nIn inn;rw[O8,O8];have e1:(A7 y 0 A).filter (λt=>decide ((A.length:Int)<t)&&decide (t<((A.length+1+B.length:Nat):Int)))=[]:=by
  rw[Q4];intro i hi;have:=Kf y 0 A i hi;simp;intro;omega
 have e2:(A7 y (A.length+1) B).filter (λt=>decide ((A.length:Int)<t)&&decide (t<((A.length+1+B.length:Nat):Int)))=A7 y (A.length+1) B:=by
  rw[Pi];intro i hi;have:=Kf y (A.length+1) B i hi;simp;omega
 have e3:(A7 y (A.length+1+B.length+1) C).filter (λt=>decide ((A.length:Int)<t)&&decide (t<((A.length+1+B.length:Nat):Int)))=[]:=by
  rw[Q4];intro i hi;have:=Kf y _ C i hi;simp;intro;omega
 rw[e1,e2,e3,Rf,Ps,J5];rw[e,Nn hA hB]
def A3 (row:Zb) (x y:Str):Prop:=lieR row x y = "cross"
instance (row:Zb) (x y:Str):Decidable (A3 row x y):=inferInstanceAs (Decidable (_=_))
def Np{a b c e}:D6 a b c e false = "cross" ↔ nIn a b [c,e]=1:=by
 unfold D6;have e3:(inn a b [c,e]).length=nIn a b [c,e]:=rfl;have h2:(inn a b [c,e]).length<=2:=Nc a b [c,e];rw[e3] at *;generalize nIn a b [c,e]=q at *
 match q,h2 with
 | 0,_=>
  rw[Tf (by decide)];split<;>decide
 | 1,_=>rw[Tg (by decide)];decide
 | 2,_=>rw[Tg (by decide)];decide
def Kh{row}{x y}(hx:row.count x=2)(hy:row.count y=2)(n:x≠y):A3 row x y↔(mid row x).count y=1:=by
 unfold A3;rw[Gj hx hy,Ti n,Np,<-Fo hy,Xlk hx n]
def E8{row}{x}(hx:row.count x=2):¬A3 row x x:=by
 unfold A3 lieR lieT;rw[Tg ⟨rfl,rfl⟩];decide
def D8{row}{x y}(hx:row.count x=2)(hy:row.count y=2)(h:A3 row x y):A3 row y x:=by
 by_cases n:x=y
 ·subst n;exact h
 ·obtain⟨n1,n2,n3,n4⟩:=Fp hx hy n;unfold A3 at *;rw[Gj hx hy,Ti n,Np,Ck] at h;rw[Gj hy hx,Ti (λe=>n e.symm),Np,Ck];have l1:=Cj hx;have l2:=Cj hy;generalize (pl row x).1=a at *;generalize (pl row x).2=b at *;generalize (pl row y).1=c at *;generalize (pl row y).2=e at *;by_cases p1:a<c/\c<b<;>by_cases p2:a<e/\e<b<;>by_cases q1:c<a/\a<e<;>by_cases q2:c<b/\b<e <;>
  (first | rw[Tg p1] at h | rw[Tf p1] at h)<;>(first | rw[Tg p2] at h | rw[Tf p2] at h) <;>
  (first | rw[Tg q1] | rw[Tf q1])<;>(first | rw[Tg q2] | rw[Tf q2])<;>omega
def Xdv{x}{p}(h:p x=true):∀row:Zb,mid (row.filter p) x=(mid row x).filter p:=by
 have tk:∀l:Zb,(l.filter p).takeWhile (λy=>decide (y≠x))=(l.takeWhile λy=>decide (y≠x)).filter p:=by
  intro l
  induction l with
  | nil=>rfl
  | cons y r ih=>
   by_cases e:y=x
   ·subst e;rw[Pu,Tg h,Q3,Tf (by simp),Q3,Tf (by simp)];rfl
   ·rw[Q3,Tg (Th e),Pu,Pu];by_cases q:p y=true
    ·rw[Tg q,Tg q,Q3,Tg (Th e),ih]
    ·rw[Tf q,Tf q,ih]
 intro row;unfold mid;rw[<-tk];congr 1
 induction row with
 | nil=>rfl
 | cons y r ih=>
  by_cases e:y=x
  ·subst e;rw[Pu,Tg h,Q0,Tf (by simp),Q0,Tf (by simp)];rfl
  ·rw[Q0,Tg (Th e),<-ih,Pu];by_cases q:p y=true
   ·rw[Tg q,Q0,Tg (Th e)]
   ·rw[Tf q]
def Xll{row row'}{x y}(hx:row.count x=2)(hy:row.count y=2)(hx':row'.count x=2)(hy':row'.count y=2)
  (e:row.filter (λz=>decide (z=x\/z=y))=row'.filter (λz=>decide (z=x\/z=y))):A3 row x y↔A3 row' x y:=by
 by_cases n:x=y
 ·subst n;exact⟨λh=>absurd h (E8 hx),λh=>absurd h (E8 hx')⟩
 ·rw[Kh hx hy n,Kh hx' hy' n];have h1:∀r:Zb,(mid r x).count y=(mid (r.filter λz=>decide (z=x\/z=y)) x).count y:=λr=>by
   rw[Xdv (by simp),List.count_filter (by simp)]
  rw[h1 row,h1 row',e]
def B2 (row:Zb):Prop:=∀x∈row,∀y∈row,∀z∈row,A3 row x y->A3 row x z->¬A3 row y z
def Xlm:B2 []:=λx h=>by cases h
def Xdw{row more}{x}(h:B2 row)(h2:∀y∈row,row.count y=2)(h2':∀y∈more,more.count y=2)(hin:∀y∈more,y=x\/y∈row)
  (hf:∀p:Str->Bool,p x=false->more.filter p=row.filter p) (hb:∀y∈more,∀z∈more,A3 more x y->A3 more x z->¬A3 more y z):B2 more:=by
 intro a ha b hb' c hc k1 k2 k3;have s12:=D8 (h2' a ha) (h2' b hb') k1;have s13:=D8 (h2' a ha) (h2' c hc) k2;have s23:=D8 (h2' b hb') (h2' c hc) k3;by_cases ea:a=x
 ·subst ea;exact hb b hb' c hc k1 k2 k3
 by_cases eb:b=x
 ·subst eb;exact hb a ha c hc s12 k3 k2
 by_cases ec:c=x
 ·subst ec;exact hb a ha b hb' s13 s23 k1
 have ra:=(hin a ha).resolve_left ea;have rb:=(hin b hb').resolve_left eb;have rc:=(hin c hc).resolve_left ec;have go:∀u v:Str,u≠x->v≠x->u∈row->v∈row->u∈more->v∈more->A3 more u v->A3 row u v:=λu v nu nv hu hv mu mv k=>
  (Xll (h2' u mu) (h2' v mv) (h2 u hu) (h2 v hv) (hf _ (by
   rw[decide_eq_false_iff_not];rintro (e | e)
   ·exact nu e.symm
   ·exact nv e.symm))).mp k
 exact h a ra b rb c rc (go a b ea eb ra rb ha hb' k1) (go a c ea ec ra rc ha hc k2) (go b c eb ec rb rc hb' hc k3)
def Xln{row}{x}{a b}(hab:a<=b){p}(h:p x=false):(E4 row x a b).filter p=row.filter p:=by
 unfold E4;have e:row=row.take a++((row.drop a).take (b - a)++row.drop b):=by
  have e1:row.drop b=(row.drop a).drop (b - a):=by rw[List.drop_drop];congr 1;omega
  rw[e1,Pf,Pf]
 conv=>rhs;rw[e]
 simp[O8,Pu,h]
def Xlo{A C}{x y}(hx:(A++[x,x]++C).count x=2)(hy:(A++[x,x]++C).count y=2):¬A3 (A++[x,x]++C) x y:=by
 by_cases n:x=y
 ·subst n;exact E8 hx
 ·rw[Kh hx hy n];have hA:x∉A:=by
   rw[<-Rm];rw[Rh,Rh,Ru,Ru] at hx;omega
  have e:A++[x,x]++C=A++x::([]++x::C):=by simp
  rw[e,Nn hA (by simp)];simp
def Xlp{row:Zb}{x}{a}{p}(h:p x=false):(row.take a++[x,x]++row.drop a).filter p=row.filter p:=by
 simp[O8,Pu,h];rw[<-O8,Pf]
def Xdx{F}{x y}(hF:F.Nodup)(hx:x∈F)(n:x≠y):(mid (F++F.reverse) x).count y≠1:=by
 obtain⟨A,B,rfl,hA⟩:=split1 hx;have hB:x∉B:=by
  have h1:=(Qi.mp hF).2.1;exact(Qf.mp h1).1
 have e:(A++x::B)++(A++x::B).reverse=A++x::((B++B.reverse)++x::A.reverse):=by simp
 rw[e,Nn hA (by simp[hB]),Rh,List.count_reverse];omega
def E9{ns}(hn:ns.Nodup)(c){x y}(h2:∀z∈ns,(ns++(ns.take c).reverse++(ns.drop c).reverse).count z=2)
  (h:(x∈ns.take c/\y∈ns.take c)\/(x∈ns.drop c/\y∈ns.drop c)):¬A3 (ns++(ns.take c).reverse++(ns.drop c).reverse) x y:=by
 have sub:(∀z,z∈ns.take c->z∈ns)/\∀z,z∈ns.drop c->z∈ns:=⟨λz=>Pp,λz=>Pq⟩;have hx:x∈ns:=h.elim (λz=>sub.1 _ z.1) λz=>sub.2 _ z.1;have hy:y∈ns:=h.elim (λz=>sub.1 _ z.2) λz=>sub.2 _ z.2;by_cases n:x=y
 ·subst n;exact E8 (h2 x hx)
 rw[Kh (h2 x hx) (h2 y hy) n];have key:(mid (ns++(ns.take c).reverse++(ns.drop c).reverse) x).count y=(mid ((ns++(ns.take c).reverse++(ns.drop c).reverse).filter λz=>decide (z=x\/z=y)) x).count y:=by
  rw[Xdv (by simp),List.count_filter (by simp)]
 rw[key];have dj:∀z,z∈ns.take c->z∈ns.drop c->False:=by
  have:=hn;rw[<-Pf c ns] at this;intro z h1 h2;exact(Qi.mp this).2.2 z h1 z h2 rfl
 have e0:ns.filter (λz=>decide (z=x\/z=y))=(ns.take c).filter (λz=>decide (z=x\/z=y))++(ns.drop c).filter (λz=>decide (z=x\/z=y)):=by
  rw[<-O8,Pf]
 rw[O8,O8,e0,List.filter_reverse,List.filter_reverse];rcases h with ⟨h1,h2⟩ | ⟨h1,h2⟩
 ·have e:(ns.drop c).filter (λz=>decide (z=x\/z=y))=[]:=by
   rw[Q4];intro z hz q;rcases Tj q with q | q
   ·exact dj x h1 (q ▸ hz)
   ·exact dj y h2 (q ▸ hz)
  rw[e,Ps,List.reverse_nil,Ps];exact Xdx ((hn.sublist (P3 ..)).filter _) (Ou.mpr ⟨h1,by simp⟩) n
 ·have e:(ns.take c).filter (λz=>decide (z=x\/z=y))=[]:=by
   rw[Q4];intro z hz q;rcases Tj q with q | q
   ·exact dj x (q ▸ hz) h1
   ·exact dj y (q ▸ hz) h2
  rw[e,Rf,List.reverse_nil,Ps];exact Xdx ((hn.sublist (Ql ..)).filter _) (Ou.mpr ⟨h1,by simp⟩) n
def noThree_grid{ns}(hn:ns.Nodup)(c)(h2:∀z∈ns,(ns++(ns.take c).reverse++(ns.drop c).reverse).count z=2):B2 (ns++(ns.take c).reverse++(ns.drop c).reverse):=by
 have mem:∀z,z∈ns++(ns.take c).reverse++(ns.drop c).reverse->z∈ns.take c\/z∈ns.drop c:=by
  intro z hz;rw[<-Op,Pf];simp only[Op,List.mem_reverse] at hz;rcases hz with (h | h) | h
  ·exact h
  ·exact Pp h
  ·exact Pq h
 intro x hx y hy z hz k1 k2 k3;rcases mem x hx with a | a<;>rcases mem y hy with b | b<;>rcases mem z hz with d | d
 ·exact E9 hn c h2 (.inl ⟨a,b⟩) k1
 ·exact E9 hn c h2 (.inl ⟨a,b⟩) k1
 ·exact E9 hn c h2 (.inl ⟨a,d⟩) k2
 ·exact E9 hn c h2 (.inr ⟨b,d⟩) k3
 ·exact E9 hn c h2 (.inl ⟨b,d⟩) k3
 ·exact E9 hn c h2 (.inr ⟨a,d⟩) k2
 ·exact E9 hn c h2 (.inr ⟨a,b⟩) k1
 ·exact E9 hn c h2 (.inr ⟨a,b⟩) k1
def spBarredN:Sp:=λvs H Q _=>∃(r:Addr) (row:Zb) (x:Str),vs=[.ref r,.str x]/\H r=some (.lst (row.map V.str))/\row.length<=1000/\(∀y∈row,row.count y=2)/\x∈row /\
 ∀b H',(b=false->∀y∈row,∀z∈row,A3 row x y->A3 row x z->¬A3 row y z)->Same H H'->Q (.bl b) H'
def spRowN:Sp:=λvs H Q _=>∃(dr sc nl:Addr) (ns:Zb),vs=[.ref dr,.ref nl]/\DrawOk H dr sc/\H nl=some (.lst (ns.map V.str))/\nl≠dr/\ns.Nodup/\ns.length<=14 /\
 ∀(l:Addr) (row:Zb) (H':Hp),H l=none->H' l=some (.lst (row.map V.str))->row.Perm (ns++ns)->B2 row->DrawOk H' dr sc->But dr H H'->Q (.ref l) H'
def spIslandN:Sp:=λvs H Q _=>∃(dr sc:Addr) (m:Nat),vs=[.ref dr,.int m]/\m<=14/\DrawOk H dr sc /\
 ∀(l:Addr) (row:Zb) (n st:Nat) (late:Bool) (H':Hp),H l=none->n<=m->st<26->H' l=some (.lst (row.map V.str))->row.Perm (Bb st late n++Bb st late n)->B2 row->DrawOk H' dr sc->But dr H H'->Q (.ref l) H'
def Xdy{p}{_:Decidable p}(h:decide p=false):¬p:=Tk h
def Wh.pl{H:Hp}{kvs:List (Key×V)}{row:Zb}{x:Str}(w:Wh H kvs row)(hx:x∈row)(h:row.count x=2):∃l,Ay kvs (Sum.inr x:Key)=some (.ref l)/\H l=some (.lst [.int (pl row x).1,.int (pl row x).2]):=by
 obtain⟨l,h1,h2⟩:=w.val x hx;rw[Fo h] at h2;exact⟨l,h1,h2⟩
def deg2 {α : Type} (R : α -> α->Bool) (l:List α):Nat:=(l.map λx=>l.countP (R x)).sum
def Xlq{a b:List Nat}(p:a.Perm b):a.sum=b.sum:=by
 induction p with
 | nil=>rfl
 | cons x _ ih=>simp[ih]
 | swap x y l=>simp;omega
 | trans _ _ h1 h2=>exact h1.trans h2
def Xlr{α : Type}{R}{a b:List α}(p:a.Perm b):deg2 R a=deg2 R b:=by
 unfold deg2;have e:(a.map λx=>a.countP (R x))=a.map λx=>b.countP (R x):=P9 λx _=>p.countP_eq _;rw[e];exact Xlq (p.map _)
theorem Fq{α : Type}(f g : α->Nat):∀l:List α,(l.map λx=>f x+g x).sum=(l.map f).sum+(l.map g).sum
 | []=>rfl
 | x::r=>by simp[Fq f g r];omega
theorem Eo{α : Type}(p):∀l:List α,(l.map λx=>if p x=true then 1 else 0).sum=l.countP p
 | []=>rfl
 | x::r=>by
  rw[Pb,Q8,Eo p r,Qa];omega
theorem Xdz{α : Type}:∀l:List α,(l.map λ_=>0).sum=0
 | []=>rfl
 | _::r=>by rw[Pb,Q8,Xdz r]
def mantel{α : Type}[DecidableEq α]{R}:∀(n:Nat) (l:List α),l.length=n->l.Nodup->(∀x∈l,R x x=false)->(∀x∈l,∀y∈l,R x y=R y x) ->
  (∀x∈l,∀y∈l,∀z∈l,R x y=true->R x z=true->R y z=false)->2 * deg2 R l<=n * n:=by
 intro n
 induction n using Nat.strongRecOn with
 | ind n ih=>
  intro l hl nd irr sy tri;by_cases h:∃u∈l,∃v∈l,R u v=true
  ·obtain⟨u,hu,v,hv,huv⟩:=h;have nuv:u≠v:=λe=>by subst e;rw[irr u hu] at huv;cases huv
   have p1:l.Perm (u::l.erase u):=List.perm_cons_erase hu;have hv':v∈l.erase u:=(List.mem_erase_of_ne nuv.symm).mpr hv;have p2:l.Perm (u::v::(l.erase u).erase v):=p1.trans (List.Perm.cons u (List.perm_cons_erase hv'));generalize (l.erase u).erase v=r at p2;have hlen:=p2.length_eq;simp only[Pe] at hlen;have nd':=p2.nodup_iff.mp nd;have mr:∀x∈r,x∈l:=λx hx=>p2.mem_iff.mpr (Ot _ (Ot _ hx));have ndr:r.Nodup:=(Qf.mp (Qf.mp nd').2).2;have ihr:=ih r.length (by omega) r rfl ndr (λx hx=>irr x (mr x hx)) (λx hx y hy=>sy x (mr x hx) y (mr y hy)) (λx hx y hy z hz=>tri x (mr x hx) y (mr y hy) z (mr z hz));have e:deg2 R l=2+2 * (r.countP (R u)+r.countP (R v))+deg2 R r:=by
    rw[Xlr p2];unfold deg2;rw[Pb,Pb,Q8,Q8];have ef:(r.map λx=>(u::v::r).countP (R x))=r.map λx=>((if R u x=true then 1 else 0)+(if R v x=true then 1 else 0))+r.countP (R x):=by
     refine P9 λx hx=>?_;rw[Qa,Qa,sy x (mr x hx) u hu,sy x (mr x hx) v hv];omega
    rw[ef,Fq,Fq,Eo,Eo,Qa,Qa,Qa,Qa,irr u hu,irr v hv,huv,sy v hv u hu,huv];simp;omega
   have le:r.countP (R u)+r.countP (R v)<=r.length:=by
    rw[<-Eo (R u),<-Eo (R v),<-Fq];have:∀m:List α,(∀x∈m,x∈l)->(m.map λx=>(if R u x=true then 1 else 0)+(if R v x=true then 1 else 0)).sum<=m.length:=by
     intro m
     induction m with
     | nil=>intro _;exact Oj _
     | cons x t iht=>
      intro hm;have h1:=iht λy hy=>hm y (Ot _ hy);have hx:=hm x Os;have h2:(if R u x=true then 1 else 0)+(if R v x=true then 1 else 0)<=1:=by
       by_cases a:R u x=true
       ·have:=tri u hu v hv x hx huv a;rw[this,Tg a];decide
       ·rw[Tf a];split<;>decide
      rw[Pb,Q8,Pe];omega
    exact this r mr
   have hn:n=r.length+2:=by omega
   rw[e,hn];have:(r.length+2) * (r.length+2)=r.length * r.length+4 * r.length+4:=by
    rw[Nat.add_mul,Nat.mul_add];omega
   rw[this];omega
  ·have z:deg2 R l=0:=by
    unfold deg2;have:(l.map λx=>l.countP (R x))=l.map λ_=>0:=by
     refine P9 λx hx=>?_;rw[List.countP_eq_zero];intro y hy q;exact h ⟨x,hx,y,hy,q⟩
    rw[this];exact Xdz l
   rw[z];exact Pm _
theorem Xd0{α β : Type}(p : α -> β->Bool)(m:List β):∀l:List α,(l.map λx=>m.countP (p x)).sum=(m.map λy=>l.countP λx=>p x y).sum
 | []=>by
  show 0=_
  induction m with
  | nil=>rfl
  | cons y r ih=>rw[Pb,Q8,<-ih];rfl
 | x::l=>by
  rw[Pb,Q8,Xd0 p m l];have e:(m.map λy=>(x::l).countP λx=>p x y)=m.map λy=>(if p x y=true then 1 else 0)+l.countP λx=>p x y:=by
   refine P9 λy _=>?_;rw[Qa];omega
  rw[e,Fq,Eo]
def Xls{row}(h2:∀y∈row,row.count y=2):2 * (crs row).length=deg2 (λx y=>decide (A3 row x y)) (dit row):=by
 have e:(crs row).length=((dit row).map λx=>(dit row).countP λy=>decide (ltS x y)&&decide (A3 row x y)).sum:=by
  unfold crs;rw[List.length_flatMap];congr 1;refine P9 λx _=>?_;rw[Oh,Ro];rfl
 have e2:=Xd0 (λx y=>decide (ltS x y)&&decide (A3 row x y)) (dit row) (dit row);have e3:2 * (crs row).length=((dit row).map λx=>(dit row).countP λy=>decide (ltS x y)&&decide (A3 row x y)).sum+((dit row).map λy=>(dit row).countP λx=>decide (ltS x y)&&decide (A3 row x y)).sum:=by
  rw[<-e2,e];omega
 rw[e3,<-Fq];unfold deg2;congr 1;refine P9 λx hx=>?_;rw[<-Eo,<-Eo,<-Eo,<-Fq];congr 1;refine P9 λy hy=>?_;have hx':=Ap.mp hx;have hy':=Ap.mp hy;by_cases c:A3 row x y
 ·have c':=D8 (h2 x hx') (h2 y hy') c;have n:x≠y:=λe=>by subst e;exact E8 (h2 x hx') c
  by_cases l:ltS x y
  ·have l':¬ltS y x:=λq=>Hq x (Hr l q);simp[c,c',l,l']
  ·have l':ltS y x:=ltS_of (Mp.mp l) n.symm;simp[c,c',l,l']
 ·have c':¬A3 row y x:=λq=>c (D8 (h2 y hy') (h2 x hx') q);simp[c,c']
def Xd1{row}(h2:∀y∈row,row.count y=2)(h3:B2 row)(hl:(dit row).length<=14):(crs row).length<=49:=by
 have m:=mantel (R:=λx y=>decide (A3 row x y)) (dit row).length (dit row) rfl (Ge row) (λx hx=>Ti (E8 (h2 x (Ap.mp hx))))
  (λx hx y hy=>by
   by_cases c:A3 row x y
   ·rw[Th c,Th (D8 (h2 x (Ap.mp hx)) (h2 y (Ap.mp hy)) c)]
   ·rw[Ti c,Ti λq=>c (D8 (h2 y (Ap.mp hy)) (h2 x (Ap.mp hx)) q)])
  (λx hx y hy z hz a b=>Ti (h3 x (Ap.mp hx) y (Ap.mp hy) z (Ap.mp hz) (Tj a) (Tj b)))
 rw[<-Xls h2] at m;have:(dit row).length * (dit row).length<=14 * 14:=Nat.mul_le_mul hl hl;omega
def upB (row:Zb) (x y:Str):Bool:=decide (y=x)||decide (lieR row x y = "within")
def span (row:Zb) (x:Str):Nat:=((pl row x).2 - (pl row x).1).toNat
def Xlt(a b c e):lieT a b c e = "same" \/ lieT a b c e = "cross" \/ lieT a b c e = "within" \/ lieT a b c e = "around" \/ lieT a b c e = "apart" := by
 unfold lieT;split
 ·exact .inl rfl
 ·split
  ·exact .inr (.inl rfl)
  ·split
   ·exact .inr (.inr (.inl rfl))
   ·split
    ·exact .inr (.inr (.inr (.inl rfl)))
    ·exact .inr (.inr (.inr (.inr rfl)))
def Xlu{row}{x y}(hx:row.count x=2)(hy:row.count y=2)(n:x≠y)(h:lieR row x y = "around"):span row y<span row x:=by
 obtain⟨n1,n2,n3,n4⟩:=Fp hx hy n;have l1:=Cj hx;have l2:=Cj hy;unfold span;unfold lieR lieT at h;rw[Tf (λz=>n1 z.1)] at h;split at h
 ·exact absurd h (by decide)
 ·split at h
  ·exact absurd h (by decide)
  ·split at h
   ·rename_i q;rw[Ck] at q;generalize (pl row x).1=a at *;generalize (pl row x).2=b at *;generalize (pl row y).1=c at *;generalize (pl row y).2=e at *;by_cases p1:a<c/\c<b
    ·by_cases p2:a<e/\e<b
     ·omega
     ·rw[Tg p1,Tf p2] at q;omega
    ·rw[Tf p1] at q;split at q<;>omega
   ·exact absurd h (by decide)
def Xd2{row}{x y}(hx:row.count x=2)(hy:row.count y=2)(h:lieR row x y = "same"):x=y:=by
 refine Classical.byContradiction λn=>?_;obtain⟨n1,n2,n3,n4⟩:=Fp hx hy n;unfold lieR lieT at h;rw[Tf (λz=>n1 z.1)] at h;split at h
 ·exact absurd h (by decide)
 ·split at h
  ·exact absurd h (by decide)
  ·split at h
   ·exact absurd h (by decide)
   ·exact absurd h (by decide)
theorem least{α : Type}(f : α->Nat):∀l:List α,l≠[]->∃a∈l,∀b∈l,f a<=f b
 | [],h=>absurd rfl h
 | [a],_=>⟨a,Os,λb hb=>by rw[Om.mp hb];exact Oj _⟩
 | a::c::r,_=>by
  obtain⟨m,hm,hl⟩:=least f (c::r) (by simp);by_cases q:f a<=f m
  ·exact⟨a,Os,λb hb=>by
    rcases O2.mp hb with e | e
    ·rw[e];exact Oj _
    ·exact Pd q (hl b e)⟩
  ·exact⟨m,Ot _ hm,λb hb=>by
    rcases O2.mp hb with e | e
    ·rw[e];omega
    ·exact hl b e⟩
def cands (row:Zb):List (Zb):=(dit row).map (λa=>(dit row).filter (upB row a))++(crs row).map λp=>(dit row).filter λy=>upB row p.1 y||upB row p.2 y
def Xd3{row S}(h2:∀y∈row,row.count y=2)(h3:B2 row)(hne:S≠[])(hg:Am row S=true):S∈cands row:=by
 have hg':=hg;rw[<-Ke h2] at hg';unfold E6 at hg';rw[O4] at hg';have hS:=Tj hg'.1;unfold Am at hg;rw[O4,O4] at hg;obtain⟨⟨_,hrow⟩,hal⟩:=hg;have inr:∀x∈S,x∈row:=λx hx=>Tj (O9.mp hrow x hx);have al:∀x∈S,∀y∈row,Cd (lieR row x y) (decide (y∈S))=true:=λx hx y hy=>O9.mp (O9.mp hal x hx) y (Ap.mpr hy);have within:∀x∈S,∀y∈row,lieR row x y = "within" -> y∈S:=λx hx y hy e=>by
  have:=al x hx y hy;unfold Cd at this;rw[Tg e] at this;exact Tj this
 have apart:∀x∈S,∀y∈S,lieR row x y ≠ "apart" := λx hx y hy e=>by
  have:=al x hx y (inr y hy);unfold Cd at this;rw[Tf (by rw[e];decide),e,Th hy] at this;exact absurd this (by decide)
 have how:∀a∈S,∀c∈S,upB row a c=false->¬span row c<span row a->A3 row a c:=λa ha c hc hu hs=>by
  have hu':=Bool.or_eq_false_iff.mp hu;have n1:c≠a:=Tk hu'.1;have n2:=Tk hu'.2;rcases Xlt (pl row a).1 (pl row a).2 (pl row c).1 (pl row c).2 with q | q | q | q | q
  ·exact absurd (Xd2 (h2 a (inr a ha)) (h2 c (inr c hc)) q).symm n1
  ·exact q
  ·exact absurd q n2
  ·exact absurd (Xlu (h2 a (inr a ha)) (h2 c (inr c hc)) (λe=>n1 e.symm) q) hs
  ·exact absurd q (apart a ha c hc)
 have upin:∀a∈S,∀y∈row,upB row a y=true->y∈S:=λa ha y hy q=>by
  rcases Sk.mp q with q | q
  ·rw[Tj q];exact ha
  ·exact within a ha y hy (Tj q)
 obtain⟨a,ha,la⟩:=least (span row) S hne;unfold cands;rw[Op];by_cases hall:∀c∈S,upB row a c=true
 ·left;rw[O5];refine⟨a,Ap.mpr (inr a ha),?_⟩;rw[hS];refine List.filter_congr λy hy=>?_;by_cases q:y∈S
  ·rw[hall y q,Th q]
  ·rw[Ti q,Rg];exact λz=>q (upin a ha y (Ap.mp hy) z)
 ·right;have hne2:S.filter (λc => !upB row a c)≠[]:=λe=>hall λc hc=>by
   rw[Q4] at e;have:=e c hc;simpa using this
  obtain⟨b,hb,lb⟩:=least (span row) _ hne2;obtain⟨hbS,hbu⟩:=Ou.mp hb;have hbu:upB row a b=false:=by simpa using hbu
  have cab:=how a ha b hbS hbu (by have:=la b hbS;omega);have all2:∀c∈S,upB row a c=true\/upB row b c=true:=λc hc=>by
   refine Classical.byContradiction λz=>?_;have z1:upB row a c=false:=by
    cases q:upB row a c with
    | false=>rfl
    | true=>exact absurd (.inl q) z
   have z2:upB row b c=false:=by
    cases q:upB row b c with
    | false=>rfl
    | true=>exact absurd (.inr q) z
   have k1:=how a ha c hc z1 (by have:=la c hc;omega);have k2:=how b hbS c hc z2 (by have:=lb c (Ou.mpr ⟨hc,by simp[z1]⟩);omega);exact h3 a (inr a ha) b (inr b hbS) c (inr c hc) cab k1 k2
  have key:∀p q:Str,p∈S->q∈S->(∀c∈S,upB row p c=true\/upB row q c=true)->(dit row).filter (λy=>upB row p y||upB row q y)=S:=λp q hp hq h=>by
   conv=>rhs;rw[hS]
   refine List.filter_congr λy hy=>?_;by_cases m:y∈S
   ·rw[Th m,Sk];exact h y m
   ·rw[Ti m,Bool.or_eq_false_iff];exact⟨Rg.mpr λz=>m (upin p hp y (Ap.mp hy) z),Rg.mpr λz=>m (upin q hq y (Ap.mp hy) z)⟩
  have nab:a≠b:=λe=>by subst e;exact E8 (h2 a (inr a ha)) cab
  have mk:∀p q:Str,p∈S->q∈S->ltS p q->A3 row p q->(p,q)∈crs row:=λp q hp hq l c=>by
   unfold crs;rw[List.mem_flatMap];refine⟨p,Ap.mpr (inr p hp),O5.mpr ⟨q,Ou.mpr ⟨Ap.mpr (inr q hq),?_⟩,rfl⟩⟩;rw[O4];exact⟨Th l,Th c⟩
  rw[O5];by_cases l:ltS a b
  ·exact⟨(a,b),mk a b ha hbS l cab,key a b ha hbS all2⟩
  ·have l':=ltS_of (Mp.mp l) nab.symm;exact⟨(b,a),mk b a hbS ha l' (D8 (h2 a (inr a ha)) (h2 b (inr b hbS)) cab),key b a hbS ha λc hc=>(all2 c hc).symm⟩
theorem Im{α : Type}[DecidableEq α]:∀{a b:List α},a.Nodup->(∀x∈a,x∈b)->a.length<=b.length
 | [],_,_,_=>Pm _
 | x::r,b,h,s=>by
  obtain⟨h1,h2⟩:=Qf.mp h;have hx:=s x Os;have:=Im (a:=r) (b:=b.erase x) h2 λy hy=>(List.mem_erase_of_ne (show y≠x from λe=>h1 (e ▸ hy))).mpr (s y (Ot _ hy));rw[List.length_erase_of_mem hx] at this;have:0<b.length:=List.length_pos_of_mem hx;rw[Pe];omega
def Nq{row}{L:List (Zb)}(h2:∀y∈row,row.count y=2)(h3:B2 row)(hl:(dit row).length<=14)(nd:L.Nodup)(h:∀S∈L,S≠[]/\Am row S=true):L.length<64:=by
 have l1:=Im nd λS hS=>Xd3 h2 h3 (h S hS).1 (h S hS).2;have l2:=Xd1 h2 h3 hl;unfold cands at l1;rw[Oo,Oh,Oh] at l1;omega
end SH
namespace L2
open PySem.W (KasT kas_asc kas_desc kas_rev kas_tail3 kas_descPart kas_count kas_place kas_bin kas_sort kas_ask kas_item kat_run kat_snds kat_kind kat_lt KatLex kat_cons kat_go kat_yes kat_no kat_one kat_nil KatTups)
def KAll {α : Type} (n:Nat) (P : α->Prop):KasT α->Prop
 | .ret a=>P a
 | .ask i j k=>i<n/\j<n/\∀b,KAll n P (k b)
theorem KAll.bind{α β : Type}{n}{P}{Q : β->Prop}{f}(hf:∀a,P a->KAll n Q (f a)):∀{t:KasT α},KAll n P t->KAll n Q (t.bind f)
 | .ret a,h=>hf a h
 | .ask i j k,h=>⟨h.1,h.2.1,λb=>KAll.bind hf (h.2.2 b)⟩
def Gd (n:Nat) (p:Array Nat):Prop:=p.Perm (List.toArray (List.range n))
def Gd.lt{n}{p}(h:Gd n p)(hn:0<n)(i):p.getD i 0<n:=by
 by_cases hi:i<p.size
 ·have e:p.getD i 0=p[i]:=by simp[Array.getD,hi]
  rw[e];have:p[i]∈p:=Array.getElem_mem hi;have:=h.mem_iff.mp this;simpa using this
 ·have e:p.getD i 0=0:=by simp[Array.getD,hi]
  rw[e];exact hn
def Gd.rev{n}{p}(h:Gd n p)(i j):Gd n (kas_rev p i j):=(mirror_perm p i j _).trans h
theorem Nr{n}(hn:0<n){p}(h:Gd n p):∀f m,KAll n (λ_=>True) (kas_asc p f m)
 | 0,_=>trivial
 | f+1,m=>⟨h.lt hn _,h.lt hn _,λb=>by
  cases b with
  | true=>exact trivial
  | false=>exact Nr hn h f (m+1)⟩
theorem Ki{n}(hn:0<n):∀f (p:Array Nat) m q,Gd n p->KAll n (λr=>Gd n r.1) (kas_desc f p m q)
 | 0,p,m,q,h=>h
 | f+1,p,m,q,h=>⟨h.lt hn _,h.lt hn _,λb=>by
  cases b with
  | true=>
   show KAll n _ (if q > 0 then kas_desc f (kas_rev p (m - (q+1)) m) (m+1) 0 else kas_desc f p (m+1) 0);split
   ·exact Ki hn f _ _ _ (h.rev _ _)
   ·exact Ki hn f _ _ _ h
  | false=>
   refine⟨h.lt hn _,h.lt hn _,λd=>?_⟩;cases d with
   | true=>exact h
   | false=>exact Ki hn f _ _ _ h⟩
def Xd4{n}(hn:0<n){p}(h:Gd n p)(m r):KAll n (λr=>Gd n r.2) (kas_tail3 m r p):=by
 unfold kas_tail3;refine KAll.bind (P:=λ_=>True) (Q:=λ(r:Nat×Array Nat)=>Gd n r.2) (λa _=>?_) (Nr hn (h.rev 0 m) _ _);exact h.rev 0 m
def Xd5{n}(hn:0<n){p}(h:Gd n p)(m r):KAll n (λr=>Gd n r.2) (kas_descPart m r p):=by
 refine KAll.bind (P:=λr=>Gd n r.1) (λa ha=>?_) (Ki hn _ _ _ _ h);split
 ·exact Xd4 hn (ha.rev _ _) _ _
 ·exact Xd4 hn ha _ _
def Xlv{n}(hn:0<n){p}(h:Gd n p)(r):KAll n (λr=>Gd n r.2) (kas_count r p):=by
 refine KAll.bind (P:=λ_=>True) (λa _=>?_) (Nr hn h _ _);split
 ·exact h
 ·split
  ·refine⟨h.lt hn _,h.lt hn _,λb=>?_⟩;cases b with
   | true=>exact h
   | false=>exact Xd5 hn (h.rev _ _) _ _
  ·exact Xd5 hn h _ _
theorem Nt{n}(hn:0<n){p}(h:Gd n p)(k):∀f l r,KAll n (λ_=>True) (kas_place p k f l r)
 | 0,_,_=>trivial
 | f+1,l,r=>by
  show KAll n _ (if l ≥ r then _ else _);split
  ·exact trivial
  ·refine⟨h.lt hn _,h.lt hn _,λb=>?_⟩;cases b with
   | true=>exact Nt hn h k f _ _
   | false=>exact Nt hn h k f _ _
theorem Xd6{n}(hn:0<n):∀f (p:Array Nat) k,Gd n p->KAll n (Gd n) (kas_bin f p k)
 | 0,p,_,h=>h
 | f+1,p,k,h=>KAll.bind (P:=λ_=>True) (λl _=>Xd6 hn f _ _ ((bubble_perm p k _).trans h)) (Nt hn h k _ _ _)
def Kj{n}(hn:0<n):KAll n (Gd n) (kas_sort n):=by
 refine KAll.bind (P:=λr=>Gd n r.2) (λa ha=>?_) (Xlv hn (Sm _) n);split
 ·exact Xd6 hn _ _ _ ha
 ·exact ha
section
variable {prog:Program}{w:World}{A:Around}{E:Zc}{s:Shared}
def Xd7 (h:Heap) (v:Value):Prop:=∃a o xs n ss,v = .ref a/\h.get? a=some o/\o.cls = .type "tuple" /\ o.data = .seq xs n/\StrsAre xs.toList ss/\ss≠[]
theorem Xd8:∀{vs:List Value},(∀v∈vs,Xd7 s.heap v)->∃fs,KatTups s.heap vs fs/\fs.length=vs.length/\∀f∈fs,∃x t,f = .str x t
 | [],_=>⟨[],KatTups.nil,rfl,λ_ h=>by cases h⟩
 | v::vs,h=>by
  obtain⟨fs,h1,h2,h3⟩:=Xd8 (vs:=vs) λu hu=>h u (Ot _ hu);obtain⟨a,o,xs,n,ss,rfl,g1,g2,g3,g4,g5⟩:=h v Os;obtain⟨f,x,t,hf,rfl⟩:∃f x t,xs[0]? = some f/\f = .str x t:=by
   have e:xs[0]? = xs.toList[0]?:=by simp
   rw[e];generalize xs.toList=l at g4;cases g4 with
   | nil=>exact absurd rfl g5
   | cons x t r=>exact⟨_,x,t,rfl,rfl⟩
  exact⟨_::fs,KatTups.cons g1 g2 g3 hf h1,by simp[h2],λf hf=>by
   rcases O2.mp hf with e | e
   ·exact⟨x,t,e⟩
   ·exact h3 f e⟩
end
section
variable {X:Cx}
end
section
variable {X:Cx}
def Xlw:Bv X (.builtin "sorted") (λxs H Q=>∃(a:Addr) (ks:Zb),xs=[.ref a]/\H a=some (.tup (ks.map V.str))/\ks.length<64/\∀l,H l=none->Q (.ref l) (upd H l (.lst ((srt ks).map V.str)))):=by
 intro pins s Z H xs us Q I r h;obtain⟨a,ks,rfl,ha,h64,q⟩:=h;obtain⟨u,rfl,rx⟩:=Co r;cases rx;obtain⟨its,r2,p2,_⟩:=I.tuple (SqT.of (K:=X.K) ha);obtain⟨o,ho,hc,n,hd⟩:=id p2;have hl:its.length=ks.length:=by
  have:=r2.length;rw[Oh] at this;exact this.symm
 refine Ml h64 (λR k=>wpAny_collect_seq a (.inr rfl) ho hc hd (λh' kk=>k _ _ ks kk rfl rfl (by simpa using Ga r2) (Rv _)) (by rw[Ol,hl,Te];omega)) λs1 s' vs ls e k1 o1 g1 k2 o2 g2 he st p so=>?_;refine Mn I h64 k1 o1 g1 k2 o2 g2 he st p λl hl=>?_;rw[Gb p so];exact q l hl
def Xlx(hu:X.A.units+4<cLine):OpR X (compareOp .NotIn) (λx y H Q=>∃d ds,DAt H d x/\DAt H (.list ds) y/\d.canLay0=true/\PyData.canLayAll0 ds=true/\d.depth<=3/\Q (.bl (!ds.any λe=>PyData.eqv e d)) H):=by
 intro pins s Z H x y v u Q I rx ry h;obtain⟨d,ds,h1,h2,c1,c2,hd,q⟩:=h;obtain⟨as,ra⟩:=El I d x v h1 rx;obtain⟨bs,rb⟩:=El I (.list ds) y u h2 ry;exact SeqAt.notIn_list_reads rb ra c2 c1 (by omega) ⟨.bl _,H,I,rfl,q⟩
end
end L2
namespace SH
open L2
def tupD (ss:Zb):PyData:=.tuple (ss.map PyData.str)
def Plts (row:Zb) (H:Hp) (ps:List Addr):Prop:=∀p∈ps,∃ss:Zb,H p=some (.tup (ss.map V.str))/\Am row ss=true
def Ep{row ss}(h:Am row ss=true):(∀x∈ss,x∈row)/\ss.Pairwise ltS:=by
 unfold Am at h;rw[O4,O4] at h;refine⟨λx hx=>Tj (O9.mp h.1.2 x hx),?_⟩;rw[Tj h.1.1];exact Nh ss
def Nv{row ss}(h:Am row ss=true):ss.length<=(dit row).length:=
 Im (E7 (Ep h).2) λx hx=>Ap.mpr ((Ep h).1 x hx)
def Kk(row):Am row []=true:=by
 unfold Am;rw[Kc .nil];rfl
def Xly{row ss}{x}(h2:∀y∈row,row.count y=2)(h:Am row ss=true)(hx:x∈row)(n:x∉ss)(hf:C9 (bars row) (srt (ss++[x]))=true):Am row (srt (ss++[x]))=true:=by
 rw[<-Ke h2];unfold E6;rw[hf,Bool.and_true];obtain⟨hr,hl⟩:=Ep h;have nd:(ss++[x]).Nodup:=by
  rw[Qi];exact⟨E7 hl,by simp,λa ha b hb e=>n (by rw[Om.mp hb] at e;exact e ▸ ha)⟩
 refine Th (Ni.mpr ⟨?_,λy hy=>?_⟩)
 ·unfold told;have e1:srt (ddup (srt (ss++[x])))=srt (srt (ss++[x])):=Xju (Xdl ((Cq _).nodup_iff.mpr nd));have e2:srt (srt (ss++[x]))=srt (ss++[x]):=Ez (Cq _) (Ei _) (Ei _);exact(e1.trans e2).symm
 ·rcases Op.mp (Gc.mp hy) with q | q
  ·exact hr y q
  ·rw[Om.mp q];exact hx
def Xlz{ss}{x}:srt (ss++[x])≠[]:=λe=>by
 have:x∈srt (ss++[x]):=Gc.mpr (by simp);rw[e] at this;cases this
structure Fresh (row:Zb) (H:Hp) (f:Addr) (xs:List V) (Ts:List (Zb)):Prop where
 at':H f=some (.lst xs)
 all:DAll H (Ts.map tupD) xs
 nd:Ts.Nodup
 ok:∀T∈Ts,T≠[]/\Am row T=true
def Fresh.same{row}{H H'}{f}{xs}{Ts}(h:Fresh row H f xs Ts)(s:Same H H'):Fresh row H' f xs Ts:=⟨s _ _ h.at',DAll.same s _ _ h.all,h.nd,h.ok⟩
abbrev NPl:Zb:=["_law_row_here", "_law_bars_here", "_law_names_here", "_law_told", "_law_layer", "_law_k", "_law_fresh", "_law_plot", "_law_name", "_law_over"]
end SH
namespace L2
def Tups (H:Hp) (ps:List Addr) (Ts:List (Zb)):Prop:=ps.length=Ts.length/\∀i,i<ps.length->H (ps.getD i 0)=some (.tup ((Ts.getD i []).map V.str))
def Tups.same{H H'}{ps}{Ts}(h:Tups H ps Ts)(s:Same H H'):Tups H' ps Ts:=⟨h.1,λi hi=>s _ _ (h.2 i hi)⟩
def Tups.nil(H):Tups H [] []:=⟨rfl,λi hi=>absurd hi (Qp _)⟩
def Tups.cons{H}{p}{T}{ps}{Ts}(h:H p=some (.tup (T.map V.str)))(r:Tups H ps Ts):Tups H (p::ps) (T::Ts):=by
 refine⟨by simp[r.1],λi hi=>?_⟩;cases i with
 | zero=>exact h
 | succ i=>exact r.2 i (by simpa using hi)
theorem Tups.app{H}:∀{ps qs:List Addr} {Ts Us:List (Zb)},Tups H ps Ts->Tups H qs Us->Tups H (ps++qs) (Ts++Us)
 | [],qs,Ts,Us,h,g=>by
  have:Ts=[]:=Pr.mp h.1.symm;rw[this];exact g
 | p::ps,qs,[],Us,h,g=>by have:=h.1;simp at this
 | p::ps,qs,T::Ts,Us,h,g=>by
  have r:Tups H ps Ts:=⟨by simpa using h.1,λi hi=>by simpa using h.2 (i+1) (by simpa using hi)⟩;exact Tups.cons (h.2 0 (by simp)) (Tups.app r g)
def Tups.mem{H}{ps}{Ts}(h:Tups H ps Ts){p}(hp:p∈ps):∃T∈Ts,H p=some (.tup (T.map V.str)):=by
 obtain⟨i,hi,rfl⟩:=Po.mp hp;have hi':i<Ts.length:=by rw[<-h.1];exact hi
 have:=h.2 i hi;have e1:ps.getD i 0=ps[i]:=by simp[List.getD,hi]
 have e2:Ts.getD i []=Ts[i]:=by simp[List.getD,hi']
 rw[e1,e2] at this;exact⟨_,Pa hi',this⟩
open PySem.W (KasT kas_asc kas_desc kas_rev kas_tail3 kas_descPart kas_count kas_place kas_bin kas_sort kas_ask kas_item kat_run kat_snds kat_kind kat_lt KatLex kat_cons kat_go kat_yes kat_no kat_one kat_nil KatTups)
def Bc {α : Type} (lt:Nat->Nat->Bool):KasT α -> α
 | .ret a=>a
 | .ask i j k=>Bc lt (k (lt i j))
theorem Gk{α β : Type}{lt}{f : α->KasT β}:∀t:KasT α,Bc lt (t.bind f)=Bc lt (f (Bc lt t))
 | .ret _=>rfl
 | .ask i j k=>Gk (k (lt i j))
theorem Nw{α : Type}{n}{lt}{P}{G}{s}{cmp}(hc:∀i j C,i<n->j<n->C (lt i j) s->cmp i j C s):
  ∀{t:KasT α},KAll n P t->G (Bc lt t) s->t.kasWp cmp G s
 | .ret a,_,h=>h
 | .ask i j k,h,g=>hc i j _ h.1 h.2.1 (Nw hc (h.2.2 _) g)
theorem KAll.run{α : Type}{n}{lt}{P}:∀{t:KasT α},KAll n P t->P (Bc lt t)
 | .ret a,h=>h
 | .ask i j k,h=>KAll.run (t:=k (lt i j)) (h.2.2 (lt i j))
structure Lin (n:Nat) (lt:Nat->Nat->Bool):Prop where
 irr:∀i,lt i i=false
 tr:∀i j k,lt i j=true->lt j k=true->lt i k=true
 tot:∀i j,i<n->j<n->i≠j->lt i j=true\/lt j i=true
section
variable {n:Nat}{lt:Nat->Nat->Bool}{p:Array Nat}
def Bx (lt:Nat->Nat->Bool) (p:Array Nat) (m:Nat):Prop:=∀i j,i<j->j<m->lt (p.getD i 0) (p.getD j 0)=true
def Xd9 (lt:Nat->Nat->Bool) (p:Array Nat) (m:Nat):Prop:=∀i j,i<j->j<m->lt (p.getD j 0) (p.getD i 0)=true
def Gd.size{p}(h:Gd n p):p.size=n:=by
 have:=h.size_eq;simpa using this
def Gd.inj{p}(h:Gd n p){i j}(hi:i<n)(hj:j<n)(ne:i≠j):p.getD i 0≠p.getD j 0:=λe=>by
 have sz:=h.size;have nd:p.toList.Nodup:=by
  have q:p.toList.Perm (List.range n):=by simpa using h.toList
  exact q.nodup_iff.mpr List.nodup_range
 have hi':i<p.toList.length:=by rw[O1,sz];exact hi
 have hj':j<p.toList.length:=by rw[O1,sz];exact hj
 have e1:p.getD i 0=p.toList[i]:=by simp[Array.getD,sz,hi]
 have e2:p.getD j 0=p.toList[j]:=by simp[Array.getD,sz,hj]
 rw[e1,e2] at e;exact ne ((Rw nd).mp e)
def Lin.flip(L:Lin n lt)(h:Gd n p){i j}(hi:i<n)(hj:j<n)(ne:i≠j)(e:lt (p.getD i 0) (p.getD j 0)=false):lt (p.getD j 0) (p.getD i 0)=true:=by
 have hn:0<n:=by omega
 rcases L.tot _ _ (h.lt hn i) (h.lt hn j) (h.inj hi hj ne) with z | z
 ·rw[z] at e;cases e
 ·exact z
theorem Nx(L:Lin n lt)(h:Gd n p):∀f m,1<=m->m+f<=n->Bx lt p m->m<=Bc lt (kas_asc p f m)/\Bc lt (kas_asc p f m)<=m+f/\Bx lt p (Bc lt (kas_asc p f m)) /\
  (Bc lt (kas_asc p f m)<m+f->lt (p.getD (Bc lt (kas_asc p f m)) 0) (p.getD (Bc lt (kas_asc p f m) - 1) 0)=true)
 | 0,m,_,_,so=>⟨Oj _,Oj _,so,λz=>absurd z (by show ¬m<m+0;omega)⟩
 | f+1,m,h1,hn,so=>by
  have e:Bc lt (kas_asc p (f+1) m)=Bc lt (if lt (p.getD m 0) (p.getD (m - 1) 0)=true then KasT.ret m else kas_asc p f (m+1)):=rfl;cases c:lt (p.getD m 0) (p.getD (m - 1) 0) with
  | true=>
   rw[e,c,Tg rfl];exact⟨Oj _,by show m<=_;omega,so,λ_=>c⟩
  | false=>
   rw[e,c,Tf (by decide)];have c':=L.flip h (by omega) (by omega) (by omega) c;obtain⟨a1,a2,a3,a4⟩:=Nx L h f (m+1) (by omega) (by omega) (λi j hij hj=>by
    by_cases hjm:j<m
    ·exact so i j hij hjm
    ·have:j=m:=by omega
     subst this;by_cases hi:i=j - 1
     ·subst hi;exact c'
     ·exact L.tr _ _ _ (so i (j - 1) (by omega) (by omega)) c')
   exact⟨by omega,by omega,a3,λz=>a4 (by omega)⟩
theorem Xea(L:Lin n lt)(h:Gd n p):∀f m,1<=m->m+f<=n->Xd9 lt p m->∃r,Bc lt (kas_desc f p m 0)=(p,r,0)/\m<=r/\r<=m+f/\Xd9 lt p r
 | 0,m,_,_,so=>⟨m,rfl,Oj _,Oj _,so⟩
 | f+1,m,h1,hn,so=>by
  have e:Bc lt (kas_desc (f+1) p m 0)=Bc lt (if lt (p.getD m 0) (p.getD (m - 1) 0)=true then (if 0 > 0 then kas_desc f (kas_rev p (m - (0+1)) m) (m+1) 0 else kas_desc f p (m+1) 0)
   else .ask (p.getD (m - 1) 0) (p.getD m 0) λd=>if d=true then .ret (p,m,0) else kas_desc f p (m+1) (0+1)):=rfl
  cases c:lt (p.getD m 0) (p.getD (m - 1) 0) with
  | true=>
   rw[e,c,Tg rfl,Tf (by omega)];obtain⟨r,a1,a2,a3,a4⟩:=Xea L h f (m+1) (by omega) (by omega) (λi j hij hj=>by
    by_cases hjm:j<m
    ·exact so i j hij hjm
    ·have:j=m:=by omega
     subst this;by_cases hi:i=j - 1
     ·subst hi;exact c
     ·exact L.tr _ _ _ c (so i (j - 1) (by omega) (by omega)))
   exact⟨r,a1,by omega,by omega,a4⟩
  | false=>
   rw[e,c,Tf (by decide)];have c':=L.flip h (by omega) (by omega) (by omega) c;refine⟨m,?_,Oj _,by omega,so⟩;show Bc lt (if lt (p.getD (m - 1) 0) (p.getD m 0)=true then _ else _)=_;rw[Tg c'];rfl
def Io(p:Array Nat)(i):p.getD i 0=(p[i]?).getD 0:=by simp
def Xeb{m}(hm:m<=p.size){i}(hi:i<m):(kas_rev p 0 m).getD i 0=p.getD (m - 1 - i) 0:=by
 rw[Io,Io];show ((mirror p 0 m ((m - 0) / 2))[i]?).getD 0=_;rw[getElem?_mirror_all hm,Tg (by omega)];congr 2;omega
def Xl0(L:Lin n lt)(h:Gd n p)(hn:1<=n):∃m p',Bc lt (kas_count n p)=(m,p')/\1<=m/\m<=n/\Gd n p'/\Bx lt p' m:=by
 have sz:=h.size;unfold kas_count;rw[Gk];obtain⟨a1,a2,a3,a4⟩:=Nx (lt:=lt) L h (n - 1) 1 (Oj _) (by omega) (λi j hij hj=>by omega);generalize Bc lt (kas_asc p (n - 1) 1)=r at *;by_cases e1:(r==n)=true
 ·rw[Tg e1];exact⟨r,p,rfl,a1,by omega,h,a3⟩
 ·rw[Tf e1];have rn:r≠n:=λz=>e1 (by rw[z];exact beq_self_eq_true _);by_cases e2:r > 1
  ·rw[Tg e2];refine⟨r,p,?_,a1,by omega,h,a3⟩;show Bc lt (if lt (p.getD 0 0) (p.getD (r - 1) 0)=true then _ else _)=_;rw[Tg (a3 0 (r - 1) (by omega) (by omega))];rfl
  ·rw[Tf e2];obtain rfl:r=1:=by omega
   have a4:=a4 (by omega);unfold kas_descPart;rw[Gk];obtain⟨r2,b1,b2,b3,b4⟩:=Xea (lt:=lt) L h (n - (1+1)) (1+1) (by omega) (by omega) (λi j hij hj=>by
    have:j=1:=by omega
    subst this;have:i=0:=by omega
    subst this;exact a4)
   rw[b1];dsimp only;rw[Tf (by omega)];unfold kas_tail3;rw[Gk];have hrv:=h.rev 0 r2;obtain⟨c1,c2,c3,_⟩:=Nx (lt:=lt) L hrv (n - r2) r2 (by omega) (by omega) (λi j hij hj=>by
    rw[Xeb (by omega) (by omega),Xeb (by omega) (by omega)];exact b4 _ _ (by omega) (by omega))
   exact⟨_,_,rfl,by omega,by omega,hrv,c3⟩
theorem Ny(L:Lin n lt)(h:Gd n p){k}(hk:k<n)(so:Bx lt p k):∀f l r,r - l<=f->l<=r->r<=k->(∀i,i<l->lt (p.getD i 0) (p.getD k 0)=true)->(∀i,r<=i->i<k->lt (p.getD k 0) (p.getD i 0)=true) ->
  Bc lt (kas_place p k f l r)<=k/\(∀i,i<Bc lt (kas_place p k f l r)->lt (p.getD i 0) (p.getD k 0)=true)/\(∀i,Bc lt (kas_place p k f l r)<=i->i<k->lt (p.getD k 0) (p.getD i 0)=true)
 | 0,l,r,hf,hlr,hr,hl,hg=>by
  have:l=r:=by omega
  subst this;exact⟨hr,hl,hg⟩
 | f+1,l,r,hf,hlr,hr,hl,hg=>by
  unfold kas_place;by_cases e:l ≥ r
  ·rw[Tg e];have:l=r:=by omega
   subst this;exact⟨hr,hl,hg⟩
  ·rw[Tf e];have e2:Bc lt (KasT.ask (p.getD k 0) (p.getD ((l+r) / 2) 0) λc=>if c=true then kas_place p k f l ((l+r) / 2) else kas_place p k f ((l+r) / 2+1) r)=Bc lt (if lt (p.getD k 0) (p.getD ((l+r) / 2) 0)=true then kas_place p k f l ((l+r) / 2) else kas_place p k f ((l+r) / 2+1) r):=rfl;rw[e2];have hm1:l<=(l+r) / 2:=by omega
   have hm2:(l+r) / 2<r:=by omega
   generalize (l+r) / 2=md at *;cases c:lt (p.getD k 0) (p.getD md 0) with
   | true=>
    rw[Tg rfl];refine Ny L h hk so f l md (by omega) (by omega) (by omega) hl λi h1 h2=>?_;by_cases e3:i=md
    ·rw[e3];exact c
    ·exact L.tr _ _ _ c (so md i (by omega) h2)
   | false=>
    rw[Tf (by decide)];have c':=L.flip h hk (by omega) (by omega) c;refine Ny L h hk so f (md+1) r (by omega) (by omega) hr (λi hi=>?_) hg;by_cases e3:i=md
    ·rw[e3];exact c'
    ·exact L.tr _ _ _ (so i md (by omega) (by omega)) c'
def Xec{k l}(hk:k<p.size)(hl:l<=k)(i):(bubble p k (k - l)).getD i 0=if i=l then p.getD k 0 else if l<i/\i<=k then p.getD (i - 1) 0 else p.getD i 0:=by
 simp only[Io];rw[getElem?_bubble hk _ (by omega),show k - (k - l)=l by omega];by_cases h1:i=l
 ·rw[Tg h1,Tg h1]
 ·rw[Tf h1,Tf h1];by_cases h2:l<i/\i<=k
  ·rw[Tg h2,Tg h2]
  ·rw[Tf h2,Tf h2]
theorem Xed(L:Lin n lt):∀f (p:Array Nat) k,Gd n p->k+f<=n->Bx lt p k->Bx lt (Bc lt (kas_bin f p k)) (k+f)
 | 0,p,k,_,_,so=>so
 | f+1,p,k,h,hk,so=>by
  have sz:=h.size;have e:Bc lt (kas_bin (f+1) p k)=Bc lt ((kas_place p k k 0 k).bind λl=>kas_bin f (bubble p k (k - l)) (k+1)):=rfl;rw[e,Gk];obtain⟨a1,a2,a3⟩:=Ny (lt:=lt) L h (k:=k) (by omega) so k 0 k (by omega) (by omega) (Oj _) (λi z=>absurd z (Qp _)) (λi h1 h2=>by omega);generalize Bc lt (kas_place p k k 0 k)=l at *;have:=Xed L f (bubble p k (k - l)) (k+1) ((bubble_perm p k _).trans h) (by omega) (λi j hij hj=>by
   rw[Xec (by omega) a1,Xec (by omega) a1];by_cases i1:i=l
   ·rw[Tg i1,Tf (by omega),Tg (by omega)];exact a3 _ (by omega) (by omega)
   ·rw[Tf i1];by_cases i2:l<i/\i<=k
    ·rw[Tg i2,Tf (by omega),Tg (by omega)];exact so _ _ (by omega) (by omega)
    ·rw[Tf i2];by_cases j1:j=l
     ·rw[Tg j1];exact a2 i (by omega)
     ·rw[Tf j1];by_cases j2:l<j/\j<=k
      ·rw[Tg j2];by_cases z:i=j - 1
       ·omega
       ·exact so _ _ (by omega) (by omega)
      ·rw[Tf j2];exact so _ _ hij (by omega))
  rw[show k+(f+1)=k+1+f by omega];exact this
def Xee(L:Lin n lt)(hn:0<n):Bx lt (Bc lt (kas_sort n)) n:=by
 unfold kas_sort;rw[Gk];obtain⟨m,p',e,h1,h2,h3,h4⟩:=Xl0 (lt:=lt) L (p:=List.toArray (List.range n)) (Sm _) hn;rw[e];dsimp only;by_cases hm:m<n
 ·rw[Tg hm];have:=Xed L (n - max m 1) p' (max m 1) h3 (by omega) (by rw[show max m 1=m by omega];exact h4)
  rwa [show max m 1+(n - max m 1)=n by omega] at this
 ·rw[Tf hm];have:m=n:=by omega
  subst this;exact h4
end
open PySem.W (KasT kas_asc kas_desc kas_rev kas_tail3 kas_descPart kas_count kas_place kas_bin kas_sort kas_ask kas_item kat_run kat_snds kat_kind kat_lt KatLex kat_cons kat_go kat_yes kat_no kat_one kat_nil KatTups)
def ltL:Zb->Zb->Bool
 | [],[]=>false
 | [],_::_=>true
 | _::_,[]=>false
 | x::a,y::b=>if x=y then ltL a b else decide (ltS x y)
theorem Ip:∀a,ltL a a=false
 | []=>rfl
 | x::a=>by
  show (if x=x then ltL a a else _)=false;rw[Tg rfl];exact Ip a
theorem Kl:∀a b c,ltL a b=true->ltL b c=true->ltL a c=true
 | [],[],c,h,_=>by cases h
 | [],_::_,[],_,g=>by cases g
 | [],_::_,_::_,_,_=>rfl
 | _::_,[],_,h,_=>by cases h
 | _::_,_::_,[],_,g=>by cases g
 | x::a,y::b,z::c,h,g=>by
  have h:(if x=y then ltL a b else decide (ltS x y))=true:=h;have g:(if y=z then ltL b c else decide (ltS y z))=true:=g;show (if x=z then ltL a c else decide (ltS x z))=true;by_cases e1:x=y
  ·subst e1;rw[Tg rfl] at h;by_cases e2:x=z
   ·rw[Tg e2] at g ⊢;exact Kl a b c h g
   ·rw[Tf e2] at g ⊢;exact g
  ·rw[Tf e1] at h;by_cases e2:y=z
   ·subst e2;rw[Tf e1];exact h
   ·rw[Tf e2] at g;have q:=Hr (Tj h) (Tj g);rw[Tf (Hs q)];exact Th q
theorem Nz:∀a b,a≠b->ltL a b=true\/ltL b a=true
 | [],[],n=>absurd rfl n
 | [],_::_,_=>.inl rfl
 | _::_,[],_=>.inr rfl
 | x::a,y::b,n=>by
  show (if x=y then ltL a b else decide (ltS x y))=true\/(if y=x then ltL b a else decide (ltS y x))=true;by_cases e:x=y
  ·subst e;rw[Tg rfl,Tg rfl];exact Nz a b λz=>n (by rw[z])
  ·rw[Tf e,Tf (λz=>e z.symm)];rcases Mo x y with z | z
   ·exact .inl (Th (ltS_of z e))
   ·exact .inr (Th (ltS_of z λq=>e q.symm))
def Xl1{Ts:List (Zb)}(nd:Ts.Nodup):Lin Ts.length λi j=>ltL (Ts.getD i []) (Ts.getD j []) where
 irr i:=Ip _
 tr i j k:=Kl _ _ _
 tot i j hi hj ne:=Nz _ _ λe=>ne (by
  have e1:Ts.getD i []=Ts[i]:=by simp[List.getD,hi]
  have e2:Ts.getD j []=Ts[j]:=by simp[List.getD,hj]
  rw[e1,e2] at e;exact(Rw nd).mp e)
def Xl2{Ts}{p}(g:Gd Ts.length p)(so:Bx (λi j=>ltL (Ts.getD i []) (Ts.getD j [])) p Ts.length):
  (p.toList.map λi=>Ts.getD i []).Perm Ts/\(p.toList.map λi=>Ts.getD i []).Pairwise λa b=>ltL a b=true:=by
 constructor
 ·have e:((List.range Ts.length).map λi=>Ts.getD i [])=Ts:=by
   refine Rx (by simp) λi h1 h2=>?_;simp[Q6,List.getElem_range,List.getD,h2]
  have q:p.toList.Perm (List.range Ts.length):=by
   have:=g.toList;simpa using this
  have:=q.map λi=>Ts.getD i [];rw[e] at this;exact this
 ·rw[Ra];intro i j hi hj hij;have sz:=g.size;rw[Oh,O1,sz] at hi hj;have:=so i j hij hj;rw[Q6,Q6];have e1:p.getD i 0=p.toList[i]'(by rw[O1,sz];exact hi):=by simp[Array.getD,sz,hi]
  have e2:p.getD j 0=p.toList[j]'(by rw[O1,sz];exact hj):=by simp[Array.getD,sz,hj]
  rw[e1,e2] at this;exact this
section
variable {prog:Program}{w:World}{A:Around}{E:Zc}{s:Shared}
theorem Xef{b fin}{C}:∀{us vs:List Value} {as bs:Zb} (i:Nat),StrsAre us as->StrsAre vs bs->fin=decide (as.length<bs.length)->C (ltL as bs) s->KatLex prog w A b fin C (us.zip vs) i s
 | _,_,_,_,_,.nil,.nil,hf,h=>kat_nil (by rw[hf];exact h)
 | _,_,_,_,_,.nil,.cons _ _ _,hf,h=>kat_nil (by rw[hf];exact h)
 | _,_,_,_,_,.cons _ _ _,.nil,hf,h=>kat_nil (by rw[hf];exact h)
 | _,_,_,_,i,.cons x t r,.cons y u r',hf,h=>by
  have h:C (if x=y then ltL _ _ else decide (ltS x y)) s:=h;refine kat_cons (eqBool_str ?_);refine kat_go (λe=>kat_yes (Xef (i+1) r r' ?_ ?_)) (λe=>kat_no ?_)
  ·rw[hf];simp
  ·rw[Tg (by simpa using e)] at h;exact h
  ·have e:¬x=y:=by simpa using e
   rw[Tf e] at h;cases (b&&i==0) with
   | true=>exact oneLt_str h
   | false=>exact kat_one _ _ (PyProof.Rows.lt_str h)
def Du (h:Heap) (v:Value) (ss:Zb):Prop:=∃a o xs n,v = .ref a/\h.get? a=some o/\o.cls = .type "tuple" /\ o.data = .seq xs n/\StrsAre xs.toList ss
def Xl3{b}{x y}{as bs}{C}(hx:Du s.heap x as)(hy:Du s.heap y bs)(h:C (ltL as bs) s):wpAny (model prog w) A (keyLt' (tuples' b) x y) C E s:=by
 obtain⟨a,o,xs,n,rfl,h1,_,h2,h3⟩:=hx;obtain⟨b,o',ys,n',rfl,g1,_,g2,g3⟩:=hy;refine kat_lt h1 h2 g1 g2 (Xef 0 h3 g3 ?_ h);have e1:=h3.length;have e2:=g3.length;rw[O1] at e1 e2;rw[e1,e2]
def Du.toS{h}{v}{ss}(t:Du h v ss)(n:ss≠[]):Xd7 h v:=by
 obtain⟨a,o,xs,k,e,h1,h2,h3,h4⟩:=t;exact⟨a,o,xs,k,ss,e,h1,h2,h3,h4,n⟩
def Du.kept{h h'}{v}{ss}(t:Du h v ss)(k:∀b o,o.cls = .type "tuple" -> h.get? b=some o->h'.get? b=some o):Du h' v ss:=by
 obtain⟨a,o,xs,n,e,h1,h2,h3,h4⟩:=t;exact⟨a,o,xs,n,e,k a o h2 h1,h2,h3,h4⟩
def Xeg (h:Heap) (vs:List Value) (Ts:List (Zb)):Prop:=vs.length=Ts.length/\∀i,i<vs.length->Du h (vs.getD i .none) (Ts.getD i [])
def Xl4{a}{vs}{Ts}{n}{P}(ho:s.heap.get? a=some (seqObj "list" vs.toArray n))(hv:Xeg s.heap vs Ts)(hne:[]∉Ts)(nd:Ts.Nodup)(h64:vs.length<64)
  (h:∀p:Array Nat,Gd vs.length p->Bx (λi j=>ltL (Ts.getD i []) (Ts.getD j [])) p vs.length->P (.done (.ret .none)) {s with heap:=sortedHeap s.heap a vs (p.toList.map λi=>vs.getD i Value.none).toArray}):
  wpAny (model prog w) A (Builtin.«list.sort» ⟨[.ref a],[]⟩) P E s:=by
 rw[list_sort_plain];have ha:a<s.heap.objs.size:=Tl ho;have L:=Xl1 nd;rw[<-hv.1] at L;have mem:∀i,i<vs.length->Ts.getD i []∈Ts:=λi hi=>by
  have hi':i<Ts.length:=by rw[<-hv.1];exact hi
  have:Ts.getD i []=Ts[i]:=by simp[List.getD,hi']
  rw[this];exact Pa hi'
 refine Ta (listItems_at ho rfl ?_);refine Ta (listUpdate_at ho rfl ?_);obtain⟨e1,ho1⟩:∃e1,(s.heap.update a (Obj.mapSeq λ_ => #[])).get? a=some (seqObj "list" #[] e1):=⟨_,get?_update_seq ho (λ_ => #[])⟩;refine Ta (seqEpoch_at ho1 rfl ?_);refine Ta (wpAny_newTuple ?_);refine Ta (wpAny_newList ?_);refine wpAny_holding ?_;have ho6:(((s.heap.update a (Obj.mapSeq λ_ => #[])).push (seqObj "tuple" vs.toArray 0)).push (seqObj "list" #[] 0)).get? a=some (seqObj "list" #[] e1):=by
  rw[Heap.get?_push_ne _ _ _ (by rw[size_push',Heap.size_update];exact Ow (Qb ha)),Heap.get?_push_ne _ _ _ (by rw[Heap.size_update];exact Ow ha)];exact ho1
 have hk6:∀b o,o.cls = .type "tuple" -> s.heap.get? b=some o->(((s.heap.update a (Obj.mapSeq λ_ => #[])).push (seqObj "tuple" vs.toArray 0)).push (seqObj "list" #[] 0)).get? b=some o:=λb o g2 g1=>by
  have hne:b≠a:=λe=>by
   rw[e,ho] at g1;have e1:=O0 g1;rw[<-e1] at g2;exact absurd (show Value.type "list" = Value.type "tuple" from g2) (by decide)
  exact Tm _ (Tm _ (by rw[Heap.get?_update_ne _ _ _ _ hne];exact g1))
 have hv6:∀i,i<vs.length->Du (((s.heap.update a (Obj.mapSeq λ_ => #[])).push (seqObj "tuple" vs.toArray 0)).push (seqObj "list" #[] 0)) (vs.getD i .none) (Ts.getD i []):=λi hi=>(hv.2 i hi).kept hk6;show wpAny (model prog w) A _ P E {s with heap:=((s.heap.update a (Obj.mapSeq λ_ => #[])).push (seqObj "tuple" vs.toArray 0)).push (seqObj "list" #[] 0)};dsimp only;have hsz:vs.toArray.size=vs.length:=by simp
 by_cases h2:vs.toArray.size<2
 ·rw[Tg h2,Tg h2];refine Ta (Tb ?_);rw[StateT.run_pure];refine Ta (Tb ?_);dsimp only;refine Ta (seqEpoch_at ho6 rfl ?_);refine Ta (listUpdate_at ho6 rfl ?_ (hsz2:=by rw[Array.size_map];show (pairsOf vs).size<=_;rw[pairsOf_size,Te];omega));simp only[bne_self_eq_false,P6,if_false];have q:=h (List.toArray (List.range vs.length)) (Sm _) (λi j hij hj=>by omega);refine Tb ?_;have e:(arrOf (SortSt.mk' general' (vs.toArray.zip vs.toArray) #[] 7 none)).map (·.2)=(((List.range vs.length).toArray).toList.map λi=>vs.getD i Value.none).toArray:=by
   show ((vs.toArray.zip vs.toArray).map (·.2))=_;apply Array.toList_inj.mp;simp only[Array.toList_map,List.zip_toArray];rw[List.map_snd_zip (Oj _)];refine Rx (by simp) λi h1 h2=>?_;simp[List.getD,h1]
  rw[e];exact q
 ·rw[Tf h2,Tf h2];obtain⟨fs,t1,t2,t3⟩:=Xd8 (s:={s with heap:=((s.heap.update a (Obj.mapSeq λ_ => #[])).push (seqObj "tuple" vs.toArray 0)).push (seqObj "list" #[] 0)}) (vs:=vs) λv hm=>by
   obtain⟨i,hi,rfl⟩:=Po.mp hm;have e:vs.getD i .none=vs[i]:=by simp[List.getD,hi]
   have:=hv6 i hi;rw[e] at this;exact Du.toS this λz=>hne (z ▸ mem i hi)
  refine Ta (kat_kind (T:=.type "str") t1 (by omega) (λv hm=>?_) (by decide) ?_)
  ·obtain⟨x,t,rfl⟩:=t3 v hm;exact .now
  have eb:((Value.type "str") != Value.type "tuple")=true:=by decide
  rw[eb];refine Ta (wpAny_mono (kat_run (κ:=tuples' true) (ks:=vs) (vs:=vs) (Q:=λst' s'=>s' = {s with heap:=((s.heap.update a (Obj.mapSeq λ_ => #[])).push (seqObj "tuple" vs.toArray 0)).push (seqObj "list" #[] 0)}/\failedOf st'=none/\∃p,Gd vs.length p/\Bx (λi j=>ltL (Ts.getD i []) (Ts.getD j [])) p vs.length/\(arrOf st').map (·.2)=(p.toList.map λi=>vs.getD i Value.none).toArray)
   (G:=λp s'=>s' = {s with heap:=((s.heap.update a (Obj.mapSeq λ_ => #[])).push (seqObj "tuple" vs.toArray 0)).push (seqObj "list" #[] 0)}/\Gd vs.length p/\Bx (λi j=>ltL (Ts.getD i []) (Ts.getD j [])) p vs.length) rfl (by omega) h64 (λp st' s' a1 a2 a3 a4=>⟨a4.1,a3,p,a4.2.1,a4.2.2,kat_snds rfl a2⟩) ?_) ?_ λ_ _ e=>e)
  ·refine Nw (n:=vs.length) (lt:=λi j=>ltL (Ts.getD i []) (Ts.getD j [])) (λi j C hi hj hC=>?_) (Kj (n:=vs.length) (by omega)) ⟨rfl,(Kj (n:=vs.length) (by omega)).run,Xee L (by omega)⟩;show wpAny _ _ (keyLt' (tuples' true) (vs.getD i Value.none) (vs.getD j Value.none)) C _ _;exact Xl3 (hv6 i hi) (hv6 j hj) hC
  rintro ⟨⟨⟩,st'⟩ s' ⟨rfl,hf,p,hp,so,ea⟩;dsimp only;refine Ta (seqEpoch_at ho6 rfl ?_);have hps:=hp.size;refine Ta (listUpdate_at ho6 rfl ?_ (hsz2:=by
   rw[ea,Ol,Oh,O1,hps,Te];omega))
  rw[hf];simp only[bne_self_eq_false,P6,if_false];rw[ea];exact Tb (h p hp so)
def Xl5{l}{vs}{Ts}{Q}(hl:s.heap.IsList l vs.toArray)(hv:Xeg s.heap vs Ts)(hne:[]∉Ts)(nd:Ts.Nodup)(h64:vs.length<64)
  (h:∀p:Array Nat,Gd vs.length p->Bx (λi j=>ltL (Ts.getD i []) (Ts.getD j [])) p vs.length->Q (.ref (s.heap.objs.size+1)) {s with heap:=sortedAll s.heap vs (p.toList.map λi=>vs.getD i Value.none).toArray}):
  wpAny (model prog w) A (call (.builtin "sorted") [.ref l]) Q E s:=by
 refine Calls.call_function_entry kind_sorted plain_sorted entry_sorted (args_sorted1 _) ?_;unfold Builtin.«sorted»;refine Ta (m:=checkCount "sorted" 1 1 _) (Tb ?_);refine Ta (collect_list hl ?_);refine Ta (wpAny_newList ?_);have hsz:((s.heap.push (seqObj "list" #[] 0)).update s.heap.objs.size (Obj.mapSeq (· ++ vs.toArray))).objs.size=s.heap.objs.size+1:=by
  rw[Heap.size_update,size_push']
 have hoL:(((s.heap.push (seqObj "list" #[] 0)).update s.heap.objs.size (Obj.mapSeq (· ++ vs.toArray))).push (seqObj "list" vs.toArray 0)).get? (s.heap.objs.size+1)=some (seqObj "list" vs.toArray 0):=by
  rw[<-hsz];exact Heap.get?_push_size _ rfl
 have keep:∀b o,s.heap.get? b=some o->(((s.heap.push (seqObj "list" #[] 0)).update s.heap.objs.size (Obj.mapSeq (· ++ vs.toArray))).push (seqObj "list" vs.toArray 0)).get? b=some o:=λb o q=>by
  have hlt:b<s.heap.objs.size:=Tl q;rw[Heap.get?_push_ne _ _ _ (by rw[hsz];exact Ow (Qb hlt)),Heap.get?_update_ne _ _ _ _ (Ow hlt),Heap.get?_push_ne _ _ _ (Ow hlt)];exact q
 show wpAny _ _ _ _ _ {s with heap:=((s.heap.push (seqObj "list" #[] 0)).update s.heap.objs.size (Obj.mapSeq (· ++ vs.toArray))).push (seqObj "list" vs.toArray 0)};rw[hsz];refine Ta (wpAny_holding (wpAny_call_entry slot_list_sort ⟨_,hoL,rfl⟩ entry_list_sort (Xl4 hoL ⟨hv.1,λi hi=>(hv.2 i hi).kept λb o _=>keep b o⟩ hne nd h64 λp a1 a2=>⟨_,rfl,?_⟩) (args_list_sort _)));exact Tb ⟨_,rfl,h p a1 a2⟩
end
section
variable {X:Cx}
def Xl6:Bv X (.builtin "sorted") (λxs H Q=>∃(a:Addr) (ps:List Addr) (Ts:List (Zb)),xs=[.ref a]/\H a=some (.lst (ps.map V.ref))/\Tups H ps Ts/\[]∉Ts/\Ts.Nodup/\ps.length<64 /\
  ∀l ps' Ts',H l=none->Tups H ps' Ts'->Ts'.Perm Ts->(Ts'.Pairwise λa b=>ltL a b=true)->Q (.ref l) (upd H l (.lst (ps'.map V.ref)))):=by
 intro pins s Z H xs us Q I r h;obtain⟨a,ps,Ts,rfl,ha,ht,hne,nd,h64,q⟩:=h;obtain⟨u,rfl,rx⟩:=Co r;cases rx;obtain⟨its,rv,pl,hz⟩:=I.list (SqL.of ha);have hits:its=ps.map Value.ref:=by
  clear ht h64 q hz pl ha
  induction ps generalizing its with
  | nil=>cases rv;rfl
  | cons p t ih=>
   cases rv with
   | cons r t'=>cases r;rw[ih _ t'];rfl
 subst hits;have hget:∀i,i<ps.length->(ps.map Value.ref).getD i .none = .ref (ps.getD i 0):=λi hi=>by simp[List.getD,hi]
 refine Xl5 pl.isList (Ts:=Ts) ⟨by rw[Oh];exact ht.1,λi hi=>?_⟩ hne nd (by rw[Oh];exact h64) λp h1 h2=>?_
 ·rw[Oh] at hi;obtain⟨its2,r2,p2,_⟩:=I.tuple (SqT.of (K:=X.K) (ht.2 i hi));obtain⟨o,ho,hc,n,hd⟩:=id p2;exact⟨ps.getD i 0,o,its2.toArray,n,hget i hi,ho,hc,hd,by simpa using Ga r2⟩
 ·rw[Oh] at h1 h2;obtain⟨e,he⟩:=sortedAll_at s.heap (ps.map Value.ref) (p.toList.map λi=>(ps.map Value.ref).getD i Value.none).toArray;have hf:H (s.heap.objs.size+1)=none:=I.hok.fresh (Qc _);have hps:=h1.size;have lt:∀i∈p.toList,i<ps.length:=λi hi=>by
   have q:p.toList.Perm (List.range ps.length):=by
    have:=h1.toList;simpa using this
   simpa using q.mem_iff.mp hi
  have eo:(p.toList.map λi=>(ps.map Value.ref).getD i Value.none)=(p.toList.map λi=>ps.getD i 0).map Value.ref:=by
   rw[Pj];exact P9 λi hi=>hget i (lt i hi)
  have hst:=Xl2 (Ts:=Ts) (by rw[<-ht.1];exact h1) (by rw[<-ht.1];exact h2);refine⟨.ref (s.heap.objs.size+1),_,I.laid (t':=s.toks) (h':=sortedAll s.heap (ps.map Value.ref) _) (o:=.lst ((p.toList.map λi=>ps.getD i 0).map V.ref)) (λb ob q=>sortedAll_old q) (Qc _) ?_,rfl,q _ _ (p.toList.map λi=>Ts.getD i []) hf ⟨by simp,λi hi=>?_⟩ hst.1 hst.2⟩
  ·refine⟨by rw[Oh,Oh,O1,hps,Te];omega,_,e,?_,he⟩;show Vals ((p.toList.map λi=>ps.getD i 0).map V.ref) (p.toList.map λi=>(ps.map Value.ref).getD i Value.none);rw[eo];generalize (p.toList.map λi=>ps.getD i 0)=z
   induction z with
   | nil=>exact .nil
   | cons p t ih=>exact .cons rfl ih
  ·rw[Oh] at hi;have g1:(p.toList.map λi=>ps.getD i 0).getD i 0=ps.getD (p.toList[i]) 0:=by rw[Oz,Ox,Oi hi];rfl
   have g2:(p.toList.map λi=>Ts.getD i []).getD i []=Ts.getD (p.toList[i]) []:=by rw[Oz,Ox,Oi hi];rfl
   rw[g1,g2];exact ht.2 _ (lt _ (Pa hi))
end
def Xl7(x y)(xs ys):ltL (x::xs) (y::ys)=if x=y then ltL xs ys else decide (ltS x y):=rfl
def Xl8:ltL [] []=false:=rfl
def Xl9(y)(ys):ltL [] (y::ys)=true:=rfl
def Xma(x)(xs):ltL (x::xs) []=false:=rfl
def Xmb(A)(s)(a)(t)(c)(u):∃e,SeqAt.EqAt A s (.str a t) (.str c u) e/\(e=true↔a=c):=
 ⟨(a==c),SeqAt.EqAt.str_str a t c u,by simp⟩
def Xmc(A)(s)(a)(t)(c)(u)(prog)(w)(E)(Q)(h:Q (.bool (decide (ltS a c))) s):
  wpAny (model prog w) A (richCompare .Lt (.str a t) (.str c u)) Q E s:=
 (PyProof.Rows.lt_str h:wpAny (model prog w) A (compareOp .Lt (.str a t) (.str c u)) Q E s)
section
open PySem.SeqAt
open PySem.AutoSeq1 (wpAny_loadPart')
open PySem.MeetsSeq PySem.MeetsSeq2 PySem.MeetsSeq3
def Xmd(l b)(items items2)(n n2)(dd dd2)(sl sl2)(ns ms)(hi:StrsAre items.toList ns)(hj:StrsAre items2.toList ms):
  Meets (Builtin.«tuple.__lt__» ⟨[.ref l,.ref b],[]⟩)
   (λ_ R s=>s.heap.get? l=some {cls:=.type "tuple",dict:=dd,data:=.seq items n,slots:=sl}/\s.heap.get? b=some {cls:=.type "tuple",dict:=dd2,data:=.seq items2 n2,slots:=sl2} /\
    R (.ok (.ret (.bool (ltL ns ms)))) s):=
 .of_wp λprog w A R s h=>by
  obtain⟨hp,g,d,tk,os⟩:=s;obtain⟨hl,hb,h⟩:=h;have f2:=AutoSeq1.sub_tuple_tuple;have z1:items.size=ns.length:=by rw[<-hi.length];simp
  have z2:items2.size=ms.length:=by rw[<-hj.length];simp
  wp_walk using wpAny_loadPart' hl,wpAny_loadPart' hb,wpAny_forIn_list _ (λrest b s'=>b.1=none/\s'=⟨hp,g,d,tk,os⟩/\∃(vs ws:List Value) (ns' ms':Zb),rest=vs.zip ws /\
   StrsAre vs ns'/\StrsAre ws ms'/\ns'.length+items2.size=ms'.length+items.size/\R (.ok (.ret (.bool (ltL ns' ms')))) ⟨hp,g,d,tk,os⟩) _
  case turn=>
   rintro ⟨y,x⟩ rest b s' ⟨hb',rfl,vs,ws,ns',ms',hz,hvi,hwi,hlen,hR⟩;cases hvi with
   | nil=>rw[List.zip_nil_left] at hz;cases hz
   | cons a t hvi'=>
    cases hwi with
    | nil=>rw[List.zip_nil_right] at hz;cases hz
    | cons c u hwi'=>
     rw[List.zip_cons_cons] at hz;injection hz with hyx hrest
     injection hyx with hy hx
     subst hy hx;rw[Xl7] at hR;simp only[Pe] at hlen;obtain⟨e,he,hiff⟩:=Xmb A.in1 ⟨hp,g,d,tk,os⟩ a t c u;refine Ta (he prog w _ _ ?_);cases e with
     | true=>
      rw[Tg (hiff.mp rfl)] at hR
      wp_walk
      exact⟨rfl,rfl,_,_,_,_,hrest,hvi',hwi',by omega,hR⟩
     | false=>
      rw[Tf (λq=>absurd (hiff.mpr q) O3)] at hR;have hri:=Xmc A.in1 ⟨hp,g,d,tk,os⟩ a t c u prog w
      wp_walk using hri
      exact⟨_,rfl,by simpa using hR⟩
  case fin=>
   rintro ⟨b1,b2⟩ s' ⟨hb',rfl,vs,ws,ns',ms',hz,hvi,hwi,hlen,hR⟩;simp only at hb';subst hb';have hv:ltL ns' ms'=decide (items.size<items2.size):=by
    cases hvi with
    | nil=>
     cases hwi with
     | nil=>
      simp only[Qn] at hlen;rw[Xl8];exact(Ti (by omega)).symm
     | cons c u hw=>
      simp only[Qn,Pe] at hlen;rw[Xl9];exact(Th (by omega)).symm
    | cons a t hv=>
     cases hwi with
     | nil=>
      simp only[Qn,Pe] at hlen;rw[Xma];exact(Ti (by omega)).symm
     | cons c u hw=>
      rw[List.zip_cons_cons] at hz;cases hz
   rw[hv] at hR
   wp_walk
   exact⟨_,rfl,by simpa [Builtin.Tuple.tupleCompareSizes] using hR⟩
  case h=>
   exact⟨rfl,rfl,items.toList,items2.toList,ns,ms,rfl,hi,hj,by omega,h⟩
end
open PySem.W (KasT kas_sort kas_ask kas_item kat_run kat_snds kat_kind kat_lt KatLex kat_cons kat_go kat_yes kat_no kat_one kat_nil KatTups)
section
variable {prog:Program}{w:World}{A:Around}{E:Zc}{s:Shared}
def Xme{l b}{items items2}{ns ms}{Q}(hl:IsTup s.heap l items)(hb:IsTup s.heap b items2)(hi:StrsAre items.toList ns)(hj:StrsAre items2.toList ms)
  (hu:A.units<cLine) (h:Q (.bool (ltL ns ms)) s):wpAny (model prog w) A (compareOp .Lt (.ref l) (.ref b)) Q E s:=by
 obtain⟨⟨cls,dd,data,sl⟩,ho,hc,n,hd⟩:=id hl;obtain⟨⟨cls2,dd2,data2,sl2⟩,ho2,hc2,n2,hd2⟩:=id hb;simp only at hc hd hc2 hd2;subst hc hd hc2 hd2;exact richCompare_meets_room (op:=.Lt) ⟨_,ho,rfl⟩ ⟨_,ho2,rfl⟩ PySem.F.slot_tuple_lt PySem.F.entry_tuple_lt (PySem.F.args_tuple_lt_2 _ _) (Xmd l b items items2 n n2 dd dd2 sl sl2 ns ms hi hj)
  ⟨ho,ho2,show Value.bool (ltL ns ms)≠Value.notImplemented/\Q (.bool (ltL ns ms)) s from ⟨(λx=>nomatch x),h⟩⟩ hu
def Cv (n:Nat) (a:Zb) (m:Nat) (b:Zb):Bool:=if n=m then ltL a b else decide (n<m)
def Xeh{vs}{ss}(h:StrsAre vs ss):ItemsAre (Be prog w) (ss.map Sum.inr) vs:=by
 induction h with
 | nil=>exact .nil
 | cons x t r ih=>exact .cons (show Ec (.inr x) (.str x t)=true by simp[Ec,Value.isStrOf]) ih
def Iq (h:Heap) (v:Value) (n:Nat) (ss:Zb):Prop:=∃a o xs k t u,v = .ref a/\h.get? a=some o/\o.cls = .type "tuple" /\ o.data = .seq xs k/\xs.toList=[.int n t,u]/\Du h u ss
def Xmf{x y}{n m}{as bs}{C}(hu:A.units<cLine)(hx:Iq s.heap x n as)(hy:Iq s.heap y m bs)(h:C (Cv n as m bs) s):wpAny (model prog w) A (keyLt' (tuples' true) x y) C E s:=by
 obtain⟨a,o,xs,k,t,u,rfl,h1,h2,h3,h4,h5⟩:=hx;obtain⟨b,o',ys,k',t',u',rfl,g1,g2,g3,g4,g5⟩:=hy;refine kat_lt h1 h3 g1 g3 ?_;rw[h4,g4];have ef:decide (xs.size<ys.size)=false:=by
  have e1:xs.size=2:=by rw[<-O1,h4];rfl
  have e2:ys.size=2:=by rw[<-O1,g4];rfl
  rw[e1,e2];decide
 rw[ef];show KatLex prog w A true false C [(.int n t,.int m t'),(u,u')] 0 s;unfold Cv at h;refine kat_cons (wpAny_eqBool_int ?_);refine kat_go (λe=>kat_yes ?_) (λe=>kat_no ?_)
 ·have e:n=m:=by have:=Tj e;omega
  rw[Tg e] at h;obtain⟨c,oc,cs,kc,rfl,c1,c2,c3,c4⟩:=h5;obtain⟨d,od,ds,kd,rfl,d1,d2,d3,d4⟩:=g5;refine kat_cons (wpAny_eqBool_tuple (knd:=Be prog w) hu ⟨oc,cs,kc,c1,c2,c3,Xeh c4⟩ ⟨od,ds,kd,d1,d2,d3,Xeh d4⟩ ?_);refine kat_go (λe2=>kat_yes (kat_nil ?_)) (λe2=>kat_no ?_)
  ·have e2:as=bs:=by
    have:=Tj e2;exact Sv (λ_ _ q=>Qt q) |>.mp this
   rw[e2,Ip] at h;exact h
  ·exact kat_one _ _ (Xme ⟨oc,c1,c2,kc,c3⟩ ⟨od,d1,d2,kd,d3⟩ c4 d4 hu h)
 ·have e:¬n=m:=λz=>by
   have:=Tk e;omega
  rw[Tf e] at h;refine oneLt_int ?_;have:decide ((n:Int)<(m:Int))=decide (n<m):=by simp
  rw[this];exact h
end
open PySem.W (KasT kas_sort kas_ask kas_item kat_run kat_snds kat_kind KatTups)
section
variable {X:Cx}{pins:List (Addr×Obj)}{Z:List (Option V)}{H:Hp}{s:Shared}
def Inv.unpin{p}(I:Inv X (p::pins) Z H s):Inv X pins Z H s:=
 I.pins_of λq hq=>I.pin q (Ph _ (Ot _ hq))
def Xmg{D}{e1}{ys}{out}(I:Inv X ((D,seqObj "list" #[] e1)::pins) Z H s)(hD:X.s₀.heap.objs.size<=D)(hnp:∀p∈X.pn++pins,p.1≠D)(hv:Vals ys out)(hz:ys.length<=sizeLine):
  Inv X pins Z (upd H D (.lst ys)) {s with heap:=s.heap.update D (Obj.mapSeq λ_=>out.toArray)}:=by
 obtain⟨hg,hn,hl,hf,_⟩:=I.pin (D,seqObj "list" #[] e1) (Ph _ Os);have J:=I.unpin;have sb:=Tn s.heap D (Obj.mapSeq λ_=>out.toArray);obtain⟨c2,hc2⟩:∃c2,(s.heap.update D (Obj.mapSeq λ_=>out.toArray)).get? D=some (seqObj "list" out.toArray c2):=⟨_,get?_update_seq hg λ_=>out.toArray⟩;have kp:∀b o,b≠D->s.heap.get? b=some o->(s.heap.update D (Obj.mapSeq λ_=>out.toArray)).get? b=some o:=λb o n e=>(sb.2 b n).trans e;have nD:∀b u,H b=some u->b≠D:=λb u e z=>by rw[z,hn] at e;cases e
 have up:∀b u,H b=some u->(upd H D (.lst ys)) b=some u:=λb u e=>by rw[Ad (nD b u e)];exact e
 refine J.step (g':=s.gens) (d':=s.drawn) (t':=s.toks) (ch:=[D]) (λb hb=>?_) (λb o _ _ hc e _=>kp b o (λz=>hc (by rw[z];exact Qj _)) e) (λb o _ _ hc e _=>⟨o.slots,kp b o (λz=>hc (by rw[z];exact Qj _)) e⟩)
  (λb o hc e n=>?_) (λb o hc e=>⟨o,kp b o (λz=>hc (by rw[z];exact Qj _)) e⟩) (λb xs e=>up b _ e) (λb o u e=>up b _ e) (λb pz e=>⟨#[],by rw[up b _ e];simp⟩) (λm hm=>hm.sameBut sb (Ne.symm hl)) ?_ J.bare
 ·rw[Om.mp hb];refine⟨.inr hD,hl,λx c e z=>?_,λp hp=>hnp p hp⟩;obtain⟨v,o,ho,hd⟩:=J.cell x c e;rw[z,hg] at ho;cases ho;cases hd
 ·rw[Ad (λz=>hc (by rw[z];exact Qj _))];exact n
 ·intro b u e;by_cases z:b=D
  ·subst z;rw[Ab] at e;cases e;exact⟨hz,out,c2,hv,hc2⟩
  ·rw[Ad z] at e;refine(J.hok b u e).stay (λd v hd g=>kp d v ?_ g) (λd g=>up d _ g) λd xs g=>up d _ g;rcases hd with rfl | hd
   ·exact z
   ·exact nD d _ hd
end
abbrev SM:=StateT SortSt Sem
def Dk:Bool->Keyed->Array Keyed->Nat->Nat->Nat->SM (Option Nat):=sortPriv% PySem.Builtin.gallop
def bey (l:Bool) (k:Keyed) (c:Array Keyed) (i:Nat):SM (Option Bool):=do
 let x <-elem' c i
 if l then lt' x k else
  let r <-lt' k x
  return r.map (!·)
def Km (l:Bool) (k:Keyed) (c:Array Keyed) (b n u0 v0:Nat):SM (Option Nat):=do
 let mut u:=u0
 let mut v:=v0
 for _ in [0:n] do
  if u ≥ v then break
  let q:=u+(v - u) / 2
  let some m <-bey l k c (b+q) | return none
  if m then u:=q+1 else v:=q
 return some v
def Xmh(l:Bool)(k:Keyed)(c:Array Keyed)(b n h:Nat):Dk l k c b n h=(do
  let some r <-bey l k c (b+h) | return none
  if r then
   let mut la:=0
   let mut o:=1
   for _ in [0:n] do
    if o ≥ n - h then break
    let some m <-bey l k c (b+(h+o)) | return none
    if !m then break
    la:=o
    o:=2 * o+1
   Km l k c b n (h+la+1) (h+min o (n - h))
  else
   let mut la:=0
   let mut o:=1
   for _ in [0:n] do
    if o ≥ h+1 then break
    let some m <-bey l k c (b+(h - o)) | return none
    if m then break
    la:=o
    o:=2 * o+1
   Km l k c b n (h+1 - min o (h+1)) (h - la)):=rfl
open PySem.W (kas_item kas_cmp)
structure CmS (prog:Program) (w:World) (A:Around) (s:Shared) (κ : SortKind) (it:Array Keyed) (n:Nat) (lt:Nat->Nat->Bool):Prop where
 L:Lin n lt
 c:∀i j (C:Bool->Shared->Prop),i<n->j<n->C (lt i j) s->kas_cmp prog w A κ it i j C s
def Fk (it:Array Keyed) (l:List Nat):Array Keyed:=(l.map (kas_item it)).toArray
section
variable {prog:Program}{w:World}{A:Around}{E:Zc}{s:Shared}{κ : SortKind}{it:Array Keyed}{n:Nat}{lt:Nat->Nat->Bool}
def Ir(hc:CmS prog w A s κ it n lt){x y}(hx:x<n)(hy:y<n){st}(hk:kindOf st = κ){Q}(h:Q (some (lt x y)) st):wpS (model prog w) A E s (lt' (kas_item it x) (kas_item it y)) Q st:=by
 rw[lt'_eq];refine Tc (wpS_get ?_);rw[hk];refine Tc (wpS_lift (wpAny_attempt (wpAny_mono (hc.c x y (λb s'=>s'=s/\b=lt x y) hx hy ⟨rfl,rfl⟩) (λb s' e=>?_) λ_ _ hF=>hF.elim)));obtain⟨rfl,rfl⟩:=e;exact⟨rfl,Td h⟩
def Bs{l}{i x}(hi:l[i]? = some x){st}{Q}(h:Q (kas_item it x) st):wpS (model prog w) A E s (elem' (Fk it l) i) Q st:=by
 rw[elem'_eq];have e:(Fk it l)[i]? = some (kas_item it x):=by
  unfold Fk;rw[Qq,Ox,hi];rfl
 rw[e];exact Td h
def beyB (lt:Nat->Nat->Bool) (l:Bool) (k x:Nat):Bool:=if l then lt x k else !lt k x
def Gm(hc:CmS prog w A s κ it n lt){l}{left}{k i x}(hi:l[i]? = some x)(hx:x<n)(hk:k<n){st}(hks:kindOf st = κ){Q}(h:Q (some (beyB lt left k x)) st):wpS (model prog w) A E s (bey left (kas_item it k) (Fk it l) i) Q st:=by
 unfold bey;refine Tc (Bs hi ?_);cases left with
 | true=>
  rw[Tg rfl];exact Ir hc hx hk hks h
 | false=>
  rw[Tf (by decide)];exact Tc (Ir hc hk hx hks (Td h))
structure Mono (m:Nat) (P:Nat->Bool):Prop where
 dn:∀i j,i<j->j<m->P j=true->P i=true
def Mono.up{m}{P}(M:Mono m P){i j}(h:i<=j)(hj:j<m)(e:P i=false):P j=false:=by
 by_cases z:i=j
 ·rw[<-z];exact e
 ·cases q:P j with
  | false=>rfl
  | true=>rw[M.dn i j (by omega) hj q] at e;cases e
def Gn{left}{key}{arr}{b m h}{P}{st}(M:Mono m P)(hh:h<m)
  (ask:∀i,i<m->∀Q:Option Bool->SortSt->Prop,Q (some (P i)) st->wpS (model prog w) A E s (bey left key arr (b+i)) Q st)
  {Q} (hq:∀r,r<=m->(∀i,i<r->P i=true)->(∀i,r<=i->i<m->P i=false)->Q (some r) st):wpS (model prog w) A E s (Dk left key arr b m h) Q st:=by
 rw[Xmh];have last:∀(u v:Nat),u<=v->v<=m->(∀i,i<u->P i=true)->(∀i,v<=i->i<m->P i=false) ->
   wpS (model prog w) A E s (Km left key arr b m u v) Q st:=by
  intro u v huv hv hu hvv;unfold Km;refine Tc (wpS_mono (wpS_forRange (I:=λx c st'=>st'=st/\∃u v,c=(none,u,v)/\u<=v/\v<=m/\v - u<=m - x/\(∀i,i<u->P i=true)/\(∀i,v<=i->i<m->P i=false)) (Q:=λc st'=>st'=st/\∃u,c=(none,u,u)/\u<=m/\(∀i,i<u->P i=true)/\(∀i,u<=i->i<m->P i=false)) ?step ?fin ⟨rfl,u,v,rfl,huv,hv,by omega,hu,hvv⟩) ?post)
  case fin=>
   rintro c st' ⟨rfl,u,v,rfl,h1,h2,h3,h4,h5⟩;have:u=v:=by omega
   subst this;exact⟨rfl,u,rfl,h2,h4,h5⟩
  case step=>
   rintro x c st' _ hx ⟨rfl,u,v,rfl,h1,h2,h3,h4,h5⟩;dsimp only;by_cases e:u ≥ v
   ·rw[Tg e];have:u=v:=by omega
    subst this;exact Td ⟨rfl,u,rfl,h2,h4,h5⟩
   ·rw[Tf e];refine Tc (ask _ (by omega) _ ?_);dsimp only;cases q:P (u+(v - u) / 2) with
    | true=>
     rw[Tg rfl];refine Td ⟨rfl,_,v,rfl,by omega,h2,by omega,λi hi=>?_,h5⟩;by_cases z:i=u+(v - u) / 2
     ·rw[z];exact q
     ·exact M.dn i _ (by omega) (by omega) q
    | false=>
     rw[Tf (by decide)];refine Td ⟨rfl,u,_,rfl,by omega,by omega,by omega,h4,λi hi hm=>M.up hi hm q⟩
  case post=>
   rintro c st' ⟨rfl,u,rfl,h2,h4,h5⟩;exact Td (hq u h2 h4 h5)
 refine Tc (ask h hh _ ?_);dsimp only;cases q:P h with
 | true=>
  rw[Tg rfl];refine Tc (wpS_mono (wpS_forRange (I:=λx c st'=>st'=st/\∃la o,c=(none,la,o)/\P (h+la)=true/\h+la<m/\la<o/\x+1<=o) (Q:=λc st'=>st'=st/\∃la o,c=(none,la,o)/\P (h+la)=true/\h+la<m/\la<o/\(h+min o (m - h)<m->P (h+min o (m - h))=false)) ?step ?fin ⟨rfl,0,1,rfl,q,hh,by omega,by omega⟩) ?post)
  case fin=>
   rintro c st' ⟨rfl,la,o,rfl,h1,h2,h3,h4⟩;exact⟨rfl,la,o,rfl,h1,h2,h3,λz=>by omega⟩
  case step=>
   rintro x c st' _ hx ⟨rfl,la,o,rfl,h1,h2,h3,h4⟩;dsimp only;by_cases e:o ≥ m - h
   ·rw[Tg e];exact Td ⟨rfl,la,o,rfl,h1,h2,h3,λz=>by omega⟩
   ·rw[Tf e];refine Tc (ask _ (by omega) _ ?_);dsimp only;cases q2:P (h+o) with
    | true=>exact Td ⟨rfl,o,2 * o+1,rfl,q2,by omega,by omega,by omega⟩
    | false=>exact Td ⟨rfl,la,o,rfl,h1,h2,h3,λz=>by rw[show min o (m - h)=o by omega];exact q2⟩
  case post=>
   rintro c st' ⟨rfl,la,o,rfl,h1,h2,h3,h4⟩;dsimp only;refine last (h+la+1) (h+min o (m - h)) (by omega) (by omega) (λi hi=>?_) (λi hi hm=>M.up hi hm (h4 (by omega)));by_cases z:i=h+la
   ·rw[z];exact h1
   ·exact M.dn i _ (by omega) h2 h1
 | false=>
  rw[Tf (by decide)];refine Tc (wpS_mono (wpS_forRange (I:=λx c st'=>st'=st/\∃la o,c=(none,la,o)/\P (h - la)=false/\la<=h/\la<o/\x+1<=o) (Q:=λc st'=>st'=st/\∃la o,c=(none,la,o)/\P (h - la)=false/\la<=h/\la<o/\(o<h+1->P (h - o)=true)) ?step ?fin ⟨rfl,0,1,rfl,q,by omega,by omega,by omega⟩) ?post)
  case fin=>
   rintro c st' ⟨rfl,la,o,rfl,h1,h2,h3,h4⟩;exact⟨rfl,la,o,rfl,h1,h2,h3,λz=>by omega⟩
  case step=>
   rintro x c st' _ hx ⟨rfl,la,o,rfl,h1,h2,h3,h4⟩;dsimp only;by_cases e:o ≥ h+1
   ·rw[Tg e];exact Td ⟨rfl,la,o,rfl,h1,h2,h3,λz=>by omega⟩
   ·rw[Tf e];refine Tc (ask _ (by omega) _ ?_);dsimp only;cases q2:P (h - o) with
    | true=>exact Td ⟨rfl,la,o,rfl,h1,h2,h3,λz=>q2⟩
    | false=>exact Td ⟨rfl,o,2 * o+1,rfl,q2,by omega,by omega,by omega⟩
  case post=>
   rintro c st' ⟨rfl,la,o,rfl,h1,h2,h3,h4⟩;dsimp only;refine last (h+1 - min o (h+1)) (h - la) (by omega) (by omega) (λi hi=>?_) (λi hi hm=>M.up hi hm h1);have ho:o<h+1:=by omega
   have:=h4 ho;rw[show min o (h+1)=o by omega] at hi;by_cases z:i=h - o
   ·rw[z];exact this
   ·exact M.dn i _ (by omega) (by omega) this
end
open PySem.W (kas_item kas_cmp)
def mLo:Array Keyed->Array Keyed->SM (Array Keyed):=sortPriv% PySem.Builtin.mergeLo
def D9:Nat->SM Unit:=sortPriv% PySem.Builtin.setMinGallop
def Xmi(g):D9 g=modify λst=>SortSt.mk' (kindOf st) (arrOf st) (pendingOf st) g (failedOf st):=rfl
def dnL (a b o:Array Keyed) (i j:Nat):Array Keyed:=o++a.extract i a.size++b.extract j b.size
def lsL (a b o:Array Keyed) (i j:Nat):Array Keyed:=o++b.extract j b.size++a.extract i a.size
abbrev MTO:=Option (Array Keyed)×Array Keyed×Nat×Nat×Nat
abbrev MTI:=Option (Array Keyed)×Array Keyed×Nat×Nat×Nat×Nat
abbrev MTG:=Option (Array Keyed)×Array Keyed×Nat×Nat×Nat×Nat×Nat
def N0 (a b:Array Keyed) (g:Nat) (d:MTI):SM (ForInStep MTI):=do
 let y <-elem' b d.2.2.2.1
 let x <-elem' a d.2.2.1
 let r <-lt' y x
 match r with
 | some c=>
  if c=true then do
   let y <-elem' b d.2.2.2.1
   if (d.2.2.2.1+1==b.size)=true then pure (.done (some (dnL a b (d.2.1.push y) d.2.2.1 (d.2.2.2.1+1)),d.2.1.push y,d.2.2.1,d.2.2.2.1+1,0,d.2.2.2.2.2+1))
   else if d.2.2.2.2.2+1 ≥ g then pure (.done (none,d.2.1.push y,d.2.2.1,d.2.2.2.1+1,0,d.2.2.2.2.2+1))
   else pure (.yield (none,d.2.1.push y,d.2.2.1,d.2.2.2.1+1,0,d.2.2.2.2.2+1))
  else do
   let x <-elem' a d.2.2.1
   if (d.2.2.1+1+1==a.size)=true then pure (.done (some (lsL a b (d.2.1.push x) (d.2.2.1+1) d.2.2.2.1),d.2.1.push x,d.2.2.1+1,d.2.2.2.1,d.2.2.2.2.1+1,0))
   else if d.2.2.2.2.1+1 ≥ g then pure (.done (none,d.2.1.push x,d.2.2.1+1,d.2.2.2.1,d.2.2.2.2.1+1,0))
   else pure (.yield (none,d.2.1.push x,d.2.2.1+1,d.2.2.2.1,d.2.2.2.2.1+1,0))
 | _=>pure (.done (some (dnL a b d.2.1 d.2.2.1 d.2.2.2.1),d.2.1,d.2.2.1,d.2.2.2.1,d.2.2.2.2.1,d.2.2.2.2.2))
def gV3 (a b o:Array Keyed) (i j g p q:Nat):SM (ForInStep MTG):=do
 let x <-elem' a i
 if (i+1+1==a.size)=true then pure (.done (some (lsL a b (o.push x) (i+1) j),o.push x,i+1,j,g,p,q))
 else if (decide (p<7)&&decide (q<7))=true then pure (.done (none,o.push x,i+1,j,g,p,q))
 else pure (.yield (none,o.push x,i+1,j,g,p,q))
def gV2 (a b o:Array Keyed) (i j g p q:Nat):SM (ForInStep MTG):=do
 let y <-elem' b j
 if (j+1==b.size)=true then pure (.done (some (dnL a b (o.push y) i (j+1)),o.push y,i,j+1,g,p,q))
 else do
  let x <-elem' a i
  let r <-Dk true x b (j+1) (b.size - (j+1)) 0
  match r with
  | some k=>
   if k > 0 then
    if (j+1+k==b.size)=true then pure (.done (some (dnL a b (o.push y++b.extract (j+1) (j+1+k)) i (j+1+k)),o.push y++b.extract (j+1) (j+1+k),i,j+1+k,g,p,k))
    else gV3 a b (o.push y++b.extract (j+1) (j+1+k)) i (j+1+k) g p k
   else gV3 a b (o.push y) i (j+1) g p k
  | _=>pure (.done (some (dnL a b (o.push y) i (j+1)),o.push y,i,j+1,g,p,q))
def gV1 (a b o:Array Keyed) (i j g p q:Nat):SM (ForInStep MTG):=do
 D9 g
 let y <-elem' b j
 let r <-Dk false y a i (a.size - i) 0
 match r with
 | some k=>
  if k > 0 then
   if (i+k+1==a.size)=true then pure (.done (some (lsL a b (o++a.extract i (i+k)) (i+k) j),o++a.extract i (i+k),i+k,j,g,k,q))
   else if (i+k==a.size)=true then pure (.done (some (dnL a b (o++a.extract i (i+k)) (i+k) j),o++a.extract i (i+k),i+k,j,g,k,q))
   else gV2 a b (o++a.extract i (i+k)) (i+k) j g k q
  else gV2 a b o i j g k q
 | _=>pure (.done (some (dnL a b o i j),o,i,j,g,p,q))
def Kn (a b:Array Keyed) (c:MTO):SM (ForInStep MTO):=do
 let d <-forIn [0:a.size+b.size] ((none,c.2.1,c.2.2.1,c.2.2.2.1,0,0):MTI) λ_ d=>N0 a b c.2.2.2.2 d
 match d.1 with
 | some r=>pure (.done (some r,d.2.1,d.2.2.1,d.2.2.2.1,c.2.2.2.2))
 | none=>do
  liftM (rule "list.sort.gallop")
  let e <-forIn [0:a.size+b.size] ((none,d.2.1,d.2.2.1,d.2.2.2.1,c.2.2.2.2+1,d.2.2.2.2.1,d.2.2.2.2.2):MTG) λ_ e=>
   if e.2.2.2.2.1 > 1 then gV1 a b e.2.1 e.2.2.1 e.2.2.2.1 (e.2.2.2.2.1 - 1) e.2.2.2.2.2.1 e.2.2.2.2.2.2 else gV1 a b e.2.1 e.2.2.1 e.2.2.2.1 e.2.2.2.2.1 e.2.2.2.2.2.1 e.2.2.2.2.2.2
  match e.1 with
  | some r=>pure (.done (some r,e.2.1,e.2.2.1,e.2.2.2.1,e.2.2.2.2.1))
  | none=>do
   D9 (e.2.2.2.2.1+1)
   pure (.yield (none,e.2.1,e.2.2.1,e.2.2.2.1,e.2.2.2.2.1+1))
def Xmj(a b:Array Keyed):mLo a b=(do
  liftM (rule "list.sort.merge-lo")
  let x0 <-elem' b 0
  let mut o:Array Keyed := #[x0]
  let mut i:=0
  let mut j:=1
  if j==b.size then return dnL a b o i j
  if i+1==a.size then return lsL a b o i j
  let mut g:=gallopOf (<-get)
  for _ in [0:a.size+b.size] do
   let mut p:=0
   let mut q:=0
   for _ in [0:a.size+b.size] do
    let some c <-lt' (<-elem' b j) (<-elem' a i) | return dnL a b o i j
    if c then
     o:=o.push (<-elem' b j)
     j:=j+1
     q:=q+1
     p:=0
     if j==b.size then return dnL a b o i j
     if q ≥ g then break
    else
     o:=o.push (<-elem' a i)
     i:=i+1
     p:=p+1
     q:=0
     if i+1==a.size then return lsL a b o i j
     if p ≥ g then break
   liftM (rule "list.sort.gallop")
   g:=g+1
   for _ in [0:a.size+b.size] do
    if g > 1 then g:=g - 1
    D9 g
    let some k <-Dk false (<-elem' b j) a i (a.size - i) 0 | return dnL a b o i j
    p:=k
    if k > 0 then
     o:=o++a.extract i (i+k)
     i:=i+k
     if i+1==a.size then return lsL a b o i j
     if i==a.size then return dnL a b o i j
    o:=o.push (<-elem' b j)
    j:=j+1
    if j==b.size then return dnL a b o i j
    let some k <-Dk true (<-elem' a i) b j (b.size - j) 0 | return dnL a b o i j
    q:=k
    if k > 0 then
     o:=o++b.extract j (j+k)
     j:=j+k
     if j==b.size then return dnL a b o i j
    o:=o.push (<-elem' a i)
    i:=i+1
    if i+1==a.size then return lsL a b o i j
    if p<7&&q<7 then break
   g:=g+1
   D9 g
  unsupported "internal:list.sort.merge-bound"):=rfl
def Xmk(a b:Array Keyed):mLo a b=(do
  liftM (rule "list.sort.merge-lo")
  let x0 <-elem' b 0
  if (1==b.size)=true then pure (dnL a b #[x0] 0 1)
  else if (0+1==a.size)=true then pure (lsL a b #[x0] 0 1)
  else do
   let st <-get
   let c <-forIn [0:a.size+b.size] ((none, #[x0],0,1,gallopOf st):MTO) λ_ c=>Kn a b c
   match c.1 with
   | some r=>pure r
   | none=>unsupported "internal:list.sort.merge-bound"):=by
 rw[Xmj];congr 1;funext _u;congr 1;funext x0;dsimp only;congr 1;congr 1;congr 1;funext st;congr 1
 ·congr 1;funext _x c;unfold Kn;congr 1;funext d;obtain⟨r,d⟩:=d;cases r with
  | some r=>rfl
  | none=>
   dsimp only;congr 1;funext _v;congr 1;funext e;obtain⟨r,e⟩:=e;cases r<;>rfl
 ·funext c;obtain⟨r,c⟩:=c;cases r<;>rfl
open PySem.W (kas_item kas_cmp)
section
variable {it:Array Keyed}
def Iu(l)(x):(Fk it l).push (kas_item it x)=Fk it (l++[x]):=by
 unfold Fk;rw[List.push_toArray,Oq];rfl
def Dv(l m):Fk it l++Fk it m=Fk it (l++m):=by
 unfold Fk;rw[List.append_toArray,Oq]
def Ea(l)(i j):(Fk it l).extract i j=Fk it ((l.drop i).take (j - i)):=by
 unfold Fk;rw[List.extract_toArray,Sh,Si]
def B3(l):(Fk it l).size=l.length:=by
 unfold Fk;rw[Ol,Oh]
def Iv(la lb lo)(i j):dnL (Fk it la) (Fk it lb) (Fk it lo) i j=Fk it (lo++la.drop i++lb.drop j):=by
 unfold dnL;rw[Ea,Ea,B3,B3,Dv,Dv,P0 (by rw[Pk];exact Oj _),P0 (by rw[Pk];exact Oj _)]
def Ko(la lb lo)(i j):lsL (Fk it la) (Fk it lb) (Fk it lo) i j=Fk it (lo++lb.drop j++la.drop i):=by
 unfold lsL;rw[Ea,Ea,B3,B3,Dv,Dv,P0 (by rw[Pk];exact Oj _),P0 (by rw[Pk];exact Oj _)]
end
structure Two (lt:Nat->Nat->Bool) (n:Nat) (la lb:List Nat):Prop where
 L:Lin n lt
 an:∀x∈la,x<n
 bn:∀x∈lb,x<n
 dj:∀x∈la,∀y∈lb,x≠y
 sa:la.Pairwise λx y=>lt x y=true
 sb:lb.Pairwise λx y=>lt x y=true
structure MI (lt:Nat->Nat->Bool) (la lb lo:List Nat) (i j:Nat):Prop where
 so:lo.Pairwise λx y=>lt x y=true
 pm:lo.Perm (la.take i++lb.take j)
 ba:∀x∈lo,∀y∈la.drop i,lt x y=true
 bb:∀x∈lo,∀y∈lb.drop j,lt x y=true
section
variable {lt:Nat->Nat->Bool}{n:Nat}{la lb lo:List Nat}{i j k:Nat}
def Two.flip(T:Two lt n la lb){x y}(hx:x∈la)(hy:y∈lb)(h:lt y x=false):lt x y=true:=by
 rcases T.L.tot x y (T.an x hx) (T.bn y hy) (T.dj x hx y hy) with z | z
 ·exact z
 ·rw[z] at h;cases h
def drop_split(l:List Nat)(i k):l.drop i=(l.drop i).take k++l.drop (i+k):=by
 rw[<-List.drop_drop,Pf]
def take_split(l:List Nat)(i k):l.take (i+k)=l.take i++(l.drop i).take k:=by
 rw[List.take_add]
def MI.chA(T:Two lt n la lb)(m:MI lt la lb lo i j)(h:∀x∈(la.drop i).take k,∀y∈lb.drop j,lt x y=true):MI lt la lb (lo++(la.drop i).take k) (i+k) j:=by
 have sp:=drop_split la i k;have sd:=T.sa.sublist (Ql i la);rw[sp] at sd;obtain⟨s1,s2,s3⟩:=Pc.mp sd;refine⟨Pc.mpr ⟨m.so,s1,λx hx y hy=>m.ba x hx y (Pp hy)⟩,?_,λx hx y hy=>?_,λx hx y hy=>?_⟩
 ·rw[take_split];refine(m.pm.append_right _).trans ?_;rw[Pg,Pg];exact P8 _ Qr
 ·rcases Op.mp hx with z | z
  ·exact m.ba x z y (by rw[sp];exact Ph _ hy)
  ·exact s3 x z y hy
 ·rcases Op.mp hx with z | z
  ·exact m.bb x z y hy
  ·exact h x z y hy
def MI.chB(T:Two lt n la lb)(m:MI lt la lb lo i j)(h:∀x∈(lb.drop j).take k,∀y∈la.drop i,lt x y=true):MI lt la lb (lo++(lb.drop j).take k) i (j+k):=by
 have sp:=drop_split lb j k;have sd:=T.sb.sublist (Ql j lb);rw[sp] at sd;obtain⟨s1,s2,s3⟩:=Pc.mp sd;refine⟨Pc.mpr ⟨m.so,s1,λx hx y hy=>m.bb x hx y (Pp hy)⟩,?_,λx hx y hy=>?_,λx hx y hy=>?_⟩
 ·rw[take_split,<-Pg];exact m.pm.append_right _
 ·rcases Op.mp hx with z | z
  ·exact m.ba x z y hy
  ·exact h x z y hy
 ·rcases Op.mp hx with z | z
  ·exact m.bb x z y (by rw[sp];exact Ph _ hy)
  ·exact s3 x z y hy
def Xei(la lb)(h:lo.Perm (la.take i++lb.take j)):(lo++la.drop i++lb.drop j).Perm (la++lb):=by
 refine((h.append_right _).append_right _).trans ?_;rw[Pg,Pg];have e:la++lb=la.take i++(la.drop i++(lb.take j++lb.drop j)):=by rw[Pf,<-Pg,Pf]
 rw[e];refine P8 _ ?_;rw[<-Pg,<-Pg];exact Qr.append_right _
def Mrg (lt:Nat->Nat->Bool) (la lb r:List Nat):Prop:=r.Perm (la++lb)/\r.Pairwise λx y=>lt x y=true
def MI.endB(T:Two lt n la lb)(m:MI lt la lb lo i j)(h:∀x∈la.drop i,∀y∈lb.drop j,lt x y=true):Mrg lt la lb (lo++la.drop i++lb.drop j):=by
 refine⟨Xei la lb m.pm,Pc.mpr ⟨Pc.mpr ⟨m.so,T.sa.sublist (Ql ..),m.ba⟩,T.sb.sublist (Ql ..),λx hx y hy=>?_⟩⟩;rcases Op.mp hx with z | z
 ·exact m.bb x z y hy
 ·exact h x z y hy
def MI.endA(T:Two lt n la lb)(m:MI lt la lb lo i j)(h:∀x∈lb.drop j,∀y∈la.drop i,lt x y=true):Mrg lt la lb (lo++lb.drop j++la.drop i):=by
 refine⟨?_,Pc.mpr ⟨Pc.mpr ⟨m.so,T.sb.sublist (Ql ..),m.bb⟩,T.sa.sublist (Ql ..),λx hx y hy=>?_⟩⟩
 ·refine List.Perm.trans ?_ (Xei la lb m.pm);rw[Pg,Pg];exact P8 _ Qr
 ·rcases Op.mp hx with z | z
  ·exact m.ba x z y hy
  ·exact h x z y hy
def Gp{l:List Nat}(L:Lin n lt)(so:l.Pairwise λx y=>lt x y=true){x z}(hz:l[i]? = some z)(h:lt x z=true):∀y∈l.drop i,lt x y=true:=by
 intro y hy;obtain⟨hi,e⟩:=Oy.mp hz;rw[Rb hi,e] at hy;have sd:=so.sublist (Ql i l);rw[Rb hi,e] at sd;rcases O2.mp hy with q | q
 ·rw[q];exact h
 ·exact L.tr _ _ _ h (List.rel_of_pairwise_cons sd q)
end
section
variable {lt:Nat->Nat->Bool}{n:Nat}{la lb lo:List Nat}{i j k:Nat}
def Bj{l:List Nat}(h:i<l.length):l[i]? = some (l.getD i 0):=by
 rw[Oz,Oi h];rfl
def B4{l:List Nat}(h:i<l.length):l.getD i 0∈l:=Qk (Bj h)
def Dw{l:List Nat}(h:i<l.length):(l.drop i).take 1=[l.getD i 0]:=by
 rw[Rb h];show [l[i]]=_;rw[Oz,Oi h];rfl
def Kp{l:List Nat}(h:i+1=l.length):l.drop i=[l.getD (l.length - 1) 0]:=by
 have hi:i<l.length:=by omega
 rw[Rb hi,Qd (by omega),show l.length - 1=i by omega,Oz,Oi hi];rfl
def Dl{l:List Nat}{x}(h:x∈(l.drop i).take k):∃t,t<k/\i+t<l.length/\x=l.getD (i+t) 0:=by
 obtain⟨t,ht,e⟩:=Po.mp h;rw[Ov,Pk] at ht;rw[R9,S5] at e;have hl:i+t<l.length:=by omega
 exact⟨t,by omega,hl,by rw[<-e,Oz,Oi hl];rfl⟩
def Gq{l:List Nat}{R}(h:l.Pairwise R){a b}(hab:a<b)(hb:b<l.length):R (l.getD a 0) (l.getD b 0):=by
 have:=Ra.mp h a b (by omega) hb hab
 rwa [show l.getD a 0=l[a] by rw[Oz,Oi (show a<l.length by omega)];rfl,show l.getD b 0=l[b] by rw[Oz,Oi hb];rfl]
def MI.nil:MI lt la lb [] 0 0:=⟨.nil,.nil,λ_ h=>(nomatch h),λ_ h=>(nomatch h)⟩
end
structure SG (st0 st:SortSt):Prop where
 k:kindOf st=kindOf st0
 a:arrOf st=arrOf st0
 p:pendingOf st=pendingOf st0
 f:failedOf st=failedOf st0
def RsI {τ : Type} (it:Array Keyed) (lt:Nat->Nat->Bool) (la lb:List Nat) (c:Option (Array Keyed)×Array Keyed×Nat×Nat × τ):Prop:=∃res,c.1=some (Fk it res)/\Mrg lt la lb res
def NxI {τ : Type} (it:Array Keyed) (lt:Nat->Nat->Bool) (la lb:List Nat) (m:Nat) (c:Option (Array Keyed)×Array Keyed×Nat×Nat × τ):Prop:=∃lo i j t,c=(none,Fk it lo,i,j,t)/\MI lt la lb lo i j/\i+1<la.length/\j<lb.length/\m<i+j
def StI {τ : Type} (it:Array Keyed) (lt:Nat->Nat->Bool) (la lb:List Nat) (m:Nat) (r:ForInStep (Option (Array Keyed)×Array Keyed×Nat×Nat × τ)):Prop:=match r with
 | .done c=>RsI it lt la lb c\/NxI it lt la lb m c
 | .yield c=>NxI it lt la lb m c
def StO {τ : Type} (it:Array Keyed) (lt:Nat->Nat->Bool) (la lb:List Nat) (m:Nat) (r:ForInStep (Option (Array Keyed)×Array Keyed×Nat×Nat × τ)):Prop:=match r with
 | .done c=>RsI it lt la lb c
 | .yield c=>NxI it lt la lb m c
def NxI.mono{τ : Type}{it}{lt}{la lb}{m m'}{c:Option (Array Keyed)×Array Keyed×Nat×Nat × τ}(h:NxI it lt la lb m c)(hm:m'<=m):NxI it lt la lb m' c:=by
 obtain⟨lo,i,j,t,e,a1,a2,a3,a4⟩:=h;exact⟨lo,i,j,t,e,a1,a2,a3,by omega⟩
section
variable {prog:Program}{w:World}{A:Around}{E:Zc}{s:Shared}{κ : SortKind}{it:Array Keyed}{n:Nat}{lt:Nat->Nat->Bool}{la lb lo:List Nat}{i j k g p q:Nat}{st0 st:SortSt}
def wS_setG{Q}(sg:SG st0 st)(h:∀st',SG st0 st'->Q () st'):wpS (model prog w) A E s (D9 g) Q st:=by
 rw[Xmi];exact wpS_modify (h _ ⟨sg.k,sg.a,sg.p,sg.f⟩)
def Xml(hc:CmS prog w A s κ it n lt)(T:Two lt n la lb)(top:∀x∈lb,lt x (la.getD (la.length - 1) 0)=true)(hk:kindOf st0 = κ)(sg:SG st0 st)(m:MI lt la lb lo i j)(hi:i+1<la.length)(hj:j<lb.length)
  {Q} (h:∀r,StI it lt la lb (i+j) r->Q r st):wpS (model prog w) A E s (N0 (Fk it la) (Fk it lb) g (none,Fk it lo,i,j,p,q)) Q st:=by
 unfold N0;dsimp only;have hi':i<la.length:=by omega
 have ea:=Bj hi';have eb:=Bj hj;have ma:=B4 hi';have mb:=B4 hj;refine Tc (Bs eb (Tc (Bs ea (Tc (Ir hc (T.bn _ mb) (T.an _ ma) (sg.k.trans hk) ?_)))));dsimp only;cases c:lt (lb.getD j 0) (la.getD i 0) with
 | true=>
  rw[Tg rfl];refine Tc (Bs eb ?_);rw[Iu,Iv,B3];have m':=MI.chB (k:=1) T m (by rw[Dw hj];intro x hx y hy;rw[Om.mp hx];exact Gp T.L T.sa ea c y hy);rw[Dw hj] at m';by_cases e:(j+1==lb.length)=true
  ·rw[Tg e];have e':j+1=lb.length:=by simpa using e
   exact Td (h _ (.inl ⟨_,rfl,m'.endB T (by rw[Qd (by omega:lb.length<=j+1)];intro _ _ y hy;cases hy)⟩))
  ·rw[Tf e];have e':j+1≠lb.length:=by simpa using e
   by_cases e2:q+1 ≥ g
   ·rw[Tg e2];exact Td (h _ (.inr ⟨_,_,_,_,rfl,m',hi,by omega,by omega⟩))
   ·rw[Tf e2];exact Td (h _ ⟨_,_,_,_,rfl,m',hi,by omega,by omega⟩)
 | false=>
  rw[Tf (by decide)];have c':=T.flip ma mb c;refine Tc (Bs ea ?_);rw[Iu,Ko,B3];have m':=MI.chA (k:=1) T m (by rw[Dw hi'];intro x hx y hy;rw[Om.mp hx];exact Gp T.L T.sb eb c' y hy);rw[Dw hi'] at m';by_cases e:(i+1+1==la.length)=true
  ·rw[Tg e];have e':i+1+1=la.length:=by simpa using e
   exact Td (h _ (.inl ⟨_,rfl,m'.endA T (by rw[Kp e'];intro x hx y hy;rw[Om.mp hy];exact top x (Pq hx))⟩))
  ·rw[Tf e];have e':i+1+1≠la.length:=by simpa using e
   by_cases e2:p+1 ≥ g
   ·rw[Tg e2];exact Td (h _ (.inr ⟨_,_,_,_,rfl,m',by omega,hj,by omega⟩))
   ·rw[Tf e2];exact Td (h _ ⟨_,_,_,_,rfl,m',by omega,hj,by omega⟩)
def Xej(T:Two lt n la lb)(top:∀x∈lb,lt x (la.getD (la.length - 1) 0)=true)(m:MI lt la lb lo i j)(hi:i+1<la.length)(hj:j<lb.length)(c:lt (la.getD i 0) (lb.getD j 0)=true){m0}(hm:m0<=i+j)
  {Q} (h:∀r,StI it lt la lb m0 r->Q r st):wpS (model prog w) A E s (gV3 (Fk it la) (Fk it lb) (Fk it lo) i j g p q) Q st:=by
 unfold gV3;have hi':i<la.length:=by omega
 refine Tc (Bs (Bj hi') ?_);rw[Iu,Ko,B3];have m':=MI.chA (k:=1) T m (by rw[Dw hi'];intro x hx y hy;rw[Om.mp hx];exact Gp T.L T.sb (Bj hj) c y hy);rw[Dw hi'] at m';by_cases e:(i+1+1==la.length)=true
 ·rw[Tg e];have e':i+1+1=la.length:=by simpa using e
  exact Td (h _ (.inl ⟨_,rfl,m'.endA T (by rw[Kp e'];intro x hx y hy;rw[Om.mp hy];exact top x (Pq hx))⟩))
 ·rw[Tf e];have e':i+1+1≠la.length:=by simpa using e
  by_cases e2:(decide (p<7)&&decide (q<7))=true
  ·rw[Tg e2];exact Td (h _ (.inr ⟨_,_,_,_,rfl,m',by omega,hj,by omega⟩))
  ·rw[Tf e2];exact Td (h _ ⟨_,_,_,_,rfl,m',by omega,hj,by omega⟩)
def Xek(hc:CmS prog w A s κ it n lt)(T:Two lt n la lb)(top:∀x∈lb,lt x (la.getD (la.length - 1) 0)=true)(hk:kindOf st0 = κ)(sg:SG st0 st)(m:MI lt la lb lo i j)(hi:i+1<la.length)(hj:j<lb.length)(c:lt (lb.getD j 0) (la.getD i 0)=true){m0}(hm:m0<=i+j)
  {Q} (h:∀r,StI it lt la lb m0 r->Q r st):wpS (model prog w) A E s (gV2 (Fk it la) (Fk it lb) (Fk it lo) i j g p q) Q st:=by
 unfold gV2;have hi':i<la.length:=by omega
 have ea:=Bj hi';have ma:=B4 hi';refine Tc (Bs (Bj hj) ?_);rw[Iu,Iv,B3];have m':=MI.chB (k:=1) T m (by rw[Dw hj];intro x hx y hy;rw[Om.mp hx];exact Gp T.L T.sa ea c y hy);rw[Dw hj] at m';by_cases e:(j+1==lb.length)=true
 ·rw[Tg e];have e':j+1=lb.length:=by simpa using e
  exact Td (h _ (.inl ⟨_,rfl,m'.endB T (by rw[Qd (by omega:lb.length<=j+1)];intro _ _ y hy;cases hy)⟩))
 rw[Tf e];have e':j+1≠lb.length:=by simpa using e
 refine Tc (Bs ea ?_);refine Tc (Gn (P:=λt=>lt (lb.getD (j+1+t) 0) (la.getD i 0)) ⟨λa b hab hb e=>?_⟩ (by omega) (λt ht Q' hq=>?_) λr hr hlo hhi=>?_)
 ·exact T.L.tr _ _ _ (Gq T.sb (by omega) (by omega)) e
 ·exact Gm hc (Bj (by omega)) (T.bn _ (B4 (by omega))) (T.an _ ma) (sg.k.trans hk) (left:=true) hq
 dsimp only;by_cases hr0:r > 0
 ·rw[Tg hr0,Ea,Dv,Iv,show j+1+r - (j+1)=r by omega];have m2:=MI.chB (k:=r) T m' (λx hx y hy=>by
   obtain⟨t,h1,h2,rfl⟩:=Dl hx;exact Gp T.L T.sa ea (hlo t h1) y hy)
  by_cases e3:(j+1+r==lb.length)=true
  ·rw[Tg e3];have e3':j+1+r=lb.length:=by simpa using e3
   exact Td (h _ (.inl ⟨_,rfl,m2.endB T (by rw[Qd (by omega:lb.length<=j+1+r)];intro _ _ y hy;cases hy)⟩))
  ·rw[Tf e3];have e3':j+1+r≠lb.length:=by simpa using e3
   have hjr:j+1+r<lb.length:=by omega
   exact Xej T top m2 hi hjr (T.flip ma (B4 hjr) (hhi r (Oj _) (by omega))) (by omega) h
 ·rw[Tf hr0];have hz:=hhi 0 (by omega) (by omega);exact Xej T top m' hi (by omega) (T.flip ma (B4 (by omega)) hz) (by omega) h
def Xel(hc:CmS prog w A s κ it n lt)(T:Two lt n la lb)(top:∀x∈lb,lt x (la.getD (la.length - 1) 0)=true)(hk:kindOf st0 = κ)(sg:SG st0 st)(m:MI lt la lb lo i j)(hi:i+1<la.length)(hj:j<lb.length)
  {Q} (h:∀r st',SG st0 st'->StI it lt la lb (i+j) r->Q r st'):wpS (model prog w) A E s (gV1 (Fk it la) (Fk it lb) (Fk it lo) i j g p q) Q st:=by
 unfold gV1;refine Tc (wS_setG sg λst' sg'=>?_);have eb:=Bj hj;have mb:=B4 hj;refine Tc (Bs eb ?_);rw[B3];refine Tc (Gn (P:=λt => !lt (lb.getD j 0) (la.getD (i+t) 0)) ⟨λa b hab hb e=>?_⟩ (by omega) (λt ht Q' hq=>?_) λr hr hlo hhi=>?_)
 ·have e:lt (lb.getD j 0) (la.getD (i+b) 0)=false:=by simpa using e
  cases q:lt (lb.getD j 0) (la.getD (i+a) 0) with
  | false=>rfl
  | true=>
   have:=T.L.tr _ _ _ q (Gq T.sa (show i+a<i+b by omega) (by omega));rw[this] at e;cases e
 ·exact Gm hc (Bj (by omega)) (T.an _ (B4 (by omega))) (T.bn _ mb) (sg'.k.trans hk) (left:=false) hq
 dsimp only;have tp:=top _ mb;have hr1:r<la.length - i:=by
  rcases Nat.lt_or_ge r (la.length - i) with z | z
  ·exact z
  ·have:=hlo (la.length - 1 - i) (by omega);rw[show i+(la.length - 1 - i)=la.length - 1 by omega,tp] at this;cases this
 have hnx:lt (lb.getD j 0) (la.getD (i+r) 0)=true:=by
  have:=hhi r (Oj _) hr1;simpa using this
 by_cases hr0:r > 0
 ·rw[Tg hr0,Ea,Dv,Iv,Ko,show i+r - i=r by omega];have m2:=MI.chA (k:=r) T m (λx hx y hy=>by
   obtain⟨t,h1,h2,rfl⟩:=Dl hx;have:=hlo t h1;exact Gp T.L T.sb eb (T.flip (B4 h2) mb (by simpa using this)) y hy)
  by_cases e3:(i+r+1==la.length)=true
  ·rw[Tg e3];have e3':i+r+1=la.length:=by simpa using e3
   exact Td (h _ _ sg' (.inl ⟨_,rfl,m2.endA T (by rw[Kp e3'];intro x hx y hy;rw[Om.mp hy];exact top x (Pq hx))⟩))
  ·rw[Tf e3];have e3':i+r+1≠la.length:=by simpa using e3
   have e4:¬(i+r==la.length)=true:=by
    simp;omega
   rw[Tf e4];exact Xek hc T top hk sg' m2 (by omega) hj hnx (by omega) λr' hr'=>h r' _ sg' hr'
 ·rw[Tf hr0];have:r=0:=by omega
  subst this;exact Xek hc T top hk sg' m hi hj hnx (Oj _) λr' hr'=>h r' _ sg' hr'
def Xmm(hc:CmS prog w A s κ it n lt)(T:Two lt n la lb)(top:∀x∈lb,lt x (la.getD (la.length - 1) 0)=true)(hk:kindOf st0 = κ)(sg:SG st0 st)(m:MI lt la lb lo i j)(hi:i+1<la.length)(hj:j<lb.length)
  {Q} (h:∀r st',SG st0 st'->StO it lt la lb (i+j) r->Q r st'):wpS (model prog w) A E s (Kn (Fk it la) (Fk it lb) (none,Fk it lo,i,j,g)) Q st:=by
 unfold Kn;dsimp only;rw[B3,B3];refine Tc (wpS_mono (wpS_forRange (I:=λx c st'=>SG st0 st'/\∃lo' i' j' t,c=(none,Fk it lo',i',j',t)/\MI lt la lb lo' i' j'/\i'+1<la.length/\j'<lb.length/\i+j+x<=i'+j') (Q:=λc st'=>SG st0 st'/\(RsI it lt la lb c\/NxI it lt la lb (i+j) c)) ?step ?fin ⟨sg,lo,i,j,_,rfl,m,hi,hj,Oj _⟩) ?post)
 case fin=>
  rintro c st' ⟨sg',lo',i',j',t,rfl,m',h1,h2,h3⟩;exact⟨sg',.inr ⟨lo',i',j',t,rfl,m',h1,h2,by omega⟩⟩
 case step=>
  rintro x c st' _ hx ⟨sg',lo',i',j',t,rfl,m',h1,h2,h3⟩;refine Xml hc T top hk sg' m' h1 h2 λr hr=>?_;cases r with
  | done c=>
   rcases hr with z | z
   ·exact⟨sg',.inl z⟩
   ·exact⟨sg',.inr (z.mono (by omega))⟩
  | yield c=>
   obtain⟨lo2,i2,j2,t2,e,a1,a2,a3,a4⟩:=hr;exact⟨sg',lo2,i2,j2,t2,e,a1,a2,a3,by omega⟩
 case post=>
  rintro ⟨r,o1,i1,j1,p1,q1⟩ st1 ⟨sg1,z⟩;rcases z with ⟨res,e,mr⟩ | ⟨lo1,i2,j2,t,e,m1,a1,a2,a3⟩
  ·obtain rfl:r=some (Fk it res):=e;exact Td (h _ _ sg1 ⟨res,rfl,mr⟩)
  ·cases e;dsimp only;refine Tc (wpS_lift (wpAny_rule ⟨rfl,?_⟩));refine Tc (wpS_mono (wpS_forRange (I:=λx c st'=>SG st0 st'/\NxI it lt la lb (i+j) c) (Q:=λc st'=>SG st0 st'/\(RsI it lt la lb c\/NxI it lt la lb (i+j) c)) ?step ?fin ⟨sg1,lo1,i1,j1,_,rfl,m1,a1,a2,a3⟩) ?post)
   case fin=>exact λc st' z=>⟨z.1,.inr z.2⟩
   case step=>
    rintro x c st' _ hx ⟨sg',lo',i',j',⟨g',p',q'⟩,rfl,m',h1,h2,h3⟩;dsimp only;have go:∀(r:ForInStep MTG) st'',SG st0 st''->StI it lt la lb (i'+j') r->(match r with
     | .done c'=>SG st0 st''/\(RsI it lt la lb c'\/NxI it lt la lb (i+j) c')
     | .yield c'=>SG st0 st''/\NxI it lt la lb (i+j) c'):=λr st'' sg'' hr=>by
     cases r with
     | done c=>
      rcases hr with z | z
      ·exact⟨sg'',.inl z⟩
      ·exact⟨sg'',.inr (z.mono (by omega))⟩
     | yield c=>exact⟨sg'',NxI.mono hr (by omega)⟩
    by_cases e:g' > 1
    ·rw[Tg e];exact Xel hc T top hk sg' m' h1 h2 λr st'' s1 s2=>by have:=go r st'' s1 s2;cases r<;>exact this
    ·rw[Tf e];exact Xel hc T top hk sg' m' h1 h2 λr st'' s1 s2=>by have:=go r st'' s1 s2;cases r<;>exact this
   case post=>
    rintro ⟨r,o2,i2,j2,g2,p2,q2⟩ st2 ⟨sg2,z⟩;rcases z with ⟨res,e,mr⟩ | ⟨lo2,i3,j3,t,e,m2,b1,b2,b3⟩
    ·obtain rfl:r=some (Fk it res):=e;exact Td (h _ _ sg2 ⟨res,rfl,mr⟩)
    ·cases e;dsimp only;exact Tc (wS_setG sg2 λst3 sg3=>Td (h _ _ sg3 ⟨lo2,i2,j2,_,rfl,m2,b1,b2,b3⟩))
def Xmn(hc:CmS prog w A s κ it n lt)(T:Two lt n la lb)(ha:1<=la.length)(hb:1<=lb.length)(h0:∀y∈la,lt (lb.getD 0 0) y=true)(top:∀x∈lb,lt x (la.getD (la.length - 1) 0)=true)
  (hk:kindOf st = κ) {Q} (h:∀res st',Mrg lt la lb res->SG st st'->Q (Fk it res) st'):wpS (model prog w) A E s (mLo (Fk it la) (Fk it lb)) Q st:=by
 rw[Xmk];have sg0:SG st st:=⟨rfl,rfl,rfl,rfl⟩;refine Tc (wpS_lift (wpAny_rule ⟨rfl,?_⟩));have hb':0<lb.length:=hb;refine Tc (Bs (Bj hb') ?_);have e0:(#[kas_item it (lb.getD 0 0)]:Array Keyed)=Fk it [lb.getD 0 0]:=rfl;rw[e0,Iv,Ko,B3,B3];have m1:=MI.chB (k:=1) T (MI.nil (lt:=lt) (la:=la) (lb:=lb)) (by rw[Dw hb'];intro x hx y hy;rw[Om.mp hx];exact h0 y (Pq hy));rw[Dw hb',Rf,Qw] at m1;by_cases e1:(1==lb.length)=true
 ·rw[Tg e1];have e1':1=lb.length:=by simpa using e1
  exact Td (h _ _ (m1.endB T (by rw[Qd (by omega:lb.length<=1)];intro _ _ y hy;cases hy)) sg0)
 rw[Tf e1];have e1':1≠lb.length:=by simpa using e1
 by_cases e2:(0+1==la.length)=true
 ·rw[Tg e2];have e2':0+1=la.length:=by simpa using e2
  exact Td (h _ _ (m1.endA T (by rw[Kp e2'];intro x hx y hy;rw[Om.mp hy];exact top x (Pq hx))) sg0)
 rw[Tf e2];have e2':0+1≠la.length:=by simpa using e2
 refine Tc (wpS_get ?_);refine Tc (wpS_mono (wpS_forRange (I:=λx c st'=>SG st st'/\NxI it lt la lb x c) (Q:=λc st'=>SG st st'/\RsI it lt la lb c) ?step ?fin ⟨sg0,_,_,_,_,rfl,m1,by omega,by omega,by omega⟩) ?post)
 case fin=>
  rintro c st' ⟨sg',lo',i',j',t,rfl,m',h1,h2,h3⟩;omega
 case step=>
  rintro x c st' _ hx ⟨sg',lo',i',j',t,rfl,m',h1,h2,h3⟩;refine Xmm hc T top hk sg' m' h1 h2 λr st'' sg'' hr=>?_;cases r with
  | done c=>exact⟨sg'',hr⟩
  | yield c=>exact⟨sg'',NxI.mono hr (by omega)⟩
 case post=>
  rintro ⟨r,o2,i2,j2,g2⟩ st2 ⟨sg2,res,e,mr⟩;obtain rfl:r=some (Fk it res):=e;exact Td (h res _ mr sg2)
end
open PySem.W (kas_item kas_cmp)
def mHi:Array Keyed->Array Keyed->SM (Array Keyed):=sortPriv% PySem.Builtin.mergeHi
def dnH (a b o:Array Keyed) (i j:Nat):Array Keyed:=a.extract 0 i++b.extract 0 j++o.reverse
def fsH (a b o:Array Keyed) (i j:Nat):Array Keyed:=b.extract 0 j++a.extract 0 i++o.reverse
abbrev HTO:=Option (Array Keyed)×Nat×Nat×Array Keyed×Nat
abbrev HTI:=Option (Array Keyed)×Nat×Nat×Array Keyed×Nat×Nat
abbrev HTG:=Option (Array Keyed)×Nat×Nat×Array Keyed×Nat×Nat×Nat
def N1 (a b:Array Keyed) (g:Nat) (d:HTI):SM (ForInStep HTI):=do
 let y <-elem' b (d.2.2.1 - 1)
 let x <-elem' a (d.2.1 - 1)
 let r <-lt' y x
 match r with
 | some c=>
  if c=true then do
   let x <-elem' a (d.2.1 - 1)
   if (d.2.1 - 1==0)=true then pure (.done (some (dnH a b (d.2.2.2.1.push x) (d.2.1 - 1) d.2.2.1),d.2.1 - 1,d.2.2.1,d.2.2.2.1.push x,d.2.2.2.2.1+1,0))
   else if d.2.2.2.2.1+1 ≥ g then pure (.done (none,d.2.1 - 1,d.2.2.1,d.2.2.2.1.push x,d.2.2.2.2.1+1,0))
   else pure (.yield (none,d.2.1 - 1,d.2.2.1,d.2.2.2.1.push x,d.2.2.2.2.1+1,0))
  else do
   let y <-elem' b (d.2.2.1 - 1)
   if (d.2.2.1 - 1==1)=true then pure (.done (some (fsH a b (d.2.2.2.1.push y) d.2.1 (d.2.2.1 - 1)),d.2.1,d.2.2.1 - 1,d.2.2.2.1.push y,0,d.2.2.2.2.2+1))
   else if d.2.2.2.2.2+1 ≥ g then pure (.done (none,d.2.1,d.2.2.1 - 1,d.2.2.2.1.push y,0,d.2.2.2.2.2+1))
   else pure (.yield (none,d.2.1,d.2.2.1 - 1,d.2.2.2.1.push y,0,d.2.2.2.2.2+1))
 | _=>pure (.done (some (dnH a b d.2.2.2.1 d.2.1 d.2.2.1),d.2.1,d.2.2.1,d.2.2.2.1,d.2.2.2.2.1,d.2.2.2.2.2))
def gH3 (a b o:Array Keyed) (i j g p q:Nat):SM (ForInStep HTG):=do
 let x <-elem' a (i - 1)
 if (i - 1==0)=true then pure (.done (some (dnH a b (o.push x) (i - 1) j),i - 1,j,o.push x,g,p,q))
 else if (decide (p<7)&&decide (q<7))=true then pure (.done (none,i - 1,j,o.push x,g,p,q))
 else pure (.yield (none,i - 1,j,o.push x,g,p,q))
def gH2 (a b o:Array Keyed) (i j g p q:Nat):SM (ForInStep HTG):=do
 let y <-elem' b (j - 1)
 if (j - 1==1)=true then pure (.done (some (fsH a b (o.push y) i (j - 1)),i,j - 1,o.push y,g,p,q))
 else do
  let x <-elem' a (i - 1)
  let r <-Dk true x b 0 (j - 1) (j - 1 - 1)
  match r with
  | some r=>
   if j - 1 - r > 0 then
    if (r==1)=true then pure (.done (some (fsH a b (o.push y++(b.extract r (j - 1)).reverse) i r),i,r,o.push y++(b.extract r (j - 1)).reverse,g,p,j - 1 - r))
    else if (r==0)=true then pure (.done (some (dnH a b (o.push y++(b.extract r (j - 1)).reverse) i r),i,r,o.push y++(b.extract r (j - 1)).reverse,g,p,j - 1 - r))
    else gH3 a b (o.push y++(b.extract r (j - 1)).reverse) i r g p (j - 1 - r)
   else gH3 a b (o.push y) i (j - 1) g p (j - 1 - r)
  | _=>pure (.done (some (dnH a b (o.push y) i (j - 1)),i,j - 1,o.push y,g,p,q))
def gH1 (a b o:Array Keyed) (i j g p q:Nat):SM (ForInStep HTG):=do
 D9 g
 let y <-elem' b (j - 1)
 let r <-Dk false y a 0 i (i - 1)
 match r with
 | some r=>
  if i - r > 0 then
   if (r==0)=true then pure (.done (some (dnH a b (o++(a.extract r i).reverse) r j),r,j,o++(a.extract r i).reverse,g,i - r,q))
   else gH2 a b (o++(a.extract r i).reverse) r j g (i - r) q
  else gH2 a b o i j g (i - r) q
 | _=>pure (.done (some (dnH a b o i j),i,j,o,g,p,q))
def Kq (a b:Array Keyed) (c:HTO):SM (ForInStep HTO):=do
 let d <-forIn [0:a.size+b.size] ((none,c.2.1,c.2.2.1,c.2.2.2.1,0,0):HTI) λ_ d=>N1 a b c.2.2.2.2 d
 match d.1 with
 | some r=>pure (.done (some r,d.2.1,d.2.2.1,d.2.2.2.1,c.2.2.2.2))
 | none=>do
  liftM (rule "list.sort.gallop")
  let e <-forIn [0:a.size+b.size] ((none,d.2.1,d.2.2.1,d.2.2.2.1,c.2.2.2.2+1,d.2.2.2.2.1,d.2.2.2.2.2):HTG) λ_ e=>
   if e.2.2.2.2.1 > 1 then gH1 a b e.2.2.2.1 e.2.1 e.2.2.1 (e.2.2.2.2.1 - 1) e.2.2.2.2.2.1 e.2.2.2.2.2.2 else gH1 a b e.2.2.2.1 e.2.1 e.2.2.1 e.2.2.2.2.1 e.2.2.2.2.2.1 e.2.2.2.2.2.2
  match e.1 with
  | some r=>pure (.done (some r,e.2.1,e.2.2.1,e.2.2.2.1,e.2.2.2.2.1))
  | none=>do
   D9 (e.2.2.2.2.1+1)
   pure (.yield (none,e.2.1,e.2.2.1,e.2.2.2.1,e.2.2.2.2.1+1))
def Xmo(a b:Array Keyed):mHi a b=(do
  liftM (rule "list.sort.merge-hi")
  let mut i:=a.size - 1
  let mut j:=b.size
  let x0 <-elem' a i
  let mut o:Array Keyed := #[x0]
  if i==0 then return dnH a b o i j
  if j==1 then return fsH a b o i j
  let mut g:=gallopOf (<-get)
  for _ in [0:a.size+b.size] do
   let mut p:=0
   let mut q:=0
   for _ in [0:a.size+b.size] do
    let some c <-lt' (<-elem' b (j - 1)) (<-elem' a (i - 1)) | return dnH a b o i j
    if c then
     i:=i - 1
     o:=o.push (<-elem' a i)
     p:=p+1
     q:=0
     if i==0 then return dnH a b o i j
     if p ≥ g then break
    else
     j:=j - 1
     o:=o.push (<-elem' b j)
     q:=q+1
     p:=0
     if j==1 then return fsH a b o i j
     if q ≥ g then break
   liftM (rule "list.sort.gallop")
   g:=g+1
   for _ in [0:a.size+b.size] do
    if g > 1 then g:=g - 1
    D9 g
    let some r <-Dk false (<-elem' b (j - 1)) a 0 i (i - 1) | return dnH a b o i j
    let k:=i - r
    p:=k
    if k > 0 then
     o:=o++(a.extract r i).reverse
     i:=r
     if i==0 then return dnH a b o i j
    j:=j - 1
    o:=o.push (<-elem' b j)
    if j==1 then return fsH a b o i j
    let some r <-Dk true (<-elem' a (i - 1)) b 0 j (j - 1) | return dnH a b o i j
    let k:=j - r
    q:=k
    if k > 0 then
     o:=o++(b.extract r j).reverse
     j:=r
     if j==1 then return fsH a b o i j
     if j==0 then return dnH a b o i j
    i:=i - 1
    o:=o.push (<-elem' a i)
    if i==0 then return dnH a b o i j
    if p<7&&q<7 then break
   g:=g+1
   D9 g
  unsupported "internal:list.sort.merge-bound"):=rfl
def Xmp(a b:Array Keyed):mHi a b=(do
  liftM (rule "list.sort.merge-hi")
  let x0 <-elem' a (a.size - 1)
  if (a.size - 1==0)=true then pure (dnH a b #[x0] (a.size - 1) b.size)
  else if (b.size==1)=true then pure (fsH a b #[x0] (a.size - 1) b.size)
  else do
   let st <-get
   let c <-forIn [0:a.size+b.size] ((none,a.size - 1,b.size, #[x0],gallopOf st):HTO) λ_ c=>Kq a b c
   match c.1 with
   | some r=>pure r
   | none=>unsupported "internal:list.sort.merge-bound"):=by
 rw[Xmo];congr 1;funext _u;dsimp only;congr 1;funext x0;congr 1;congr 1;congr 1;funext st;congr 1
 ·congr 1;funext _x c;unfold Kq;congr 1;funext d;obtain⟨r,d⟩:=d;cases r with
  | some r=>rfl
  | none=>
   dsimp only;congr 1;funext _v;congr 1;funext e;obtain⟨r,e⟩:=e;cases r<;>rfl
 ·funext c;obtain⟨r,c⟩:=c;cases r<;>rfl
open PySem.W (kas_item kas_cmp)
section
variable {it:Array Keyed}
def N2(l):(Fk it l).reverse=Fk it l.reverse:=by
 unfold Fk;rw[List.reverse_toArray,Sd]
def Kr(l)(j):(Fk it l).extract 0 j=Fk it (l.take j):=by
 rw[Ea,Rl,Ss]
def Xem(l lo)(r i):Fk it lo.reverse++((Fk it l).extract r i).reverse=Fk it (((l.take i).drop r)++lo).reverse:=by
 rw[Ea,N2,Dv,List.reverse_append,Sb]
def Ks(lo)(x):(Fk it lo.reverse).push (kas_item it x)=Fk it (x::lo).reverse:=by
 rw[Iu,Sy]
def Iw(la lb lo)(i j):dnH (Fk it la) (Fk it lb) (Fk it lo.reverse) i j=Fk it (la.take i++lb.take j++lo):=by
 unfold dnH;rw[Kr,Kr,N2,List.reverse_reverse,Dv,Dv]
def Kt(la lb lo)(i j):fsH (Fk it la) (Fk it lb) (Fk it lo.reverse) i j=Fk it (lb.take j++la.take i++lo):=by
 unfold fsH;rw[Kr,Kr,N2,List.reverse_reverse,Dv,Dv]
end
structure MJ (lt:Nat->Nat->Bool) (la lb lo:List Nat) (i j:Nat):Prop where
 so:lo.Pairwise λx y=>lt x y=true
 pm:lo.Perm (la.drop i++lb.drop j)
 ba:∀x∈la.take i,∀y∈lo,lt x y=true
 bb:∀x∈lb.take j,∀y∈lo,lt x y=true
section
variable {lt:Nat->Nat->Bool}{n:Nat}{la lb lo:List Nat}{i j k r:Nat}
def Ku{l:List Nat}(h:r<=i):l.take i=l.take r++(l.take i).drop r:=by
 have:=Pf r (l.take i);rw[List.take_take,Qz h] at this;exact this.symm
def Xen{l:List Nat}(h:r<=i)(hi:i<=l.length):l.drop r=(l.take i).drop r++l.drop i:=by
 have e:=Pf i l;have:=congrArg (List.drop r) e;rw[List.drop_append_of_le_length (by rw[Ov];omega)] at this;exact this.symm
def MJ.chA(T:Two lt n la lb)(m:MJ lt la lb lo i j)(hr:r<=i)(hi:i<=la.length)(h:∀x∈lb.take j,∀y∈(la.take i).drop r,lt x y=true):MJ lt la lb ((la.take i).drop r++lo) r j:=by
 have sd:=T.sa.sublist (P3 i la);rw[Ku hr] at sd;obtain⟨s1,s2,s3⟩:=Pc.mp sd;refine⟨Pc.mpr ⟨s2,m.so,λx hx y hy=>m.ba x (Pq hx) y hy⟩,?_,λx hx y hy=>?_,λx hx y hy=>?_⟩
 ·rw[Xen hr hi,Pg];exact P8 _ m.pm
 ·rcases Op.mp hy with z | z
  ·exact s3 x hx y z
  ·exact m.ba x (by rw[Ku hr];exact P2 _ hx) y z
 ·rcases Op.mp hy with z | z
  ·exact h x hx y z
  ·exact m.bb x hx y z
def MJ.chB(T:Two lt n la lb)(m:MJ lt la lb lo i j)(hr:r<=j)(hj:j<=lb.length)(h:∀x∈la.take i,∀y∈(lb.take j).drop r,lt x y=true):MJ lt la lb ((lb.take j).drop r++lo) i r:=by
 have sd:=T.sb.sublist (P3 j lb);rw[Ku hr] at sd;obtain⟨s1,s2,s3⟩:=Pc.mp sd;refine⟨Pc.mpr ⟨s2,m.so,λx hx y hy=>m.bb x (Pq hx) y hy⟩,?_,λx hx y hy=>?_,λx hx y hy=>?_⟩
 ·rw[Xen hr hj];refine(P8 _ m.pm).trans ?_;rw[<-Pg,<-Pg];exact Qr.append_right _
 ·rcases Op.mp hy with z | z
  ·exact h x hx y z
  ·exact m.ba x hx y z
 ·rcases Op.mp hy with z | z
  ·exact s3 x hx y z
  ·exact m.bb x (by rw[Ku hr];exact P2 _ hx) y z
def Xeo(h:lo.Perm (la.drop i++lb.drop j)):(la.take i++lb.take j++lo).Perm (la++lb):=by
 refine(P8 _ h).trans ?_;have e:la++lb=la.take i++(la.drop i++(lb.take j++lb.drop j)):=by rw[Pf,<-Pg,Pf]
 rw[e,Pg];refine P8 _ ?_;rw[<-Pg,<-Pg];exact Qr.append_right _
def MJ.endD(T:Two lt n la lb)(m:MJ lt la lb lo i j)(h:∀x∈la.take i,∀y∈lb.take j,lt x y=true):Mrg lt la lb (la.take i++lb.take j++lo):=by
 refine⟨Xeo m.pm,Pc.mpr ⟨Pc.mpr ⟨T.sa.sublist (P3 ..),T.sb.sublist (P3 ..),h⟩,m.so,λx hx y hy=>?_⟩⟩;rcases Op.mp hx with z | z
 ·exact m.ba x z y hy
 ·exact m.bb x z y hy
def MJ.endF(T:Two lt n la lb)(m:MJ lt la lb lo i j)(h:∀x∈lb.take j,∀y∈la.take i,lt x y=true):Mrg lt la lb (lb.take j++la.take i++lo):=by
 refine⟨?_,Pc.mpr ⟨Pc.mpr ⟨T.sb.sublist (P3 ..),T.sa.sublist (P3 ..),h⟩,m.so,λx hx y hy=>?_⟩⟩
 ·refine List.Perm.trans ?_ (Xeo m.pm);exact Qr.append_right _
 ·rcases Op.mp hx with z | z
  ·exact m.bb x z y hy
  ·exact m.ba x z y hy
def Ix{l:List Nat}(L:Lin n lt)(so:l.Pairwise λx y=>lt x y=true)(hi:1<=i)(hl:i<=l.length){x}(h:lt (l.getD (i - 1) 0) x=true):∀y∈l.take i,lt y x=true:=by
 intro y hy;obtain⟨t,ht,e⟩:=Po.mp hy;rw[Ov] at ht;rw[R9] at e;have htl:t<l.length:=by omega
 have ey:y=l.getD t 0:=by rw[<-e,Oz,Oi htl];rfl
 by_cases z:t=i - 1
 ·rw[ey,z];exact h
 ·rw[ey];exact L.tr _ _ _ (Gq so (by omega) (by omega)) h
def Eb{l:List Nat}(h1:1<=i)(h:i<=l.length):(l.take i).drop (i - 1)=[l.getD (i - 1) 0]:=by
 rw[Sb,show i - (i - 1)=1 by omega];exact Dw (by omega)
def N3{l:List Nat}{x}(h:x∈(l.take i).drop r)(hi:i<=l.length):∃t,r<=t/\t<i/\x=l.getD t 0:=by
 rw[Sb] at h;obtain⟨t,h1,h2,e⟩:=Dl h;exact⟨r+t,by omega,by omega,e⟩
def Fr{l:List Nat}{x}(h:x∈l.take i)(hi:i<=l.length):∃t,t<i/\x=l.getD t 0:=by
 obtain⟨t,_,h2,e⟩:=N3 (r:=0) (by rw[Rl];exact h) hi;exact⟨t,h2,e⟩
end
def RsH {τ : Type} (it:Array Keyed) (lt:Nat->Nat->Bool) (la lb:List Nat) (c:Option (Array Keyed) × τ):Prop:=∃res,c.1=some (Fk it res)/\Mrg lt la lb res
def NxH {τ : Type} (it:Array Keyed) (lt:Nat->Nat->Bool) (la lb:List Nat) (m:Nat) (c:Option (Array Keyed)×Nat×Nat×Array Keyed × τ):Prop:=∃lo i j t,c=(none,i,j,Fk it lo.reverse,t)/\MJ lt la lb lo i j/\1<=i/\2<=j/\i<=la.length/\j<=lb.length/\i+j<m
def StH {τ : Type} (it:Array Keyed) (lt:Nat->Nat->Bool) (la lb:List Nat) (m:Nat) (r:ForInStep (Option (Array Keyed)×Nat×Nat×Array Keyed × τ)):Prop:=match r with
 | .done c=>RsH it lt la lb c\/NxH it lt la lb m c
 | .yield c=>NxH it lt la lb m c
def SuH {τ : Type} (it:Array Keyed) (lt:Nat->Nat->Bool) (la lb:List Nat) (m:Nat) (r:ForInStep (Option (Array Keyed)×Nat×Nat×Array Keyed × τ)):Prop:=match r with
 | .done c=>RsH it lt la lb c
 | .yield c=>NxH it lt la lb m c
def NxH.mono{τ : Type}{it}{lt}{la lb}{m m'}{c:Option (Array Keyed)×Nat×Nat×Array Keyed × τ}(h:NxH it lt la lb m c)(hm:m<=m'):NxH it lt la lb m' c:=by
 obtain⟨lo,i,j,t,e,a1,a2,a3,a4,a5,a6⟩:=h;exact⟨lo,i,j,t,e,a1,a2,a3,a4,a5,by omega⟩
section
variable {prog:Program}{w:World}{A:Around}{E:Zc}{s:Shared}{κ : SortKind}{it:Array Keyed}{n:Nat}{lt:Nat->Nat->Bool}{la lb lo:List Nat}{i j k g p q:Nat}{st0 st:SortSt}
def Xmq(hc:CmS prog w A s κ it n lt)(T:Two lt n la lb)(bot:∀y∈la,lt (lb.getD 0 0) y=true)(hk:kindOf st0 = κ)(sg:SG st0 st)(m:MJ lt la lb lo i j)(hi:1<=i)(hj:2<=j)(ha:i<=la.length)(hb:j<=lb.length)
  {Q} (h:∀r,StH it lt la lb (i+j) r->Q r st):wpS (model prog w) A E s (N1 (Fk it la) (Fk it lb) g (none,i,j,Fk it lo.reverse,p,q)) Q st:=by
 unfold N1;dsimp only;have ea:=Bj (show i - 1<la.length by omega);have eb:=Bj (show j - 1<lb.length by omega);have ma:=B4 (show i - 1<la.length by omega);have mb:=B4 (show j - 1<lb.length by omega);refine Tc (Bs eb (Tc (Bs ea (Tc (Ir hc (T.bn _ mb) (T.an _ ma) (sg.k.trans hk) ?_)))));dsimp only;cases c:lt (lb.getD (j - 1) 0) (la.getD (i - 1) 0) with
 | true=>
  rw[Tg rfl];refine Tc (Bs ea ?_);rw[Ks,Iw];have m':=MJ.chA (r:=i - 1) T m (by omega) ha (by rw[Eb hi ha];intro x hx y hy;rw[Om.mp hy];exact Ix T.L T.sb (by omega) hb c x hx);rw[Eb hi ha] at m';by_cases e:(i - 1==0)=true
  ·rw[Tg e];have e':i - 1=0:=by simpa using e
   exact Td (h _ (.inl ⟨_,rfl,m'.endD T (by rw[e'];intro _ hx;simp at hx)⟩))
  ·rw[Tf e];have e':i - 1≠0:=by simpa using e
   by_cases e2:p+1 ≥ g
   ·rw[Tg e2];exact Td (h _ (.inr ⟨_,_,_,_,rfl,m',by omega,hj,by omega,hb,by omega⟩))
   ·rw[Tf e2];exact Td (h _ ⟨_,_,_,_,rfl,m',by omega,hj,by omega,hb,by omega⟩)
 | false=>
  rw[Tf (by decide)];have c':=T.flip ma mb c;refine Tc (Bs eb ?_);rw[Ks,Kt];have m':=MJ.chB (r:=j - 1) T m (by omega) hb (by rw[Eb (by omega) hb];intro x hx y hy;rw[Om.mp hy];exact Ix T.L T.sa hi ha c' x hx);rw[Eb (by omega) hb] at m';by_cases e:(j - 1==1)=true
  ·rw[Tg e];have e':j - 1=1:=by simpa using e
   refine Td (h _ (.inl ⟨_,rfl,m'.endF T λx hx y hy=>?_⟩));obtain⟨t,ht,rfl⟩:=Fr hx (by omega);rw[show t=0 by omega];exact bot y (Pp hy)
  ·rw[Tf e];have e':j - 1≠1:=by simpa using e
   by_cases e2:q+1 ≥ g
   ·rw[Tg e2];exact Td (h _ (.inr ⟨_,_,_,_,rfl,m',hi,by omega,ha,by omega,by omega⟩))
   ·rw[Tf e2];exact Td (h _ ⟨_,_,_,_,rfl,m',hi,by omega,ha,by omega,by omega⟩)
def Xep(T:Two lt n la lb)(m:MJ lt la lb lo i j)(hi:1<=i)(hj:2<=j)(ha:i<=la.length)(hb:j<=lb.length)(c:∀x∈lb.take j,lt x (la.getD (i - 1) 0)=true){m0}(hm:i+j<=m0)
  {Q} (h:∀r,StH it lt la lb m0 r->Q r st):wpS (model prog w) A E s (gH3 (Fk it la) (Fk it lb) (Fk it lo.reverse) i j g p q) Q st:=by
 unfold gH3;refine Tc (Bs (Bj (show i - 1<la.length by omega)) ?_);rw[Ks,Iw];have m':=MJ.chA (r:=i - 1) T m (by omega) ha (by rw[Eb hi ha];intro x hx y hy;rw[Om.mp hy];exact c x hx);rw[Eb hi ha] at m';by_cases e:(i - 1==0)=true
 ·rw[Tg e];have e':i - 1=0:=by simpa using e
  exact Td (h _ (.inl ⟨_,rfl,m'.endD T (by rw[e'];intro _ hx;simp at hx)⟩))
 ·rw[Tf e];have e':i - 1≠0:=by simpa using e
  by_cases e2:(decide (p<7)&&decide (q<7))=true
  ·rw[Tg e2];exact Td (h _ (.inr ⟨_,_,_,_,rfl,m',by omega,hj,by omega,hb,by omega⟩))
  ·rw[Tf e2];exact Td (h _ ⟨_,_,_,_,rfl,m',by omega,hj,by omega,hb,by omega⟩)
def Xeq(hc:CmS prog w A s κ it n lt)(T:Two lt n la lb)(bot:∀y∈la,lt (lb.getD 0 0) y=true)(hk:kindOf st0 = κ)(sg:SG st0 st)(m:MJ lt la lb lo i j)(hi:1<=i)(hj:2<=j)(ha:i<=la.length)(hb:j<=lb.length)(c:lt (la.getD (i - 1) 0) (lb.getD (j - 1) 0)=true){m0}(hm:i+j<=m0)
  {Q} (h:∀r,StH it lt la lb m0 r->Q r st):wpS (model prog w) A E s (gH2 (Fk it la) (Fk it lb) (Fk it lo.reverse) i j g p q) Q st:=by
 unfold gH2;have ea:=Bj (show i - 1<la.length by omega);have ma:=B4 (show i - 1<la.length by omega);refine Tc (Bs (Bj (show j - 1<lb.length by omega)) ?_);rw[Ks,Kt];have m':=MJ.chB (r:=j - 1) T m (by omega) hb (by rw[Eb (by omega) hb];intro x hx y hy;rw[Om.mp hy];exact Ix T.L T.sa hi ha c x hx);rw[Eb (by omega) hb] at m';by_cases e:(j - 1==1)=true
 ·rw[Tg e];have e':j - 1=1:=by simpa using e
  refine Td (h _ (.inl ⟨_,rfl,m'.endF T λx hx y hy=>?_⟩));obtain⟨t,ht,rfl⟩:=Fr hx (by omega);rw[show t=0 by omega];exact bot y (Pp hy)
 rw[Tf e];have e':j - 1≠1:=by simpa using e
 refine Tc (Bs ea ?_);refine Tc (Gn (P:=λt=>lt (lb.getD t 0) (la.getD (i - 1) 0)) ⟨λa b hab hb' e=>?_⟩ (by omega) (λt ht Q' hq=>?_) λr hr hlo hhi=>?_)
 ·exact T.L.tr _ _ _ (Gq T.sb hab (by omega)) e
 ·rw[Qw];exact Gm hc (Bj (by omega)) (T.bn _ (B4 (by omega))) (T.an _ ma) (sg.k.trans hk) (left:=true) hq
 dsimp only;have below:∀z≤r,∀x∈lb.take z,lt x (la.getD (i - 1) 0)=true:=λz hz x hx=>by
  obtain⟨t,ht,rfl⟩:=Fr hx (by omega);exact hlo t (by omega)
 by_cases hr0:j - 1 - r > 0
 ·rw[Tg hr0,Xem,Iw,Kt];have m2:=MJ.chB (r:=r) T m' hr (by omega) (λx hx y hy=>by
   obtain⟨t,h1,h2,rfl⟩:=N3 hy (by omega);exact Ix T.L T.sa hi ha (T.flip ma (B4 (by omega)) (hhi t h1 h2)) x hx)
  by_cases e3:(r==1)=true
  ·rw[Tg e3];have e3':r=1:=by simpa using e3
   refine Td (h _ (.inl ⟨_,rfl,m2.endF T λx hx y hy=>?_⟩));obtain⟨t,ht,rfl⟩:=Fr hx (by omega);rw[show t=0 by omega];exact bot y (Pp hy)
  ·rw[Tf e3];have e3':r≠1:=by simpa using e3
   by_cases e4:(r==0)=true
   ·rw[Tg e4];have e4':r=0:=by simpa using e4
    exact Td (h _ (.inl ⟨_,rfl,m2.endD T (by rw[e4'];intro _ _ y hy;simp at hy)⟩))
   ·rw[Tf e4];have e4':r≠0:=by simpa using e4
    exact Xep T m2 hi (by omega) ha (by omega) (below r (Oj _)) (by omega) h
 ·rw[Tf hr0];exact Xep T m' hi (by omega) ha (by omega) (below (j - 1) (by omega)) (by omega) h
def Xer(hc:CmS prog w A s κ it n lt)(T:Two lt n la lb)(bot:∀y∈la,lt (lb.getD 0 0) y=true)(hk:kindOf st0 = κ)(sg:SG st0 st)(m:MJ lt la lb lo i j)(hi:1<=i)(hj:2<=j)(ha:i<=la.length)(hb:j<=lb.length)
  {Q} (h:∀r st',SG st0 st'->StH it lt la lb (i+j) r->Q r st'):wpS (model prog w) A E s (gH1 (Fk it la) (Fk it lb) (Fk it lo.reverse) i j g p q) Q st:=by
 unfold gH1;refine Tc (wS_setG sg λst' sg'=>?_);have eb:=Bj (show j - 1<lb.length by omega);have mb:=B4 (show j - 1<lb.length by omega);refine Tc (Bs eb ?_);refine Tc (Gn (P:=λt => !lt (lb.getD (j - 1) 0) (la.getD t 0)) ⟨λa b hab hb' e=>?_⟩ (by omega) (λt ht Q' hq=>?_) λr hr hlo hhi=>?_)
 ·have e:lt (lb.getD (j - 1) 0) (la.getD b 0)=false:=by simpa using e
  cases q:lt (lb.getD (j - 1) 0) (la.getD a 0) with
  | false=>rfl
  | true=>
   have:=T.L.tr _ _ _ q (Gq T.sa hab (by omega));rw[this] at e;cases e
 ·rw[Qw];exact Gm hc (Bj (by omega)) (T.an _ (B4 (by omega))) (T.bn _ mb) (sg'.k.trans hk) (left:=false) hq
 dsimp only;have last:1<=r->lt (la.getD (r - 1) 0) (lb.getD (j - 1) 0)=true:=λh1=>by
  have:=hlo (r - 1) (by omega);exact T.flip (B4 (by omega)) mb (by simpa using this)
 by_cases hr0:i - r > 0
 ·rw[Tg hr0,Xem,Iw];have m2:=MJ.chA (r:=r) T m hr ha (λx hx y hy=>by
   obtain⟨t,h1,h2,rfl⟩:=N3 hy (by omega);have:=hhi t h1 h2;exact Ix T.L T.sb (by omega) hb (by simpa using this) x hx)
  by_cases e3:(r==0)=true
  ·rw[Tg e3];have e3':r=0:=by simpa using e3
   exact Td (h _ _ sg' (.inl ⟨_,rfl,m2.endD T (by rw[e3'];intro _ hx;simp at hx)⟩))
  ·rw[Tf e3];have e3':r≠0:=by simpa using e3
   exact Xeq hc T bot hk sg' m2 (by omega) hj (by omega) hb (last (by omega)) (by omega) λr' hr'=>h r' _ sg' hr'
 ·rw[Tf hr0];have:r=i:=by omega
  subst this;exact Xeq hc T bot hk sg' m hi hj ha hb (last hi) (Oj _) λr' hr'=>h r' _ sg' hr'
def Xmr(hc:CmS prog w A s κ it n lt)(T:Two lt n la lb)(bot:∀y∈la,lt (lb.getD 0 0) y=true)(hk:kindOf st0 = κ)(sg:SG st0 st)(m:MJ lt la lb lo i j)(hi:1<=i)(hj:2<=j)(ha:i<=la.length)(hb:j<=lb.length)
  {Q} (h:∀r st',SG st0 st'->SuH it lt la lb (i+j) r->Q r st'):wpS (model prog w) A E s (Kq (Fk it la) (Fk it lb) (none,i,j,Fk it lo.reverse,g)) Q st:=by
 unfold Kq;dsimp only;rw[B3,B3];refine Tc (wpS_mono (wpS_forRange (I:=λx c st'=>SG st0 st'/\NxH it lt la lb (i+j+1 - x) c) (Q:=λc st'=>SG st0 st'/\(RsH it lt la lb c\/NxH it lt la lb (i+j) c)) ?step ?fin ⟨sg,lo,i,j,_,rfl,m,hi,hj,ha,hb,by omega⟩) ?post)
 case fin=>
  rintro c st' ⟨sg',z⟩;exact⟨sg',.inr (z.mono (by omega))⟩
 case step=>
  rintro x c st' _ hx ⟨sg',lo',i',j',t,rfl,m',h1,h2,h3,h4,h5⟩;refine Xmq hc T bot hk sg' m' h1 h2 h3 h4 λr hr=>?_;cases r with
  | done c=>
   rcases hr with z | z
   ·exact⟨sg',.inl z⟩
   ·exact⟨sg',.inr (z.mono (by omega))⟩
  | yield c=>exact⟨sg',NxH.mono hr (by omega)⟩
 case post=>
  rintro ⟨r,i1,j1,o1,p1,q1⟩ st1 ⟨sg1,z⟩;rcases z with ⟨res,e,mr⟩ | ⟨lo1,i2,j2,t,e,m1,a1,a2,a3,a4,a5⟩
  ·obtain rfl:r=some (Fk it res):=e;exact Td (h _ _ sg1 ⟨res,rfl,mr⟩)
  ·cases e;dsimp only;refine Tc (wpS_lift (wpAny_rule ⟨rfl,?_⟩));refine Tc (wpS_mono (wpS_forRange (I:=λx c st'=>SG st0 st'/\NxH it lt la lb (i+j) c) (Q:=λc st'=>SG st0 st'/\(RsH it lt la lb c\/NxH it lt la lb (i+j) c)) ?step ?fin ⟨sg1,lo1,i1,j1,_,rfl,m1,a1,a2,a3,a4,a5⟩) ?post)
   case fin=>exact λc st' z=>⟨z.1,.inr z.2⟩
   case step=>
    rintro x c st' _ hx ⟨sg',lo',i',j',⟨g',p',q'⟩,rfl,m',h1,h2,h3,h4,h5⟩;dsimp only;have go:∀(r:ForInStep HTG) st'',SG st0 st''->StH it lt la lb (i'+j') r->(match r with
     | .done c'=>SG st0 st''/\(RsH it lt la lb c'\/NxH it lt la lb (i+j) c')
     | .yield c'=>SG st0 st''/\NxH it lt la lb (i+j) c'):=λr st'' sg'' hr=>by
     cases r with
     | done c=>
      rcases hr with z | z
      ·exact⟨sg'',.inl z⟩
      ·exact⟨sg'',.inr (z.mono (by omega))⟩
     | yield c=>exact⟨sg'',NxH.mono hr (by omega)⟩
    by_cases e:g' > 1
    ·rw[Tg e];exact Xer hc T bot hk sg' m' h1 h2 h3 h4 λr st'' s1 s2=>by have:=go r st'' s1 s2;cases r<;>exact this
    ·rw[Tf e];exact Xer hc T bot hk sg' m' h1 h2 h3 h4 λr st'' s1 s2=>by have:=go r st'' s1 s2;cases r<;>exact this
   case post=>
    rintro ⟨r,i2,j2,o2,g2,p2,q2⟩ st2 ⟨sg2,z⟩;rcases z with ⟨res,e,mr⟩ | ⟨lo2,i3,j3,t,e,m2,b1,b2,b3,b4,b5⟩
    ·obtain rfl:r=some (Fk it res):=e;exact Td (h _ _ sg2 ⟨res,rfl,mr⟩)
    ·cases e;dsimp only;exact Tc (wS_setG sg2 λst3 sg3=>Td (h _ _ sg3 ⟨lo2,i2,j2,_,rfl,m2,b1,b2,b3,b4,b5⟩))
def Xms(hc:CmS prog w A s κ it n lt)(T:Two lt n la lb)(ha:1<=la.length)(hb:1<=lb.length)(bot:∀y∈la,lt (lb.getD 0 0) y=true)(top:∀x∈lb,lt x (la.getD (la.length - 1) 0)=true)
  (hk:kindOf st = κ) {Q} (h:∀res st',Mrg lt la lb res->SG st st'->Q (Fk it res) st'):wpS (model prog w) A E s (mHi (Fk it la) (Fk it lb)) Q st:=by
 rw[Xmp];have sg0:SG st st:=⟨rfl,rfl,rfl,rfl⟩;refine Tc (wpS_lift (wpAny_rule ⟨rfl,?_⟩));rw[B3,B3];refine Tc (Bs (Bj (show la.length - 1<la.length by omega)) ?_);have e0:(#[kas_item it (la.getD (la.length - 1) 0)]:Array Keyed)=Fk it [la.getD (la.length - 1) 0].reverse:=rfl;rw[e0,Iw,Kt];have mn:MJ lt la lb [] la.length lb.length:=⟨.nil,by rw[Qd (Oj _),Qd (Oj _)];exact .nil,λ_ _ _ h=>(nomatch h),λ_ _ _ h=>(nomatch h)⟩;have m1:=MJ.chA (r:=la.length - 1) T mn (by omega) (Oj _) (by rw[Eb ha (Oj _)];intro x hx y hy;rw[Om.mp hy];exact top x (Pp hx));rw[Eb ha (Oj _),Ps] at m1;by_cases e1:(la.length - 1==0)=true
 ·rw[Tg e1];have e1':la.length - 1=0:=by simpa using e1
  exact Td (h _ _ (m1.endD T (by rw[e1'];intro _ hx;simp at hx)) sg0)
 rw[Tf e1];have e1':la.length - 1≠0:=by simpa using e1
 by_cases e2:(lb.length==1)=true
 ·rw[Tg e2];have e2':lb.length=1:=by simpa using e2
  refine Td (h _ _ (m1.endF T λx hx y hy=>?_) sg0);obtain⟨t,ht,rfl⟩:=Fr hx (Oj _);rw[show t=0 by omega];exact bot y (Pp hy)
 rw[Tf e2];have e2':lb.length≠1:=by simpa using e2
 refine Tc (wpS_get ?_);refine Tc (wpS_mono (wpS_forRange (I:=λx c st'=>SG st st'/\NxH it lt la lb (la.length+lb.length - x) c) (Q:=λc st'=>SG st st'/\RsH it lt la lb c) ?step ?fin ⟨sg0,_,_,_,_,rfl,m1,by omega,by omega,by omega,by omega,by omega⟩) ?post)
 case fin=>
  rintro c st' ⟨sg',lo',i',j',t,rfl,m',h1,h2,h3,h4,h5⟩;omega
 case step=>
  rintro x c st' _ hx ⟨sg',lo',i',j',t,rfl,m',h1,h2,h3,h4,h5⟩;refine Xmr hc T bot hk sg' m' h1 h2 h3 h4 λr st'' sg'' hr=>?_;cases r with
  | done c=>exact⟨sg'',hr⟩
  | yield c=>exact⟨sg'',NxH.mono hr (by omega)⟩
 case post=>
  rintro ⟨r,o2,i2,j2,g2⟩ st2 ⟨sg2,res,e,mr⟩;obtain rfl:r=some (Fk it res):=e;exact Td (h res _ mr sg2)
end
open PySem.W (kas_item kas_cmp kas_swaps_map)
def SoL (lt:Nat->Nat->Bool) (l:List Nat) (u v:Nat):Prop:=∀i j,u<=i->i<j->j<v->lt (l.getD i 0) (l.getD j 0)=true
def DeL (lt:Nat->Nat->Bool) (l:List Nat) (u v:Nat):Prop:=∀i j,u<=i->i<j->j<v->lt (l.getD j 0) (l.getD i 0)=true
structure SA (κ : SortKind) (it:Array Keyed) (pd:Array (Nat×Nat×Nat)) (l:List Nat) (st:SortSt):Prop where
 k:kindOf st = κ
 a:arrOf st=Fk it l
 f:failedOf st=none
 p:pendingOf st=pd
section
variable {κ : SortKind}{it:Array Keyed}{pd:Array (Nat×Nat×Nat)}{l:List Nat}{st:SortSt}
def Gr:Fk it l=l.toArray.map (kas_item it):=by
 unfold Fk;rw[List.map_toArray]
def Iy(l:List Nat)(k):l.getD k 0=(l.toArray[k]?).getD 0:=by
 rw[Qq,Oz]
def Xes(p:Array Nat)(k):p.toList.getD k 0=(p[k]?).getD 0:=by
 rw[Oz,Rq]
def Xmt(hst:SA κ it pd l st){i j}(hj:j<=l.length):∃l',SA κ it pd l' (setArr st (mirror (arrOf st) i j ((j - i) / 2)))/\l'.Perm l/\∀k,l'.getD k 0=if i<=k/\k<j then l.getD (i+j - 1 - k) 0 else l.getD k 0:=by
 refine⟨(mirror l.toArray i j ((j - i) / 2)).toList,⟨hst.k,?_,hst.f,hst.p⟩,?_,λk=>?_⟩
 ·show mirror (arrOf st) i j ((j - i) / 2)=_;rw[hst.a,Gr,Gr];exact kas_swaps_map (kas_item it) (λk=>i+k) (λk=>j - 1 - k) _ l.toArray
 ·have:=(mirror_perm l.toArray i j ((j - i) / 2)).toList;simpa using this
 ·rw[Xes,getElem?_mirror_all (by simpa using hj)];split<;>rw[Iy]
def Xmu(hst:SA κ it pd l st){k d}(hk:k<l.length)(hd:d<=k):∃l',SA κ it pd l' (setArr st (bubble (arrOf st) k (k - d)))/\l'.Perm l/\∀i,l'.getD i 0=if i=d then l.getD k 0 else if d<i/\i<=k then l.getD (i - 1) 0 else l.getD i 0:=by
 refine⟨(bubble l.toArray k (k - d)).toList,⟨hst.k,?_,hst.f,hst.p⟩,?_,λi=>?_⟩
 ·show bubble (arrOf st) k (k - d)=_;rw[hst.a,Gr,Gr];exact kas_swaps_map (kas_item it) (λi=>k - i) (λi=>k - i - 1) _ l.toArray
 ·have:=(bubble_perm l.toArray k (k - d)).toList;simpa using this
 ·rw[Xes,getElem?_bubble (by simpa using hk) _ (by omega),show k - (k - d)=d by omega];split
  ·rw[Iy]
  ·split<;>rw[Iy]
end
section
variable {prog:Program}{w:World}{A:Around}{E:Zc}{s:Shared}{κ : SortKind}{it:Array Keyed}{n:Nat}{lt:Nat->Nat->Bool}{pd:Array (Nat×Nat×Nat)}{l:List Nat}{st:SortSt}
structure Al (n:Nat) (l:List Nat):Prop where
 pm:l.Perm (List.range n)
def Al.len(h:Al n l):l.length=n:=by rw[h.pm.length_eq,Px]
def Al.ltn(h:Al n l){i}(hi:i<n):l.getD i 0<n:=P1.mp (h.pm.mem_iff.mp (B4 (by rw[h.len];exact hi)))
def Al.nd(h:Al n l):l.Nodup:=h.pm.nodup_iff.mpr List.nodup_range
def Al.ne(h:Al n l){i j}(hi:i<n)(hj:j<n)(ne:i≠j):l.getD i 0≠l.getD j 0:=λe=>by
 have hl:=h.len;have e1:l.getD i 0=l[i]'(by omega):=by rw[Oz,Oi (by omega)];rfl
 have e2:l.getD j 0=l[j]'(by omega):=by rw[Oz,Oi (by omega)];rfl
 rw[e1,e2] at e;exact ne ((Rw h.nd).mp e)
def Al.flip(L:Lin n lt)(h:Al n l){i j}(hi:i<n)(hj:j<n)(ne:i≠j)(e:lt (l.getD i 0) (l.getD j 0)=false):lt (l.getD j 0) (l.getD i 0)=true:=by
 rcases L.tot _ _ (h.ltn hi) (h.ltn hj) (h.ne hi hj ne) with z | z
 ·rw[z] at e;cases e
 ·exact z
def Gs(hc:CmS prog w A s κ it n lt)(hst:SA κ it pd l st)(al:Al n l){i j}(hi:i<n)(hj:j<n){Q}(h:Q (some (lt (l.getD i 0) (l.getD j 0))) st):wpS (model prog w) A E s (ltAt' i j) Q st:=by
 rw[ltAt'_eq];refine Tc (wpS_get ?_)
 show wpS _ _ _ _ (do let x <-elem' (arrOf st) i;let y <-elem' (arrOf st) j;lt' x y) Q st;rw[hst.a];have hl:=al.len;exact Tc (Bs (Bj (by omega)) (Tc (Bs (Bj (by omega)) (Ir hc (al.ltn hi) (al.ltn hj) hst.k h))))
def Xet(L:Lin n lt){u v}(so:SoL lt l u v)(huv:u<v)(h:lt (l.getD (v - 1) 0) (l.getD v 0)=true):SoL lt l u (v+1):=λi j h1 h2 h3=>by
 by_cases e:j<v
 ·exact so i j h1 h2 e
 ·have:j=v:=by omega
  subst this;by_cases z:i=j - 1
  ·rw[z];exact h
  ·exact L.tr _ _ _ (so i (j - 1) h1 (by omega) (by omega)) h
def Xeu(L:Lin n lt){u v}(so:DeL lt l u v)(huv:u<v)(h:lt (l.getD v 0) (l.getD (v - 1) 0)=true):DeL lt l u (v+1):=λi j h1 h2 h3=>by
 by_cases e:j<v
 ·exact so i j h1 h2 e
 ·have:j=v:=by omega
  subst this;by_cases z:i=j - 1
  ·rw[z];exact h
  ·exact L.tr _ _ _ h (so i (j - 1) h1 (by omega) (by omega))
def Xev(hc:CmS prog w A s κ it n lt)(hst:SA κ it pd l st)(al:Al n l){lo r}(hr:1<=r)(hn:lo+r=n)
  {Q} (h:∀m l' st',SA κ it pd l' st'->l'.Perm l->1<=m->m<=r->SoL lt l' lo (lo+m)->(∀i,i<lo->l'.getD i 0=l.getD i 0)->Q (some m) st'):wpS (model prog w) A E s (countRun' lo r) Q st:=by
 have L:=hc.L;have hl:=al.len;rw[countRun'_eq];refine Tc (wpS_mono (wpS_forRange (I:=λx c st'=>st=st'/\c=(none,x)/\SoL lt l lo (lo+x)) (Q:=λc st'=>st=st'/\∃m,c=(none,m)/\1<=m/\m<=r/\SoL lt l lo (lo+m)/\(m<r->lt (l.getD (lo+m) 0) (l.getD (lo+m - 1) 0)=true)) ?step ?fin ⟨rfl,rfl,λi j h1 h2 h3=>by omega⟩) ?post)
 case fin=>
  rintro c st' ⟨rfl,rfl,so⟩;exact⟨rfl,_,rfl,by omega,by omega,so,λz=>by omega⟩
 case step=>
  rintro x c st' hx1 hx ⟨rfl,rfl,so⟩;dsimp only;refine Tc (Gs hc hst al (by omega) (by omega) ?_);dsimp only;cases e:lt (l.getD (lo+x) 0) (l.getD (lo+x - 1) 0) with
  | true=>
   rw[Tg rfl];exact Td ⟨rfl,x,rfl,hx1,by omega,so,λ_=>e⟩
  | false=>
   rw[Tf (by decide)];exact Td ⟨rfl,rfl,Xet (v:=lo+x) L so (by omega) (al.flip L (by omega) (by omega) (by omega) e)⟩
 case post=>
  rintro c st' ⟨rfl,m,rfl,m1,m2,so,nx⟩;dsimp only;by_cases e1:(m==r)=true
  ·rw[Tg e1];exact Td (h m l _ hst (.refl _) m1 m2 so λ_ _=>rfl)
  rw[Tf e1];have e1':m≠r:=by simpa using e1
  by_cases e2:m > 1
  ·rw[Tg e2];refine Tc (Gs hc hst al (by omega) (by omega) ?_);dsimp only;rw[so lo (lo+m - 1) (Oj _) (by omega) (by omega),Tg rfl];exact Td (h m l _ hst (.refl _) m1 m2 so λ_ _=>rfl)
  rw[Tf e2];obtain rfl:m=1:=by omega
  have nx:=nx (by omega);refine Tc (wpS_lift (wpAny_rule ⟨rfl,?_⟩));refine Tc (wpS_mono (wpS_forRange (I:=λx c st'=>st=st'/\c=(none,x,0)/\DeL lt l lo (lo+x)) (Q:=λc st'=>st=st'/\∃m,c=(none,m,0)/\2<=m/\m<=r/\DeL lt l lo (lo+m)) ?step ?fin ⟨rfl,rfl,Xeu (v:=lo+1) L (λi j h1 h2 h3=>by omega) (by omega) nx⟩) ?post)
  case fin=>
   rintro c st' ⟨rfl,rfl,so⟩;exact⟨rfl,_,rfl,by omega,by omega,so⟩
  case step=>
   rintro x c st' hx1 hx ⟨rfl,rfl,so⟩;dsimp only;refine Tc (Gs hc hst al (by omega) (by omega) ?_);dsimp only;cases e:lt (l.getD (lo+x) 0) (l.getD (lo+x - 1) 0) with
   | true=>
    rw[Tg rfl,Tf (by omega)];exact Td ⟨rfl,rfl,Xeu (v:=lo+x) L so (by omega) e⟩
   | false=>
    rw[Tf (by decide)];refine Tc (Gs hc hst al (by omega) (by omega) ?_);dsimp only;rw[al.flip L (by omega) (by omega) (by omega) e,Tg rfl];exact Td ⟨rfl,x,rfl,by omega,by omega,so⟩
  case post=>
   rintro c st' ⟨rfl,m,rfl,m1,m2,de⟩;dsimp only;rw[Tf (by omega)];obtain⟨l',st1,pm1,g1⟩:=Xmt hst (i:=lo) (j:=lo+m) (by omega);refine Tc (wpS_reverse ?_);have al':Al n l':=⟨pm1.trans al.pm⟩;have so':SoL lt l' lo (lo+m):=λi j h1 h2 h3=>by
    rw[g1,g1,Tg (by omega),Tg (by omega)];exact de _ _ (by omega) (by omega) (by omega)
   have pre:∀i,i<lo->l'.getD i 0=l.getD i 0:=λi hi=>by rw[g1,Tf (by omega)]
   refine Tc (wpS_mono (wpS_forRange (I:=λx c st'=>SA κ it pd l' st'/\c=(none,x)/\SoL lt l' lo (lo+x)) (Q:=λc st'=>SA κ it pd l' st'/\∃m,c=(none,m)/\1<=m/\m<=r/\SoL lt l' lo (lo+m)) ?step ?fin ⟨st1,rfl,so'⟩) ?post)
   case fin=>
    rintro c st' ⟨s1,rfl,so⟩;exact⟨s1,_,rfl,by omega,by omega,so⟩
   case step=>
    rintro x c st' hx1 hx ⟨s1,rfl,so⟩;dsimp only;refine Tc (Gs hc s1 al' (by omega) (by omega) ?_);dsimp only;cases e:lt (l'.getD (lo+x) 0) (l'.getD (lo+x - 1) 0) with
    | true=>
     rw[Tg rfl];exact Td ⟨s1,x,rfl,by omega,by omega,so⟩
    | false=>
     rw[Tf (by decide)];exact Td ⟨s1,rfl,Xet (v:=lo+x) L so (by omega) (al'.flip L (by omega) (by omega) (by omega) e)⟩
   case post=>
    rintro c st' ⟨s1,m',rfl,a1,a2,a3⟩;exact Td (h m' l' _ s1 pm1 a1 a2 a3 pre)
def Xew(hc:CmS prog w A s κ it n lt)(hst:SA κ it pd l st)(al:Al n l){lo m ok}(h1:1<=ok)(h2:ok<=m)(hn:lo+m<=n)(so:SoL lt l lo (lo+ok))
  {Q} (h:∀l' st',SA κ it pd l' st'->l'.Perm l->SoL lt l' lo (lo+m)->(∀i,i<lo->l'.getD i 0=l.getD i 0)->Q true st'):wpS (model prog w) A E s (binarySort' lo m ok) Q st:=by
 have L:=hc.L;have hl:=al.len;rw[binarySort'_eq];refine Tc (wpS_mono (wpS_forRange (I:=λx c st'=>c=(none,())/\∃l',SA κ it pd l' st'/\l'.Perm l/\SoL lt l' lo (lo+x)/\(∀i,i<lo->l'.getD i 0=l.getD i 0)) (Q:=λc st'=>c=(none,())/\∃l',SA κ it pd l' st'/\l'.Perm l/\SoL lt l' lo (lo+m)/\(∀i,i<lo->l'.getD i 0=l.getD i 0)) ?step ?fin ⟨rfl,l,hst,.refl _,by rw[show max ok 1=ok by omega];exact so,λ_ _=>rfl⟩) ?post)
 case fin=>
  rintro c st' ⟨rfl,l',s1,pm,so',pre⟩;exact⟨rfl,l',s1,pm,by rw[show max (max ok 1) m=m by omega] at so';exact so',pre⟩
 case post=>
  rintro c st' ⟨rfl,l',s1,pm,so',pre⟩;exact Td (h l' _ s1 pm so' pre)
 case step=>
  rintro k c st' hk1 hk ⟨rfl,l',s1,pm,so',pre⟩;have al':Al n l':=⟨pm.trans al.pm⟩;have hl':=al'.len;refine Tc (wpS_mono (wpS_forRange (I:=λx c st''=>st'=st''/\∃u v,c=(none,u,v)/\u<=v/\v<=k/\v - u<=k - x/\(∀i,i<u->lt (l'.getD (lo+i) 0) (l'.getD (lo+k) 0)=true)/\(∀i,v<=i->i<k->lt (l'.getD (lo+k) 0) (l'.getD (lo+i) 0)=true))
   (Q:=λc st''=>st'=st''/\∃u,c=(none,u,u)/\u<=k/\(∀i,i<u->lt (l'.getD (lo+i) 0) (l'.getD (lo+k) 0)=true)/\(∀i,u<=i->i<k->lt (l'.getD (lo+k) 0) (l'.getD (lo+i) 0)=true)) ?step ?fin ⟨rfl,0,k,rfl,by omega,by omega,by omega,λi hi=>by omega,λi h1 h2=>by omega⟩) ?post)
  case fin=>
   rintro c st'' ⟨rfl,u,v,rfl,b1,b2,b3,b4,b5⟩;have:u=v:=by omega
   subst this;exact⟨rfl,u,rfl,b2,b4,b5⟩
  case step=>
   rintro x c st'' _ hx ⟨rfl,u,v,rfl,b1,b2,b3,b4,b5⟩;dsimp only;by_cases e:u ≥ v
   ·rw[Tg e];have:u=v:=by omega
    subst this;exact Td ⟨rfl,u,rfl,b2,b4,b5⟩
   ·rw[Tf e];refine Tc (Gs hc s1 al' (by omega) (by omega) ?_);dsimp only;have q1:u<=(u+v) / 2:=by omega
    have q2:(u+v) / 2<v:=by omega
    generalize (u+v) / 2=md at q1 q2;cases c:lt (l'.getD (lo+k) 0) (l'.getD (lo+md) 0) with
    | true=>
     rw[Tg rfl];refine Td ⟨rfl,u,md,rfl,q1,by omega,by omega,b4,λi z1 z2=>?_⟩;by_cases z:i=md
     ·rw[z];exact c
     ·exact L.tr _ _ _ c (so' _ _ (by omega) (by omega) (by omega))
    | false=>
     rw[Tf (by decide)];have c':=al'.flip L (by omega) (by omega) (by omega) c;refine Td ⟨rfl,md+1,v,rfl,by omega,b2,by omega,λi z1=>?_,b5⟩;by_cases z:i=md
     ·rw[z];exact c'
     ·exact L.tr _ _ _ (so' _ _ (by omega) (by omega) (by omega)) c'
  case post=>
   rintro c st'' ⟨rfl,u,rfl,b2,b4,b5⟩;dsimp only;obtain⟨l2,s2,pm2,g2⟩:=Xmu s1 (k:=lo+k) (d:=lo+u) (by omega) (by omega);have wm:∀{Q:Unit->SortSt->Prop},Q () (setArr st' (bubble (arrOf st') (lo+k) (lo+k - (lo+u))))->wpS (model prog w) A E s (moveDown' (lo+k) (lo+u)) Q st':=λhq=>by
    rw[moveDown'_eq];exact wpS_modify hq
   refine Tc (wm (Td ⟨rfl,l2,s2,pm2.trans pm,λi j h1 h2 h3=>?_,λi hi=>?_⟩))
   ·rw[g2,g2];by_cases i1:i=lo+u
    ·rw[Tg i1,Tf (by omega),Tg (by omega)];have:=b5 (j - 1 - lo) (by omega) (by omega)
     rwa [show lo+(j - 1 - lo)=j - 1 by omega] at this
    ·rw[Tf i1];by_cases i2:lo+u<i/\i<=lo+k
     ·rw[Tg i2,Tf (by omega),Tg (by omega)];exact so' _ _ (by omega) (by omega) (by omega)
     ·rw[Tf i2];by_cases j1:j=lo+u
      ·rw[Tg j1];have:=b4 (i - lo) (by omega)
       rwa [show lo+(i - lo)=i by omega] at this
      ·rw[Tf j1];by_cases j2:lo+u<j/\j<=lo+k
       ·rw[Tg j2];exact so' _ _ (by omega) (by omega) (by omega)
       ·rw[Tf j2];exact so' _ _ (by omega) h2 (by omega)
   ·rw[g2,Tf (by omega),Tf (by omega)];exact pre i hi
end
open PySem.W (kas_item kas_cmp kas_swaps_map)
def Gu (m:Array Keyed) (u:Nat) (c:Array Keyed):Array Keyed:=m.toList.zipIdx.foldl (λa z=>a.setIfInBounds (u+z.2) z.1) c
def Xex (c:Array Keyed) (u v m r:Nat):SM Bool:=do
 let z <-if m<=r then mLo (c.extract u v) (c.extract v (v+r)) else mHi (c.extract u v) (c.extract v (v+r))
 modify λs=>setArr s (Gu z u (arrOf s))
 return (failedOf (<-get)).isNone
def Xmv(i:Nat):mergeAt' i=(do
  let s <-get
  let (some (u,m,pw),some (v,r,_)):=((pendingOf s)[i]?,(pendingOf s)[i+1]?) | unsupported "internal:list.sort.pending"
  set (SortSt.mk' (kindOf s) (arrOf s) (((pendingOf s).setIfInBounds i (u,m+r,pw)).eraseIdxIfInBounds (i+1)) (gallopOf s) (failedOf s))
  let some k <-Dk false (<-elem' (arrOf s) v) (arrOf s) u m 0 | return false
  if m - k==0 then return true
  let some q <-Dk true (<-elem' (arrOf s) (u+k+(m - k) - 1)) (arrOf s) v r (r - 1) | return false
  if q==0 then return true
  Xex (arrOf s) (u+k) v (m - k) q):=rfl
theorem Xey(k):∀(xs:List Keyed) (o:Nat) (c:Array Keyed) (m:Nat),k+o+xs.length<=c.size->((xs.zipIdx o).foldl (λa z=>a.setIfInBounds (k+z.2) z.1) c)[m]? = if k+o<=m/\m<k+o+xs.length then xs[m - (k+o)]? else c[m]?
 | [],o,c,m,_=>by rw[Tf (by simp)];rfl
 | x::xs,o,c,m,h=>by
  have hl:(x::xs).length=xs.length+1:=rfl;rw[List.zipIdx_cons,List.foldl_cons,Xey k xs (o+1) _ m (by rw[Array.size_setIfInBounds];omega),Array.getElem?_setIfInBounds];by_cases h1:k+(o+1)<=m/\m<k+(o+1)+xs.length
  ·rw[Tg h1,Tg (by omega),show m - (k+o)=m - (k+(o+1))+1 by omega,List.getElem?_cons_succ]
  ·rw[Tf h1];by_cases h2:k+o=m
   ·rw[Tg h2,Tg (by omega),Tg (by omega),show m - (k+o)=0 by omega];rfl
   ·rw[Tf h2,Tf (by omega)]
def Xmw{it}{l res}{k}(h:k+res.length<=l.length):Gu (Fk it res) k (Fk it l)=Fk it (l.take k++res++l.drop (k+res.length)):=by
 have e1:(Fk it res).toList=res.map (kas_item it):=by unfold Fk;rfl
 unfold Gu;rw[e1];apply Array.ext_getElem?;intro m;rw[Xey k _ 0 _ m (by rw[Oh,B3];omega),Oh,Nat.add_zero];unfold Fk;rw[Qq,Qq,Ox,Ox,Ox];by_cases h1:k<=m/\m<k+res.length
 ·rw[Tg h1,Qm (by rw[Oo,Ov];omega),Q5 (by rw[Ov];omega),Ov,Qz (by omega)]
 ·rw[Tf h1];by_cases h2:m<k
  ·rw[Qm (by rw[Oo,Ov];omega),Qm (by rw[Ov];omega),Sw,Tg h2]
  ·rw[Q5 (by rw[Oo,Ov];omega),Oo,Ov,Q9];congr 2;omega
def Kv{lt}{l}{u v}(h:SoL lt l u v)(hv:v<=l.length):((l.take v).drop u).Pairwise λx y=>lt x y=true:=by
 rw[Ra];intro i j hi hj hij;rw[Pk,Ov] at hi hj;rw[S5,S5,R9,R9];have:=h (u+i) (u+j) (by omega) (by omega) (by omega)
 rwa [Oz,Oz,Oi (by omega),Oi (by omega)] at this
section
variable {prog:Program}{w:World}{A:Around}{E:Zc}{s:Shared}{κ : SortKind}{it:Array Keyed}{n:Nat}{lt:Nat->Nat->Bool}{l:List Nat}{st:SortSt}
def wS_mAt(hc:CmS prog w A s κ it n lt){n1 n2 pw}(hst:SA κ it #[(0,n1,pw),(n1,n2,0)] l st)(al:Al n l)(h1:1<=n1)(h2:1<=n2)(hn:n1+n2=n)(so1:SoL lt l 0 n1)(so2:SoL lt l n1 n)
  {Q} (h:∀l' st',SA κ it #[(0,n,pw)] l' st'->l'.Perm l->SoL lt l' 0 n->Q true st'):wpS (model prog w) A E s (mergeAt' 0) Q st:=by
 have L:=hc.L;have hl:=al.len;rw[Xmv];refine Tc (wpS_get ?_);rw[hst.p,hst.a];have e0:(#[(0,n1,pw),(n1,n2,0)]:Array (Nat×Nat×Nat))[0]? = some (0,n1,pw):=rfl;have e1:(#[(0,n1,pw),(n1,n2,0)]:Array (Nat×Nat×Nat))[0+1]? = some (n1,n2,0):=rfl;have ep:((#[(0,n1,pw),(n1,n2,0)]:Array (Nat×Nat×Nat)).setIfInBounds 0 (0,n1+n2,pw)).eraseIdxIfInBounds (0+1) = #[(0,n1+n2,pw)]:=by simp
 rw[e0,e1];dsimp only;rw[ep];clear e0 e1 ep;have s1:SA κ it #[(0,n,pw)] l (SortSt.mk' (kindOf st) (Fk it l) #[(0,n1+n2,pw)] (gallopOf st) (failedOf st)):=⟨hst.k,rfl,hst.f,by rw[<-hn]⟩;have wset:∀{Q:PUnit->SortSt->Prop} {x y:SortSt},Q ⟨⟩ x->wpS (model prog w) A E s (set x:StateT SortSt Sem PUnit) Q y:=λhq=>by
  unfold wpS;rw[StateT.run_set];exact Tb ⟨rfl,hq⟩
 refine Tc (wset ?_);generalize SortSt.mk' (kindOf st) (Fk it l) #[(0,n1+n2,pw)] (gallopOf st) (failedOf st)=st1 at s1;have m1:l.getD n1 0∈l:=B4 (by omega);refine Tc (Bs (Bj (show n1<l.length by omega)) ?_);refine Tc (Gn (P:=λt => !lt (l.getD n1 0) (l.getD t 0)) ⟨λa b hab hb e=>?_⟩ (by omega) (λt ht Q' hq=>?_) λk hk hlo hhi=>?_)
 ·have e:lt (l.getD n1 0) (l.getD b 0)=false:=by simpa using e
  cases q:lt (l.getD n1 0) (l.getD a 0) with
  | false=>rfl
  | true=>
   have:=L.tr _ _ _ q (so1 a b (Pm _) hab hb);rw[this] at e;cases e
 ·rw[Qw];exact Gm hc (Bj (by omega)) (al.ltn (by omega)) (al.ltn (by omega)) s1.k (left:=false) hq
 dsimp only;have lo1:∀t,t<k->lt (l.getD t 0) (l.getD n1 0)=true:=λt ht=>by
  have:=hlo t ht;exact al.flip L (by omega) (by omega) (by omega) (by simpa using this)
 have hi1:∀t,k<=t->t<n1->lt (l.getD n1 0) (l.getD t 0)=true:=λt ht ht2=>by
  have:=hhi t ht ht2;simpa using this
 have ge:∀{x t:Nat},n1<=t->t<n->lt x (l.getD n1 0)=true->lt x (l.getD t 0)=true:=λ{x t} h1 h2 hx=>by
  by_cases z:t=n1
  ·rw[z];exact hx
  ·exact L.tr _ _ _ hx (so2 n1 t (Oj _) (by omega) h2)
 by_cases e1:(n1 - k==0)=true
 ·rw[Tg e1];have e1':n1 - k=0:=by simpa using e1
  refine Td (h l _ s1 (.refl _) λi j a1 a2 a3=>?_);by_cases c1:j<n1
  ·exact so1 i j a1 a2 c1
  ·by_cases c2:n1<=i
   ·exact so2 i j c2 a2 a3
   ·exact ge (by omega) a3 (lo1 i (by omega))
 rw[Tf e1];have e1':n1 - k≠0:=by simpa using e1
 rw[show 0+k+(n1 - k) - 1=n1 - 1 by omega,Qw];refine Tc (Bs (Bj (show n1 - 1<l.length by omega)) ?_);refine Tc (Gn (P:=λt=>lt (l.getD (n1+t) 0) (l.getD (n1 - 1) 0)) ⟨λa b hab hb e=>?_⟩ (by omega) (λt ht Q' hq=>?_) λr hr hlo2 hhi2=>?_)
 ·exact L.tr _ _ _ (so2 _ _ (by omega) (by omega) (by omega)) e
 ·exact Gm hc (Bj (by omega)) (al.ltn (by omega)) (al.ltn (by omega)) s1.k (left:=true) hq
 dsimp only;have hi2:∀t,r<=t->t<n2->lt (l.getD (n1 - 1) 0) (l.getD (n1+t) 0)=true:=λt a b=>al.flip L (by omega) (by omega) (by omega) (hhi2 t a b);have le:∀{x t:Nat},t<n1->lt (l.getD (n1 - 1) 0) x=true->lt (l.getD t 0) x=true:=λ{x t} h1 hx=>by
  by_cases z:t=n1 - 1
  ·rw[z];exact hx
  ·exact L.tr _ _ _ (so1 t (n1 - 1) (Pm _) (by omega) (by omega)) hx
 have r1:1<=r:=by
  rcases Nat.eq_zero_or_pos r with z | z
  ·have a:=hi2 0 (by omega) (by omega);have b:=hi1 (n1 - 1) (by omega) (by omega);have:=L.tr _ _ _ a b;rw[L.irr] at this;cases this
  ·exact z
 rw[Tf (by simp;omega)];unfold Xex;rw[Ea,Ea,show n1+r - n1=r by omega];have ela:(l.drop k).take (n1 - k)=(l.take n1).drop k:=(Sb ..).symm;have elb:(l.drop n1).take r=(l.take (n1+r)).drop n1:=by rw[Sb,show n1+r - n1=r by omega]
 have T:Two lt n ((l.drop k).take (n1 - k)) ((l.drop n1).take r):=by
  refine⟨L,λx hx=>?_,λx hx=>?_,λx hx y hy=>?_,?_,?_⟩
  ·obtain⟨t,b1,b2,rfl⟩:=Dl hx;exact al.ltn (by omega)
  ·obtain⟨t,b1,b2,rfl⟩:=Dl hx;exact al.ltn (by omega)
  ·obtain⟨t,b1,b2,rfl⟩:=Dl hx;obtain⟨t',c1,c2,rfl⟩:=Dl hy;exact al.ne (by omega) (by omega) (by omega)
  ·rw[ela];exact Kv (λi j a1 a2 a3=>so1 i j (Pm _) a2 a3) (by omega)
  ·rw[elb];exact Kv (λi j a1 a2 a3=>so2 i j a1 a2 (by omega)) (by omega)
 have lena:((l.drop k).take (n1 - k)).length=n1 - k:=by rw[Ov,Pk];omega
 have lenb:((l.drop n1).take r).length=r:=by rw[Ov,Pk];omega
 have b0:((l.drop n1).take r).getD 0 0=l.getD n1 0:=by
  rw[Oz,Sw,Tg (by omega),Q9,<-Oz];rfl
 have a9:((l.drop k).take (n1 - k)).getD (((l.drop k).take (n1 - k)).length - 1) 0=l.getD (n1 - 1) 0:=by
  rw[lena,Oz,Sw,Tg (by omega),Q9,show k+(n1 - k - 1)=n1 - 1 by omega,<-Oz]
 have bot:∀y∈(l.drop k).take (n1 - k),lt (((l.drop n1).take r).getD 0 0) y=true:=λy hy=>by
  obtain⟨t,b1,b2,rfl⟩:=Dl hy;rw[b0];exact hi1 _ (by omega) (by omega)
 have top:∀x∈(l.drop n1).take r,lt x (((l.drop k).take (n1 - k)).getD (((l.drop k).take (n1 - k)).length - 1) 0)=true:=λx hx=>by
  obtain⟨t,b1,b2,rfl⟩:=Dl hx;rw[a9];exact hlo2 t b1
 have fin:∀res st',Mrg lt ((l.drop k).take (n1 - k)) ((l.drop n1).take r) res->SG st1 st'->wpS (model prog w) A E s (do
   modify λs=>setArr s (Gu (Fk it res) k (arrOf s))
   let z <-get
   pure (failedOf z).isNone) Q st':=by
  intro res st' mr sg;have hrl:res.length=n1 - k+r:=by rw[mr.1.length_eq,Oo,lena,lenb]
  refine Tc (wpS_modify (Tc (wpS_get (Td ?_))));have ef:failedOf (setArr st' (Gu (Fk it res) k (arrOf st')))=none:=sg.f.trans s1.f;rw[ef];have hmem:∀x∈res,(∃t,k<=t/\t<n1/\x=l.getD t 0)\/(∃t,t<r/\x=l.getD (n1+t) 0):=λx hx=>by
   rcases Op.mp (mr.1.mem_iff.mp hx) with z | z
   ·obtain⟨t,b1,b2,e⟩:=Dl z;exact .inl ⟨k+t,by omega,by omega,e⟩
   ·obtain⟨t,b1,b2,e⟩:=Dl z;exact .inr ⟨t,b1,e⟩
  refine h (l.take k++res++l.drop (k+res.length)) _ ⟨sg.k.trans s1.k,?_,ef,sg.p.trans s1.p⟩ ?_ ?_
  ·show Gu (Fk it res) k (arrOf st')=_;rw[sg.a,s1.a,Xmw (by omega)]
  ·rw[show k+res.length=n1+r by omega];have e:l=l.take k++((l.drop k).take (n1 - k)++(l.drop n1).take r)++l.drop (n1+r):=by
    rw[<-Pg,<-take_split,show k+(n1 - k)=n1 by omega,<-take_split,Pf]
   refine List.Perm.trans ?_ (List.Perm.of_eq e.symm);exact(P8 _ mr.1).append_right _
  ·have pw:(l.take k++res++l.drop (k+res.length)).Pairwise λx y=>lt x y=true:=by
    refine Pc.mpr ⟨Pc.mpr ⟨?_,mr.2,λx hx y hy=>?_⟩,?_,λx hx y hy=>?_⟩
    ·have:=Kv (u:=0) (v:=k) (l:=l) (lt:=lt) (λi j a1 a2 a3=>so1 i j a1 a2 (by omega)) (by omega)
     rwa [Rl] at this
    ·obtain⟨t,ht,rfl⟩:=Fr hx (by omega);rcases hmem y hy with ⟨u,c1,c2,rfl⟩ | ⟨u,c1,rfl⟩
     ·exact so1 _ _ (Pm _) (by omega) c2
     ·exact ge (by omega) (by omega) (lo1 t ht)
    ·have:=Kv (u:=k+res.length) (v:=n) (l:=l) (lt:=lt) (λi j a1 a2 a3=>so2 i j (by omega) a2 a3) (by omega)
     rwa [P0 (by omega)] at this
    ·have hy':y∈(l.drop (k+res.length)).take n:=by rw[P0 (by rw[Pk];omega)];exact hy
     obtain⟨u,c1,c2,rfl⟩:=Dl hy';have hju:k+res.length+u=n1+(r+u):=by omega
     rw[hju];have top2:=hi2 (r+u) (by omega) (by omega);rcases Op.mp hx with z | z
     ·obtain⟨t,ht,rfl⟩:=Fr z (by omega);exact ge (by omega) (by omega) (lo1 t ht)
     ·rcases hmem x z with ⟨t,c1,c2,rfl⟩ | ⟨t,c1,rfl⟩
      ·exact le c2 top2
      ·exact so2 _ _ (by omega) (by omega) (by omega)
   have len:(l.take k++res++l.drop (k+res.length)).length=n:=by
    rw[Oo,Oo,Ov,Pk];omega
   exact λi j a1 a2 a3=>Gq pw a2 (by omega)
 by_cases e5:n1 - k<=r
 ·rw[Tg e5];exact Tc (Xmn hc T (by omega) (by omega) bot top s1.k λres st' mr sg=>fin res st' mr sg)
 ·rw[Tf e5];exact Tc (Xms hc T (by omega) (by omega) bot top s1.k λres st' mr sg=>fin res st' mr sg)
end
open PySem.W (KasT kas_item kas_cmp kas_ask kas_sort kat_run kat_snds kat_ask_eq kas_range)
section
variable {prog:Program}{w:World}{A:Around}{E:Zc}{s:Shared}{κ : SortKind}{it:Array Keyed}{lt:Nat->Nat->Bool}{l:List Nat}{st:SortSt}
def Rn (κ : SortKind) (it:Array Keyed) (lt:Nat->Nat->Bool) (l:List Nat) (st:SortSt):Prop:=∃l',l'.Perm l/\((SA κ it #[(0,64,0)] l' st/\SoL lt l' 0 64) \/ ∃n1 n2 pw,1<=n1/\1<=n2/\n1+n2=64/\SA κ it #[(0,n1,pw),(n1,n2,0)] l' st/\SoL lt l' 0 n1/\SoL lt l' n1 64)
def Xmx(hc:CmS prog w A s κ it 64 lt)(hst:SA κ it #[] l st)(al:Al 64 l){Q}(h:∀l' st' pd,SA κ it pd l' st'->l'.Perm l->SoL lt l' 0 64->Q () st'):wpS (model prog w) A E s sortRuns' Q st:=by
 have hl:=al.len;rw[sortRuns'_eq];refine Tc (wpS_get ?_);have hsz:(arrOf st).size=64:=by rw[hst.a,B3,hl]
 have hmr:minRun' 64 64 0=32:=by
  rw[minRun'_succ,Tf (by decide)];rfl
 dsimp only;rw[hsz,hmr];refine Tc (wpS_mono (wpS_forRange (I:=λx c st'=>(x=0/\c=(none,0)/\SA κ it #[] l st')\/(x=1/\∃l' n1,c=(none,n1)/\SA κ it #[(0,n1,0)] l' st'/\l'.Perm l/\32<=n1/\n1<=64/\SoL lt l' 0 n1)\/(2<=x/\c=(none,64)/\Rn κ it lt l st')) (Q:=λc st'=>c=(none,64)/\Rn κ it lt l st') ?step ?fin (.inl ⟨rfl,rfl,hst⟩)) ?post)
 case fin=>
  rintro c st' (⟨z,_⟩ | ⟨z,_⟩ | ⟨_,z⟩)
  ·exact absurd z (by decide)
  ·exact absurd z (by decide)
  ·exact z
 case step=>
  rintro x c st' _ hx (⟨rfl,rfl,s0⟩ | ⟨rfl,l1,n1,rfl,s1,pm1,b1,b2,so1⟩ | ⟨x2,rfl,z⟩)
  ·dsimp only;rw[Tf (by omega),Ss];refine Tc (Xev hc s0 al (by omega) (by omega) λm l1 st1 s1 pm1 m1 m2 so _=>?_);have al1:Al 64 l1:=⟨pm1.trans al.pm⟩;dsimp only;rw[Qw] at so;by_cases hm:m<32
   ·rw[Tg hm];refine Tc (wpS_lift (wpAny_rule ⟨rfl,?_⟩));refine Tc (Xew hc s1 al1 m1 (by omega) (by omega) (by rw[Qw];exact so) λl2 st2 s2 pm2 so2 _=>?_);rw[Tf (by decide)];refine Tc (wpS_get ?_);rw[s2.p];refine Tc (wpS_modify (Td (.inr (.inl ⟨rfl,l2,32,rfl,⟨s2.k,s2.a,s2.f,?_⟩,pm2.trans pm1,by omega,by omega,so2⟩))));show (pendingOf st2).push _=_;rw[s2.p];rfl
   ·rw[Tf hm];refine Tc (wpS_get ?_);rw[s1.p];refine Tc (wpS_modify (Td (.inr (.inl ⟨rfl,l1,m,by rw[Qw],⟨s1.k,s1.a,s1.f,?_⟩,pm1,by omega,by omega,so⟩))));show (pendingOf st1).push _=_;rw[s1.p];rfl
  ·dsimp only;by_cases e:n1 ≥ 64
   ·rw[Tg e];obtain rfl:n1=64:=by omega
    exact Td ⟨rfl,l1,pm1,.inl ⟨s1,so1⟩⟩
   rw[Tf e];have al1:Al 64 l1:=⟨pm1.trans al.pm⟩;have fin:∀l2 st2,SA κ it #[(0,n1,0)] l2 st2->l2.Perm l1->SoL lt l2 n1 64->(∀i,i<n1->l2.getD i 0=l1.getD i 0)->∀pw,SA κ it #[(0,n1,pw),(n1,64 - n1,0)] l2 (setPending (setPending st2 ((pendingOf st2).modify ((pendingOf st2).size - 1) λx=>(x.fst,x.2.fst,pw))) ((pendingOf (setPending st2 ((pendingOf st2).modify ((pendingOf st2).size - 1) λx=>(x.fst,x.2.fst,pw)))).push (n1,64 - n1,0)))/\SoL lt l2 0 n1:=by
    intro l2 st2 s2 pm2 so2 pre pw;refine⟨⟨s2.k,s2.a,s2.f,?_⟩,λi j a1 a2 a3=>?_⟩
    ·show ((pendingOf st2).modify ((pendingOf st2).size - 1) λx=>(x.fst,x.2.fst,pw)).push (n1,64 - n1,0)=_;rw[s2.p];simp[Array.modify,Array.modifyM]
    ·rw[pre i (by omega),pre j (by omega)];exact so1 i j a1 a2 a3
   refine Tc (Xev hc s1 al1 (by omega) (by omega) λm l2 st2 s2 pm2 m1 m2 so pre=>?_);have al2:Al 64 l2:=⟨pm2.trans al1.pm⟩;dsimp only;by_cases hm:m<32
   ·rw[Tg hm];refine Tc (wpS_lift (wpAny_rule ⟨rfl,?_⟩));rw[show min (64 - n1) 32=64 - n1 by omega];refine Tc (Xew hc s2 al2 m1 (by omega) (by omega) so λl3 st3 s3 pm3 so3 pre3=>?_);rw[Tf (by decide)];have so3':SoL lt l3 n1 64:=by rw[show n1+(64 - n1)=64 by omega] at so3;exact so3
    refine Tc (wpS_get ?_);rw[s3.p];have eb:(#[(0,n1,0)]:Array (Nat×Nat×Nat)).back? = some (0,n1,0):=rfl;rw[eb];dsimp only;refine Tc (wpS_mono (wpS_forRange (I:=λx c st'=>c=(none,())/\SA κ it #[(0,n1,0)] l3 st') (Q:=λc st'=>c=(none,())/\SA κ it #[(0,n1,0)] l3 st') ?_ (λc st' z=>z) ⟨rfl,s3⟩) ?_)
    ·rintro x c st' _ _ ⟨rfl,q⟩;refine Tc (wpS_get ?_);rw[q.p,Tf (by show ¬ 1 > 1;decide)];exact Td ⟨rfl,q⟩
    ·rintro c st' ⟨rfl,q⟩;dsimp only;obtain⟨q1,q2⟩:=fin l3 st' q (pm3.trans pm2) so3' (λi hi=>(pre3 i hi).trans (pre i hi)) (power' 64 (2 * 0+n1) (2 * 0+n1+n1+(64 - n1)) 64);refine Tc (wpS_modify (Tc (wpS_modify (Td (.inr (.inr ⟨by omega,by rw[show n1+(64 - n1)=64 by omega],l3,((pm3.trans pm2)).trans pm1,.inr ⟨n1,64 - n1,_,by omega,by omega,by omega,q1,q2,so3'⟩⟩))))))
   ·rw[Tf hm];obtain rfl:m=64 - n1:=by omega
    have so':SoL lt l2 n1 64:=by rw[show n1+(64 - n1)=64 by omega] at so;exact so
    refine Tc (wpS_get ?_);rw[s2.p];have eb:(#[(0,n1,0)]:Array (Nat×Nat×Nat)).back? = some (0,n1,0):=rfl;rw[eb];dsimp only;refine Tc (wpS_mono (wpS_forRange (I:=λx c st'=>c=(none,())/\SA κ it #[(0,n1,0)] l2 st') (Q:=λc st'=>c=(none,())/\SA κ it #[(0,n1,0)] l2 st') ?_ (λc st' z=>z) ⟨rfl,s2⟩) ?_)
    ·rintro x c st' _ _ ⟨rfl,q⟩;refine Tc (wpS_get ?_);rw[q.p,Tf (by show ¬ 1 > 1;decide)];exact Td ⟨rfl,q⟩
    ·rintro c st' ⟨rfl,q⟩;dsimp only;obtain⟨q1,q2⟩:=fin l2 st' q pm2 so' pre (power' 64 (2 * 0+n1) (2 * 0+n1+n1+(64 - n1)) 64);refine Tc (wpS_modify (Tc (wpS_modify (Td (.inr (.inr ⟨by omega,by rw[show n1+(64 - n1)=64 by omega],l2,(pm2).trans pm1,.inr ⟨n1,64 - n1,_,by omega,by omega,by omega,q1,q2,so'⟩⟩))))))
  ·dsimp only;rw[Tg (Oj _)];exact Td ⟨rfl,z⟩
 case post=>
  rintro c st' ⟨rfl,l1,pm1,z⟩;dsimp only;have al1:Al 64 l1:=⟨pm1.trans al.pm⟩;refine Tc (wpS_mono (wpS_forRange (I:=λx c st'=>c=(none,())/\∃l2 pd,l2.Perm l/\Al 64 l2/\SA κ it pd l2 st'/\((pd.size<=1/\SoL lt l2 0 64)\/(x=0/\∃n1 n2 pw,1<=n1/\1<=n2/\n1+n2=64/\pd = #[(0,n1,pw),(n1,n2,0)]/\SoL lt l2 0 n1/\SoL lt l2 n1 64))) (Q:=λc st'=>c=(none,())/\∃l2 pd,l2.Perm l/\SA κ it pd l2 st'/\SoL lt l2 0 64) ?step ?fin ?init) ?post)
  case init=>
   rcases z with ⟨s1,so⟩ | ⟨n1,n2,pw,a1,a2,a3,s1,so1,so2⟩
   ·exact⟨rfl,l1,_,pm1,al1,s1,.inl ⟨by show 1<=1;decide,so⟩⟩
   ·exact⟨rfl,l1,_,pm1,al1,s1,.inr ⟨rfl,n1,n2,pw,a1,a2,a3,rfl,so1,so2⟩⟩
  case fin=>
   rintro c st' ⟨rfl,l2,pd,pm2,al2,s2,⟨_,so⟩ | ⟨e,_⟩⟩
   ·exact⟨rfl,l2,pd,pm2,s2,so⟩
   ·exact absurd e (by decide)
  case step=>
   rintro x c st' _ _ ⟨rfl,l2,pd,pm2,al2,s2,⟨e,so⟩ | ⟨rfl,n1,n2,pw,a1,a2,a3,rfl,so1,so2⟩⟩
   ·refine Tc (wpS_get ?_);rw[s2.p,Tg e];exact Td ⟨rfl,l2,pd,pm2,s2,so⟩
   ·refine Tc (wpS_get ?_);rw[s2.p,Tf (by show ¬ 2<=1;decide)]
    show wpS _ _ _ _ (do
     let b <-mergeAt' 0
     if (!b)=true then pure (ForInStep.done (some (),())) else pure (ForInStep.yield (none,()))) _ _
    refine Tc (wS_mAt hc s2 al2 a1 a2 a3 so1 so2 λl3 st3 s3 pm3 so3=>?_);rw[Tf (by decide)];exact Td ⟨rfl,l3,_,pm3.trans pm2,⟨pm3.trans al2.pm⟩,s3,.inl ⟨by show 1<=1;decide,so3⟩⟩
  case post=>
   rintro c st' ⟨rfl,l2,pd,pm2,s2,so⟩;exact Td (h l2 _ pd s2 pm2 so)
end
section
variable {prog:Program}{w:World}{A:Around}{E:Zc}{s:Shared}{κ : SortKind}{ks vs:List Value}{lt:Nat->Nat->Bool}
def Xmy{Q:SortSt->Shared->Prop}(hl:ks.length=vs.length)(h2:2<=vs.length)(h64:vs.length<=64)(L:Lin vs.length lt)
  (hc:∀i j (C:Bool->Shared->Prop),i<vs.length->j<vs.length->C (lt i j) s->kas_ask prog w A κ ks i j C s)
  (h:∀p st',Gd vs.length p->Bx lt p vs.length->arrOf st'=p.map (kas_item (ks.toArray.zip vs.toArray))->failedOf st'=none->Q st' s):
  wpAny (model prog w) A ((sortRuns').run (SortSt.mk' κ (ks.toArray.zip vs.toArray) #[] 7 none)) (λr s'=>Q r.2 s') E s:=by
 by_cases e:vs.length<64
 ·exact kat_run (G:=λp s'=>s'=s/\Gd vs.length p/\Bx lt p vs.length) hl h2 e (λp st' s' _ b1 b2 ⟨e1,b3,b4⟩=>by subst e1;exact h p st' b3 b4 b1 b2)
   (Nw (n:=vs.length) (lt:=lt) (λi j C hi hj hC=>hc i j C hi hj hC) (Kj (n:=vs.length) (by omega)) ⟨rfl,(Kj (n:=vs.length) (by omega)).run,Xee L (by omega)⟩)
 ·have e64:vs.length=64:=by omega
  have hz:(ks.toArray.zip vs.toArray).size=64:=by simp[hl,e64]
  rw[e64] at L;have cm:CmS prog w A s κ (ks.toArray.zip vs.toArray) 64 lt:=⟨L,λi j C hi hj hC=>by
   have:=hc i j C (by omega) (by omega) hC;rw[kat_ask_eq hl] at this;exact this⟩
  have ea:(ks.toArray.zip vs.toArray)=Fk (ks.toArray.zip vs.toArray) (List.range 64):=by
   have:=kas_range (ks.toArray.zip vs.toArray);rw[hz] at this;rw[Gr];exact this.symm
  have s0:SA κ (ks.toArray.zip vs.toArray) #[] (List.range 64) (SortSt.mk' κ (ks.toArray.zip vs.toArray) #[] 7 none):=⟨rfl,ea,rfl,rfl⟩;have run:=Xmx (E:=E) (Q:=λ_ st'=>Q st' s) cm s0 ⟨.refl _⟩ λl' st' pd s1 pm so=>by
   refine h l'.toArray st' ?_ ?_ ?_ s1.f
   ·rw[e64];exact(List.perm_iff_toArray_perm).mp pm
   ·rw[e64];intro i j h1 h2;have:=so i j (Pm _) h1 h2;show lt (l'.toArray.getD i 0) (l'.toArray.getD j 0)=true;rw[Io,Io,<-Iy,<-Iy];exact this
   ·rw[s1.a,Gr]
  exact wpAny_mono run (λr s' q=>by obtain⟨rfl,q⟩:=q;exact q) λ_ _ z=>z
end
open PySem.W (KasT kas_sort kas_ask kas_item kat_run kat_snds kat_kind KatTups)
def Fa (Ts:List (Zb)) (i j:Nat):Bool:=Cv (Ts.getD i []).length (Ts.getD i []) (Ts.getD j []).length (Ts.getD j [])
def Xmz(n)(a):Cv n a n a=false:=by unfold Cv;rw[Tg rfl];exact Ip a
def Xm0{n m k}{a b c}(h:Cv n a m b=true)(g:Cv m b k c=true):Cv n a k c=true:=by
 unfold Cv at *;by_cases e1:n=m
 ·rw[Tg e1] at h;by_cases e2:m=k
  ·rw[Tg e2] at g;rw[Tg (e1.trans e2)];exact Kl _ _ _ h g
  ·rw[Tf e2] at g;rw[Tf (by omega)];have:=Tj g;exact Th (by omega)
 ·rw[Tf e1] at h;have h:=Tj h;by_cases e2:m=k
  ·rw[Tf (by omega)];exact Th (by omega)
  ·rw[Tf e2] at g;have g:=Tj g;rw[Tf (by omega)];exact Th (by omega)
def Xm1{n m}{a b}(h:a≠b):Cv n a m b=true\/Cv m b n a=true:=by
 unfold Cv;by_cases e:n=m
 ·rw[Tg e,Tg e.symm];exact Nz _ _ h
 ·rw[Tf e,Tf (Ne.symm e)];rcases Nat.lt_or_ge n m with z | z
  ·exact .inl (Th z)
  ·exact .inr (Th (by omega))
def linP{Ts:List (Zb)}(nd:Ts.Nodup):Lin Ts.length (Fa Ts) where
 irr i:=Xmz _ _
 tr i j k:=Xm0
 tot i j hi hj ne:=Xm1 λe=>ne (by
  have e1:Ts.getD i []=Ts[i]:=by simp[List.getD,hi]
  have e2:Ts.getD j []=Ts[j]:=by simp[List.getD,hj]
  rw[e1,e2] at e;exact(Rw nd).mp e)
def Turns (X:Cx) (f:Addr) (H:Hp) (ps:List Addr) (Ts:List (Zb)):Prop:=
 ∀(pins:List (Addr×Obj)) (Z:L2.St) (s1:Shared) (H1:Hp) (i:Nat),i<ps.length->Same H H1->Inv X pins Z H1 s1 ->
  wpAny (model X.prog X.w) X.A.in1.in1 (call (.ref f) [.ref (ps.getD i 0)]) (λu s'=>∃t H2,u = .ref t/\Inv X pins Z H2 s'/\H2 t=some (.tup [.int (Ts.getD i []).length,.ref (ps.getD i 0)])/\Same H1 H2) (λ_ _=>False) s1
section
variable {X:Cx}{pins:List (Addr×Obj)}{Z:L2.St}{H:Hp}{s:Shared}
def Xm2{t p}{n:Nat}{ss}(I:Inv X pins Z H s)(ht:H t=some (.tup [.int n,.ref p]))(hp:H p=some (.tup (ss.map V.str))):Iq s.heap (.ref t) n ss:=by
 obtain⟨its,r,⟨o,ho,hc,k,hd⟩,_⟩:=I.tuple (SqT.of (K:=X.K) ht);obtain⟨its2,r2,⟨o2,ho2,hc2,k2,hd2⟩,_⟩:=I.tuple (SqT.of (K:=X.K) hp);cases r with
 | cons r1 r'=>
  cases r' with
  | cons r2' r''=>
   cases r'';obtain⟨tk,rfl⟩:∃tk,_=Value.int n tk:=r1;cases r2';exact⟨t,o,_,k,tk,.ref p,rfl,ho,hc,hd,rfl,p,o2,_,k2,rfl,ho2,hc2,hd2,by simpa using Ga r2⟩
def Xez{D kS}{e1}{ks}{st}{out:List Addr}{A}{E}{P}(I:Inv X ((D,seqObj "list" #[] e1)::pins) Z H s)(hD:X.s₀.heap.objs.size<=D)(hnp:∀p∈X.pn++pins,p.1≠D)
  (hk:H kS=some (.lst ks)) (ho:(arrOf st).map (·.2)=(out.map Value.ref).toArray) (hf:failedOf st=none) (hz:out.length<=64) (h:∀s',Inv X pins Z (upd (upd H kS (.lst [])) D (.lst (out.map V.ref))) s'->P (.done (.ret .none)) s'):
  wpAny (model X.prog X.w) A (ksk_tail D false e1 (.ref kS) st) P E s:=by
 obtain⟨z,its,n,r,hl,e⟩:=I.lstM hk;have J:=I.lset (its':=[]) (f:=λ_ => #[]) (ys:=[]) (t':=s.toks) hk e rfl .nil (by decide);unfold ksk_tail
 try dsimp only
 rw[ho];simp only[P6,if_false];refine Ta (listUpdate_at e rfl ?_ (by rw[Ol,<-hl];exact z) (Pm _));refine Ta (wpAny_letGo ?_);obtain⟨hg,_⟩:=J.pin (D,seqObj "list" #[] e1) (Ph _ Os);refine Ta (seqEpoch_at hg rfl ?_);refine Ta (listUpdate_at hg rfl ?_ (Pm _) (by rw[Ol,Oh,Te];omega));rw[hf];simp only[bne_self_eq_false,P6,if_false];refine Tb (h _ ?_);have vr:Vals (out.map V.ref) (out.map Value.ref):=by
  clear ho hz h
  induction out with
  | nil=>exact .nil
  | cons p t ih=>exact .cons rfl ih
 exact Xmg J hD hnp vr (by rw[Oh,Te];omega)
def Xm3{D kS}{e1}{ks}{ps:List Addr}{Ts}{its:List Value}{A}{E}{P}(I:Inv X ((D,seqObj "list" #[] e1)::pins) Z H s)(hu:A.units<cLine)(hD:X.s₀.heap.objs.size<=D)(hnp:∀p∈X.pn++pins,p.1≠D)
  (hk:H kS=some (.lst ks)) (hlen:its.length=ps.length) (hT:ps.length=Ts.length) (nd:Ts.Nodup) (hp:∀i,i<ps.length->Iq s.heap (its.getD i .none) (Ts.getD i []).length (Ts.getD i [])) (h64:ps.length<=64)
  (h:∀(p:Array Nat) s',Gd ps.length p->Bx (Fa Ts) p ps.length->Inv X pins Z (upd (upd H kS (.lst [])) D (.lst ((p.toList.map λi=>ps.getD i 0).map V.ref))) s'->P (.done (.ret .none)) s'):
  wpAny (model X.prog X.w) A (ksk_end D false (ps.map Value.ref).toArray e1 (.ref kS) its.toArray) P E s:=by
 have hsz:(ps.map Value.ref).toArray.size=ps.length:=by simp
 have L:=linP nd;rw[<-hT] at L;have outs:∀p:Array Nat,Gd ps.length p->(p.toList.map λi=>(ps.map Value.ref).getD i Value.none)=((p.toList.map λi=>ps.getD i 0).map Value.ref):=λp g=>by
  rw[Pj];refine P9 λi hi=>?_;have hi':i<ps.length:=by
   have:=(Array.perm_iff_toList_perm.mp g).mem_iff.mp hi;simpa using this
  simp[List.getD,hi']
 unfold ksk_end
 try dsimp only
 simp only[P6,if_false];by_cases h2:(ps.map Value.ref).toArray.size<2
 ·rw[Tg h2,Tg h2];refine Ta (Tb ?_);rw[StateT.run_pure];refine Ta (Tb ?_)
  try dsimp only
  have g0:Gd ps.length (List.toArray (List.range ps.length)):=Sm _;refine Xez (st:=SortSt.mk' general' (its.toArray.zip (ps.map Value.ref).toArray) #[] 7 none) (out:=(List.toArray (List.range ps.length)).toList.map λi=>ps.getD i 0) I hD hnp hk ?_ rfl (by simpa using h64) λs' J=>h _ s' g0 (λi j hij hj=>by omega) J;rw[<-outs _ g0];show ((its.toArray.zip (ps.map Value.ref).toArray).map (·.2))=_;apply Array.toList_inj.mp;simp only[Array.toList_map,List.zip_toArray];rw[List.map_snd_zip (by simp[hlen])];refine Rx (by simp) λi h1 h2=>?_;simp[List.getD] at h1 ⊢;simp[h1]
 ·rw[Tf h2,Tf h2];have fst:∀(l:List Value) (q:∀v∈l,∃n ss,Iq s.heap v n ss),∃fs,KatTups s.heap l fs/\fs.length=l.length/\∀f∈fs,∃(x:Int) (t:Tok),f = .int x t:=by
   intro l
   induction l with
   | nil=>exact λ_=>⟨[],KatTups.nil,rfl,λ_ h=>by cases h⟩
   | cons v l ih=>
    intro q;obtain⟨fs,t1,t2,t3⟩:=ih λu hm=>q u (Ot _ hm);obtain⟨n,ss,a,o,xs,k,t,u,rfl,g1,g2,g3,g4,_⟩:=q v Os;refine⟨.int n t::fs,KatTups.cons g1 g2 g3 ?_ t1,by simp[t2],λf hf=>?_⟩
    ·have:xs[0]? = xs.toList[0]?:=by simp
     rw[this,g4];rfl
    ·rcases O2.mp hf with e | e
     ·exact⟨_,_,e⟩
     ·exact t3 f e
  obtain⟨fs,t1,t2,t3⟩:=fst its λv hv=>by
   obtain⟨i,hi,rfl⟩:=Po.mp hv;have:=hp i (by omega);have e:its.getD i .none=its[i]:=by simp[List.getD,hi]
   rw[e] at this;exact⟨_,_,this⟩
  refine Ta (kat_kind (T:=.type "int") t1 (by omega) (λv hm=>?_) (by decide) ?_)
  ·obtain⟨x,t,rfl⟩:=t3 v hm;exact .now
  have eb:((Value.type "int") != Value.type "tuple")=true:=by decide
  rw[eb];refine Ta (wpAny_mono (Xmy (lt:=Fa Ts) (κ:=tuples' true) (ks:=its) (vs:=ps.map Value.ref) (Q:=λst' s'=>s'=s/\failedOf st'=none/\∃p,Gd ps.length p/\Bx (Fa Ts) p ps.length/\(arrOf st').map (·.2)=(p.toList.map λi=>(ps.map Value.ref).getD i Value.none).toArray)
   (by simp[hlen]) (by rw[Oh];omega) (by rw[Oh];exact h64) (by rw[Oh];exact L) (λi j C hi hj hC=>?_) (λp st' g so a2 a3=>by rw[Oh] at g so;exact⟨rfl,a3,p,g,so,kat_snds (by simp[hlen]) a2⟩)) ?_ λ_ _ e=>e)
  ·rw[Oh] at hi hj;show wpAny _ _ (keyLt' (tuples' true) (its.getD i Value.none) (its.getD j Value.none)) C _ _;exact Xmf hu (hp i hi) (hp j hj) hC
  rintro ⟨⟨⟩,st'⟩ s' ⟨rfl,hf,p,g,so,ea⟩
  try dsimp only
  refine Xez (out:=p.toList.map λi=>ps.getD i 0) I hD hnp hk (by rw[ea,outs p g]) hf (by rw[Oh,O1,g.size];exact h64) λs' J=>h p s' g so J
end
section
variable {X:Cx}{pins:List (Addr×Obj)}{Z:L2.St}{H:Hp}{s:Shared}
def Xm4{D kS f}{e1}{ps}{Ts}{A}{E}{P}(hA:A=X.A.in1.in1)(I:Inv X ((D,seqObj "list" #[] e1)::pins) Z (upd H kS (.lst [])) s)(hkS:H kS=none)(hu:A.units<cLine)(hD:X.s₀.heap.objs.size<=D)(hnp:∀p∈X.pn++pins,p.1≠D)(hDn:H D=none)
  (hT:Tups H ps Ts) (nd:Ts.Nodup) (h64:ps.length<=64) (turn:Turns X f H ps Ts)
  (h:∀(p:Array Nat) (H':Hp) s',Gd ps.length p->Bx (Fa Ts) p ps.length->Same H H'->H' D=some (.lst ((p.toList.map λi=>ps.getD i 0).map V.ref))->Inv X pins Z H' s'->P (.done (.ret .none)) s'):
  wpAny (model X.prog X.w) A (ksk_rest D (.ref f) false (ps.map Value.ref).toArray e1 (.ref kS)) P E s:=by
 subst hA;unfold ksk_rest;refine Ta (wpAny_rule ?_)
 first
  | rw[List.forIn_toArray]
  | (rw[<-Array.forIn_toList];simp only[List.toList_toArray])
  | rw[<-Array.forIn_toList]
 refine Ta (ksk_fold (λi s'=>∃(H':Hp) (ks:List V),Inv X ((D,seqObj "list" #[] e1)::pins) Z H' s'/\Same H H'/\H' kS=some (.lst ks)/\ks.length=i/\∀j,j<i->∃t,ks[j]? = some (.ref t)/\H' t=some (.tup [.int (Ts.getD j []).length,.ref (ps.getD j 0)])) (ps.map Value.ref) 0 s
  ⟨_,[],I,Same.upd0 hkS,Ab,rfl,λj hj=>absurd hj (Qp _)⟩ ?step ?done)
 case step=>
  rintro j x s' hx ⟨H',ks,J,sm,hk,hkl,hks⟩;simp only[Qw] at hkl hks ⊢;obtain⟨hj,ex⟩:=Oy.mp hx;rw[Oh] at hj;have ex':x = .ref (ps.getD j 0):=by rw[<-ex];simp[List.getD,hj]
  subst ex';refine Ta (wpAny_attempt (wpAny_mono (turn _ Z s' H' j hj sm J) (λv s'' he=>?_) λ_ _ hF=>hF.elim));obtain⟨t,H2,rfl,J2,ht,sm2⟩:=he
  try dsimp only
  have hk2:=sm2 _ _ hk;obtain⟨z,its,n,r,hl,e⟩:=J2.lstM hk2;have ntk:t≠kS:=λq=>by rw[q,hk2] at ht;cases ht
  refine Ta (listUpdate_at e rfl ?_ (by rw[Ol,<-hl];exact z) (by rw[Array.size_push,Ol,<-hl,hkl,Te];omega));refine Tb ⟨rfl,_,ks++[.ref t],J2.lset (ys:=ks++[.ref t]) (its':=its++[.ref t]) (t':=s''.toks) hk2 e (by simp) (r.append (.cons (show Ai (.ref t) (.ref t) from rfl) .nil)) (by rw[Oo,Pw,hkl,Te];omega),(sm.trans sm2).upd hkS,Ab,by simp[hkl],λi hi=>?_⟩;by_cases q:i=j
  ·subst q;exact⟨t,by rw[Q5 (by omega),hkl];simp,by rw[Ad ntk];exact ht⟩
  ·obtain⟨t',a1,a2⟩:=hks i (by omega);refine⟨t',by rw[Qm (by omega)];exact a1,?_⟩;rw[Ad λq=>by rw[q,hk] at a2;cases a2];exact sm2 _ _ a2
 case done=>
  rintro s' ⟨H',ks,J,sm,hk,hkl,hks⟩;simp only[Qw,Oh] at hkl hks
  try dsimp only
  obtain⟨z,its,n,r,hl,e⟩:=J.lstM hk;refine Ta (listItems_at e rfl ?_);have hTs:=hT.same sm;have nkD:kS≠D:=λq=>by
   obtain⟨_,hn,_⟩:=J.pin (D,seqObj "list" #[] e1) (Ph _ Os);have hn:H' D=none:=hn;rw[<-q,hk] at hn;cases hn
  refine Xm3 (ks:=ks) J hu hD hnp hk (by omega) hT.1 nd (λi hi=>?_) h64 λp s2 g so J2=>h p _ s2 g so ((sm.upd hkS).upd hDn) Ab J2;obtain⟨t,a1,a2⟩:=hks i hi;obtain⟨u,hu1,hu2⟩:=r.get a1;have hu2:u=Value.ref t:=hu2;have e2:its.getD i .none = .ref t:=by simp[List.getD,hu1,hu2]
  rw[e2];exact Xm2 J a2 (hTs.2 i hi)
def Xm5{l f}{ps}{Ts}{Q}(I:Inv X pins Z H s)(hu:X.A.in1.in1.units<cLine)(hl:H l=some (.lst (ps.map V.ref)))(hT:Tups H ps Ts)(nd:Ts.Nodup)(h64:ps.length<=64)(turn:Turns X f H ps Ts)
  (h:∀(D:Addr) (p:Array Nat) (H':Hp),H D=none->Gd ps.length p->Bx (Fa Ts) p ps.length->Same H H'->H' D=some (.lst ((p.toList.map λi=>ps.getD i 0).map V.ref))->Q (.ref D) H'):
  wpAny (model X.prog X.w) X.A (call (.builtin "sorted") [.ref l] [(Str.ofString "key",.ref f)]) (EP X pins Z Q) X.xe s:=by
 obtain⟨its,rv,pl,hz⟩:=I.list (SqL.of hl);have hits:its=ps.map Value.ref:=by
  clear hT h64 turn h pl hl hz
  induction ps generalizing its with
  | nil=>cases rv;rfl
  | cons p t ih=>
   cases rv with
   | cons r t'=>cases r;rw[ih _ t'];rfl
 subst hits;refine call_function_entry_kw kind_sorted plain_sorted entry_sorted (ksk_s1 _ _) ?_;unfold Builtin.«sorted»;refine Ta (m:=checkCount "sorted" 1 1 _) (Tb ?_);refine Ta (collect_list pl.isList ?_ (by rw[Oh,Te];omega));refine Ta (wpAny_newList ?_ (by rw[Oh,Te];omega));generalize hvs:ps.map Value.ref=vs at *;have hvl:vs.length=ps.length:=by rw[<-hvs,Oh]
 have hsz:((s.heap.push (seqObj "list" #[] 0)).update s.heap.objs.size (Obj.mapSeq (· ++ vs.toArray))).objs.size=s.heap.objs.size+1:=by
  rw[Heap.size_update,size_push']
 have hoL:(((s.heap.push (seqObj "list" #[] 0)).update s.heap.objs.size (Obj.mapSeq (· ++ vs.toArray))).push (seqObj "list" vs.toArray 0)).get? (s.heap.objs.size+1)=some (seqObj "list" vs.toArray 0):=by
  rw[<-hsz];exact Heap.get?_push_size _ rfl
 have keep:∀b o,s.heap.get? b=some o->(((s.heap.push (seqObj "list" #[] 0)).update s.heap.objs.size (Obj.mapSeq (· ++ vs.toArray))).push (seqObj "list" vs.toArray 0)).get? b=some o:=λb o q=>by
  have hlt:b<s.heap.objs.size:=Tl q;rw[Heap.get?_push_ne _ _ _ (by rw[hsz];exact Ow (Qb hlt)),Heap.get?_update_ne _ _ _ _ (Ow hlt),Heap.get?_push_ne _ _ _ (Ow hlt)];exact q
 have hszA:(((s.heap.push (seqObj "list" #[] 0)).update s.heap.objs.size (Obj.mapSeq (· ++ vs.toArray))).push (seqObj "list" vs.toArray 0)).objs.size=s.heap.objs.size+2:=by
  rw[size_push',hsz]
 show wpAny _ _ _ _ _ {s with heap:=((s.heap.push (seqObj "list" #[] 0)).update s.heap.objs.size (Obj.mapSeq (· ++ vs.toArray))).push (seqObj "list" vs.toArray 0)};rw[hsz];generalize hhA:((s.heap.push (seqObj "list" #[] 0)).update s.heap.objs.size (Obj.mapSeq (· ++ vs.toArray))).push (seqObj "list" vs.toArray 0)=hA at *;refine Ta (wpAny_holding (wpAny_call_entry_kw slot_list_sort ⟨_,hoL,rfl⟩ entry_list_sort ?body (ksk_l1 _ _)))
 case body=>
  show wpAny (model X.prog X.w) X.A.in1.in1 (Builtin.«list.sort» ⟨[.ref (s.heap.objs.size+1)],[(Str.ofString "key",.ref f)]⟩) _ _ _;rw[ksk_t1];unfold ksk_tree;refine Ta (listItems_at hoL rfl ?_);refine Ta (listUpdate_at hoL rfl ?_ (by rw[Ol,hvl,Te];omega) (Pm _));obtain⟨e1,ho1⟩:∃e1,(hA.update (s.heap.objs.size+1) (Obj.mapSeq λ_=>(#[]:Array Value))).get? (s.heap.objs.size+1)=some (seqObj "list" #[] e1):=⟨_,get?_update_seq hoL λ_ => #[]⟩;refine Ta (seqEpoch_at ho1 rfl ?_);refine Ta (wpAny_newTuple ?_ (by show vs.length<=_;rw[hvl,Te];omega));refine Ta (wpAny_newList ?_ (Pm _));refine wpAny_holding ?_;have hkS:((hA.update (s.heap.objs.size+1) (Obj.mapSeq λ_=>(#[]:Array Value))).push (seqObj "tuple" vs.toArray 0)).objs.size=s.heap.objs.size+3:=by rw[size_push',Heap.size_update,hszA]
  have k6:∀b o,s.heap.get? b=some o->(((hA.update (s.heap.objs.size+1) (Obj.mapSeq λ_=>(#[]:Array Value))).push (seqObj "tuple" vs.toArray 0)).push (seqObj "list" #[] 0)).get? b=some o:=λb o e=>by
   refine Tm _ (Tm _ ?_);rw[Heap.get?_update_ne _ _ _ _ (Ow (Qb (Tl e)))];exact keep b o e
  have ho6:(((hA.update (s.heap.objs.size+1) (Obj.mapSeq λ_=>(#[]:Array Value))).push (seqObj "tuple" vs.toArray 0)).push (seqObj "list" #[] 0)).get? (s.heap.objs.size+1)=some (seqObj "list" #[] e1):=Tm _ (Tm _ ho1);have hk6:(((hA.update (s.heap.objs.size+1) (Obj.mapSeq λ_=>(#[]:Array Value))).push (seqObj "tuple" vs.toArray 0)).push (seqObj "list" #[] 0)).get? (s.heap.objs.size+3)=some (seqObj "list" #[] 0):=by rw[<-hkS];exact Heap.get?_push_size _ rfl
  have J0:Inv X pins Z (upd H (s.heap.objs.size+3) (.lst [])) {s with heap:=((hA.update (s.heap.objs.size+1) (Obj.mapSeq λ_=>(#[]:Array Value))).push (seqObj "tuple" vs.toArray 0)).push (seqObj "list" #[] 0)}:=
   I.laid (t':=s.toks) (o:=.lst []) k6 (by omega) ⟨by decide,[],0,.nil,hk6⟩
  have hDn:H (s.heap.objs.size+1)=none:=I.hok.fresh (Qc _);have hnp:∀p∈X.pn++pins,p.1≠s.heap.objs.size+1:=λp hp=>Ow (Qb (Tl (I.pin p hp).1));have J1:Inv X ((s.heap.objs.size+1,seqObj "list" #[] e1)::pins) Z (upd H (s.heap.objs.size+3) (.lst [])) {s with heap:=((hA.update (s.heap.objs.size+1) (Obj.mapSeq λ_=>(#[]:Array Value))).push (seqObj "tuple" vs.toArray 0)).push (seqObj "list" #[] 0)}:=by
   refine J0.pins_of λp hp=>?_;rcases O2.mp hp with rfl | hp
   ·exact⟨ho6,by rw[Ad (by show s.heap.objs.size+1≠s.heap.objs.size+3;omega)];exact hDn,Nat.ne_of_gt (Qb I.lt),I.nofs (Qc _),λv q=>by cases q⟩
   ·exact J0.pin p (Ph _ hp)
  rw[hkS];subst hvs;refine Xm4 (f:=f) rfl J1 (I.hok.fresh (by omega)) hu (Pd I.sz (Qc _)) hnp hDn hT nd h64 turn λp H' s' g so sm hD' J=>⟨_,rfl,?_⟩;exact Tb ⟨_,rfl,⟨.ref (s.heap.objs.size+1),H',J,rfl,h _ p H' hDn g so sm hD'⟩⟩
end
structure FunT (K:Za) (x:Str) (st:Stmt) (f:Addr) (fd:FuncData) (T:Addr):Prop where
 ex:∃(oc:Value) (od:Option Addr) (kV doc pm:Value) (an:Option Addr) (c0:Addr) (ct:Value) (osl:Array (Option Value)),
  fd=fnOf x x (Eh st) (C3 st) (defScope st) .none kV doc pm an (.ref c0) ct/\K.lookup f=some ⟨oc,od,.func fd,osl⟩/\codeIn K (.ref c0) x=true/\codeHdIn K c0 T=true
 kp:keepIn K (.ref f)=true
structure DefT (K:Za) (x:Str) (st:Stmt) (T:Addr):Prop where
 ex:∃f fd,nsIn K mainGlobals x=some (some (.ref f))/\keepIn K (.ref f)=true/\FunT K x st f fd T/\Fun K x x st f fd
def DefT.of{K}{x}{st}{f c0 T}{oc}{od an}{osl}{kV doc pm ct}(a:nsIn K mainGlobals x=some (some (.ref f)))
  (l:K.lookup f=some ⟨oc,od,.func (fnOf x x (Eh st) (C3 st) (defScope st) .none kV doc pm an (.ref c0) ct),osl⟩) (c:codeIn K (.ref c0) x=true) (k:keepIn K (.ref f)=true) (t:codeHdIn K c0 T=true):DefT K x st T:=
 ⟨⟨f,_,a,k,⟨⟨oc,od,kV,doc,pm,an,c0,ct,osl,rfl,l,c,t⟩,k⟩,Xbl l c k⟩⟩
section
variable {P:Program}{w:World}{K:Za}{mg:Str->Option Value}{base:Heap}
def FunT.ok{x}{st}{f T}{fd}{N ps}{k}{sp}(F:FunT K x st f fd T)(S:FnScope N ps (defScope st))(len:∀vs H Q E,sp vs H Q E->vs.length=ps.length)
  (hbody:∀(c0:Addr),codeHdIn K c0 T=true->∀(A:Around) (outer:List Env) (s:Shared) (H:Hp) (vs:List V) (Q:VK) (E:XK),Room k (A.deeper (envOfC x (defScope st) s.heap.objs.size f (.ref c0)))->sp vs H Q E ->
   ∃t,PSs (Cs CX0 P w K mg base N x (defScope st) f (.ref c0) A outer s H E).nox (C3 st) t/\t {nx:=λ_ H'=>Q .non H',rt:=Q} (start N vs) H):FnOk P w K mg base CX0 (k+1) f fd ps sp:=by
 obtain⟨oc,od,kV,doc,pm,an,c0,ct,osl,rfl,lk,hcd,hhd⟩:=F.ex;refine Ln lk hcd S len λA outer s H vs Q E hr hsp=>?_;obtain⟨t,h,q⟩:=hbody c0 hhd A outer s H vs Q E hr hsp;exact⟨t,h.nox,q⟩
end
section
variable {X:Cx}
def Xm6 (X:Cx) (ta tk:TA):TE:=fun Z H Q=>ta Z H λvs H1=>tk Z H1 λzs H2=>∃(l f:Addr) (ps:List Addr) (Ts:List (Zb)),vs=[.ref l]/\zs=[.ref f]/\H2 l=some (.lst (ps.map V.ref))/\Tups H2 ps Ts/\Ts.Nodup/\ps.length<=64/\Turns X f H2 ps Ts /\
 ∀(D:Addr) (p:Array Nat) (H':Hp),H2 D=none->Gd ps.length p->Bx (Fa Ts) p ps.length->Same H2 H'->H' D=some (.lst ((p.toList.map λi=>ps.getD i 0).map V.ref))->Q (.ref D) H'
def Xm7{x:Str}{p pos:Pos}{e:Expr}{es:List Expr}{kws:List Keyword}{ta tk:TA}(hu:X.A.in1.in1.units<cLine)(hg:Gl X x)(hm:X.mg x=none)(hv:bootBuiltins x=some (.builtin "sorted"))(ha:PA X (e::es) ta)(hkw:PK X kws tk)
  (hks:(backToKw pos (keywordEach kws X.env)).filterMap (·.1)=[Str.ofString "key"]:=by rfl)
  (hn:x ≠ "__name__" := by decide) (hdb:(x==("__debug__" : Str))=false:=by decide)
  (he:backTo pos (starEach (e::es) X.env)=(false,eval e X.env)::backTo pos (starEach es X.env):=by rfl)
  (hplain:(backTo pos (starEach (e::es) X.env)).any (·.1)=false:=by rfl)
  (hall:(backToKw pos (keywordEach kws X.env)).all (·.1.isSome)=true:=by rfl)
  (hno:(backToKw pos (keywordEach kws X.env)).any (·.1.isNone)=false:=by rfl):PE X (.Call (.Name x p) (e::es) kws pos) (Xm6 X ta tk):=by
 intro pins s Z H Q I h;refine wpAny_Call_Name_kw (Fx I hg hm hv ?_ hn hdb);refine callWith_kw (thn (ha pos pins s Z H _ I h) λus s1 ⟨vs,H1,I1,r1,q1⟩=>thn (hkw pos pins s1 Z H1 _ I1 q1) λws s2 ⟨zs,H2,I2,r2,q2⟩=>?_) he hplain hall hno;rw[hks];obtain⟨l,f,ps,Ts,rfl,rfl,hl,hT,nd,h64,turn,k⟩:=q2;obtain⟨u,rfl,rx⟩:=Co r1;obtain⟨v,rfl,rf⟩:=Co r2;cases rx;cases rf;exact Xm5 I2 hu hl hT nd h64 turn k
def Xm8{k}{f c}{x qual}{params}{body}{scope}{pm ctv}{H}{ps}{Ts}(hf:H f=some (.ext (E3 f (kla_fn "<lambda>" qual params body scope [] pm (.ref c) ctv))))(hc:H c=some (.ext (E2 c qual)))
  (S:FnScope [x] [x] scope) (hr:Room (k+3) X.A) (hb:∀u,bindArgs (kla_fn "<lambda>" qual params body scope [] pm (.ref c) ctv) ⟨[u],[]⟩=pure ([x].zip [u]))
  (hkey:∀(A:Around) (outer:List Env) (s1:Shared) (H1:Hp) (i:Nat),i<ps.length->Same H H1->Room k (A.deeper (envOfC qual scope s1.heap.objs.size f (.ref c)))->∃t,PE (Cs CX0 X.prog X.w X.K X.mg X.base [x] qual scope f (.ref c) A outer s1 H1 E0) body t /\
   ∀Q:VK,(∀t H2,H2 t=some (.tup [.int (Ts.getD i []).length,.ref (ps.getD i 0)])->Same H1 H2->Q (.ref t) H2)->t (start [x] [.ref (ps.getD i 0)]) H1 Q):Turns X f H ps Ts:=by
 intro pins Z s1 H1 i hi sm I;have hr1:Room (k+1) X.A.in1.in1:=(Room.in1 (k:=k+2) hr).in1;obtain⟨t,ht,hq⟩:=hkey X.A.in1.in1 X.stack s1 H1 i hi sm (hr1.deeper _);refine wpAny_call (codeAny_mono (Xkp (Q:=λv H2=>∃t,v = .ref t/\H2 t=some (.tup [.int (Ts.getD i []).length,.ref (ps.getD i 0)])/\Same H1 H2) (sm _ _ hf) (sm _ _ hc) S hr1 I.env0.in1.in1 rfl (.cons (show Ai (.ref (ps.getD i 0)) (.ref (ps.getD i 0)) from rfl) .nil) (hb _) ht (hq _ λt H2 a b=>⟨t,rfl,a,b⟩)) λr s' hq'=>?_);cases r with
 | error e=>exact hq'.elim
 | ok fl=>
  cases fl with
  | next=>exact False.elim hq'
  | brk=>exact False.elim hq'
  | cont=>exact False.elim hq'
  | ret u=>
   obtain⟨v,H2,J,rv,t,rfl,a,b⟩:=I.after hq';exact⟨t,H2,rv,J,a,b⟩
end
end L2
namespace SH
open L2
def N4{how}{off}:Cd how off=true↔(how = "within" -> off=true)/\(how = "apart" -> off=false):=by
 unfold Cd;by_cases h:how = "within"
 ·rw[Tg h];have n:how ≠ "apart" := by rw[h];decide
  exact⟨λz=>⟨λ_=>z,λz=>absurd z n⟩,λz=>z.1 h⟩
 ·rw[Tf h];by_cases g:how = "apart"
  ·rw[Th g];constructor
   ·exact λz=>⟨λq=>absurd q h,λ_=>by simpa using z⟩
   ·intro z;rw[z.2 g];rfl
  ·rw[Ti g];exact⟨λ_=>⟨λq=>absurd q h,λq=>absurd q g⟩,λ_=>rfl⟩
def Kw{row S}:Am row S=true↔S.Pairwise ltS/\(∀x∈S,x∈row)/\(∀x∈S,∀y∈row,lieR row x y = "within" -> y∈S)/\(∀x∈S,∀y∈S,lieR row x y ≠ "apart"):=by
 constructor
 ·intro h;obtain⟨h1,h2⟩:=Ep h;unfold Am at h;rw[O4] at h;have al:∀x∈S,∀y∈row,Cd (lieR row x y) (decide (y∈S))=true:=λx hx y hy=>O9.mp (O9.mp h.2 x hx) y (Ap.mpr hy);refine⟨h2,h1,λx hx y hy e=>Tj ((N4.mp (al x hx y hy)).1 e),λx hx y hy e=>?_⟩;have:=(N4.mp (al x hx y (h1 y hy))).2 e;rw[Th hy] at this;cases this
 ·rintro ⟨h1,h2,h3,h4⟩;unfold Am;rw[O4,O4];refine⟨⟨Th (Kc h1).symm,O9.mpr λx hx=>Th (h2 x hx)⟩,O9.mpr λx hx=>O9.mpr λy hy=>N4.mpr ⟨λe=>Th (h3 x hx y (Ap.mp hy) e),λe=>Ti λz=>h4 x hx y z e⟩⟩
def Kx{a b c e}(h:lieT a b c e = "within"):c<a/\a<e/\c<b/\b<e:=by
 unfold lieT at h;split at h
 ·exact absurd h (by decide)
 ·split at h
  ·exact absurd h (by decide)
  ·split at h
   ·rename_i q;rw[Ck] at q;by_cases p1:c<a/\a<e
    ·by_cases p2:c<b/\b<e
     ·exact⟨p1.1,p1.2,p2.1,p2.2⟩
     ·rw[Tg p1,Tf p2] at q;omega
    ·rw[Tf p1] at q;split at q<;>omega
   ·split at h
    ·exact absurd h (by decide)
    ·exact absurd h (by decide)
def Xm9{row}{x y}(hx:row.count x=2)(h:lieR row x y = "within"):span row x<span row y:=by
 have l1:=Cj hx;obtain⟨h1,h2,h3,h4⟩:=Kx h;unfold span;omega
def Xna{S:Zb}{p}(h:S.Pairwise ltS):(S.filter p).Pairwise ltS:=h.filter p
def Xnb{row S}(h2:∀y∈row,row.count y=2)(h:Am row S=true)(ne:S≠[]):∃x∈S,Am row (S.filter λy=>decide (y≠x))=true:=by
 obtain⟨p1,p2,p3,p4⟩:=Kw.mp h;obtain⟨x,hx,lx⟩:=least (span row) S ne;refine⟨x,hx,Kw.mpr ⟨Xna p1,λy hy=>p2 y (Ou.mp hy).1,λy hy z hz e=>?_,λy hy z hz=>p4 y (Ou.mp hy).1 z (Ou.mp hz).1⟩⟩;obtain⟨hy1,hy2⟩:=Ou.mp hy;refine Ou.mpr ⟨p3 y hy1 z hz e,Th λq=>?_⟩;subst q;have:=Xm9 (h2 y (p2 y hy1)) e;have:=lx y hy1;omega
def Xe0{S}{x}(h:S.Pairwise ltS)(hx:x∈S):srt ((S.filter λy=>decide (y≠x))++[x])=S:=by
 have nd:=E7 h;refine Ez ((Cq _).trans (Ht ?_ nd λy=>?_)) (Ei _) (Kb h)
 ·rw[Qi];refine⟨nd.filter _,by simp,λa ha b hb e=>?_⟩;rw[Om.mp hb] at e;exact Tj (Ou.mp ha).2 e
 ·rw[Op,Om,Ou];constructor
  ·rintro (z | z)
   ·exact z.1
   ·rw[z];exact hx
  ·intro z;by_cases e:y=x
   ·exact .inr e
   ·exact .inl ⟨z,Th e⟩
def Xnc{S:Zb}{x}(h:S.Pairwise ltS)(hx:x∈S):(S.filter λy=>decide (y≠x)).length+1=S.length:=by
 have e:=Xe0 h hx;have:=congrArg List.length e;rw[(Cq _).length_eq,Oo] at this;exact this
theorem N5{H}:∀{Ts:List (Zb)} {xs:List V},DAll H (Ts.map tupD) xs->∃ps:List Addr,xs=ps.map V.ref/\Tups H ps Ts
 | [],xs,h=>by unfold List.map DAll at h;exact⟨[],h,Tups.nil H⟩
 | T::Ts,xs,h=>by
  rw[Pb] at h;unfold DAll at h;obtain⟨v,vr,rfl,h1,h2⟩:=h;obtain⟨p,ys,rfl,hp,hy⟩:=Mz h1;rw[Ih hy] at hp;obtain⟨ps,rfl,hq⟩:=N5 h2;exact⟨p::ps,rfl,Tups.cons hp hq⟩
theorem Xe1{H}:∀{ps:List Addr} {Ts:List (Zb)},Tups H ps Ts->DAll H (Ts.map tupD) (ps.map V.ref)
 | [],Ts,h=>by
  have:Ts=[]:=Pr.mp h.1.symm;rw[this];unfold List.map DAll;rfl
 | p::ps,[],h=>by have:=h.1;simp at this
 | p::ps,T::Ts,h=>by
  rw[Pb,Pb];unfold DAll;exact⟨.ref p,ps.map V.ref,rfl,En (h.2 0 (by simp)),Xe1 ⟨by simpa using h.1,λi hi=>by simpa using h.2 (i+1) (by simpa using hi)⟩⟩
def Xnd{row T}(h2:∀y∈row,row.count y=2)(h:Am row T=true):C9 (bars row) T=true:=by
 rw[<-Ke h2] at h;unfold E6 at h;rw[O4] at h;exact h.2
def Cov (row:Zb) (Us:List (Zb)) (j:Nat) (Ts:List (Zb)):Prop:=∀i,i<j->∀x∈row,x∉Us.getD i []->Am row (srt (Us.getD i []++[x]))=true->srt (Us.getD i []++[x])∈Ts
theorem Ky{α : Type}{R}(irr:∀a,¬R a a)(tr:∀a b c,R a b->R b c->R a c):∀{A B:List α},A.Pairwise R->B.Pairwise R->(∀x,x∈A↔x∈B)->A=B
 | [],[],_,_,_=>rfl
 | [],b::_,_,_,h=>absurd ((h b).mpr Os) (by simp)
 | a::_,[],_,_,h=>absurd ((h a).mp Os) (by simp)
 | a::A,b::B,hA,hB,h=>by
  obtain⟨a1,a2⟩:=Q7.mp hA;obtain⟨b1,b2⟩:=Q7.mp hB;have e:a=b:=by
   rcases O2.mp ((h a).mp Os) with z | z
   ·exact z
   ·rcases O2.mp ((h b).mpr Os) with u | u
    ·exact u.symm
    ·exact absurd (tr _ _ _ (a1 b u) (b1 a z)) (irr a)
  subst e;rw[Ky irr tr a2 b2 λx=>?_];constructor
  ·intro hx;rcases O2.mp ((h x).mp (Ot _ hx)) with z | z
   ·exact absurd (z ▸ a1 x hx) (irr a)
   ·exact z
  ·intro hx;rcases O2.mp ((h x).mpr (Ot _ hx)) with z | z
   ·exact absurd (z ▸ b1 x hx) (irr a)
   ·exact z
def LayC (row:Zb) (n:Nat) (Us:List (Zb)):Prop:=∀T,T∈Us↔Am row T=true/\T.length=n
end SH
namespace L2
def Xne{X}{tg l}{tl}(K)(h:X.K=K)(hl:PE X l tl):PI X tg l (Xah K tl):=by subst h;exact Bt hl
def Xe2{t u}{D}{Z}{H}(P:St->Hp->Prop)(h2:∀Z' H',P Z' H'->u D Z' H')(h1:∀nx,(∀Z' H',P Z' H'->nx Z' H')->t {D with nx:=nx} Z H):Je t u D Z H:=h1 (u D) h2
end L2
namespace SH
open L2
def spOne:Sp:=λvs H Q _=>∃(dr sc l:Addr) (xs:List V),vs=[.ref dr,.ref l]/\DrawOk H dr sc/\H l=some (.lst xs)/\l≠dr/\0<xs.length/\xs.length<=1000 /\
 ∀(i:Nat) (H':Hp),i<xs.length->DrawOk H' dr sc->But dr H H'->Q (xs.getD i .non) H'
def mostL (a b c:Zb):Zb:=srt ((a.filter λx=>decide (x∈b)||decide (x∈c))++(b.filter λx=>decide (x∈c) && !decide (x∈a)))
def Xnf{a b:Zb}(ha:a.Pairwise ltS)(hb:b.Pairwise ltS)(h:∀x,x∈a↔x∈b):a=b:=Ky Hq (λ_ _ _=>Hr) ha hb h
end SH
set_option maxHeartbeats 3200000
namespace L2
open PySem.Calls
def Mask (mask:Nat):Prop:=mask=7\/mask=15\/mask=31
section
variable {mask:Nat}{owner:Array (Option Nat)}
def liveL (owner:Array (Option Nat)):List Nat:=owner.toList.filterMap id
end
section
variable {P:Program}{w:World}{A:Around}{E:Zc}{s:Shared}{a b c:Addr}{ks ls:Zb}
structure Nu (w:World) (h:Heap) (a:Addr) (n:Nat):Prop where
 ex:∃o ep t,h.get? a=some o/\o.ExactSet/\o.data = .set #[] ep t/\t.place = #[]/\t.dummies = #[]/\Mask t.mask/\n<=t.mask/\t.led = !Cg w/\t.plain=true
def Wl (P:Program) (w:World) (wl:Array (Int×Value)) (ks:Zb):Prop:=ElemsOf (PySem.strKind P w) wl.toList/\∃zs,StrsAre (wl.toList.map (·.2)) zs/\zs.Perm ks
end
section
variable {P:Program}{w:World}{A:Around}{E:Zc}{s:Shared}{a b c:Addr}{ks ls:Zb}
def xor1 (ks:Zb) (x:Str):Zb:=if x∈ks then ks.erase x else ks++[x]
end
section
variable {P:Program}{w:World}{A:Around}{E:Zc}{s:Shared}{a b c:Addr}{ks ls:Zb}
end
section
variable {X:Cx}
end
end L2
set_option maxHeartbeats 4000000
namespace SH
open L2
def N6 (a b:Zb):Zb:=srt ((a.filter λx => !decide (x∈b))++(b.filter λx => !decide (x∈a)))
structure Two (H:Hp) (r p q:Addr) (row a b:Zb):Prop where
 hr:H r=some (.lst (row.map V.str))
 r2:Row2 row
 hd:(dit row).length<=14
 hp:H p=some (.tup (a.map V.str))
 hq:H q=some (.tup (b.map V.str))
 oa:∀y∈a,okN y
 ob:∀y∈b,okN y
 la:a.length<=24
 lb:b.length<=24
def Fb (a b:Zb):Bool:=Cv a.length a b.length b
def Xng{Ts}{p}(g:Gd Ts.length p)(so:Bx (Fa Ts) p Ts.length):
  (p.toList.map λi=>Ts.getD i []).Perm Ts/\(p.toList.map λi=>Ts.getD i []).Pairwise λa b=>Fb a b=true:=by
 constructor
 ·have e:((List.range Ts.length).map λi=>Ts.getD i [])=Ts:=by
   refine Rx (by simp) λi h1 h2=>?_;simp[Q6,List.getElem_range,List.getD,h2]
  have q:p.toList.Perm (List.range Ts.length):=by
   have:=g.toList;simpa using this
  have:=q.map λi=>Ts.getD i [];rw[e] at this;exact this
 ·rw[Ra];intro i j hi hj hij;have sz:=g.size;rw[Oh,O1,sz] at hi hj;have:=so i j hij hj;rw[Q6,Q6];have e1:p.getD i 0=p.toList[i]'(by rw[O1,sz];exact hi):=by simp[Array.getD,sz,hi]
  have e2:p.getD j 0=p.toList[j]'(by rw[O1,sz];exact hj):=by simp[Array.getD,sz,hj]
  rw[e1,e2] at this;exact this
def Kz{α : Type}(f:Nat -> α)(d : α)(l:List Nat){i}(hi:i<l.length):(l.map f).getD i d=f l[i]:=by simp[List.getD,hi]
def Xnh{H}{ps}{Ts}{p}(h:Tups H ps Ts)(g:Gd ps.length p):Tups H (p.toList.map λi=>ps.getD i 0) (p.toList.map λi=>Ts.getD i []):=by
 refine⟨by simp,λi hi=>?_⟩;rw[Oh] at hi;have e1:(p.toList.map λi=>ps.getD i 0).getD i 0=ps.getD p.toList[i] 0:=Kz _ _ _ hi;have e2:(p.toList.map λi=>Ts.getD i []).getD i []=Ts.getD p.toList[i] []:=Kz _ _ _ hi;rw[e1,e2];refine h.2 _ ?_;have q:p.toList.Perm (List.range ps.length):=by
  have:=g.toList;simpa using this
 simpa using q.mem_iff.mp (Pa hi)
abbrev qIn:Str:=(Str.ofString "in_order" ++ Str.ofString ".<locals>.")++Str.ofString "<lambda>"
def spInOrder (T:Addr) (pos:Pos):Sp:=λvs H Q _=>∃(l:Addr) (ps:List Addr) (Ts:List (Zb)),vs=[.ref l]/\H l=some (.lst (ps.map V.ref))/\Tups H ps Ts/\Ts.Nodup/\ps.length<=64/\Aq T pos qIn H /\
 ∀(D:Addr) (ps':List Addr) (Ts':List (Zb)) (H':Hp),H D=none->H' D=some (.lst (ps'.map V.ref))->Tups H' ps' Ts'->Ts'.Perm Ts->(Ts'.Pairwise λa b=>Fb a b=true)->Aq T pos qIn H'->But T H H'->Q (.ref D) H'
def Aq.same{T}{pos}{q}{H H'}(h:Aq T pos q H)(s:Same H H'):Aq T pos q H':=by
 rcases h with e | ⟨c,e,ec⟩
 ·exact .inl (s _ _ e)
 ·exact .inr ⟨c,s _ _ e,s _ _ ec⟩
def Aq.but{T dr}{pos}{q}{H H'}{o'}(h:Aq T pos q H)(hd:H dr=some (.lst o'))(b:But dr H H'):Aq T pos q H':=by
 rcases h with e | ⟨c,e,ec⟩
 ·exact .inl (b _ _ e λz=>by rw[z,hd] at e;cases e)
 ·exact .inr ⟨c,b _ _ e (λz=>by rw[z,hd] at e;cases e),b _ _ ec λz=>by rw[z,hd] at ec;cases ec⟩
def lamPos (s:Stmt):Pos:=match C3 s with
 | [.Return (some (.Call _ _ [⟨_,.Lambda _ _ _ p,_⟩] _)) _]=>p
 | _=>⟨0,0,0,0⟩
def Xni{a b c e}(h1:a<b)(h2:c<e)(n1:a≠c)(n2:a≠e)(n3:b≠c)(n4:b≠e)(h:lieT a b c e = "apart"):e<a\/b<c:=by
 unfold lieT at h;rw[Tf (by omega)] at h;split at h
 ·exact absurd h (by decide)
 ·split at h
  ·exact absurd h (by decide)
  ·split at h
   ·exact absurd h (by decide)
   ·rename_i q1 q2 q3;rw[Ck] at q1 q2 q3;by_cases p1:c<a/\a<e
    ·by_cases p2:c<b/\b<e
     ·rw[Tg p1,Tg p2] at q2;omega
     ·rw[Tg p1,Tf p2] at q1;omega
    ·by_cases p2:c<b/\b<e
     ·rw[Tf p1,Tg p2] at q1;omega
     ·by_cases p3:a<c/\c<b
      ·by_cases p4:a<e/\e<b
       ·rw[Tg p3,Tg p4] at q3;omega
       ·omega
      ·omega
def Xe3{a b c e}(h1:a<b)(h:lieT a b c e = "cross"):a<e/\c<b:=by
 unfold lieT at h;split at h
 ·exact absurd h (by decide)
 ·split at h
  ·rename_i q;rw[Ck] at q;by_cases p1:c<a/\a<e
   ·omega
   ·by_cases p2:c<b/\b<e
    ·omega
    ·rw[Tf p1,Tf p2] at q;omega
  ·split at h
   ·exact absurd h (by decide)
   ·split at h
    ·exact absurd h (by decide)
    ·exact absurd h (by decide)
def Xnj{a b c e}(h1:a<b)(h2:c<a)(h3:b<e):lieT a b c e = "within" := by
 unfold lieT;have q:nIn c e [a,b]=2:=by rw[Ck,Tg ⟨h2,by omega⟩,Tg ⟨by omega,h3⟩]
 rw[Tf (by omega),q,Tf (by decide),Tg rfl]
section
variable {row:Zb}
def Xe4{a y}(h:upB row a y=true):(pl row y).1<=(pl row a).1/\(pl row a).2<=(pl row y).2:=by
 unfold upB at h;rw[Rr] at h;rcases h with h | h
 ·rw[Tj h];exact⟨Int.le_refl _,Int.le_refl _⟩
 ·obtain⟨h1,h2,h3,h4⟩:=Kx (Tj h);exact⟨by omega,by omega⟩
def Xe5{x y z}(hx:row.count x=2)(h:lieR row x y = "within")(g:lieR row y z = "within"):lieR row x z = "within" := by
 have l:=Cj hx;obtain⟨h1,h2,h3,h4⟩:=Kx h;obtain⟨g1,g2,g3,g4⟩:=Kx g;exact Xnj l (by omega) (by omega)
def N7{x}:lieR row x x ≠ "within" := by rw[Ka];decide
structure Core (row:Zb) (cs:Zb) (p:Str->Bool):Prop where
 inr:∀c∈cs,c∈row
 is:∀y,p y=true ↔ ∃c∈cs,upB row c y=true
 ov:∀c∈cs,∀d∈cs,(pl row c).1<(pl row d).2
 an:∀c∈cs,∀d∈cs,lieR row c d ≠ "within"
variable {cs cs':Zb}{p p':Str->Bool}
def Core.plot(h2:∀y∈row,row.count y=2)(C:Core row cs p):Am row ((dit row).filter p)=true:=by
 refine Kw.mpr ⟨(Ej row).filter p,λx hx=>Ap.mp (Ou.mp hx).1,λx hx y hy e=>?_,λx hx y hy e=>?_⟩
 ·obtain⟨c,hc,hu⟩:=(C.is x).mp (Ou.mp hx).2;refine Ou.mpr ⟨Ap.mpr hy,(C.is y).mpr ⟨c,hc,?_⟩⟩;unfold upB at hu ⊢;rw[Rr] at hu ⊢;rcases hu with hu | hu
  ·rw[Tj hu] at e;exact .inr (Th e)
  ·exact .inr (Th (Xe5 (h2 c (C.inr c hc)) (Tj hu) e))
 ·have mx:=Ou.mp hx;have my:=Ou.mp hy;obtain⟨c,hc,hu⟩:=(C.is x).mp mx.2;obtain⟨d,hd,hv⟩:=(C.is y).mp my.2;have hx2:=h2 x (Ap.mp mx.1);have hy2:=h2 y (Ap.mp my.1);have ne:x≠y:=λz=>by rw[z,Ka] at e;exact absurd e (by decide)
  obtain⟨n1,n2,n3,n4⟩:=Fp hx2 hy2 ne;have u1:=Xe4 hu;have u2:=Xe4 hv;have o1:=C.ov c hc d hd;have o2:=C.ov d hd c hc;rcases Xni (Cj hx2) (Cj hy2) n1 n2 n3 n4 e with z | z
  ·omega
  ·omega
def Core.min(h2:∀y∈row,row.count y=2)(C:Core row cs p)(x):x∈cs↔x∈(dit row).filter p/\∀y∈(dit row).filter p,lieR row y x ≠ "within" := by
 have self:∀c∈cs,c∈(dit row).filter p:=λc hc=>Ou.mpr ⟨Ap.mpr (C.inr c hc),(C.is c).mpr ⟨c,hc,by unfold upB;simp⟩⟩;constructor
 ·intro hx;refine⟨self x hx,λy hy e=>?_⟩;obtain⟨c,hc,hu⟩:=(C.is y).mp (Ou.mp hy).2;unfold upB at hu;rw[Rr] at hu;rcases hu with hu | hu
  ·rw[Tj hu] at e;exact C.an c hc x hx e
  ·exact C.an c hc x hx (Xe5 (h2 c (C.inr c hc)) (Tj hu) e)
 ·rintro ⟨hx,hm⟩;obtain⟨c,hc,hu⟩:=(C.is x).mp (Ou.mp hx).2;unfold upB at hu;rw[Rr] at hu;rcases hu with hu | hu
  ·rw[Tj hu];exact hc
  ·exact absurd (Tj hu) (hm c (self c hc))
def Core.eq(h2:∀y∈row,row.count y=2)(C:Core row cs p)(C':Core row cs' p')(e:(dit row).filter p=(dit row).filter p'):∀x,x∈cs↔x∈cs':=λx=>by
 rw[C.min h2,C'.min h2,e]
def core1(h2:∀y∈row,row.count y=2){a:Str}(ha:a∈row):Core row [a] (upB row a) where
 inr c hc:=by rw[Om.mp hc];exact ha
 is y:=by simp
 ov c hc d hd:=by rw[Om.mp hc,Om.mp hd];exact Cj (h2 a ha)
 an c hc d hd:=by rw[Om.mp hc,Om.mp hd];exact N7
def Iz{q}(h:q∈crs row):q.1∈row/\q.2∈row/\ltS q.1 q.2/\lieR row q.1 q.2 = "cross" := by
 unfold crs at h;obtain⟨x,hx,h⟩:=List.mem_flatMap.mp h;obtain⟨y,hy,rfl⟩:=O5.mp h;obtain⟨h1,h3⟩:=Ou.mp hy;rw[O4] at h3;exact⟨Ap.mp hx,Ap.mp h1,Tj h3.1,Tj h3.2⟩
def core2(h2:∀y∈row,row.count y=2){q}(h:q∈crs row):Core row [q.1,q.2] λy=>upB row q.1 y||upB row q.2 y:=by
 obtain⟨ha,hb,hl,hx⟩:=Iz h;have hy:lieR row q.2 q.1 = "cross" := D8 (h2 _ ha) (h2 _ hb) hx;have la:=Cj (h2 _ ha);have lb:=Cj (h2 _ hb);have c1:=Xe3 la hx;have c2:=Xe3 lb hy;refine⟨λc hc=>?_,λy=>by simp,λc hc d hd=>?_,λc hc d hd=>?_⟩
 ·simp at hc;rcases hc with rfl | rfl
  ·exact ha
  ·exact hb
 ·simp at hc hd;rcases hc with rfl | rfl<;>rcases hd with rfl | rfl
  ·exact la
  ·exact c1.1
  ·exact c2.1
  ·exact lb
 ·simp at hc hd;rcases hc with rfl | rfl<;>rcases hd with rfl | rfl
  ·exact N7
  ·rw[hx];decide
  ·rw[hy];decide
  ·exact N7
def Xnk(h2:∀y∈row,row.count y=2):∀S∈cands row,Am row S=true:=λS hS=>by
 unfold cands at hS;rcases Op.mp hS with h | h
 ·obtain⟨a,ha,rfl⟩:=O5.mp h;exact(core1 h2 (Ap.mp ha)).plot h2
 ·obtain⟨q,hq,rfl⟩:=O5.mp h;exact(core2 h2 hq).plot h2
def Xnl(row):(crs row).Nodup:=by
 unfold crs;have nd:=E7 (Ej row);rw[List.Nodup,List.pairwise_flatMap];refine⟨λx hx=>?_,nd.imp λ{x y} ne a ha b hb e=>?_⟩
 ·rw[Rt];exact(nd.filter _).imp λne e=>ne (Prod.mk.inj e).2
 ·obtain⟨u,_,rfl⟩:=O5.mp ha;obtain⟨v,_,rfl⟩:=O5.mp hb;exact ne (Prod.mk.inj e).1
def Xnm(h2:∀y∈row,row.count y=2):(cands row).Nodup:=by
 have nd:=E7 (Ej row);unfold cands;rw[List.Nodup,Pc];refine⟨?_,?_,?_⟩
 ·rw[Rt];refine nd.imp_of_mem λ{a b} ha hb ne e=>ne ?_;have:=(Core.eq h2 (core1 h2 (Ap.mp ha)) (core1 h2 (Ap.mp hb)) e a).mp (Qj _);exact Om.mp this
 ·rw[Rt];refine(Xnl row).imp_of_mem λ{q r} hq hr ne e=>ne ?_;have E:=Core.eq h2 (core2 h2 hq) (core2 h2 hr) e;obtain⟨_,_,l1,_⟩:=Iz hq;obtain⟨_,_,l2,_⟩:=Iz hr;have e1:=(E q.1).mp (by simp);have e2:=(E q.2).mp (by simp);have e3:=(E r.1).mpr (by simp);simp at e1 e2 e3;obtain⟨a,b⟩:=q;obtain⟨c,d⟩:=r;simp only at *;rcases e1 with e1 | e1
  ·rcases e2 with e2 | e2
   ·exact absurd (e1.trans e2.symm) (Hs l1)
   ·rw[e1,e2]
  ·rcases e2 with e2 | e2
   ·rw[e1,e2] at l1;exact absurd (Hr l1 l2) (Hq _)
   ·exact absurd (e1.trans e2.symm) (Hs l1)
 ·intro A hA B hB e;obtain⟨a,ha,rfl⟩:=O5.mp hA;obtain⟨q,hq,rfl⟩:=O5.mp hB;have E:=Core.eq h2 (core1 h2 (Ap.mp ha)) (core2 h2 hq) e;obtain⟨_,_,l1,_⟩:=Iz hq;have e1:=Om.mp ((E q.1).mpr (by simp));have e2:=Om.mp ((E q.2).mpr (by simp));exact Hs l1 (e1.trans e2.symm)
def Xnn(h2:∀y∈row,row.count y=2)(h3:B2 row)(S):S∈[]::cands row↔Am row S=true:=by
 constructor
 ·intro h;rcases O2.mp h with e | e
  ·rw[e];exact Kk row
  ·exact Xnk h2 S e
 ·intro h;by_cases e:S=[]
  ·rw[e];exact Os
  ·exact Ot _ (Xd3 h2 h3 e h)
def Xno(h2:∀y∈row,row.count y=2):[]∉cands row:=λh=>by
 unfold cands at h;rcases Op.mp h with h | h
 ·obtain⟨a,ha,e⟩:=O5.mp h;have:=((core1 h2 (Ap.mp ha)).min h2 a).mp (Qj _);rw[e] at this;cases this.1
 ·obtain⟨q,hq,e⟩:=O5.mp h;have:=((core2 h2 hq).min h2 q.1).mp (by simp);rw[e] at this;cases this.1
def Xnp(h2:∀y∈row,row.count y=2):([]::cands row).Nodup:=Qf.mpr ⟨Xno h2,Xnm h2⟩
end
end SH
namespace L2
def Xe6{X:Cx}{N:Zb}{cap:List (Option Nat)}{scope:Scope}{tg iter elt:Expr}{ifs:List Expr}{g:TG}{tt:TT}{te:TE}{wi:TI}{pos:Pos}{i:Nat}{y:Str}{py spos:Pos}(C:CompScope X N cap scope)(hcalm:X.calm=true)(hN:X.N.Nodup)(hiN:X.N[i]? = some y)(hy:X.env.scope.names.lookup y=some .local)(hi:PI X tg iter wi)
  (hg:∀s0 H0 ex,PG (X.comp N scope s0 H0 ex) tg g) (ht:∀s0 H0 ex,PIfs (X.comp N scope s0 H0 ex) ifs tt) (he:∀s0 H0 ex,PE (X.comp N scope s0 H0 ex) elt te)
  (hsw:swapsWith (.ListComp elt [⟨tg,iter,ifs,0⟩] scope pos) (some (.Name y py)) spos.line X.env=pure true:=by rfl)
  (hs:∀x,foldedSetIterable iter X.env x=pure x:=by intro _;rfl):PS X (.Assign [.Name y py] (.ListComp elt [⟨tg,iter,ifs,0⟩] scope pos) spos) (Xcv i cap (.lst []) wi g tt (Hw te)):=
 Xcw (act := fun D env => do let _ <- call (.builtin "list.append") [.ref D, <- eval elt env]) Jy (fun use => rfl) rfl C hcalm Hv hN hiN hy hi (fun it D env => rfl) hg ht (fun D s0 H0 ex => Jx (he s0 H0 ex)) hsw hs
end L2
namespace SH
open L2
def Xe7 (T:Addr) (pos:Pos):Sp:=λvs H Q _=>∃(r:Addr) (row:Zb),vs=[.ref r]/\H r=some (.lst (row.map V.str))/\Row2 row/\B2 row/\(dit row).length<=14/\Aq T pos qIn H /\
 ∀(D:Addr) (ps:List Addr) (Ts:List (Zb)) (H':Hp),H D=none->H' D=some (.lst (ps.map V.ref))->Tups H' ps Ts->(∀S,S∈Ts↔Am row S=true)->(Ts.Pairwise λa b=>Fb a b=true)->ps.length<=64->Aq T pos qIn H'->But T H H'->Q (.ref D) H'
abbrev NPp:Zb:=["row", "span", "off", "single", "double"]
abbrev NPo:Zb:=["name", "span"]
abbrev NPi:Zb:=["other", "name", "span"]
abbrev NPs:Zb:=["name", "off"]
abbrev NPd:Zb:=["one", "other", "off"]
structure Offs (H:Hp) (kvs:List (Key×V)) (row:Zb) (ns:Zb):Prop where
 keys:kvs.map (·.1)=ns.map (λx=>(Sum.inr x:Key))
 val:∀x∈ns,∃l,Ay kvs (Sum.inr x:Key)=some (.ref l)/\H l=some (.lst (((dit row).filter (upB row x)).map V.str))
def Offs.mono{H H'}{kvs}{row ns}(s:Offs H kvs row ns)(h:Same H H'):Offs H' kvs row ns:=⟨s.keys,λx hx=>let ⟨l,h1,h2⟩:=s.val x hx; ⟨l,h1,h _ _ h2⟩⟩
def Offs.snoc{H H'}{kvs}{row ns}{x}{l}(s:Offs H kvs row ns)(nx:x∉ns)(h:H' l=some (.lst (((dit row).filter (upB row x)).map V.str)))(k:∀b xs,H b=some (.lst xs)->H' b=some (.lst xs)):
  Offs H' (Bf kvs (Sum.inr x) (.ref l)) row (ns++[x]):=by
 have hn:Ay kvs (Sum.inr x:Key)=none:=by
  cases e:Ay kvs (Sum.inr x:Key) with
  | none=>rfl
  | some v=>
   exfalso;have:=F5 e;rw[s.keys] at this;obtain⟨y,hy,e2⟩:=O5.mp this;rw[Qt e2] at hy;exact nx hy
 refine⟨by rw[Hg _ hn,Oq,Oq,s.keys];rfl,λy hy=>?_⟩;rw[He];by_cases e:y=x
 ·subst e;exact⟨l,Tg rfl,h⟩
 ·have hy':y∈ns:=by
   rcases Op.mp hy with z | z
   ·exact z
   ·exact absurd (Om.mp z) e
  obtain⟨l0,h1,h2⟩:=s.val y hy';exact⟨l0,by rw[Tf (λz=>e (Qt z))];exact h1,k _ _ h2⟩
def Offs.get{H}{kvs}{row ns}{d}{x}(s:Offs H kvs row ns)(hd:Rd H d (.dK kvs))(hx:x∈ns):∃l,DGet H d (.str x) (some (.ref l))/\H l=some (.lst (((dit row).filter (upB row x)).map V.str)):=by
 obtain⟨l,h1,h2⟩:=s.val x hx;exact⟨l,DGet.rd hd h1,h2⟩
def Offs.at{H}{kvs}{row ns}(s:Offs H kvs row ns)(i)(hi:i<ns.length):(kvs.map λp=>kV p.1).getD i .non = .str (ns.getD i Str.empty):=by
 have e:(kvs.map λp=>kV p.1)=ns.map V.str:=by
  have:(kvs.map λp=>kV p.1)=(kvs.map (·.1)).map kV:=by rw[Pj];rfl
  rw[this,s.keys,Pj];rfl
 rw[e];exact Bu V.str Str.empty ns hi
def Offs.len{H}{kvs}{row ns}(s:Offs H kvs row ns):kvs.length=ns.length:=by
 have:=congrArg List.length s.keys;simpa using this
def Xnq{row}{x y}(hx:row.count x=2)(hy:row.count y=2):decide (lieR row x y∈[Str.ofString "same",Str.ofString "within"])=upB row x y:=by
 unfold upB;by_cases e:y=x
 ·subst e;rw[Ka];simp
 ·have n:lieR row x y ≠ "same" := λz=>e (Xd2 hx hy z).symm;simp[e,n]
end SH
namespace L2
open PySem.Calls
section
variable {P:Program}{w:World}{A:Around}{E:Zc}{s:Shared}
def Xnr{Q}(h:Q (.ref s.heap.objs.size) {s with heap:=s.heap.push (D1 w)}):wpAny (model P w) A (newSet (.type "set")) Q E s:=by
 unfold newSet setsByText;refine Ta (Ta (wpAny_askSetting (Tb ?_)));dsimp only;simp only[newObj];exact Ta (wpAny_alloc (Tb h))
def SSet.tySet{a}{ks}(S:SSet P w s.heap a ks):s.TypeIs (.ref a) "set" := by
 obtain⟨o,es,ep,t,ls,ho,hex,_⟩:=S;exact⟨o,ho,hex.1⟩
def call_add{a}{ks}{x}{tk}{Q}(S:SSet P w s.heap a ks)(hr:ks.length+1<scanBound)
  (h:∀h' tk',Heap.SameBut a s.heap h'->SSet P w h' a (dd1 ks x)->Q .none {s with heap:=h',toks:=tk'}):wpAny (model P w) A (call (.builtin "set.add") [.ref a,.str x tk]) Q E s:=by
 refine wpAny_call_entry F.slot_set_add S.tySet F.entry_set_add ?_ (F.args_set_add_2 _ _);unfold Builtin.«set.add» Builtin.Frozenset.oneOther;simp only[List.isEmpty_nil,bind_assoc];unfold Builtin.Frozenset.addrOf setAdd;refine Ta (Tb ?_)
 try dsimp only
 refine Ta (Tb ?_)
 try dsimp only
 refine Ta ?_;refine wpAny_holding (Ta ((PySem.strKind P w).pyHash (k:=x) (strKind_is P w _ tk) ?_));refine Xb5 (s:={s with toks:=s.toks+1}) S hr λb h' sb S2=>?_;show wpAny _ _ (ret Value.none) _ _ _;exact Tb ⟨_,rfl,h h' _ sb S2⟩
end
section
variable {X:Cx}{N:Zb}{cap:List (Option Nat)}{scope:Scope}{tg iter elt:Expr}{ifs:List Expr}{g:TG}{tt:TT}{te:TE}{wi:TI}{pos:Pos}
def Xns{elt}{gs}{sc}{p}:Cm (.SetComp elt gs sc p):=⟨λ_ _ _ _ _ _=>rfl,λ_ _ _ _ _ _=>rfl,λ_ _ _ _ _=>rfl,λ_ _ _ _ _=>rfl⟩
def Xe8{a}{H}{h}{ks}(S:SSet X.prog X.w h a ks):A4 X.prog X.w H h a (Ch X.prog X.w a ks):=
 ⟨S,by obtain⟨o,_,_,_,_,g,_⟩:=S;exact⟨o,g⟩,λh1 h2 S1 kk=>S1.stay kk⟩
def Ja (P:Program) (w:World) (te:TE) (D:Addr):TM:=fun Z H Q=>te Z H λy H6=>∃x ks,y = .str x/\H6 D=some (Ch P w D ks)/\ks.length+1<scanBound/\Q Z (upd H6 D (Ch P w D (dd1 ks x)))
def Xnt{Y}{D}(he:PE Y elt te):PM Y (do let v <-eval elt Y.env;standAt elt.pos;let _ <-call (.builtin "set.add") [.ref D,v]) (Ja Y.prog Y.w te D):=by
 intro pins s Z H Q I h;refine Ta (thn (he pins s Z H _ I h) λyv s8 ⟨y,H8,I8,r8,x,ks,ey,hD,hlt,q8⟩=>?_);subst ey;obtain⟨tk,rfl⟩:=r8;obtain⟨S,_,_⟩:=(show A4 Y.prog Y.w H8 s8.heap D (Ch Y.prog Y.w D ks) from I8.hok D _ hD);refine Ta (wpAny_standAt (Ta (call_add S hlt λh' tk' sb S2=>?_)));refine Tb ⟨Z,_,Hi I8 (by rw[hD];exact True.intro) sb ?_ (Xe8 S2),q8⟩;obtain⟨o,_,_,_,_,g,_⟩:=S2;exact⟨o,g⟩
def Xnu:AccA X (newSet (.type "set")) (D1 X.w) (λD=>Ch X.prog X.w D []):=
 ⟨λs Q E' h=>Xnr h,λpins Z H s I=>I.laid (a:=s.heap.objs.size) (t':=s.toks) (λ_ _ q=>Tm _ q) (Oj _) (Xe8 (Xb7 (Heap.get?_push_size _ rfl)))⟩
def Xnv(C:CompScope X N cap scope)(hcalm:X.calm=true)(hi:PI X tg iter wi)
  (hg:∀s0 H0 ex,PG (X.comp N scope s0 H0 ex) tg g) (ht:∀s0 H0 ex,PIfs (X.comp N scope s0 H0 ex) ifs tt) (he:∀s0 H0 ex,PE (X.comp N scope s0 H0 ex) elt te)
  (hs:∀x,foldedSetIterable iter X.env x=pure x:=by intro _;rfl):PE X (.SetComp elt [⟨tg,iter,ifs,0⟩] scope pos) (Ms cap (λD=>Ch X.prog X.w D []) wi g tt (Ja X.prog X.w te)):=
 Xcu (act := fun D env => do let v <- eval elt env; standAt elt.pos; let _ <- call (.builtin "set.add") [.ref D, v]) Xnu rfl rfl C hcalm Xns hi (fun it D env => rfl) hg ht (fun D s0 H0 ex => Xnt (Y := X.comp N scope s0 H0 ex) (he s0 H0 ex)) hs
end
def Xnw{P}{w}{cap}{te}{J}{Z}{H1}{F}{j}(n:Nat)(hn:n+1<scanBound)(vs:Nat->V)(ys:Nat->Str)
  (hgo:∀i H2,i<n->Same H1 H2->J.go i H2/\∀x H3,J.yld i H2 x H3->H3=H2/\x=vs i)
  (hst:∀H2,Same H1 H2->J.stop n H2)
  (step:∀i H2 Q,i<n->Same H1 H2->(∀H',Same H2 H'->Q (.str (ys i)) H')->te ((Br cap Z).set j (some (vs i))) H2 Q)
  (hd:∀D H2,H1 D=none->Same H1 H2->H2 D=some (Ch P w D (ddup ((List.range n).map ys)))->F D H2):Mr cap (λD=>Ch P w D []) (A6 j) C5 (Ja P w te) J Z H1 F:=by
 intro D hD;refine⟨wN n λi Z2 H2=>(∀v, Z2.set j v=(Br cap Z).set j v)/\Same H1 H2/\H2 D=some (Ch P w D (ddup ((List.range i).map ys))),⟨n,by simp,Pm _,λ_=>rfl,(Same.refl H1).step hD,Ab⟩,?_⟩;rintro i m Z1 H2 ⟨rfl,hi,e,s2,hb⟩;by_cases hlt:i<n
 ·obtain⟨h1,h2⟩:=hgo i H2 hlt s2;refine .inr ⟨h1,λx H3 y=>?_⟩;obtain⟨e1,e2⟩:=h2 x H3 y;subst e1 e2;dsimp only[A6,C5,Ja];rw[Tg rfl,e];refine step i _ _ hlt s2 λH4 s4=>?_;have hl:(ddup ((List.range i).map ys)).length<=i:=by
   have:=F9 ((List.range i).map ys);rw[Oh,Px] at this;exact this
  refine⟨ys i,_,rfl,s4 _ _ hb,by omega,wskip hlt ⟨λv=>by rw[Sc],λb u e'=>?_,?_⟩⟩
  ·rw[Ad (Au e' hD)];exact s4 _ _ (s2 b u e')
  ·rw[Ab,Pz,Oq,List.map_singleton,Mh]
 ·have:i=n:=by omega
  subst this;exact .inl ⟨hst H2 s2,hd D H2 hD s2 hb⟩
end L2
namespace L2
def Xnx{cap}{tt}{te}{J}{Z}{H1}{F}{j}(n:Nat)(hn:n<sizeLine)(vs:Nat->V)(ok:Nat->Bool)(Us:Nat->Zb)
  (hgo:∀i H2,i<n->Same H1 H2->J.go i H2/\∀x H3,J.yld i H2 x H3->H3=H2/\x=vs i)
  (hst:∀H2,Same H1 H2->J.stop n H2)
  (tst:∀i H2 Q,i<n->Same H1 H2->(∀H',Same H2 H'->Q (ok i) H')->tt ((Br cap Z).set j (some (vs i))) H2 Q)
  (step:∀i H2 Q,i<n->ok i=true->Same H1 H2->(∀t H',H' t=some (.tup ((Us i).map V.str))->Same H2 H'->Q (.ref t) H')->te ((Br cap Z).set j (some (vs i))) H2 Q)
  (hd:∀D ps H2,H1 D=none->Same H1 H2->H2 D=some (.lst (ps.map V.ref))->Tups H2 ps (((List.range n).filter ok).map Us)->F D H2):Ex cap (A6 j) tt te J Z H1 F:=by
 refine Ey n vs (λD i Z2 H2=>(∀v, Z2.set j v=(Br cap Z).set j v)/\Same H1 H2/\∃ps:List Addr,H2 D=some (.lst (ps.map V.ref))/\Tups H2 ps (((List.range i).filter ok).map Us)) ?_ ?_ ?_ ?_ ?_
 ·intro D hD;exact⟨λ_=>rfl,(Same.refl H1).step hD,[],Ab,Tups.nil _⟩
 ·rintro D i Z2 H2 hD hi ⟨_,s2,_⟩;exact hgo i H2 hi s2
 ·rintro D Z2 H2 hD ⟨_,s2,_⟩;exact hst H2 s2
 ·rintro D i Z2 H2 hD hi ⟨e,s2,ps,hb,ht⟩;show tt (Z2.set j (some (vs i))) H2 _;rw[e];refine tst i H2 _ hi s2 λH3 s3=>?_;have s13:=s2.trans s3;have hb3:=s3 _ _ hb;have ht3:=ht.same s3;have hss:∀v,((Br cap Z).set j (some (vs i))).set j v=(Br cap Z).set j v:=λv=>by rw[Sc]
  refine A0 (λhk=>?_) (λhk=>?_)
  ·refine step i H3 _ hi hk s13 λt H4 h4 s4=>?_;have hb4:=s4 _ _ hb3;have hl:(ps.map V.ref).length<=i:=by
    have:=ht.1;rw[Oh] at this;rw[Oh,this];exact Pd (Pn ..) (by rw[Px];omega)
   have keep:∀b w,H4 b=some (.tup w)->upd H4 D (.lst (ps.map V.ref++[.ref t])) b=some (.tup w):=λb w e=>by
    rw[Ad (λz=>by rw[z,hb4] at e;cases e)];exact e
   refine wput hi hb4 (by omega) ⟨hss,λb u e'=>?_,ps++[t],by rw[Ab,Oq];rfl,?_⟩
   ·rw[Ad (Au e' hD)];exact s4 _ _ (s13 b u e')
   ·rw[Pz,O8,List.filter_cons_of_pos hk,Sl,Oq];exact Tups.app ⟨ht3.1,λj hj=>keep _ _ (s4 _ _ (ht3.2 j hj))⟩ (Tups.cons (keep _ _ h4) (Tups.nil _))
  ·refine wskip hi ⟨hss,s13,ps,hb3,?_⟩;rw[Pz,O8,List.filter_cons_of_neg (by rw[hk];decide),Sl,Ps];exact ht3
 ·rintro D Z2 H2 hD ⟨_,s2,ps,hb,ht⟩;exact hd D ps H2 hD s2 hb ht
end L2
set_option maxHeartbeats 8000000
namespace SH
open L2
def isin{U:List (Zb)}{S}(h1:∀W∈U,∀y∈W,okN y)(h2:∀y∈S,okN y):((U.map tupD).any λe=>PyData.eqv e (tupD S))=decide (S∈U):=by
 rw[List.any_map];by_cases hS:S∈U
 ·rw[Th hS,Qu];exact⟨S,hS,by show PyData.eqv (.tuple _) (.tuple _)=true;rw[Ij h2 h2];exact Th rfl⟩
 ·rw[Ti hS,List.any_eq_false];intro W hW;show ¬PyData.eqv (.tuple _) (.tuple _)=true;rw[Ij (h1 W hW) h2];simp;exact λz=>hS (z ▸ hW)
theorem Xe9:∀(U:List (Zb)),PyData.depthAll (U.map tupD)<=1
 | []=>by show 0<=1;decide
 | S::U=>by
  have:=Xe9 U;show max (PyData.depthAll (S.map PyData.str)+1) (PyData.depthAll (U.map tupD))<=1;rw[Ii];omega
def N8{U:List (Zb)}(h:∀S∈U,∀y∈S,okN y):Di (U.map tupD)=true:=plainAll_map tupD U λS hS=>Em (h S hS)
def Cw{U:List (Zb)}(h:∀S∈U,∀y∈S,okN y):Ci (.list (U.map tupD))=true:=N8 h
def Ft{U W:List (Zb)}(h1:∀S∈U,∀y∈S,okN y)(h2:∀S∈W,∀y∈S,okN y):PyData.eqv (.list (U.map tupD)) (.list (W.map tupD))=decide (U=W):=
 Xcz (λU=>PyData.list (U.map tupD)) (λa b e=>by injection e with e;exact(Sv Xdn).mp e) U W (Cw h1) (Cw h2)
def Cy{H}{l}{ps}{Ts}(h:H l=some (.lst (ps.map V.ref)))(t:Tups H ps Ts):DAt H (.list (Ts.map tupD)) (.ref l):=J3 h (Xe1 t)
def Fu(U W:List (Zb)):min (PyData.depth (.list (U.map tupD))) (PyData.depth (.list (W.map tupD)))<=3:=by
 show min (PyData.depthAll (U.map tupD)+1) _<=3;have:=Xe9 U;omega
end SH
set_option maxHeartbeats 4000000
namespace L2
section
variable {X:Cx}{N:Zb}{cap:List (Option Nat)}{scope:Scope}{tg iter elt:Expr}{ifs:List Expr}{g:TG}{tt:TT}{te:TE}{wi:TI}{pos:Pos}
def Xny(P)(w)(h1:X.prog=P)(h2:X.w=w)(hc:X.calm=true):Bv X (.builtin "sorted") (λxs H Q=>∃a ks,xs=[.ref a]/\H a=some (Ch P w a ks)/\ks.length<64/\∀l ls,H l=none->ls.Perm ks->sortedS ls=true->Q (.ref l) (upd H l (.lst (ls.map V.str)))):=by
 subst h1 h2;exact Jt hc
def Xnz{P:Program}{w:World}(C:CompScope X N cap scope)(hcalm:X.calm=true)(hi:PI X tg iter wi)
  (hg:∀s0 H0 ex,PG (X.comp N scope s0 H0 ex) tg g) (ht:∀s0 H0 ex,PIfs (X.comp N scope s0 H0 ex) ifs tt) (he:∀s0 H0 ex,PE (X.comp N scope s0 H0 ex) elt te) (h1:X.prog=P:=by rfl) (h2:X.w=w:=by rfl)
  (hs:∀x,foldedSetIterable iter X.env x=pure x:=by intro _;rfl):PE X (.SetComp elt [⟨tg,iter,ifs,0⟩] scope pos) (Ms cap (λD=>Ch P w D []) wi g tt (Ja P w te)):=by
 subst h1 h2;exact Xnv C hcalm hi hg ht he hs
end
end L2
namespace SH
open L2
def bk (S:Zb) (x:Str):Str:=if x∈S then "off" else "home"
def Xn0(S)(x):okN (bk S x):=by
 unfold bk;by_cases h:x∈S
 ·rw[Tg h];decide +kernel
 ·rw[Tf h];decide +kernel
def A9 (Ts:List (Zb)) (x:Str):Zb:=srt (ddup (Ts.map λS=>bk S x))
def B5 (row:Zb) (Ts:List (Zb)):List (Str×Str):=((dit row).filter λx=>decide ((A9 Ts x).length=1)).map λx=>(x,(A9 Ts x).headD Str.empty)
def pr2 (q:Str×Str):Zb:=[q.1,q.2]
def K0{Ts}(ne:Ts≠[])(x b):((A9 Ts x).length=1/\(A9 Ts x).headD Str.empty=b) ↔ ∀S∈Ts,bk S x=b:=by
 have m:∀z,z∈A9 Ts x ↔ ∃S∈Ts,bk S x=z:=λz=>by
  unfold A9;rw[Gc,Hn,O5]
 have nd:(A9 Ts x).Nodup:=(Cq _).nodup_iff.mpr (Ho _);constructor
 ·rintro ⟨h1,h2⟩ S hS;obtain⟨c,hc⟩:=R7.mp h1;rw[hc] at h2;have:bk S x∈A9 Ts x:=(m _).mpr ⟨S,hS,rfl⟩;rw[hc] at this;rw[Om.mp this];exact h2
 ·intro h;obtain⟨S,hS⟩:=Rc _ ne;have mb:∀z∈A9 Ts x,z=b:=λz hz=>by
   obtain⟨S,hS,e⟩:=(m z).mp hz;rw[<-e];exact h S hS
  have hb:b∈A9 Ts x:=(m b).mpr ⟨S,hS,h S hS⟩;cases e:A9 Ts x with
  | nil=>rw[e] at hb;cases hb
  | cons c r=>
   rw[e] at nd mb;have hc:=mb c Os;cases r with
   | nil=>exact⟨rfl,hc⟩
   | cons d r=>
    have hd:=mb d (by simp);rw[hc,hd] at nd;simp at nd
def Gv{row}{Ts}(ne:Ts≠[]){x b}:(x,b)∈B5 row Ts↔x∈row/\∀S∈Ts,bk S x=b:=by
 unfold B5;rw[<-K0 ne x b,O5];constructor
 ·rintro ⟨y,hy,e⟩;obtain⟨h1,h2⟩:=Ou.mp hy;cases e;exact⟨Ap.mp h1,Tj h2,rfl⟩
 ·rintro ⟨h1,h2,h3⟩;exact⟨x,Ou.mpr ⟨Ap.mpr h1,Th h2⟩,by rw[h3]⟩
def Xfa(row)(Ts):(B5 row Ts).Pairwise λp q=>ltS p.1 q.1:=by
 unfold B5;rw[Rt];exact(Ej row).filter _
def Xn1(row)(Ts):(B5 row Ts).length<=(dit row).length:=by
 unfold B5;rw[Oh];exact Pn ..
def Xn2{A B:List (Str×Str)}(hA:A.Pairwise λp q=>ltS p.1 q.1)(hB:B.Pairwise λp q=>ltS p.1 q.1)(h:∀q,q∈A↔q∈B):A=B:=
 Ky (R:=λp q:Str×Str=>ltS p.1 q.1) (λa=>Hq _) (λ_ _ _=>Hr) hA hB h
def keeps (kept:List (Str×Str)) (S:Zb):Bool:=kept.all λq=>decide (bk S q.1=q.2)
def Xfb{kept}{S}:keeps kept S=true ↔ ∀q∈kept,bk S q.1=q.2:=by
 unfold keeps;rw[O9];exact⟨λh q hq=>Tj (h q hq),λh q hq=>Th (h q hq)⟩
def Good (row:Zb) (kept:List (Str×Str)):Prop:=∃Us,Us≠[]/\(∀S∈Us,Am row S=true)/\kept=B5 row Us
def Xn3{row}{Us}(ne:Us≠[]){S}(h:S∈Us):keeps (B5 row Us) S=true:=
 Xfb.mpr λq hq=>((Gv ne (x:=q.1) (b:=q.2)).mp hq).2 S h
def Xfc{row}{kept}{Ts}(h:∀S,S∈Ts↔Am row S=true/\keeps kept S=true):Good row kept↔Ts≠[]/\B5 row Ts=kept:=by
 constructor
 ·rintro ⟨Us,ne,hp,rfl⟩;have sub:∀S∈Us,S∈Ts:=λS hS=>(h S).mpr ⟨hp S hS,Xn3 ne hS⟩;have ne':Ts≠[]:=λe=>by
   obtain⟨S,hS⟩:=Rc _ ne;have:=sub S hS;rw[e] at this;cases this
  refine⟨ne',Xn2 (Xfa ..) (Xfa ..) λq=>?_⟩;rw[show q=(q.1,q.2) from rfl,Gv ne',Gv ne];refine⟨λz=>⟨z.1,λS hS=>z.2 S (sub S hS)⟩,λz=>⟨z.1,λS hS=>?_⟩⟩;exact Xfb.mp ((h S).mp hS).2 (q.1,q.2) ((Gv ne).mpr z)
 ·rintro ⟨ne,e⟩;exact⟨Ts,ne,λS hS=>((h S).mp hS).1,e.symm⟩
def Good.len{row}{kept}(g:Good row kept):kept.length<=(dit row).length:=by
 obtain⟨Us,_,_,rfl⟩:=g;exact Xn1 ..
def Xfd{row}{Ts}(ne:Ts≠[])(ok:∀y∈row,okN y):∀S∈(B5 row Ts).map pr2,∀y∈S,okN y:=λS hS y hy=>by
 obtain⟨q,hq,rfl⟩:=O5.mp hS;obtain⟨h1,h2⟩:=(Gv ne (x:=q.1) (b:=q.2)).mp hq;obtain⟨U,hU⟩:=Rc _ ne;unfold pr2 at hy;rcases O2.mp hy with e | e
 ·rw[e];exact ok _ h1
 ·rw[Om.mp e,<-h2 U hU];exact Xn0 ..
def Xfe{A B:List (Str×Str)}(h:A.map pr2=B.map pr2):A=B:=by
 induction A generalizing B with
 | nil=>cases B with
  | nil=>rfl
  | cons b B=>cases h
 | cons a A ih=>cases B with
  | nil=>cases h
  | cons b B=>
   rw[Pb,Pb] at h;obtain⟨h1,h2⟩:=List.cons.inj h;unfold pr2 at h1;obtain⟨e1,e2⟩:=List.cons.inj h1;obtain⟨e2,_⟩:=List.cons.inj e2;rw[ih h2,Prod.ext e1 e2]
structure Lsts (H:Hp) (kvs:List (Key×V)) (f:Str->Zb) (ns:Zb):Prop where
 keys:kvs.map (·.1)=ns.map (λx=>(Sum.inr x:Key))
 val:∀x∈ns,∃l,Ay kvs (Sum.inr x:Key)=some (.ref l)/\H l=some (.lst ((f x).map V.str))
def Lsts.mono{H H'}{kvs}{f}{ns}(s:Lsts H kvs f ns)(h:Same H H'):Lsts H' kvs f ns:=⟨s.keys,λx hx=>let ⟨l,h1,h2⟩:=s.val x hx; ⟨l,h1,h _ _ h2⟩⟩
def Lsts.snoc{H H'}{kvs}{f}{ns}{x}{l}(s:Lsts H kvs f ns)(nx:x∉ns)(h:H' l=some (.lst ((f x).map V.str)))(k:∀b xs,H b=some (.lst xs)->H' b=some (.lst xs)):
  Lsts H' (Bf kvs (Sum.inr x) (.ref l)) f (ns++[x]):=by
 have hn:Ay kvs (Sum.inr x:Key)=none:=by
  cases e:Ay kvs (Sum.inr x:Key) with
  | none=>rfl
  | some v=>
   exfalso;have:=F5 e;rw[s.keys] at this;obtain⟨y,hy,e2⟩:=O5.mp this;rw[Qt e2] at hy;exact nx hy
 refine⟨by rw[Hg _ hn,Oq,Oq,s.keys];rfl,λy hy=>?_⟩;rw[He];by_cases e:y=x
 ·subst e;exact⟨l,Tg rfl,h⟩
 ·have hy':y∈ns:=by
   rcases Op.mp hy with z | z
   ·exact z
   ·exact absurd (Om.mp z) e
  obtain⟨l0,h1,h2⟩:=s.val y hy';exact⟨l0,by rw[Tf (λz=>e (Qt z))];exact h1,k _ _ h2⟩
def Lsts.get{H}{kvs}{f}{ns}{d}{x}(s:Lsts H kvs f ns)(hd:Rd H d (.dK kvs))(hx:x∈ns):∃l,DGet H d (.str x) (some (.ref l))/\H l=some (.lst ((f x).map V.str)):=by
 obtain⟨l,h1,h2⟩:=s.val x hx;exact⟨l,DGet.rd hd h1,h2⟩
def Lsts.at{H}{kvs}{f}{ns}(s:Lsts H kvs f ns)(i)(hi:i<ns.length):(kvs.map λp=>kV p.1).getD i .non = .str (ns.getD i Str.empty):=by
 have e:(kvs.map λp=>kV p.1)=ns.map V.str:=by
  have:(kvs.map λp=>kV p.1)=(kvs.map (·.1)).map kV:=by rw[Pj];rfl
  rw[this,s.keys,Pj];rfl
 rw[e];exact Bu V.str Str.empty ns hi
def Lsts.len{H}{kvs}{f}{ns}(s:Lsts H kvs f ns):kvs.length=ns.length:=by
 have:=congrArg List.length s.keys;simpa using this
def spShared:Sp:=λvs H Q _=>∃(r c:Addr) (row:Zb) (ps:List Addr) (Ts:List (Zb)),vs=[.ref r,.ref c]/\H r=some (.lst (row.map V.str))/\Row2 row/\H c=some (.lst (ps.map V.ref))/\Tups H ps Ts/\ps.length<=200 /\
 ∀(D:Addr) (qs:List Addr) (H':Hp),H D=none->H' D=some (.lst (qs.map V.ref))->Tups H' qs ((B5 row Ts).map pr2)->Same H H'->Q (.ref D) H'
def spLiesOn:Sp:=λvs H Q _=>∃(p k:Addr) (S:Zb) (qs:List Addr) (kept:List (Str×Str)),vs=[.ref p,.ref k]/\H p=some (.tup (S.map V.str))/\H k=some (.lst (qs.map V.ref))/\Tups H qs (kept.map pr2)/\qs.length<=1000/\∀H',Same H H'->Q (.bl (keeps kept S)) H'
abbrev NSh:Zb:=["row", "some", "sides"]
abbrev NSh1:Zb:=["name", "some"]
abbrev NSh2:Zb:=["plot", "name"]
abbrev NSh3:Zb:=["name", "sides"]
abbrev NLo1:Zb:=["name", "side", "plot"]
end SH
namespace L2
def okR (z:Str):Prop:=z.length<=9/\∀c∈z.cps.toList,c<16 ^ 8
def Xff (te:TE) (t:L2.St->Hp->(Hp->Prop)->Prop):L2.St->Hp->(Hp->Prop)->Prop:=fun Z H Q=>te Z H λx H1=>∃(a:Addr) (ps:List Addr) (Ts:List (Zb)),x = .ref a/\H1 a=some (.lst (ps.map V.ref))/\Tups H1 ps Ts/\ps.length<=16/\(∀S∈Ts,S.length<=3/\∀z∈S,okR z)/\t Z H1 Q
theorem Xfg{P}{w}{as}{h0}{d}:∀{us:List Value} {ts:Zb},ReprAll P w us ts->ReprAllK P w as h0 d us ts
 | _,_,.nil=>.nil
 | _,_,.cons h r=>.cons (ReprK.of_is h as h0 d) (Xfg r)
section
variable {X:Cx}{es:List Expr}{t:L2.St->Hp->(Hp->Prop)->Prop}{e:Expr}{te:TE}{pos:Pos}
def Xn4{S:Zb}(h1:S.length<=3)(h2:∀z∈S,okR z):(tupleText (S.map reprText)).length<=285:=by
 have a:=Xc5 (S.map reprText);have b:piled (S.map reprText)<=94 * S.length:=by
  clear a h1
  induction S with
  | nil=>simp[piled]
  | cons z S ih=>
   obtain⟨g1,g2⟩:=h2 z Os;have:=StrLaws.reprText_len z g2;have:=ih λy hy=>h2 y (Ot _ hy);rw[Pb,piled_cons,Pe];omega
 omega
theorem Xfh:∀(Ts:List (Zb)),(∀S∈Ts,S.length<=3/\∀z∈S,okR z)->((Ts.map λS=>tupleText (S.map reprText)).map (·.length)).sum<=285 * Ts.length
 | [],_=>by simp
 | S::Ts,h=>by
  obtain⟨h1,h2⟩:=h S Os;have:=Xn4 h1 h2;have ih:=Xfh Ts λy hy=>h y (Ot _ hy);rw[Pb,Pb,Q8,Pe];omega
def Xn5{k:Nat}{p:Pos}(hr:Room k X.A)(ha:PE X e te)(h:PJ X es t)(he:evalEach (.FormattedValue e 114 none p::es) X.env=eval (.FormattedValue e 114 none p) X.env::evalEach es X.env:=by rfl):PJ X (.FormattedValue e 114 none p::es) (Xff te t):=by
 intro out pins s Z H Q I hw hl;rw[he];rw[Pe] at hl;refine joinParts_cons (wpAny_FormattedValue_repr (thn (ha pins s Z H _ I hw) λv s1 ⟨x,H1,I1,r1,q1⟩=>?_));obtain⟨a,ps,Ts,ez,hp,hT,h1,h2,q⟩:=q1;subst ez;cases r1;obtain⟨_,its,n,rv,hx⟩:(ps.map V.ref).length<=sizeLine/\∃(its:List Value) (n:Nat),Vals (ps.map V.ref) its/\s1.heap.get? a=some {cls:=.type "list",data:=.seq its.toArray n}:=I1.hok a _ hp;have lenV:its.length=ps.length:=by rw[<-rv.length,Oh]
 have hz1:=listText_len_le (Ts.map λS=>tupleText (S.map reprText));have hz2:=Xfh Ts h2;have hTl:=hT.1;rw[Oh] at hz1;have hz3:(listText (Ts.map λS=>tupleText (S.map reprText))).length<=5000:=by omega
 have hz4:(listText (Ts.map λS=>tupleText (S.map reprText))).length<=sizeLine:=by rw[Te];omega
 cases its with
 | nil=>
  refine wpAny_pyReprObj_list_empty ⟨_,hx,rfl⟩ hr.units0 hx rfl ?_;refine formatField_str (λt' k=>⟨by rw[Dr];have:(("[]" : String):Str).length=2:=rfl;omega,?_⟩) (by decide);exact h _ pins _ Z H1 Q ((I1.tok _).tok _) q (by rw[Dr];have:(("[]" : String):Str).length=2:=rfl;omega)
 | cons v r=>
  refine wpAny_pyReprObj_listK (as:=ps) (h₀:=s1.heap) (d:=1) (g:=[]) hx rfl rfl ?_ ?_ (λi y hy=>?_) hr.gd (λb _=>Clear.nil b) (by have:=hr.units;omega) (λ_ _ e=>e) (λh' u tk k=>?_) hz4
  ·intro hm;obtain⟨T,_,e⟩:=hT.mem hm;rw[hp] at e;cases e
  ·rw[Oh,Ol,lenV,hTl]
  ·rw[Qq] at hy;have hi:i<ps.length:=by
    have:=(Oy.mp hy).1;omega
   have hi':i<Ts.length:=by omega
   obtain⟨u,hu,ru⟩:=rv.get (i:=i) (x:=.ref (ps.getD i 0)) (by rw[Ox,Oi hi];simp[List.getD,hi]);have e0:y=u:=by
    rw[hu] at hy;exact(O0 hy).symm
   subst e0;cases ru;have hS:Ts.getD i []∈Ts:=by
    have:Ts.getD i []=Ts[i]:=by simp[List.getD,hi']
    rw[this];exact Pa hi'
   have ht:=hT.2 i hi;have hpm:ps.getD i 0∈ps:=by
    have:ps.getD i 0=ps[i]:=by simp[List.getD,hi]
    rw[this];exact Pa hi
   refine⟨tupleText ((Ts.getD i []).map reprText),by rw[Ox,Oi hi'];simp[List.getD,hi'],?_⟩;generalize Ts.getD i []=S at hS ht;generalize ps.getD i 0=p at ht hpm;obtain⟨h21,h22⟩:=h2 S hS;obtain⟨its2,r2,pl,_⟩:=I1.tuple (SqT.of (K:=X.K) ht);obtain⟨o,ho,hc,n2,hd⟩:=pl;refine(ReprK.tuple (as:=[]) (d:=0) ho hc hd (by simp) (Xfg (M8 (λz hz=>⟨Pd (h22 z hz).1 (by decide),(h22 z hz).2⟩) (by simpa using r2)))).more λb hb=>?_;rw[Om.mp hb];exact hpm
  ·refine formatField_str (λt' k2=>⟨by rw[Dr];omega,?_⟩) hz4;exact h _ pins _ Z H1 Q ((I1.kept k).tok _) q (by rw[Dr];omega)
end
end L2
namespace L2
open PySem.Calls
section
variable {P:Program}{w:World}{A:Around}{E:Zc}{s:Shared}
def dictP (prs:List (Key×V)):List (Key×V):=prs.foldl (λm q=>Bf m q.1 q.2) []
end
section
variable {X:Cx}
end
end L2
namespace L2
section
variable {X:Cx}
end
end L2
namespace SH
open L2
def CrOk (Ts:List (Zb)):Prop:=∀S∈Ts,(∀y∈S,okN y)/\S.length<=24
def Tups.at{H}{ps}{Ts}{i}(h:Tups H ps Ts)(hi:i<ps.length):Ts.getD i []∈Ts:=by
 have hi':i<Ts.length:=by rw[<-h.1];exact hi
 have:Ts.getD i []=Ts[i]:=by simp[List.getD,hi']
 rw[this];exact Pa hi'
def Aq.ne{T b}{pos}{q}{H}{o}(tb:Aq T pos q H)(e:H b=some o)(n:∀z,o ≠ .tbl z):b≠T:=λz=>by
 rcases tb with q | ⟨_,q,_⟩<;>(rw[z,q] at e;cases e;exact n _ rfl)
def ne2 (a b:Zb) (x:Str):Bool:=xor (decide (x∈a)) (decide (x∈b))
def btw (a b c:Zb):Bool:=decide ((N6 a c).length+(N6 c b).length=(N6 a b).length)
def Xfi{H}{ps}{Ts}{I:List Nat}(h:Tups H ps Ts)(g:∀i∈I,i<ps.length):Tups H (I.map λi=>ps.getD i 0) (I.map λi=>Ts.getD i []):=by
 refine⟨by simp,λi hi=>?_⟩;rw[Oh] at hi;rw[Kz _ _ _ hi,Kz _ _ _ hi];exact h.2 _ (g _ (Pa hi))
def Xqs:Sp:=λvs H Q _=>∃(r p q u:Addr) (row a b c:Zb),vs=[.ref r,.ref p,.ref q,.ref u]/\H r=some (.lst (row.map V.str))/\Row2 row/\(dit row).length<=14/\H p=some (.tup (a.map V.str))/\H q=some (.tup (b.map V.str))/\H u=some (.tup (c.map V.str)) /\
 Am row a=true/\Am row b=true/\Am row c=true/\∀H',Same H H'->Q (.bl (btw a b c)) H'
def Xqt (T:Addr) (pos:Pos):Sp:=λvs H Q _=>∃(r p q:Addr) (row a b:Zb),vs=[.ref r,.ref p,.ref q]/\H r=some (.lst (row.map V.str))/\Row2 row/\B2 row/\(dit row).length<=14/\H p=some (.tup (a.map V.str))/\H q=some (.tup (b.map V.str)) /\
 Am row a=true/\Am row b=true/\Aq T pos qIn H /\
 ∀(D:Addr) (ps:List Addr) (Ts:List (Zb)) (H':Hp),H D=none->H' D=some (.lst (ps.map V.ref))->Tups H' ps Ts->(∀S,S∈Ts↔Am row S=true/\btw a b S=true)->(Ts.Pairwise λx y=>Fb x y=true)->ps.length<=64->Aq T pos qIn H'->But T H H'->Q (.ref D) H'
structure KpOk (kept:List (Str×Str)):Prop where
 len:kept.length<=16
 ok:∀q∈kept,okR q.1/\okR q.2/\okN q.1/\okN q.2
def KpOk.okL{kept}(h:KpOk kept):∀S∈kept.map pr2,∀y∈S,okN y:=λS hS y hy=>by
 obtain⟨q,hq,rfl⟩:=O5.mp hS;obtain⟨_,_,h3,h4⟩:=h.ok q hq;rcases O2.mp hy with e | e
 ·rw[e];exact h3
 ·rw[Om.mp e];exact h4
structure HeldAt (H:Hp) (T:Addr) (pos:Pos) (r k:Addr) (row:Zb) (kept:List (Str×Str)):Prop where
 hr:H r=some (.lst (row.map V.str))
 r2:Row2 row
 n3:B2 row
 d:(dit row).length<=14
 tab:Aq T pos qIn H
 kp:∃qs:List Addr,H k=some (.lst (qs.map V.ref))/\Tups H qs (kept.map pr2)
 ok:KpOk kept
def N9 (row:Zb) (kept:List (Str×Str)) (Ts:List (Zb)):Prop:=(∀S,S∈Ts↔Am row S=true/\keeps kept S=true)/\Ts.Pairwise (λa b=>Fb a b=true)
def spHeld (B T:Addr) (pos:Pos):Sp:=λvs H Q E=>∃(r k:Addr) (row:Zb) (kept:List (Str×Str)),vs=[.ref r,.ref k]/\HeldAt H T pos r k row kept /\
 (Good row kept->∀(D:Addr) (ps:List Addr) (Ts:List (Zb)) (H':Hp),H D=none->H' D=some (.lst (ps.map V.ref))->Tups H' ps Ts->N9 row kept Ts->ps.length<=64->Aq T pos qIn H'->But T H H'->Q (.ref D) H') /\
 (¬Good row kept->∀H',Aq T pos qIn H'->But T H H'->E (.ref B) none H')
def Oa (B C T:Addr) (pos:Pos):Sp:=λvs H Q E=>∃(r k p:Addr) (row:Zb) (kept:List (Str×Str)) (S:Zb),vs=[.ref r,.ref k,.ref p]/\HeldAt H T pos r k row kept/\H p=some (.tup (S.map V.str))/\(∀y∈S,okN y)/\S.length<=24 /\
 (Good row kept->Am row S=true->∀H',Aq T pos qIn H'->But T H H'->Q (.bl (keeps kept S)) H')/\(¬Good row kept->∀H',Aq T pos qIn H'->But T H H'->E (.ref B) none H') /\
 (Good row kept->Am row S=false->∀H',Aq T pos qIn H'->But T H H'->E (.ref C) none H')
def Good.row{row}{kept}(g:Good row kept):∀q∈kept,q.1∈row/\(q.2 = "off" \/ q.2 = "home"):=by
 obtain⟨Us,ne,_,rfl⟩:=g;intro q hq;obtain⟨h1,h2⟩:=(Gv ne (x:=q.1) (b:=q.2)).mp hq;obtain⟨U,hU⟩:=Rc _ ne;refine⟨h1,?_⟩;rw[<-h2 U hU];unfold bk;by_cases z:q.1∈U
 ·rw[Tg z];exact .inl rfl
 ·rw[Tf z];exact .inr rfl
def kvK (kept:List (Str×Str)):List (Key×V):=kept.map λq=>((Sum.inr q.1:Key),V.str q.2)
abbrev NHe:Zb:=["row", "kept", "some"]
section
variable {row:Zb}{kept:List (Str×Str)}{S:Zb}
end
def Xn6:∀st<26,∀late:Bool,∀x∈Bb st late 14,x.length<=9:=by decide +kernel
def Isl.r9{row}(h:Isl row):∀y∈row,okR y:=λy hy=>by
 obtain⟨n,st,late,hn,hs,p⟩:=h.ex;refine⟨Xn6 st hs late y (J8 hn ?_),λc hc=>Qv ((h.ok y hy).2 c hc) (by decide)⟩;rcases Op.mp (p.mem_iff.mp hy) with z | z<;>exact z
def Gw{b:Str}(h:b = "off" \/ b = "home"):okR b/\okN b:=by
 rcases h with rfl | rfl
 ·exact⟨⟨by decide +kernel,by decide +kernel⟩,by decide +kernel⟩
 ·exact⟨⟨by decide +kernel,by decide +kernel⟩,by decide +kernel⟩
def Good.kp{row}{kept}(g:Good row kept)(hI:Isl row):KpOk kept:=by
 refine⟨Pd g.len (Pd hI.dlen (by decide)),λq hq=>?_⟩;obtain⟨h1,h2⟩:=g.row q hq;exact⟨hI.r9 _ h1,(Gw h2).1,hI.ok _ h1,(Gw h2).2⟩
def spFew:Sp:=λvs H Q _=>∃(dr sc l:Addr) (ps:List Addr),vs=[.ref dr,.ref l]/\DrawOk H dr sc/\H l=some (.lst (ps.map V.ref))/\l≠dr/\0<ps.length/\ps.length<=1000 /\
 ∀(c:Addr) (qs:List Addr) (H':Hp),H c=none->H' c=some (.lst (qs.map V.ref))->(∀q∈qs,q∈ps)->0<qs.length->qs.length<=4->DrawOk H' dr sc->But dr H H'->Q (.ref c) H'
def spKeepsL:Sp:=λvs H Q _=>∃(p k:Addr) (S:Zb) (qs:List Addr) (kept:List (Str×Str)),vs=[.ref k,.ref p]/\H p=some (.tup (S.map V.str))/\H k=some (.lst (qs.map V.ref))/\Tups H qs (kept.map pr2)/\qs.length<=1000/\∀H',Same H H'->Q (.bl (keeps kept S)) H'
abbrev NFw:Zb:=["_law_k", "_law_draw", "_law_some"]
abbrev NIsF:Zb:=["_law_draw", "_law_most", "_law_few_here", "_law_many"]
def Fv (ns:Zb) (Ts:List (Zb)):List (Str×Str):=(ns.filter λx=>decide ((A9 Ts x).length=1)).map λx=>(x,(A9 Ts x).headD Str.empty)
def Xn7(row)(Ts):Fv (dit row) Ts=B5 row Ts:=rfl
def Xfj(ns)(x)(Ts):Fv (ns++[x]) Ts=Fv ns Ts++if (A9 Ts x).length=1 then [(x,(A9 Ts x).headD Str.empty)] else []:=by
 unfold Fv;rw[O8,Oq];by_cases h:(A9 Ts x).length=1
 ·rw[Tg h,List.filter_cons_of_pos (by simpa using h)];rfl
 ·rw[Tf h,List.filter_cons_of_neg (by simpa using h)];rfl
def Xn8(a b):eqV (.str a) (.str b)=decide (a=b):=by
 have:=D7 (x:=a) (y:=b);unfold eqV
 first | rfl | (simp[eqV]) | exact beq_eq_decide a b
theorem Xfk(y):∀l:Zb,(l.map V.str).countP (λz=>eqV z (.str y))=l.countP λz=>decide (z=y)
 | []=>rfl
 | z::l=>by
  rw[Pb,Qa,Qa,Xfk y l,Xn8]
def Xn9{Ts}(ne:Ts≠[])(x):(Ts.map λS=>bk S x).countP (λz=>decide (z=bk (Ts.headD []) x))=Ts.length↔(A9 Ts x).length=1:=by
 have h1:(Ts.map λS=>bk S x).countP (λz=>decide (z=bk (Ts.headD []) x))=Ts.length ↔ ∀S∈Ts,bk S x=bk (Ts.headD []) x:=by
  rw[show Ts.length=(Ts.map λS=>bk S x).length by rw[Oh],List.countP_eq_length];constructor
  ·exact λh S hS=>Tj (h _ (O5.mpr ⟨S,hS,rfl⟩))
  ·intro h z hz;obtain⟨S,hS,rfl⟩:=O5.mp hz;exact Th (h S hS)
 rw[h1,<-K0 ne];refine⟨λz=>z.1,λz=>⟨z,?_⟩⟩;have:=(K0 ne x ((A9 Ts x).headD Str.empty)).mp ⟨z,rfl⟩;cases Ts with
 | nil=>exact absurd rfl ne
 | cons S r=>exact(this S Os).symm
def Xoa{Ts}(ne:Ts≠[]){x}(h:(A9 Ts x).length=1):(A9 Ts x).headD Str.empty=bk (Ts.headD []) x:=by
 have:=(K0 ne x ((A9 Ts x).headD Str.empty)).mp ⟨h,rfl⟩;cases Ts with
 | nil=>exact absurd rfl ne
 | cons S r=>exact(this S Os).symm
def Ob:Sp:=λvs H Q _=>∃(r c:Addr) (row:Zb) (ps:List Addr) (Ts:List (Zb)),vs=[.ref r,.ref c]/\H r=some (.lst (row.map V.str))/\Row2 row/\H c=some (.lst (ps.map V.ref))/\Tups H ps Ts/\ps.length<=200/\Ts≠[] /\
 ∀(D:Addr) (qs:List Addr) (H':Hp),H D=none->H' D=some (.lst (qs.map V.ref))->Tups H' qs ((B5 row Ts).map pr2)->Same H H'->Q (.ref D) H'
end SH
namespace SH
open PySem L2
def Xob{ns:Zb}{i:Nat}{v}(h:(ns.map V.str)[i]? = some v):∃x,v = .str x/\ns[i]? = some x:=by
 rw[Ox] at h;cases e:ns[i]? with
 | none=>rw[e] at h;cases h
 | some x=>
  rw[e] at h;exact⟨x,(O0 h).symm,rfl⟩
end SH
namespace SH
open L2
def ltP (a b:Zb):Prop:=a.length<b.length\/(a.length=b.length/\ltL a b=true)
def Xfl(a):¬ltP a a:=λh=>by
 rcases h with h | ⟨_,h⟩
 ·omega
 ·rw[Ip] at h;cases h
def Xoc{a b c}(h:ltP a b)(g:ltP b c):ltP a c:=by
 rcases h with h | ⟨h1,h2⟩
 ·rcases g with g | ⟨g1,g2⟩
  ·exact .inl (by omega)
  ·exact .inl (by omega)
 ·rcases g with g | ⟨g1,g2⟩
  ·exact .inl (by omega)
  ·exact .inr ⟨by omega,Kl _ _ _ h2 g2⟩
structure IsPL (row:List Str) (Ts:List (List Str)):Prop where
 pw:Ts.Pairwise ltP
 mem:∀T,T∈Ts↔Am row T=true
def IsPL.nd{row}{A}(h:IsPL row A):A.Nodup:=h.pw.imp λ{a b} (q:ltP a b)=>λ(e:a=b)=>Xfl b (e ▸ q)
def IsPL.len{row}{A}(h:IsPL row A)(h2:∀y∈row,row.count y=2)(h3:B2 row)(hl:(dit row).length<=14):A.length<=64:=by
 have nd:=h.nd;have q:(A.filter λS=>decide (S≠[])).length<64:=Nq (L:=A.filter λS=>decide (S≠[])) h2 h3 hl (nd.filter _) λS hS=>by
  obtain⟨s1,s2⟩:=Ou.mp hS;exact⟨Tj s2,(h.mem S).mp s1⟩
 have e:(A.filter λS=>decide (S≠[])).length+1 ≥ A.length:=by
  have:=List.length_eq_countP_add_countP (p:=λS:List Str=>decide (S≠[])) (l:=A);rw[Ro,Ro] at this;have c:(A.filter λS=>decide ¬decide (S≠[])=true).length<=1:=by
   have nd2:(A.filter λS=>decide ¬decide (S≠[])=true).Nodup:=nd.filter _;refine Pd (Im (b:=[[]]) nd2 λx hx=>?_) (Oj 1);have:=(Ou.mp hx).2;simp at this;simp[this]
  omega
 omega
def spPlotsO:Sp:=λvs H Q _=>∃(r:Addr) (row:Zb),vs=[.ref r]/\H r=some (.lst (row.map V.str))/\Row2 row/\B2 row/\(dit row).length<=14 /\
 ∀(l:Addr) (ps:List Addr) (Ts:List (Zb)) (H':Hp),H l=none->H' l=some (.lst (ps.map V.ref))->Tups H' ps Ts->IsPL row Ts->Same H H'->Q (.ref l) H'
structure Lay (row:Zb) (n:Nat) (Us:List (Zb)):Prop where
 pw:Us.Pairwise λa b=>ltL a b=true
 mem:∀T,T∈Us↔Am row T=true/\T.length=n
def Xod{row}{n}{Us Ts}(h2:∀y∈row,row.count y=2)(L:Lay row n Us)(c:Cov row Us Us.length Ts)(ok:∀T∈Ts,Am row T=true/\T.length=n+1){Ts'}(p:Ts'.Perm Ts)(pw:Ts'.Pairwise λa b=>ltL a b=true):Lay row (n+1) Ts':=by
 refine⟨pw,λT=>⟨λh=>ok T (p.mem_iff.mp h),λ⟨h,hl⟩=>p.mem_iff.mpr ?_⟩⟩;have ne:T≠[]:=λe=>by rw[e] at hl;cases hl
 obtain⟨x,hx,hs⟩:=Xnb h2 h ne;obtain⟨p1,p2,_⟩:=Kw.mp h;have hlen:=Xnc p1 hx;have hm:(T.filter λy=>decide (y≠x))∈Us:=(L.mem _).mpr ⟨hs,by omega⟩;obtain⟨i,hi,e⟩:=Po.mp hm;have e':Us.getD i []=T.filter λy=>decide (y≠x):=by rw[<-e];simp[List.getD,hi]
 have:=c i hi x (p2 x hx);rw[e',Xe0 p1 hx] at this;exact this (λz=>by have:=(Ou.mp z).2;simp at this) h
structure Upto (row:Zb) (n:Nat) (Ts:List (Zb)):Prop where
 pw:Ts.Pairwise ltP
 mem:∀T,T∈Ts↔Am row T=true/\T.length<=n
def Upto.next{row}{n}{Ts Us}(U:Upto row n Ts)(L:Lay row (n+1) Us):Upto row (n+1) (Ts++Us):=by
 refine⟨Pc.mpr ⟨U.pw,?_,λa ha b hb=>?_⟩,λT=>?_⟩
 ·refine L.pw.imp_of_mem λ{a b} ha hb h=>.inr ⟨?_,h⟩;rw[((L.mem a).mp ha).2,((L.mem b).mp hb).2]
 ·have h1:=((U.mem a).mp ha).2;have h2:=((L.mem b).mp hb).2;exact .inl (by omega)
 ·rw[Op,U.mem,L.mem];constructor
  ·rintro (⟨h,l⟩ | ⟨h,l⟩)
   ·exact⟨h,by omega⟩
   ·exact⟨h,by omega⟩
  ·rintro ⟨h,l⟩;by_cases q:T.length<=n
   ·exact .inl ⟨h,q⟩
   ·exact .inr ⟨h,by omega⟩
def Upto.all{row}{Ts}(U:Upto row (dit row).length Ts):IsPL row Ts:=⟨U.pw,λT=>(U.mem T).trans ⟨λh=>h.1,λh=>⟨h,Nv h⟩⟩⟩
def Xoe(row):Upto row 0 [[]]:=⟨by simp,λT=>by
 rw[Om];exact⟨λe=>by rw[e];exact⟨Kk row,Oj _⟩,λ⟨_,h⟩=>Pr.mp (by omega)⟩⟩
def Xof(row):Lay row 0 [[]]:=⟨by simp,λT=>by
 rw[Om];exact⟨λe=>by rw[e];exact⟨Kk row,rfl⟩,λ⟨_,h⟩=>Pr.mp h⟩⟩
def spHeldL:Sp:=λvs H Q _=>∃(l kp:Addr) (ps:List Addr) (Ts:List (Zb)) (qs:List Addr) (kept:List (Str×Str)),vs=[.ref l,.ref kp]/\H l=some (.lst (ps.map V.ref))/\Tups H ps Ts/\ps.length<=1000/\H kp=some (.lst (qs.map V.ref))/\Tups H qs (kept.map pr2)/\qs.length<=1000 /\
 ∀(D:Addr) (us:List Addr) (H':Hp),H D=none->H' D=some (.lst (us.map V.ref))->Tups H' us (Ts.filter (keeps kept))->us.length<=ps.length->Same H H'->Q (.ref D) H'
def Xfm:Sp:=λvs H Q _=>∃(r l kp:Addr) (row:Zb) (ps:List Addr) (Ts:List (Zb)) (qs:List Addr) (kept:List (Str×Str)),vs=[.ref r,.ref l,.ref kp]/\H r=some (.lst (row.map V.str))/\Row2 row/\H l=some (.lst (ps.map V.ref))/\Tups H ps Ts/\ps.length<=64/\(∀S,S∈Ts↔Am row S=true) /\
 H kp=some (.lst (qs.map V.ref))/\Tups H qs (kept.map pr2)/\KpOk kept/\∀(b:Bool) (H':Hp),(b=true↔Good row kept)->Same H H'->Q (.bl b) H'
def spOddK:Sp:=λvs H Q _=>∃(dr sc r kp:Addr) (row:Zb) (qs:List Addr) (kept:List (Str×Str)),vs=[.ref dr,.ref r,.ref kp]/\DrawOk H dr sc/\H r=some (.lst (row.map V.str))/\r≠dr/\Isl row/\H kp=some (.lst (qs.map V.ref))/\kp≠dr/\Tups H qs (kept.map pr2)/\Good row kept /\
 ∀(k':Addr) (qs':List Addr) (kept':List (Str×Str)) (H':Hp),k'≠dr->H' k'=some (.lst (qs'.map V.ref))->Tups H' qs' (kept'.map pr2)->KpOk kept'->DrawOk H' dr sc->But dr H H'->Q (.ref k') H'
end SH
namespace L2
open PySem
def Xog{t u}{a b}{D}{Z}{H}(p1 p2)(h1:∀Q':Bool->Hp->Prop,(∀H',Same H H'->Q' p1 H')->t Z H Q')(h2:∀(H1:Hp) (Q':Bool->Hp->Prop),Same H H1->(∀H',Same H1 H'->Q' p2 H')->u Z H1 Q')
  (ha:(p1||p2)=true->∀H',Same H H'->a D Z H') (hb:(p1||p2)=false->∀H',Same H H'->b D Z H'):Jf (tOr t u) a b D Z H:=by
 refine h1 _ λH' s'=>?_;cases p1 with
 | true=>
  rw[Tg rfl];show if true=true then _ else _
  rw[Tg rfl];exact ha rfl H' s'
 | false=>
  rw[Tf (by decide)];refine h2 H' _ s' λH2 s2=>?_;show if p2=true then _ else _
  cases p2 with
  | true=>rw[Tg rfl];exact ha rfl H2 (s'.trans s2)
  | false=>rw[Tf (by decide)];exact hb rfl H2 (s'.trans s2)
end L2
namespace SH
open L2
def stranger9:∀st<26,∀late:Bool,∀y∈Bb st late 14,(Txt.slice y none (some 7)++Str.ofString "q").length<=9:=by decide +kernel
def Isl.stranger9{row}(h:Isl row):okR (E5 row):=by
 refine⟨?_,λc hc=>Qv (h.stranger.1.2 c hc) (by decide)⟩;cases row with
 | nil=>decide +kernel
 | cons y r=>
  obtain⟨n,st,late,hn,hs,p⟩:=h.ex;exact SH.stranger9 st hs late y (J8 hn (by rcases Op.mp (p.mem_iff.mp Os) with q | q<;>exact q))
def Xfn:okR "bank" /\ okN "bank" := ⟨⟨by decide +kernel,by decide +kernel⟩,by decide +kernel⟩
def KpOk.mid{kept}{q}(h:KpOk kept)(hl:kept.length<=14)(i j)(ij:i<=j)(hq:okR q.1/\okR q.2/\okN q.1/\okN q.2):KpOk (kept.take i++q::kept.drop j):=by
 refine⟨?_,λz hz=>?_⟩
 ·rw[Oo,Pe,Ov,Pk];omega
 ·rcases Op.mp hz with e | e
  ·exact h.ok z (Pp e)
  ·rcases O2.mp e with e | e
   ·rw[e];exact hq
   ·exact h.ok z (Pq e)
def KpOk.cut{kept}(h:KpOk kept)(hl:kept.length<=14)(i j)(ij:i<=j):KpOk (kept.take i++kept.drop j):=by
 refine⟨?_,λz hz=>?_⟩
 ·rw[Oo,Ov,Pk];omega
 ·rcases Op.mp hz with e | e
  ·exact h.ok z (Pp e)
  ·exact h.ok z (Pq e)
def KpOk.rev{kept}(h:KpOk kept):KpOk kept.reverse:=⟨by rw[Qh];exact h.len,λz hz=>h.ok z (List.mem_reverse.mp hz)⟩
def Xfo{H}{ps}{Ts}(h:Tups H ps Ts)(n):Tups H (ps.take n) (Ts.take n):=by
 refine⟨by rw[Ov,Ov,h.1],λi hi=>?_⟩;rw[Ov] at hi;have:=h.2 i (by omega);rw[List.getD,List.getD,R0 (by omega),R0 (by omega)];exact this
def Xfp{H}{ps}{Ts}(h:Tups H ps Ts)(n):Tups H (ps.drop n) (Ts.drop n):=by
 refine⟨by rw[Pk,Pk,h.1],λi hi=>?_⟩;rw[Pk] at hi;have:=h.2 (n+i) (by omega);rw[List.getD,List.getD,Q9,Q9];exact this
def Xoh{H}{ps}{Ts}(h:Tups H ps Ts):Tups H ps.reverse Ts.reverse:=by
 refine⟨by rw[Qh,Qh,h.1],λi hi=>?_⟩;rw[Qh] at hi;have hl:=h.1;have:=h.2 (ps.length - 1 - i) (by omega);rw[List.getD,List.getD,List.getElem?_reverse hi,List.getElem?_reverse (by omega),<-hl];exact this
def Tups.mid{H}{qs}{kept:List (Str×Str)}{p}{q}(h:Tups H qs (kept.map pr2))(hp:H p=some (.tup [.str q.1,.str q.2]))(i j):Tups H (qs.take i++p::qs.drop j) ((kept.take i++q::kept.drop j).map pr2):=by
 rw[Oq,Pb,Sh,Si];exact Tups.app (Xfo h i) (Tups.cons hp (Xfp h j))
abbrev NOk:Zb:=["_law_draw", "_law_row_here", "_law_kept_here", "_law_way", "_law_at", "_law_name", "_law_side"]
abbrev NSd:Zb:=["_law_row_here", "_law_kept_here", "_law_plot", "_law_said_here", "e", "_law_kinds"]
def crsAt (row:Zb) (x:Str) (ys:Zb):List (Str×Str):=(ys.filter λy=>decide (lieR row x y = "cross")).map λy=>(x,y)
def spAllT:Sp:=λvs H Q _=>∃(l:Addr) (ps:List Addr) (Ts:List (Zb)),vs=[.ref l]/\H l=some (.lst (ps.map V.ref))/\Tups H ps Ts/\(∀S∈Ts,S.length<=1000)/\ps.length<=1000/\∀H',Same H H'->Q (.bl true) H'
def Xoi{a b}(h:Fb a b=true):ltP a b:=by
 unfold Fb Cv at h;by_cases e:a.length=b.length
 ·rw[Tg e] at h;exact .inr ⟨e,h⟩
 ·rw[Tf e] at h;exact .inl (Tj h)
def OkT (a:Zb):Prop:=(∀y∈a,okN y)/\a.length<=24
def Xqu (C T:Addr) (pos:Pos):Sp:=λvs H Q E=>∃(r p q:Addr) (row a b:Zb),vs=[.ref r,.ref p,.ref q]/\H r=some (.lst (row.map V.str))/\Row2 row/\B2 row/\(dit row).length<=14/\H p=some (.tup (a.map V.str))/\H q=some (.tup (b.map V.str)) /\
 OkT a/\OkT b/\Aq T pos qIn H /\
 (Am row a=true->Am row b=true->∀(D:Addr) (ps:List Addr) (Ts:List (Zb)) (H':Hp),H D=none->H' D=some (.lst (ps.map V.ref))->Tups H' ps Ts->(∀S,S∈Ts↔Am row S=true/\btw a b S=true)->(Ts.Pairwise λx y=>Fb x y=true)->ps.length<=64->Aq T pos qIn H'->But T H H'->Q (.ref D) H') /\
 ((Am row a=false\/Am row b=false)->∀H',Same H H'->E (.ref C) none H')
def Xqv:Sp:=λvs H Q _=>∃(l p q:Addr) (ps:List Addr) (Ts:List (Zb)) (a b:Zb),vs=[.ref l,.ref p,.ref q]/\H l=some (.lst (ps.map V.ref))/\Tups H ps Ts/\ps.length<=1000/\(∀S∈Ts,S.length<=24)/\H p=some (.tup (a.map V.str))/\H q=some (.tup (b.map V.str))/\a.length<=24/\b.length<=24 /\
 ∀(D:Addr) (qs:List Addr) (H':Hp),H D=none->H' D=some (.lst (qs.map V.ref))->Tups H' qs (Ts.filter (btw a b))->Same H H'->Q (.ref D) H'
def Xqw (T:Addr) (pos:Pos):Sp:=λvs H Q _=>∃(r p q:Addr) (row a b:Zb) (v:V),vs=[.ref r,.ref p,.ref q,v]/\H r=some (.lst (row.map V.str))/\Row2 row/\B2 row/\(dit row).length<=14/\H p=some (.tup (a.map V.str))/\H q=some (.tup (b.map V.str)) /\
 OkT a/\OkT b/\Aq T pos qIn H/\((v = .non/\(Am row a=false\/Am row b=false)) \/ ∃(u:Addr) (c:Zb),v = .ref u/\H u=some (.tup (c.map V.str))/\OkT c/\¬(Am row a=true/\Am row b=true/\Am row c=true))/\∀H',Same H H'->Q (.bl true) H'
def spIslTo:Sp:=λvs H Q _=>∃(dr sc:Addr) (m:Nat),vs=[.ref dr,.int m]/\m<=14/\DrawOk H dr sc /\
 ∀(l:Addr) (row:Zb) (n st:Nat) (late:Bool) (H':Hp),H l=none->n<=14->st<26->H' l=some (.lst (row.map V.str))->row.Perm (Bb st late n++Bb st late n)->B2 row->DrawOk H' dr sc->But dr H H'->Q (.ref l) H'
end SH
namespace L2
def Xoj{m j:Int}(hm:1<=m)(hj:0<j):(m+j - 1) / j<=m:=by
 refine Int.ediv_le_of_le_mul hj ?_;have h:1 * (j - 1)<=m * (j - 1):=Int.mul_le_mul_of_nonneg_right hm (by omega);have e:m * (j - 1)=m * j - m:=by rw[Int.mul_sub,Int.mul_one]
 omega
def Xok(xs:List Value)(i j)(hj:0<j):(slicePick xs.toArray (some i) none (some j)).size<=xs.length:=by
 unfold slicePick;rw[Ol];refine Pd (List.length_filterMap_le ..) ?_;unfold sliceRange sliceBounds;simp only[Option.getD_some,Oh,Px,Tg (show j > 0 from hj),Ol];generalize (if i<0 then i+(xs.length:Int) else i)=i';by_cases h:max 0 (min i' (xs.length:Int))<(xs.length:Int)
 ·rw[Tg h];have:=Xoj (m:=(xs.length:Int) - max 0 (min i' (xs.length:Int))) (by omega) hj;omega
 ·rw[Tf h];exact Pm _
theorem Xfq{xs}{its}(r:Vals xs its):∀idx:List Nat,Vals (idx.filterMap (xs[·]?)) (idx.filterMap (its[·]?))
 | []=>.nil
 | k::idx=>by
  have ih:=Xfq r idx;have hl:=r.length;by_cases h:k<xs.length
  ·obtain⟨u,hu,ru⟩:=Vals.get r (Oi h);rw[Py,Py,Oi h,hu];exact .cons ru ih
  ·rw[Py,Py,Qo (by omega),Qo (by omega)];exact ih
section
variable {X:Cx}{pos p2:Pos}{e lo st:Expr}{te tl ts:TE}
def Xol (te tl ts:TE):TE:=fun Z H Q=>te Z H λx H1=>tl Z H1 λl H2=>ts Z H2 λt H3=>∃a xs i j,x = .ref a/\H3 a=some (.lst xs)/\l = .int i/\t = .int j/\0<j/\∀p ys,H3 p=none->(∀y∈ys,y∈xs)->ys.length<=xs.length->Q (.ref p) (upd H3 p (.lst ys))
def Xom(he:PE X e te)(hl:PE X lo tl)(hs:PE X st ts):PE X (.Subscript e (.Slice (some lo) none (some st) p2) pos) (Xol te tl ts):=by
 intro pins s Z H Q I h;refine Subscript_ (thn (he pins s Z H _ I h) λv s1 ⟨x,H1,I1,r1,q1⟩=>?_);refine wpAny_Slice ?_;rw[evalPart_some];refine thn (hl pins s1 Z H1 _ I1 q1) λvl s2 ⟨l,H2,I2,rl,q2⟩=>?_;rw[evalPart_none];refine Tb ?_;rw[evalPart_some];refine thn (hs pins s2 Z H2 _ I2 q2) λvs s3 ⟨t,H3,I3,rs,a,xs,i,j,ex,hx,el,et,hj,q⟩=>?_;subst ex el et;cases r1;obtain⟨tl',rfl⟩:=rl;obtain⟨ts',rfl⟩:=rs;have I4:Inv X pins Z H3 {s3 with heap:=s3.heap.push {cls:=.type "slice",data:=.fields #[.int i tl',.none,.int j ts']} }:=I3.kept (t':=s3.toks) λb ob q=>Tm _ q;obtain⟨its4,r4,ht4,hz4⟩:=I4.list (SqL.of (K:=X.K) hx);have hlen:=r4.length;refine tail_any (ops:=[.ref a,.ref s3.heap.objs.size]) ht4.isList.typeIs slot_list_getitem.lookup (wpAny_getItem_list_slice ht4.isList (Heap.IsSliceOf.new ..) (.int i tl') .none (.int j ts') (by intro z;injection z with z;omega) ?_ (by rw[Ol]<;>omega)) (by with_unfolding_all rfl);have pl:=Xok its4 i j hj;unfold slicePick at pl ⊢;generalize sliceRange (sliceBounds (some i) none (some j) its4.toArray.size).fst (sliceBounds (some i) none (some j) its4.toArray.size).snd.fst (sliceBounds (some i) none (some j) its4.toArray.size).snd.snd=idx at pl ⊢;have vp:=Xfq r4 idx;have vl:=vp.length;have e0:idx.filterMap (λx=>its4.toArray[x]?)=idx.filterMap (its4[·]?):=by
  congr 1;funext x;exact Qq
 rw[e0,Ol] at pl;rw[e0];refine⟨.ref _,_,I4.laid (t':=s3.toks) (o:=.lst (idx.filterMap (xs[·]?))) (λb ob q=>Tm _ q) (Oj _) ?_,rfl,q _ _ (I4.hok.fresh (Oj _)) (λy hy=>?_) (by omega)⟩
 ·exact⟨by omega,_,0,vp,Heap.get?_push_size _ rfl⟩
 ·obtain⟨k,_,hk⟩:=R1.mp hy;exact Qk hk
end
end L2
namespace SH
open L2
def spSaid31 (T:Addr) (pos:Pos):Sp:=λvs H Q _=>∃(r k:Addr) (row:Zb) (kept:List (Str×Str)) (v:V) (b:Bool),vs=[.ref r,.ref k,v]/\HeldAt H T pos r k row kept/\(b=true↔¬Good row kept) /\
 ((v = .non/\b=true) \/ ∃p S,v = .ref p/\H p=some (.tup (S.map V.str))/\(∀y∈S,okN y)/\S.length<=24/\(b=false->Am row S=false)) /\
 ∀H',Aq T pos qIn H'->But T H H'->Q (.str (if b=true then "ground" else "plot")) H'
def Xfr{row}{kept}{Ts Us}(g:IsPL row Ts)(h:N9 row kept Us):Us=Ts.filter (keeps kept):=
 Ky Xfl (λ_ _ _=>Xoc) (h.2.imp λh=>Xoi h) (g.pw.filter _) λS=>by rw[h.1,Ou,g.mem]
end SH
namespace K31
open L2 SH
def top (i:Nat):Stmt:=PySem.Challenge.pw_shoretold_k31_the_plots_of_a_ground.main.body.getD i (.Pass ⟨0,0,0,0⟩)
abbrev sAsk:Stmt:=top 6
abbrev sDitches:Stmt:=top 7
abbrev sEnds:Stmt:=top 8
abbrev sSpans:Stmt:=top 9
abbrev sLieOf:Stmt:=top 10
abbrev sCross:Stmt:=top 11
abbrev sTold:Stmt:=top 13
abbrev s_in_order:Stmt:=top 14
abbrev sAllows:Stmt:=top 15
abbrev sIsPlot:Stmt:=top 16
abbrev s_ask_plot:Stmt:=top 17
abbrev s_plots:Stmt:=top 18
abbrev s_bank_of:Stmt:=top 19
abbrev s_lies_on:Stmt:=top 21
abbrev s_shared:Stmt:=top 22
abbrev s_held:Stmt:=top 23
abbrev s_inside:Stmt:=top 24
abbrev sBegin:Stmt:=top 26
abbrev sPick:Stmt:=top 27
abbrev sPut:Stmt:=top 28
abbrev sWhere:Stmt:=top 29
abbrev sWord:Stmt:=top 30
abbrev sBarred:Stmt:=top 31
abbrev sRow:Stmt:=top 32
abbrev sNames:Stmt:=top 33
abbrev sIsland:Stmt:=top 34
abbrev s__law_island_to:Stmt:=top 35
abbrev s__law_bars:Stmt:=top 36
abbrev s__law_fits:Stmt:=top 37
abbrev s__law_plots:Stmt:=top 38
abbrev s__law_kept:Stmt:=top 39
abbrev s__law_one:Stmt:=top 40
abbrev s__law_few:Stmt:=top 41
abbrev s__law_stranger:Stmt:=top 42
abbrev s__law_odd_kept:Stmt:=top 43
abbrev s__law_flip:Stmt:=top 44
abbrev s__law_odd_plot:Stmt:=top 45
abbrev s__law_keeps:Stmt:=top 46
abbrev s__law_held:Stmt:=top 47
abbrev s__law_good_kept:Stmt:=top 48
abbrev s__law_tuple:Stmt:=top 49
abbrev s__law_all_texts:Stmt:=top 50
abbrev s__law_good_plot:Stmt:=top 51
abbrev s__law_said:Stmt:=top 52
abbrev s_law:Stmt:=top 53
abbrev NWo:Zb:=["_law_where_here", "_law_one_here", "_law_other", "_law_low", "_law_high", "_law_inner"]
abbrev NBc:Zb:=["_law_one_here", "_law_name", "_law_where_here"]
abbrev NFl1:Zb:=["_law_one_here", "_law_name"]
abbrev NFi:Zb:=["_law_bars_here", "_law_plot", "_law_one_here", "_law_other", "_law_word_here"]
abbrev NBr:Zb:=["_law_row_here", "_law_where_here", "_law_told", "_law_one_here", "_law_other", "_law_word_here"]
section
variable {P:Program}{w:World}{K:Za}{mg:Str->Option Value}{base:Heap}
def Xon:FnScope ["row", "name"] ["row", "name"] (defScope sAsk):=by walk_at "s"
def Xoo{f C}{fd}(F:Fun K "ask_ditch" "ask_ditch" sAsk f fd)(hC:mg "NoDitch" = some (.ref C))(hc:excIn K C bmV "ValueError.__new__" = true):
  FnOk P w K mg base (CX1 P w) 1 f fd ["row", "name"] (Xdg C):=by
 refine F.ok1 Xon (by walk_at "l") ?_
 ·walk_at "i"
  obtain⟨r,row,x,rfl,hR,⟨hx1,hx2⟩,kq,ke⟩:=h;refine⟨_,Ag (A5 (Av Lu (pv 1) (pv 0) (by rfl))
   (Ag (Ma (C:=C) (E:=E) hc rfl leaves1 (by rfl) hC (Aa (Mg (Hk (by decide +kernel) (Xjq (pv 1) (Hk (by decide +kernel) Mf)))) Ac))) A8),?_⟩
  refine⟨_,rfl,_,rfl,r,_,rfl,.inl (SqL.of hR),rfl,C8 row,_,rfl,?_⟩;rw[Dg];by_cases hx:x∈row
  ·refine Xh8 hx ?_;exact kq hx H (Same.refl H)
  ·rw[Ti hx];refine Bq ?_;refine⟨_,rfl,x,rfl,by omega,(λc h=>Qv (hx2 c h) (by decide)),λz=>?_⟩;exact⟨by show 1<=sizeLine;decide,ke hx H (Same.refl H)⟩
def Xop:FnScope ["row"] ["row"] (defScope sDitches):=by walk_at "s"
def Xoq{f}{fd}(F:Fun K "ditches" "ditches" sDitches f fd)(T:Bl mg):FnOk P w K mg base CX0 1 f fd ["row"] spDitches:=by
 refine F.ok Xop (by walk_at "l") ?_
 ·walk_at "i"
  obtain⟨r,row,rfl,hR,hl,k⟩:=h;refine⟨_,Ag (An (A2 (Jt rfl) (by rfl) T.sorted (by rfl) (Aa (B7 (Mm rfl) (by rfl) T.set (by rfl) (Aa (pv 0) Ac)) Ac))),?_⟩;refine⟨_,rfl,r,row,rfl,.inl (SqL.of hR),by unfold scanBound;omega,λa na=>?_⟩;have hdl:=F9 row;refine⟨a,ddup row,rfl,Ab,by omega,λl ls nl hp hs=>?_⟩;have s1:Same H (upd H a (Ch P w a (ddup row))):=(Same.refl H).step na;refine k l _ (s1.free nl) ?_ (s1.step nl);rw[Ab,Gb hp hs];rfl
def Xfs:FnScope NEn ["row", "name"] (defScope sEnds):=by walk_at "s"
def Xor{f C}{fd}(F:Fun K "ends" "ends" sEnds f fd)(T:Bl mg)(FA:Fn P w K mg base (CX1 P w) 1 "ask_ditch" ["row", "name"] (Xdg C)):
  FnOk P w K mg base (CX1 P w) 2 f fd ["row", "name"] (Xdh C):=by
 refine F.ok1 Xfs (by walk_at "l") ?_
 ·walk_at "i"
  obtain⟨r,row,x,rfl,hR,hx,hl,kq,ke⟩:=h;refine⟨_,Ae (Eu (Ah FA hr rfl pass1 (Aa (pv 0) (Aa (pv 1) Ac))))
   (Ae (Hx (i:=2) (N:=NEc) (cap:=[none,none,some 1]) (CompScope.of (defScope sEnds) NEn rfl rfl rfl (by decide +kernel)) rfl Xfs.nd rfl rfl
    (Xjo (by rfl) T.enum (Aa (pv 0) Ac))
    (λ_ _ _=>Jw K 2 rfl rfl (Cn (Aw (i:=0) (show NEc.Nodup by decide +kernel) rfl (.inl rfl) (.inr rfl)) (Cn (Aw (i:=1) (show NEc.Nodup by decide +kernel) rfl (.inl rfl) (.inr rfl)) Fd)))
    (λ_ _ _=>D0 (Av Bg (pv 1) (pv 2) (Ar _))) (λ_ _ _=>pv 0))
   (Ag (An (Bk (Aa (Ax Bd (pv 2) Af (λ_ _=>rfl)) (Aa (Ax Bd (pv 2) Af (λ_ _=>rfl)) Ac)))))),?_⟩
  refine⟨_,rfl,_,rfl,r,row,x,rfl,hR,hx,λhin H1 s1=>?_,ke⟩;obtain⟨a,b,hab,kq⟩:=kq hin;refine⟨_,rfl,r,rfl,⟨_,SqL.of (s1 _ _ hR)⟩,?_⟩;refine Xj1 (K:=K) (p:=0) (q:=1) (by decide) (SqL.of (s1 _ _ hR)) (by rw[Oh,Te];omega) (λi=>decide (row.getD i Str.empty=x)) (λi=>.int i) ?_ ?_ ?_
  ·intro i v H2 Q' hv s2 k;obtain⟨y,rfl,hy⟩:∃y,v=V.str y/\row.getD i Str.empty=y:=by
    rw[Ox] at hv;cases q:row[i]? with
    | none=>rw[q] at hv;cases hv
    | some y=>rw[q] at hv;exact⟨y,(O0 hv).symm,by simp[List.getD,q]⟩
   refine⟨_,rfl,_,rfl,rfl,_,rfl,?_⟩;have:=k H2 (Same.refl _);rw[hy] at this;have e:decide (V.str y=V.str x)=decide (y=x):=by
    by_cases z:y=x
    ·rw[z];simp
    ·rw[Ti z,Ti (λq=>z (by injection q))]
   rw[e];exact this
  ·intro i v H2 Q' hv hk s2 k;exact⟨_,rfl,k H2 (Same.refl _)⟩
  ·intro D H2 nD s2 hD;have hD':H2 D=some (.lst [.int a,.int b]):=by
    rw[hD,Oh];have:=congrArg (List.map V.int) ((Nf row x).trans hab);rw[Pj] at this;rw[show ((List.range row.length).filter λi=>decide (row.getD i Str.empty=x)).map (λi:Nat=>V.int (i:Int))=_ from this];rfl
   refine⟨_,rfl,_,_,_,_,rfl,rfl,SqL.of hD',rfl,_,rfl,_,_,_,_,rfl,rfl,SqL.of hD',rfl,by show 2<=sizeLine;decide,λp np=>?_⟩;have s3:=s1.trans s2;exact kq p _ (s3.free np) Ab (s3.step np)
def Xos:FnScope ["row"] ["row"] (defScope sSpans):=by walk_at "s"
def Xot{f C}{fd}(F:Fun K "spans" "spans" sSpans f fd)(FD:Fn P w K mg base CX0 1 "ditches" ["row"] spDitches)(FE:Fn P w K mg base (CX1 P w) 2 "ends" ["row", "name"] (Xdh C)):
  FnOk P w K mg base CX0 3 f fd ["row"] spSpans:=by
 refine F.ok Xos (by walk_at "l") ?_
 ·walk_at "i"
  obtain⟨r,row,rfl,hR,R2,k⟩:=h;have hr1:Room 1 _:=hr.mono (by decide);refine⟨_,Ag (An (Mv (N:=NSp) (cap:=[none,some 0]) (CompScope.of (defScope sSpans) ["row"] rfl rfl rfl (by decide +kernel)) rfl
   (Bt (Ah FD hr1 (by rfl) Aj (Aa (pv 0) Ac))) (λ_ _ _=>Aw (i:=0) (show NSp.Nodup by decide +kernel) rfl (.inl rfl) (.inr rfl)) (λ_ _ _=>Ce)
   (λ_ _ _=>pv 0) (λ_ _ _=>Ah (by exact FE) (by exact hr) (by rfl) Jv (Aa (pv 1) (Aa (pv 0) Ac))))),?_⟩
  have hl:=R2.len;refine⟨_,rfl,r,row,rfl,hR,hl,λdi H1 ndi hdi s1=>?_⟩;refine⟨di,rfl,⟨_,SqL.of hdi⟩,λD nD=>?_⟩;have hn:∀i,i<(dit row).length->((dit row).map V.str).getD i .non = .str ((dit row).getD i Str.empty):=λi hi=>Bu V.str Str.empty _ hi;have hR1:=s1 _ _ hR;have hdl:=D3 row;refine⟨wN (dit row).length λi Z2 H2=>(∃v, Z2=[v,some (.ref r)])/\Same H1 H2/\∃kvs,H2 D=some (.dK kvs)/\Spn H2 kvs row ((dit row).take i),⟨(dit row).length,by simp,Pm _,⟨none,rfl⟩,(Same.refl H1).step nD,[],Ab,⟨rfl,λx hx=>by simp at hx⟩⟩,?_⟩;rintro i m Z1 H2 ⟨rfl,hi,⟨v,rfl⟩,s2,kvs,hD,sp⟩;by_cases hlt:i<(dit row).length
  ·have hlt':i<((dit row).map V.str).length:=by rw[Oh];exact hlt
   obtain⟨g1,g2⟩:=C6 (K:=K) (SqL.of (s2 _ _ hdi)) hlt';refine .inr ⟨g1,λx H3 y=>?_⟩;obtain⟨e1,e2⟩:=g2 x H3 y;subst e1 e2;rw[hn i hlt];generalize hx:(dit row).getD i Str.empty=x;have hxd:x∈dit row:=by rw[<-hx];exact Cl hlt
   have hxr:=Ap.mp hxd;have htk:(dit row).take (i+1)=(dit row).take i++[x]:=by
    rw[O6 hlt,<-hx];simp[List.getD,hlt]
   have hnx:x∉(dit row).take i:=by
    have nd:=Ge row;have h2:((dit row).take (i+1)).Nodup:=nd.sublist (P3 ..);rw[htk] at h2;exact λz=>(Qi.mp h2).2.2 x z x (by simp) rfl
   refine⟨_,rfl,_,rfl,_,rfl,r,row,x,rfl,s2 _ _ hR1,R2.ok x hxr,by omega,λ_=>⟨_,_,Fo (R2.two x hxr),λl H4 nl hl4 s4=>?_⟩,λz=>absurd hxr z⟩;have hD4:=s4 _ _ hD;have kl:kvs.length<=60:=by
    have:=sp.len;rw[Ov] at this;omega
   refine⟨kvs,Sum.inr x,rfl,hD4,by rw[Te];omega,?_⟩;refine wskip hlt ⟨⟨_,rfl⟩,λb u e=>?_,_,Ab,?_⟩
   ·rw[Ad (Au e nD)];exact s4 _ _ (s2 b u e)
   ·rw[htk];refine sp.snoc hnx ?_ λb xs e=>?_
    ·rw[Ad (λz=>by rw[z,hD4] at hl4;cases hl4)];exact hl4
    ·have e4:=s4 _ _ e;rw[Ad (λz=>by rw[z,hD4] at e4;cases e4)];exact e4
  ·have ei:i=(dit row).length:=by omega
   subst ei;refine .inl ⟨by have:=C7 (K:=K) (SqL.of (s2 _ _ hdi));rwa [Oh] at this,?_⟩;rw[Pt] at sp;exact k D kvs H2 (s1.free nD) hD sp (s1.trans s2)
def Oc:FnScope NLo ["here", "there"] (defScope sLieOf):=by walk_at "s"
def Xou{f}{fd}(F:Fun K "lie_of" "lie_of" sLieOf f fd):FnOk P w K mg base CX0 2 f fd ["here", "there"] spLieOf:=by
 refine F.ok Oc (by walk_at "l") ?_
 ·walk_at "i"
  obtain⟨p,q,a,b,c,e,rfl,hp,hq,l4,k⟩:=h;refine⟨_,Ae (A5 (Av (Hz (hu3 hr)) (pv 0) (pv 1) (Ar _)) (Ag (An Az)) A8)
   (Ae (Ao (i:=2) Oc.nd rfl (.inl rfl) (Xas De De (Ax (Df K (by rfl)) (pv 1) Af (λ_ _=>rfl)) (Ax (Df K (by rfl)) (pv 0) Af (λ_ _=>rfl)) (Ax (Df K (by rfl)) (pv 1) Af (λ_ _=>rfl))))
   (Ae (Ao (i:=3) Oc.nd rfl (.inl rfl) (Xas De De (Ax (Df K (by rfl)) (pv 1) Af (λ_ _=>rfl)) (Ax (Df K (by rfl)) (pv 0) Af (λ_ _=>rfl)) (Ax (Df K (by rfl)) (pv 1) Af (λ_ _=>rfl))))
   (Ae (A5 (Av F0 (pv 2) (pv 3) (Ar _)) (Ag (An Az)) A8)
   (Ae (A5 (Dd (pv 2)) (Ag (An Az)) A8)
   (Ag (An (G2 (Xgt De De (Ax (Df K (by rfl)) (pv 0) Af (λ_ _=>rfl)) (Ax (Df K (by rfl)) (pv 1) Af (λ_ _=>rfl)) (Ax (Df K (by rfl)) (pv 0) Af (λ_ _=>rfl))) Az Az))))))),?_⟩
  have d2:∀{r:Addr} {x y:Int},H r=some (.tup [.int x,.int y])->DAt H (.tuple [.int x,.int y]) (.ref r):=λ{r x y} h=>My h (Xj7 [x,y]);refine⟨_,rfl,_,rfl,.tuple [.int a,.int b],.tuple [.int c,.int e],d2 hp,d2 hq,rfl,rfl,(by show min (max 0 (max 0 0)+1) (max 0 (max 0 0)+1)<=3;decide),_,rfl,?_⟩;have ee:PyData.eqv (.tuple [.int a,.int b]) (.tuple [.int c,.int e])=decide (a=c/\b=e):=by
   rw[Qe,M3 _ _ rfl rfl];simp
  rw[ee];have kk:=k H (Same.refl H);refine A0 (λh1=>?_) (λh1=>?_)
  ·unfold lieT at kk;rw[Tg (Tj h1)] at kk;exact kk
  ·have h1:=Tk h1;dsimp only[K8,Je,Lc,A6];refine Ng (x:=c) (y:=a) (z:=e) (λQ' h=>⟨_,rfl,q,_,_,_,rfl,rfl,SqT.of hq,rfl,h⟩) (λQ' h=>⟨_,rfl,p,_,_,_,rfl,rfl,SqT.of hp,rfl,h⟩) (λQ' h=>⟨_,rfl,q,_,_,_,rfl,rfl,SqT.of hq,rfl,h⟩) ?_;refine Ng (x:=c) (y:=b) (z:=e) (λQ' h=>⟨_,rfl,q,_,_,_,rfl,rfl,SqT.of hq,rfl,h⟩) (λQ' h=>⟨_,rfl,p,_,_,_,rfl,rfl,SqT.of hp,rfl,h⟩) (λQ' h=>⟨_,rfl,q,_,_,_,rfl,rfl,SqT.of hq,rfl,h⟩) ?_;refine⟨_,rfl,_,rfl,rfl,_,rfl,?_⟩;rw[Lg];refine A0 (λh2=>?_) (λh2=>?_)
   ·rw[Xk2 h1 (by simpa using h2)] at kk;exact kk
   ·refine⟨_,rfl,_,rfl,?_⟩;refine A0 (λh3=>?_) (λh3=>?_)
    ·rw[Xk3 h1 (by simpa using h2) h3] at kk;exact kk
    ·rw[Xk4 l4 h1 (by simpa using h2) h3] at kk;dsimp only[K8,Xaf,tIf,Lh];refine Ng (x:=a) (y:=c) (z:=b) (λQ' h=>⟨_,rfl,p,_,_,_,rfl,rfl,SqT.of hp,rfl,h⟩) (λQ' h=>⟨_,rfl,q,_,_,_,rfl,rfl,SqT.of hq,rfl,h⟩) (λQ' h=>⟨_,rfl,p,_,_,_,rfl,rfl,SqT.of hp,rfl,h⟩) ⟨_,rfl,?_⟩;refine A0 (λh4=>?_) (λh4=>?_)
     ·rw[Tg h4] at kk;exact kk
     ·rw[Tf (by rw[h4];exact O3)] at kk;exact kk
def Xft:FnScope NCr ["row"] (defScope sCross):=by walk_at "s"
def Xov{f}{fd}(F:Fun K "crossings" "crossings" sCross f fd)(FS:Fn P w K mg base CX0 3 "spans" ["row"] spSpans)(FO:Fn P w K mg base CX0 2 "lie_of" ["here", "there"] spLieOf):
  FnOk P w K mg base CX0 4 f fd ["row"] Xdk:=by
 refine F.ok Xft (by walk_at "l") ?_
 ·walk_at "i"
  obtain⟨r,row,rfl,hR,R2,k⟩:=h;have hu:=C4 hr;have hr2:Room 2 _:=hr.mono (by decide);refine⟨_,Ae (Ao (i:=1) Xft.nd rfl (.inr rfl) (Ah FS hr (by rfl) Aj (Aa (pv 0) Ac)))
   (Ag (An (Xcx (N:=NCc) (cap:=[none,none,some 1]) (CompScope.of (defScope sCross) NCr rfl rfl rfl (by decide +kernel)) rfl
    (Fl (pv 1)) (λ_ _ _=>Aw (i:=0) (show NCc.Nodup by decide +kernel) rfl (.inl rfl) (.inr rfl)) (λ_ _ _=>Ce)
    (λ_ _ _=>Fl (pv 2)) (λ_ _ _=>Aw (i:=1) (show NCc.Nodup by decide +kernel) rfl (.inl rfl) (.inr rfl))
    (λ_ _ _=>D0 (Ee (Av Xar (pv 0) (pv 1) (Ar _)) (Ed (Av Bg (Ah (by exact FO) (by exact hr2) (by rfl) Aj (Aa (Cf hu (pv 2) (pv 0) (λ_ _=>rfl)) (Aa (Cf hu (pv 2) (pv 1) (λ_ _=>rfl)) Ac))) Az (Ar _)))).pt)
    (λ_ _ _=>Bk (Aa (pv 0) (Aa (pv 1) Ac)))))),?_⟩
  have hl:=R2.len;have hdl:=D3 row;refine⟨_,rfl,r,row,rfl,hR,R2,λd kvs H1 nd hd sp s1=>?_⟩;refine⟨_,rfl,d,kvs,rfl,.inl ⟨hd,λo D nD=>?_⟩⟩;generalize hH2:upd H1 d (.frz o (.dK kvs))=H2 at nD;have s2:Same H H2:=λb u e=>by rw[<-hH2,Ad (Au e nd)];exact s1 b u e
  have hd2:H2 d=some (.frz o (.dK kvs)):=by rw[<-hH2];exact Ab
  have sp2:Spn H2 kvs row (dit row):=⟨sp.keys,λx hx=>let ⟨l,h1,h2⟩:=sp.val x hx; ⟨l,h1,by rw[<-hH2,Ad (λz=>by rw[z,hd] at h2;cases h2)];exact h2⟩⟩;have kl:=sp2.len;have go:∀i H3,i<(dit row).length->Same H2 H3->(Itd d o kvs).go i H3/\∀x H4,(Itd d o kvs).yld i H3 x H4->H4=H3/\x = .str ((dit row).getD i Str.empty):=λi H3 hi s3=>by
   have:=F7 (kvs:=kvs) (s3 _ _ hd2) (by omega:i<kvs.length);rw[sp2.at i hi] at this;exact this
  have stp:∀H3,Same H2 H3->(Itd d o kvs).stop (dit row).length H3:=λH3 s3=>by
   have:=F8 (kvs:=kvs) (s3 _ _ hd2)
   rwa [kl] at this
  let ns:=dit row
  let ok:Nat->Nat->Bool:=λi j=>decide (ltS (ns.getD i Str.empty) (ns.getD j Str.empty))&&decide (lieR row (ns.getD i Str.empty) (ns.getD j Str.empty) = "cross")
  let part:Nat->List PyData:=λi=>((List.range ns.length).filter (ok i)).map λj=>prD (ns.getD i Str.empty,ns.getD j Str.empty)
  have hpl:∀i,(part i).length<=60:=λi=>by
   show (List.map _ _).length<=60;rw[Oh];refine Pd (Pn ..) ?_;rw[Px];show (dit row).length<=60;omega
  have hacc:∀i,((List.range i).flatMap part).length<=60 * i:=λi=>by
   induction i with
   | zero=>simp
   | succ i ih=>
    rw[Pz,Rj,Oo];have:=hpl i;simp only[Ri,Ry,Ps];omega
  refine Xj9 (H0:=H2) (xs0:=[]) (n:=ns.length) (λi=>.str (ns.getD i Str.empty)) (λi=>(List.range i).flatMap part) nD ((Same.refl H2).step nD) Ab D4 (fun Z1=>∃v0 v1, Z1=[v0,v1,some (.ref d)]) ⟨none,none,rfl⟩ go stp ?_ ?_
  ·rintro i Z1 xs H3 Q' hi ⟨v0,v1,rfl⟩ s3 hD hal kk;have hxi:=Cl hi;refine⟨_,rfl,d,kvs,rfl,.inr ⟨o,s3 _ _ hd2,?_⟩⟩;refine M5 (H0:=H2) (n:=ns.length) (λj=>.str (ns.getD j Str.empty)) (ok i) (λj=>prD (ns.getD i Str.empty,ns.getD j Str.empty)) ((List.range i).flatMap part) nD s3 hD hal ?_ go stp ?_ ?_ ?_
   ·have:=hacc i;have h2:i<60:=by have:i<(dit row).length:=hi;omega
    have h3:ns.length<=60:=by show (dit row).length<=60;omega
    rw[Te];omega
   ·intro j H4 Q2 hj s4 k2;have hxj:=Cl hj;refine⟨_,rfl,_,rfl,_,_,rfl,rfl,_,rfl,?_⟩;refine A0 (λq1=>?_) (λq1=>?_)
    ·obtain⟨l1,g1,t1⟩:=(sp2.mono s4).get (.inr ⟨o,s4 _ _ hd2⟩) hxi;obtain⟨l2,g2,t2⟩:=(sp2.mono s4).get (.inr ⟨o,s4 _ _ hd2⟩) hxj;refine⟨_,rfl,_,rfl,d,_,rfl,g1,_,rfl,_,rfl,d,_,rfl,g2,l1,l2,_,_,_,_,rfl,t1,t2,lie4 (R2.two _ (Ap.mp hxi)) (R2.two _ (Ap.mp hxj)),λH5 s5=>?_⟩;refine⟨rfl,_,rfl,?_⟩;rw[D7];have:=k2 H5 s5;have e1:ok i j=decide (lieR row (ns.getD i Str.empty) (ns.getD j Str.empty) = "cross"):=by
      show (decide _&&decide _)=_;have q1':decide (ltS (ns.getD i Str.empty) (ns.getD j Str.empty))=true:=q1;rw[q1',Qg]
     rw[e1] at this;exact this
    ·have:=k2 H4 (Same.refl _);have e1:ok i j=false:=by
      show (decide _&&decide _)=_;have q1':decide (ltS (ns.getD i Str.empty) (ns.getD j Str.empty))=false:=q1;rw[q1',P7]
     rw[e1] at this;exact this
   ·intro j xs' H4 Q2 hj hk s4 hD4 k2;refine⟨_,rfl,_,rfl,by show 2<=sizeLine;decide,λp np=>?_⟩;exact k2 _ _ ((Same.refl H4).step np) (Xc1 hD4 np (Mx [ns.getD i Str.empty,ns.getD j Str.empty]))
   ·intro Z' H4 xs' e s4 hD4 hal4;refine kk Z' H4 xs' ?_ s4 hD4 ?_
    ·have l1 : Z'.length=3:=by
      have:=congrArg List.length (e none);simpa using this
     match Z',l1,e with
     | [w0,w1,w2],_,e=>
      have:=e none;simp at this;exact⟨w0,w1,by rw[this.2]⟩
    ·rw[Pz,Rj,Ri,Ry,Ps];exact hal4
  ·intro Z' H3 xs s3 hD hal;refine k D xs H3 (s2.free nD) hD ?_ (s2.trans s3);have e:(List.range ns.length).flatMap part=(crs row).map prD:=by
    have e1:crs row=(List.range ns.length).flatMap λi=>((List.range ns.length).filter (ok i)).map λj=>(ns.getD i Str.empty,ns.getD j Str.empty):=by
     have em:dit row=(List.range ns.length).map λi=>ns.getD i Str.empty:=by
      have:=Ct Str.empty (λ_=>true) (dit row);rw[Pi.mpr (λ_ _=>rfl),Pi.mpr (λ_ _=>rfl)] at this;exact this.symm
     show (dit row).flatMap _=_
     conv=>lhs;rw[em]
     rw[List.flatMap_map];congr 1;funext i;have:=Ct Str.empty (λy=>decide (ltS (ns.getD i Str.empty) y)&&decide (lieR row (ns.getD i Str.empty) y = "cross")) (dit row);rw[<-em,<-this,Pj];rfl
    rw[e1,List.map_flatMap];congr 1;funext i;rw[Pj];rfl
   rw[<-e];exact hal
def Xow:FnScope ["names"] ["names"] (defScope sTold):=by walk_at "s"
def Xox{f}{fd}(F:Fun K "told" "told" sTold f fd)(T:Bl mg):FnOk P w K mg base CX0 1 f fd ["names"] (spTold K):=by
 refine F.ok Xow (by walk_at "l") ?_
 ·walk_at "i"
  obtain⟨p,ss,rfl,hR,hl,k⟩:=h;refine⟨_,Ag (An (B7 Jn (by rfl) T.tuple (by rfl) (Aa (A2 (Jt rfl) (by rfl) T.sorted (by rfl) (Aa (B7 (Mm rfl) (by rfl) T.set (by rfl) (Aa (pv 0) Ac)) Ac)) Ac))),?_⟩;refine⟨_,rfl,p,ss,rfl,hR,by unfold scanBound;omega,λa na=>?_⟩;have hdl:=F9 ss;refine⟨a,ddup ss,rfl,Ab,by omega,λl ls nl hp hs=>?_⟩;have s1:Same H (upd H a (Ch P w a (ddup ss))):=(Same.refl H).step na;refine⟨l,_,rfl,.inl ⟨SqL.of Ab,λt nt=>?_⟩⟩;have s2:=s1.step (o:=.lst (ls.map V.str)) nl;refine k t _ (s2.free nt) ?_ (s2.step nt);rw[Ab,Gb hp hs];rfl
def Xoy:FnScope ["some"] ["some"] (defScope s_in_order):=by walk_at "s"
def Xoz{f T}{fd}(F:FunT K "in_order" s_in_order f fd T)(B:Bl mg)(hbm:BmOk mg base):FnOk P w K mg base CX0 4 f fd ["some"] (spInOrder T (lamPos s_in_order)):=by
 refine F.ok Xoy (λvs H Q E h=>?_) (λc0 hhd A outer s H vs Q E hr h=>?_)
 ·obtain⟨l,ps,Ts,rfl,_⟩:=h;rfl
 ·obtain⟨l,ps,Ts,rfl,hl,hT,nd,h64,tab,k⟩:=h;refine⟨_,Ag (An (Xm7 (show (A.deeper (envOfC "in_order" (defScope s_in_order) s.heap.objs.size f (.ref c0))).units+1+1<cLine by have:=hr.un;omega) (by rfl) B.sorted (by rfl) (Aa (pv 0) Ac) (Xg4 (Xks (T:=T) (c0:=c0) (q:=qIn) hbm rfl rfl rfl hhd rfl) Xg3))),?_⟩;refine⟨_,rfl,⟨tab,λf' c pm ctv H' nf hf hc tab' kp=>?_⟩⟩;have nlT:∀b o,H b=some o->(∀z,o ≠ .tbl z)->b≠T:=λb o e n z=>by
   rcases tab with q | ⟨_,q,_⟩<;>(rw[z,q] at e;cases e;exact n _ rfl)
  have hT':Tups H' ps Ts:=⟨hT.1,λi hi=>kp _ _ (hT.2 i hi) (nlT _ _ (hT.2 i hi) λz=>by simp)⟩;refine⟨l,f',ps,Ts,rfl,rfl,kp _ _ hl (nlT _ _ hl λz=>by simp),hT',nd,h64,?_,λD p H2 nD g so sm hD=>?_⟩
  ·refine Xm8 (k:=0) (x := "plot") hf hc ⟨rfl,rfl,rfl,by decide +kernel,rfl,by decide +kernel,by decide +kernel⟩ hr (λu=>rfl) λA1 outer1 s1 H1 i hi sm hr1=>?_;refine⟨_,Bk (Aa (A2 B9 (by rfl) B.len boot_len (Aa (pv 0) Ac)) (Aa (pv 0) Ac)),λQ1 kk=>?_⟩;have hp:=sm _ _ (hT'.2 i hi);refine⟨_,rfl,ps.getD i 0,_,rfl,.inr (SqT.of hp),_,rfl,by show 2<=sizeLine;decide,λt nt=>?_⟩;refine kk t _ ?_ (Same.upd0 nt);rw[Ab,Oh]
  ·obtain⟨pm',so'⟩:=Xng (Ts:=Ts) (by rw[<-hT.1];exact g) (by rw[<-hT.1];exact so);refine k D _ _ H2 ?_ hD ((Xnh hT' g).same sm) pm' so' (SH.Aq.same tab' sm) λb o e n=>sm _ _ (kp b o e n);cases e:H D with
   | none=>rfl
   | some o=>
    by_cases z:D=T
    ·rcases tab' with q | ⟨_,q,_⟩<;>(rw[<-z,nD] at q;cases q)
    ·rw[kp D o e z] at nD;cases nD
def Xo0:FnScope ["how", "off"] ["how", "off"] (defScope sAllows):=by walk_at "s"
def Xo1{f}{fd}(F:Fun K "allows" "allows" sAllows f fd):FnOk P w K mg base CX0 1 f fd ["how", "off"] spAllows:=by
 refine F.ok Xo0 (by walk_at "l") ?_
 ·walk_at "i"
  obtain⟨how,off,rfl,k⟩:=h;refine⟨_,Ae (A5 (Av Bg (pv 0) Az (Ar _)) (Ag (An (pv 1))) A8)
   (Ag (An (Xgi (B6 F0 (pv 0) Az (Ar _)) (G1 (Xgj (pv 1)))))),?_⟩
  refine⟨_,rfl,rfl,_,rfl,?_⟩;rw[D7];unfold Cd at k;refine A0 (λq=>?_) (λq=>?_)
  ·rw[Tg (Tj q)] at k;exact⟨_,rfl,k⟩
  ·rw[Tf (Tk q)] at k;refine⟨_,rfl,rfl,_,rfl,?_⟩;rw[D7];refine A0 (λq2=>?_) (λq2=>?_)
   ·rw[q2,Bool.true_or] at k;exact k
   ·rw[q2,Bool.false_or] at k;exact⟨_,rfl,off,rfl,k⟩
def Xfu:FnScope NIp ["row", "plot"] (defScope sIsPlot):=by walk_at "s"
def Xo2{f}{fd}(F:Fun K "is_plot" "is_plot" sIsPlot f fd)(T:Bl mg)(FS:Fn P w K mg base CX0 3 "spans" ["row"] spSpans)(FO:Fn P w K mg base CX0 2 "lie_of" ["here", "there"] spLieOf)
  (FT:Fn P w K mg base CX0 1 "told" ["names"] (spTold K)) (FA:Fn P w K mg base CX0 1 "allows" ["how", "off"] spAllows):FnOk P w K mg base CX0 4 f fd ["row", "plot"] Xdp:=by
 refine F.ok Xfu (by walk_at "l") ?_
 ·walk_at "i"
  obtain⟨r,p,row,ss,rfl,hR,R2,hP,hok,hsl,k⟩:=h;have hu:=C4 hr;have hr1:Room 1 _:=hr.mono (by decide);have hr2:Room 2 _:=hr.mono (by decide);refine⟨_,Ae (Ao (i:=2) Xfu.nd rfl (.inr rfl) (Ah FS hr (by rfl) Aj (Aa (pv 0) Ac)))
   (Ae (A5 (Et (Av (J4 (hu3 hr)) (pv 1) (Ah FT hr1 (by rfl) Aj (Aa (pv 1) Ac)) (Ar _))
     (Es (Dd (A2 (Xkb rfl) (by rfl) T.any (by rfl) (Aa (Dh (N:=NI1) (cap:=[none,some 2]) (CompScope.of (defScope sIsPlot) NIp rfl rfl rfl (by decide +kernel)) rfl
      (Jh (pv 1)) (λ_ _ _=>Aw (i:=0) (show NI1.Nodup by decide +kernel) rfl (.inl rfl) (.inr rfl)) (λ_ _ _=>Ce) (λ_ _ _=>Xgf (Xhu (by exact hu) (pv 0) (pv 1)) (by rfl))) Ac))))).pt
    (Ag (An Dm)) A8)
   (Ag (An (A2 (F6 rfl) (by rfl) T.all (by rfl) (Aa (Xcx (N:=NI2) (cap:=[none,none,some 1,some 2]) (CompScope.of (defScope sIsPlot) NIp rfl rfl rfl (by decide +kernel)) rfl
    (Jh (pv 1)) (λ_ _ _=>Aw (i:=0) (show NI2.Nodup by decide +kernel) rfl (.inl rfl) (.inr rfl)) (λ_ _ _=>Ce)
    (λ_ _ _=>Fl (pv 3)) (λ_ _ _=>Aw (i:=1) (show NI2.Nodup by decide +kernel) rfl (.inl rfl) (.inr rfl)) (λ_ _ _=>Ce)
    (λ_ _ _=>Ah (by exact FA) (by exact hr1) (by rfl) Aj (Aa (Ah (by exact FO) (by exact hr2) (by rfl) Aj (Aa (Cf (by exact hu) (pv 3) (pv 0) (λ_ _=>rfl)) (Aa (Cf (by exact hu) (pv 3) (pv 1) (λ_ _=>rfl)) Ac)))
     (Aa (B6 (Hu K (by rfl)) (pv 1) (pv 2) (by rfl)) Ac)))) Ac))))),?_⟩
  have hl:=R2.len;have hdl:=D3 row;refine⟨_,rfl,r,row,rfl,hR,R2,λd kvs H1 nd hd sp s1=>?_⟩;have hP1:=s1 _ _ hP;refine⟨_,rfl,_,rfl,p,ss,rfl,.inr (SqT.of hP1),hsl,λt H2 nt ht s2=>?_⟩;have s12:=s1.trans s2;have hP2:=s2 _ _ hP1;refine⟨_,_,En hP2,En ht,Cb _ (Em hok),Cb _ (Em (Xdq hok)),Xdo _ _,_,rfl,?_⟩;rw[Ij hok (Xdq hok)];by_cases e1:ss=told ss
  ·rw[Th e1];refine Bp ?_;refine⟨_,rfl,p,rfl,⟨_,SqT.of hP2⟩,?_⟩;have hd2:=s2 _ _ hd;have sp2:=sp.mono s2;refine Ju (n:=ss.length) (by rw[Te];omega) (λi=>(ss.map V.str).getD i .non) (λi=>.bl (!decide (ss.getD i Str.empty∈row))) ?_ ?_ ?_ ?_
   ·intro i H3 hi s3;exact Jq (SqT.of (s3 _ _ hP2)) (by rw[Oh];exact hi)
   ·intro H3 s3;have:=Jr (K:=K) (SqT.of (s3 _ _ hP2))
    rwa [Oh] at this
   ·intro i H3 Q' hi s3 kk;rw[Bu V.str Str.empty ss hi];refine⟨_,rfl,_,rfl,d,_,rfl,.inl ⟨kvs,Sum.inr _,.inl (s3 _ _ hd2),rfl,rfl⟩,?_⟩;rw[sp2.has];exact kk H3 (Same.refl _)
   ·intro D H3 nD s3 hD;have hD':H3 D=some (.lst (((List.range ss.length).map λi => !decide (ss.getD i Str.empty∈row)).map V.bl)):=by rw[hD,Pj];rfl
    refine⟨D,_,rfl,hD',_,rfl,?_⟩;rw[Xk8 Str.empty (λx => !decide (x∈row)) ss];have s13:=s12.trans s3;have e2:(ss.any λx => !decide (x∈row)) = !(ss.all λx=>decide (x∈row)):=by rw[List.not_all_eq_any_not]
    rw[e2];cases e3:ss.all (λx=>decide (x∈row)) with
    | false=>
     refine Bq ?_;have:=k H3 s13;unfold Am at this;rw[e3,Sx,P7] at this;exact this
    | true=>
     refine Bp ?_;have hin:∀x∈ss,x∈row:=λx hx=>Tj (O9.mp e3 x hx);have hP3:=s3 _ _ hP2;have hd3:=s3 _ _ hd2;have sp3:=sp2.mono s3;refine⟨_,rfl,p,rfl,⟨_,SqT.of hP3⟩,λD2 nD2=>?_⟩;have kl:=sp3.len;have npd:p≠d:=λz=>by rw[z,hd3] at hP3;cases hP3
     have nrd:D2≠d:=(Au hd3 nD2).symm;have hH0D:hid d H3 D2=none:=by
      unfold hid;rw[Tf nrd];exact nD2
     have hpin:hid d H3 p=some (.tup (ss.map V.str)):=Cr hP3 npd
     let part:Nat->List Bool:=λi=>(dit row).map λy=>Cd (lieR row (ss.getD i Str.empty) y) (decide (y∈ss))
     refine Xka (H0:=hid d H3) (xs0:=[]) (n:=ss.length) (λi=>.str (ss.getD i Str.empty)) (λi=>((List.range i).flatMap part).map PyData.bool) (λH4=>Rd H4 d (.dK kvs)) hH0D ((E1 d H3).trans ((Same.refl H3).step nD2)) (.inl (ku hd3 nD2)) Ab D4
      (fun Z1=>∃v0 v1, Z1=[v0,v1,some (.ref p),some (.ref d)]) ⟨none,none,rfl⟩ ?_ ?_ ?_ ?_
     ·intro i H4 hi s4;have:=Jq (K:=K) (SqT.of (s4 _ _ hpin)) (show i<(ss.map V.str).length by rw[Oh];exact hi)
      rwa [Bu V.str Str.empty ss hi] at this
     ·intro H4 s4;have:=Jr (K:=K) (SqT.of (s4 _ _ hpin))
      rwa [Oh] at this
     ·rintro i Z1 xs H4 Q' hi ⟨v0,v1,rfl⟩ s4 g4 hD4 hal kk;have hxr:ss.getD i Str.empty∈row:=hin _ (Cl hi);have main:∀(te':TE) (o:Obj) (H5:Hp),(∀(j:Nat) (H6:Hp) (Q2:VK) (l1 l2:Addr),j<(dit row).length->DGet H6 d (.str (ss.getD i Str.empty)) (some (.ref l1))->H6 l1=some (.tup [.int (pl row (ss.getD i Str.empty)).1,.int (pl row (ss.getD i Str.empty)).2]) ->
        DGet H6 d (.str ((dit row).getD j Str.empty)) (some (.ref l2))->H6 l2=some (.tup [.int (pl row ((dit row).getD j Str.empty)).1,.int (pl row ((dit row).getD j Str.empty)).2])->H6 p=some (.tup (ss.map V.str))->(∀H',Same H6 H'->Q2 (.bl (Cd (lieR row (ss.getD i Str.empty) ((dit row).getD j Str.empty)) (decide ((dit row).getD j Str.empty∈ss)))) H') ->
        te' [some (.str (ss.getD i Str.empty)),some (.str ((dit row).getD j Str.empty)),some (.ref p),some (.ref d)] H6 Q2)->H5 d=some (.frz o (.dK kvs))->Same (hid d H3) H5->H5 D2=some (.lst xs)->DAll (hid D2 H5) (((List.range i).flatMap part).map PyData.bool) xs ->
        tLp (A6 1) C5 (Hw te' D2) (Itd d o kvs) ([some (.str (ss.getD i Str.empty)),v1,some (.ref p),some (.ref d)]:L2.St) H5 Q':=λte' o H5 hte hd5 s5 hD5 hal5=>by
       have hpl:∀j,(part j).length<=60:=λj=>by
        show (List.map _ _).length<=60;rw[Oh];omega
       have hacc:∀j,(((List.range j).flatMap part).map PyData.bool).length<=60 * j:=λj=>by
        rw[Oh]
        induction j with
        | zero=>simp
        | succ j ih=>
         rw[Pz,Rj,Oo,Ri,Ry,Ps];have:=hpl j;omega
       have hdin:hid D2 H5 d=some (.frz o (.dK kvs)):=Cr hd5 nrd.symm;have hsp:Spn (hid D2 H5) kvs row (dit row):=⟨sp3.keys,λx hx=>let ⟨l,h1,h2⟩:=sp3.val x hx; ⟨l,h1,Cr (s5 _ _ (Cr h2 (λz=>by rw[z,hd3] at h2;cases h2))) (λz=>by rw[z,nD2] at h2;cases h2)⟩⟩;have hpin5:hid D2 H5 p=some (.tup (ss.map V.str)):=Cr (s5 _ _ hpin) (λz=>by rw[z,nD2] at hP3;cases hP3);refine M5 (H0:=hid D2 H5) (n:=(dit row).length) (λj=>.str ((dit row).getD j Str.empty)) (λ_=>true) (λj=>.bool (Cd (lieR row (ss.getD i Str.empty) ((dit row).getD j Str.empty)) (decide ((dit row).getD j Str.empty∈ss)))) (((List.range i).flatMap part).map PyData.bool)
        (Tg rfl) (E1 D2 H5) hD5 hal5 (by have:=hacc i;have h2:i<60:=(by omega);rw[Te];omega) ?_ ?_ ?_ ?_ ?_
       ·intro j H6 hj s6;have:=F7 (kvs:=kvs) (s6 _ _ hdin) (by omega:j<kvs.length)
        rwa [hsp.at j hj] at this
       ·intro H6 s6;have:=F8 (kvs:=kvs) (s6 _ _ hdin)
        rwa [kl] at this
       ·intro j H6 Q2 hj s6 k2;exact k2 H6 (Same.refl _)
       ·intro j xs' H6 Q2 hj _ s6 hD6 k2;have hyd:=Cl hj;obtain⟨l1,g1,t1⟩:=(hsp.mono s6).get (.inr ⟨o,s6 _ _ hdin⟩) (Ap.mpr hxr);obtain⟨l2,g2,t2⟩:=(hsp.mono s6).get (.inr ⟨o,s6 _ _ hdin⟩) hyd;exact hte j H6 Q2 l1 l2 hj g1 t1 g2 t2 (s6 _ _ hpin5) λH' s'=>k2 _ _ s' (by unfold DAt;rfl)
       ·intro Z' H6 xs' e6 s6 hD6 hal6;refine kk Z' H6 xs' ?_ (λb u e=>?_) (.inr ⟨o,s6 _ _ hdin⟩) hD6 ?_
        ·have l1 : Z'.length=4:=by
          have:=congrArg List.length (e6 none);simpa using this
         match Z',l1,e6 with
         | [w0,w1,w2,w3],_,e6=>
          have:=e6 none;simp at this;exact⟨w0,w1,by rw[this.2.1,this.2.2]⟩
        ·refine s6 _ _ (Cr (s5 _ _ e) (λz=>?_));rw[z,hH0D] at e;cases e
        ·rw[Pi.mpr (λ_ _=>rfl)] at hal6;have em:(List.range (dit row).length).map (λj=>PyData.bool (Cd (lieR row (ss.getD i Str.empty) ((dit row).getD j Str.empty)) (decide ((dit row).getD j Str.empty∈ss))))=(part i).map PyData.bool:=by
          show _=((dit row).map _).map _;have this:=Ct Str.empty (λ_=>true) (dit row);rw[Pi.mpr (λ_ _=>rfl),Pi.mpr (λ_ _=>rfl)] at this
          conv=>rhs;rw[<-this]
          rw[Pj,Pj];rfl
         rw[em] at hal6;rw[Pz,Rj,Oq,Ri,Ry,Ps];exact hal6
      rcases g4 with g4 | ⟨o,g4⟩
      ·refine⟨_,rfl,d,kvs,rfl,.inl ⟨g4,λo=>?_⟩⟩;refine main _ o _ (λj H6 Q2 l1 l2 hj g1 t1 g2 t2 hp6 k2=>⟨_,rfl,_,rfl,d,_,rfl,g1,_,rfl,_,rfl,d,_,rfl,g2,l1,l2,_,_,_,_,rfl,t1,t2,lie4 (R2.two _ hxr) (R2.two _ (Ap.mp (Cl hj))),λH7 s7=>⟨_,rfl,_,rfl,p,_,rfl,.inr (SqT.of (s7 _ _ hp6)),rfl,C8 ss,_,_,rfl,by rw[Tf (by decide),Dg];exact k2 H7 s7⟩⟩) Ab (λb u e=>?_) (by rw[Ad nrd];exact hD4) ?_
       ·rw[Ad (λz=>by rw[z] at e;unfold hid at e;rw[Tg rfl] at e;cases e)];exact s4 _ _ e
       ·rw[Nj hal];have gb:∀bs:List Bool,DAll (hid D2 (upd H4 d (.frz o (.dK kvs)))) (bs.map PyData.bool) (bs.map V.bl):=λbs=>by
         induction bs with
         | nil=>exact D4
         | cons b bs ih=>exact Hy (by unfold DAt;rfl) ih
        exact gb _
      ·exact⟨_,rfl,d,kvs,rfl,.inr ⟨o,g4,main _ o H4 (λj H6 Q2 l1 l2 hj g1 t1 g2 t2 hp6 k2=>⟨_,rfl,_,rfl,d,_,rfl,g1,_,rfl,_,rfl,d,_,rfl,g2,l1,l2,_,_,_,_,rfl,t1,t2,lie4 (R2.two _ hxr) (R2.two _ (Ap.mp (Cl hj))),λH7 s7=>⟨_,rfl,_,rfl,p,_,rfl,.inr (SqT.of (s7 _ _ hp6)),rfl,C8 ss,_,_,rfl,by rw[Tf (by decide),Dg];exact k2 H7 s7⟩⟩) g4 s4 hD4 hal⟩⟩
     ·intro Z' H4 xs s4 g4 hD4 hal;have hx:=Nj hal;subst hx;refine⟨D2,_,rfl,hD4,?_⟩;have ef:((List.range ss.length).flatMap part).all id=ss.all λx=>(dit row).all λy=>Cd (lieR row x y) (decide (y∈ss)):=by
       have e5:(List.range ss.length).flatMap part=ss.flatMap λx=>(dit row).map λy=>Cd (lieR row x y) (decide (y∈ss)):=Xk9 Str.empty (λx=>(dit row).map λy=>Cd (lieR row x y) (decide (y∈ss))) ss;rw[e5,Xdr];congr 1;funext x;rw[List.all_map];rfl
      rw[ef];have s04:Same H H4:=λb u e=>s4 _ _ (Cr (s13 _ _ e) (λz=>by rw[z,nd] at e;cases e));have:=k H4 s04;unfold Am at this;rw[Th e1,e3,Qg,Qg] at this;exact this
  ·rw[Ti e1];refine Bq ?_;have:=k H2 s12;unfold Am at this;rw[Ti e1,P7,P7] at this;exact this
def Xo3:FnScope ["row", "plot"] ["row", "plot"] (defScope s_ask_plot):=by walk_at "s"
def Xo4{f C}{fd}(F:Fun K "ask_plot" "ask_plot" s_ask_plot f fd)(hC:mg "NoPlot" = some (.ref C))(hc:excIn K C bmV "ValueError.__new__" = true)(FX:Fn P w K mg base CX0 4 "is_plot" ["row", "plot"] Xdp):
  FnOk P w K mg base (CX1 P w) 5 f fd ["row", "plot"] (Xdt C):=by
 refine F.ok1 Xo3 (by walk_at "l") ?_
 ·walk_at "i"
  obtain⟨r,p,row,ss,rfl,hR,R2,hP,hok,hsl,kq,ke⟩:=h;refine⟨_,Ag (A5 (Fy (Dd (Ah FX hr (by rfl) Aj (Aa (pv 0) (Aa (pv 1) Ac)))))
   (Ag (Ma (C:=C) (E:=E) hc rfl leaves1 (by rfl) hC (Aa (Mg (Hk (by decide +kernel) (Xkl hr (pv 1) (Hk (by decide +kernel) Mf)))) Ac))) A8),?_⟩
  refine⟨_,rfl,_,rfl,r,p,row,ss,rfl,hR,R2,hP,hok,by omega,λH1 s1=>⟨_,rfl,?_⟩⟩;cases e:Am row ss with
  | true=>exact Bp (kq e H1 s1)
  | false=>
   refine Bq ⟨_,rfl,p,ss,rfl,s1 _ _ hP,hsl,Xlj hok,λz=>?_⟩;exact⟨by show 1<=sizeLine;decide,ke e H1 s1⟩
def Jb:FnScope NPp ["row"] (defScope s_plots):=by walk_at "s"
def Xo5{f T}{fd}(F:Fun K "plots" "plots" s_plots f fd)(FS:Fn P w K mg base CX0 3 "spans" ["row"] spSpans)(FO:Fn P w K mg base CX0 2 "lie_of" ["here", "there"] spLieOf)(FT:Fn P w K mg base CX0 1 "told" ["names"] (spTold K))(FC:Fn P w K mg base CX0 4 "crossings" ["row"] Xdk)
  (FI:Fn P w K mg base CX0 4 "in_order" ["some"] (spInOrder T (lamPos s_in_order))):FnOk P w K mg base CX0 5 f fd ["row"] (Xe7 T (lamPos s_in_order)):=by
 refine F.ok Jb (by walk_at "l") ?_
 ·walk_at "i"
  obtain⟨r,row,rfl,hR,R2,h3,h14,tab,k⟩:=h;have hu:=C4 hr;have hr1:Room 1 _:=hr.mono (by decide);have hr2:Room 2 _:=hr.mono (by decide);have hr3:Room 3 _:=hr.mono (by decide);refine⟨_,Ae (Ao (i:=1) Jb.nd rfl (.inr rfl) (Ah FS hr3 (by rfl) Aj (Aa (pv 0) Ac)))
   (Ae (Ao (i:=2) Jb.nd rfl (.inr rfl) (Mv (N:=NPo) (cap:=[none,some 1]) (CompScope.of (defScope s_plots) NPp rfl rfl rfl (by decide +kernel)) rfl
    (Fl (pv 1)) (λ_ _ _=>Aw (i:=0) (show NPo.Nodup by decide +kernel) rfl (.inr rfl) (.inl rfl)) (λ_ _ _=>Ce) (λ_ _ _=>pv 0)
    (λs0 H0 ex=>Dh (N:=NPi) (cap:=[none,some 0,some 1]) (CompScope.of _ NPo rfl rfl rfl (by kernel_rfl)) rfl
     (Fl (pv 1)) (λ_ _ _=>Aw (i:=0) (show NPi.Nodup by decide +kernel) rfl (.inl rfl) (.inr rfl))
     (λ_ _ _=>D0 (Av (Hu K (by rfl)) (Ah (by exact FO) (by exact hr2) (by rfl) Aj (Aa (Cf hu (pv 2) (pv 1) (λ_ _=>rfl)) (Aa (Cf hu (pv 2) (pv 0) (λ_ _=>rfl)) Ac))) (Bk (Aa Az (Aa Az Ac))) (by rfl)))
     (λ_ _ _=>pv 0))))
   (Ae (Xe6 (i:=3) (N:=NPs) (cap:=[none,some 2]) (CompScope.of (defScope s_plots) NPp rfl rfl rfl (by decide +kernel)) rfl Jb.nd rfl rfl
    (Fl (pv 2)) (λ_ _ _=>Aw (i:=0) (show NPs.Nodup by decide +kernel) rfl (.inl rfl) (.inr rfl)) (λ_ _ _=>Ce)
    (λ_ _ _=>Ah (by exact FT) (by exact hr1) (by rfl) Aj (Aa (Cf hu (pv 1) (pv 0) (λ_ _=>rfl)) Ac)))
   (Ae (Xe6 (i:=4) (N:=NPd) (cap:=[none,none,some 2]) (CompScope.of (defScope s_plots) NPp rfl rfl rfl (by decide +kernel)) rfl Jb.nd rfl rfl
    (Bt (Ah FC hr (by rfl) Aj (Aa (pv 0) Ac))) (λ_ _ _=>Jw K 2 rfl rfl (Cn (Aw (i:=0) (show NPd.Nodup by decide +kernel) rfl (.inl rfl) (.inr rfl)) (Cn (Aw (i:=1) (show NPd.Nodup by decide +kernel) rfl (.inl rfl) (.inr rfl)) Fd))) (λ_ _ _=>Ce)
    (λ_ _ _=>Ah (by exact FT) (by exact hr1) (by rfl) Aj (Aa (Ak Bn (Cf hu (pv 2) (pv 0) (λ_ _=>rfl)) (Cf hu (pv 2) (pv 1) (λ_ _=>rfl))) Ac)))
   (Ag (An (Ah FI hr (by rfl) Aj (Aa (Ak Bn (Ak Bn (Bh (Aa (Bk Ac) Ac)) (pv 3)) (pv 4)) Ac))))))),?_⟩
  have hl:=R2.len;have hdl:=D3 row;refine⟨_,rfl,r,row,rfl,hR,R2,λd kvs H1 nd hd sp s1=>?_⟩;refine⟨_,rfl,d,kvs,rfl,.inl ⟨hd,λo D nD=>?_⟩⟩;generalize hH2:upd H1 d (.frz o (.dK kvs))=H2 at nD;have s2:Same H H2:=λb u e=>by rw[<-hH2,Ad (Au e nd)];exact s1 b u e
  have hd2:H2 d=some (.frz o (.dK kvs)):=by rw[<-hH2];exact Ab
  have sp2:Spn H2 kvs row (dit row):=⟨sp.keys,λx hx=>let ⟨l,h1,h2⟩:=sp.val x hx; ⟨l,h1,by rw[<-hH2,Ad (λz=>by rw[z,hd] at h2;cases h2)];exact h2⟩⟩;have kl:=sp2.len;have go:∀i H3,i<(dit row).length->Same H2 H3->(Itd d o kvs).go i H3/\∀x H4,(Itd d o kvs).yld i H3 x H4->H4=H3/\x = .str ((dit row).getD i Str.empty):=λi H3 hi s3=>by
   have:=F7 (kvs:=kvs) (s3 _ _ hd2) (by omega:i<kvs.length);rw[sp2.at i hi] at this;exact this
  have stp:∀H3,Same H2 H3->(Itd d o kvs).stop (dit row).length H3:=λH3 s3=>by
   have:=F8 (kvs:=kvs) (s3 _ _ hd2)
   rwa [kl] at this
  refine⟨wN (dit row).length λi Z2 H3=>(∃v, Z2=[v,some (.ref d)])/\Same H2 H3/\∃kv2,H3 D=some (.dK kv2)/\Offs H3 kv2 row ((dit row).take i),⟨(dit row).length,by simp,Pm _,⟨none,rfl⟩,(Same.refl H2).step nD,[],Ab,⟨rfl,λx hx=>by simp at hx⟩⟩,?_⟩;rintro i m Z1 H3 ⟨rfl,hi,⟨v,rfl⟩,s3,kv2,hD,ofs⟩;by_cases hlt:i<(dit row).length
  ·obtain⟨g1,g2⟩:=go i H3 hlt s3;refine .inr ⟨g1,λx H4 y=>?_⟩;obtain⟨e1,e2⟩:=g2 x H4 y;subst e1 e2;generalize hx:(dit row).getD i Str.empty=x;have hxd:x∈dit row:=by rw[<-hx];exact Cl hlt
   have hxr:=Ap.mp hxd;have htk:(dit row).take (i+1)=(dit row).take i++[x]:=by
    rw[O6 hlt,<-hx];simp[List.getD,hlt]
   have hnx:x∉(dit row).take i:=by
    have nd:=Ge row;have h2:((dit row).take (i+1)).Nodup:=nd.sublist (P3 ..);rw[htk] at h2;exact λz=>(Qi.mp h2).2.2 x z x (by simp) rfl
   refine⟨_,rfl,_,rfl,d,kvs,rfl,.inr ⟨o,s3 _ _ hd2,?_⟩⟩;refine Gf (n:=(dit row).length) (by rw[Te];omega) (λj=>.str ((dit row).getD j Str.empty)) (λj=>upB row x ((dit row).getD j Str.empty)) (λj=>.str ((dit row).getD j Str.empty)) ?_ ?_ ?_ ?_ ?_
   ·exact λj H5 hj s5=>go j H5 hj (s3.trans s5)
   ·exact λH5 s5=>stp H5 (s3.trans s5)
   ·intro j H5 Q' hj s5 kk;have s25:=s3.trans s5;have hxj:=Cl hj;obtain⟨l1,gg1,t1⟩:=(sp2.mono s25).get (.inr ⟨o,s25 _ _ hd2⟩) hxd;obtain⟨l2,gg2,t2⟩:=(sp2.mono s25).get (.inr ⟨o,s25 _ _ hd2⟩) hxj;refine⟨_,rfl,_,rfl,d,_,rfl,gg1,_,rfl,_,rfl,d,_,rfl,gg2,l1,l2,_,_,_,_,rfl,t1,t2,lie4 (R2.two x hxr) (R2.two _ (Ap.mp hxj)),λH6 s6=>?_⟩;refine⟨by show 2<=sizeLine;decide,λt nt=>?_⟩;refine⟨t,[Str.ofString "same",Str.ofString "within"].map V.str,rfl,.inr (SqT.of Ab),rfl,C8 _,_,rfl,?_⟩;rw[Tf (by decide),Dg];have e:=Xnq (row:=row) (x:=x) (y:=(dit row).getD j Str.empty) (R2.two x hxr) (R2.two _ (Ap.mp hxj));unfold lieR at e;rw[e];exact kk _ (s6.step nt)
   ·intro j H5 Q' hj hk s5 kk;exact⟨_,rfl,kk H5 (Same.refl _)⟩
   ·intro l H5 nl s5 hl5;have hl5':H5 l=some (.lst (((dit row).filter (upB row x)).map V.str)):=by
     rw[hl5,<-Ct Str.empty (upB row x) (dit row),Pj];rfl
    have hD5:=s5 _ _ hD;have kl2:kv2.length<=60:=by
     have:=ofs.len;rw[Ov] at this;omega
    refine⟨kv2,Sum.inr x,rfl,hD5,by rw[Te];omega,?_⟩;refine wskip hlt ⟨⟨_,rfl⟩,λb u e=>?_,_,Ab,?_⟩
    ·rw[Ad (Au e nD)];exact s5 _ _ (s3 b u e)
    ·rw[htk];refine ofs.snoc hnx ?_ λb xs e=>?_
     ·rw[Ad (λz=>by rw[z,hD5] at hl5';cases hl5')];exact hl5'
     ·have e4:=s5 _ _ e;rw[Ad (λz=>by rw[z,hD5] at e4;cases e4)];exact e4
  ·have ei:i=(dit row).length:=by omega
   subst ei;refine .inl ⟨stp H3 s3,?_⟩;rw[Pt] at ofs;have s03:=s2.trans s3;refine⟨_,rfl,D,kv2,rfl,.inl ⟨hD,λo2 L nL=>?_⟩⟩;generalize hH4:upd H3 D (.frz o2 (.dK kv2))=H4 at nL;have nD0:H D=none:=s2.free nD;have s4:Same H H4:=λb u e=>by rw[<-hH4,Ad (Au e nD0)];exact s03 b u e
   have hD4:H4 D=some (.frz o2 (.dK kv2)):=by rw[<-hH4];exact Ab
   have of4:Offs H4 kv2 row (dit row):=⟨ofs.keys,λx hx=>let ⟨l,h1,h2⟩:=ofs.val x hx; ⟨l,h1,by rw[<-hH4,Ad (λz=>by rw[z,hD] at h2;cases h2)];exact h2⟩⟩;have kl2:=of4.len;have fl:∀x,((dit row).filter (upB row x)).length<=14:=λx=>Pd (Pn ..) (by omega);refine M5 (H0:=H4) (xs0:=[]) (n:=(dit row).length) (λj=>.str ((dit row).getD j Str.empty)) (λ_=>true) (λj=>tupD ((dit row).filter (upB row ((dit row).getD j Str.empty)))) [] nL ((Same.refl H4).step nL) Ab D4 (by rw[Te,Qn];omega) ?_ ?_ ?_ ?_ ?_
   ·intro j H5 hj s5;have:=F7 (kvs:=kv2) (s5 _ _ hD4) (by omega:j<kv2.length);rw[of4.at j hj] at this;exact this
   ·intro H5 s5;have:=F8 (kvs:=kv2) (s5 _ _ hD4)
    rwa [kl2] at this
   ·exact λj H5 Q' hj s5 kk=>kk H5 (Same.refl _)
   ·intro j xs H5 Q' hj _ s5 hL5 kk;obtain⟨l,gg,hl5⟩:=(of4.mono s5).get (.inr ⟨o2,s5 _ _ hD4⟩) (Cl hj);refine⟨_,rfl,_,rfl,D,_,rfl,gg,l,_,rfl,.inl (SqL.of hl5),by have:=fl ((dit row).getD j Str.empty);omega,λt H6 nt ht s6=>?_⟩;rw[Kc ((Ej row).filter _)] at ht;refine kk _ H6 s6 (En ?_);have hL6:=s6 _ _ hL5;unfold hid;rw[Tf (λz=>by rw[z,hL6] at ht;cases ht)];exact ht
   ·intro Z' H5 xs e s5 hL5 hal;have e1:([]:List PyData)++((List.range (dit row).length).filter λ_=>true).map (λj=>tupD ((dit row).filter (upB row ((dit row).getD j Str.empty))))=((dit row).map λa=>(dit row).filter (upB row a)).map tupD:=by
     have:=Ct Str.empty (λ_=>true) (dit row);rw[Pi.mpr (λ_ _=>rfl),Pi.mpr (λ_ _=>rfl)] at this;have q:=congrArg (List.map λa=>tupD ((dit row).filter (upB row a))) this;rw[Pj] at q;rw[Rf,Pi.mpr (λ_ _=>rfl),Pj];exact q
    rw[e1] at hal;obtain⟨ps1,rfl,ht1⟩:=N5 hal;have ht1:Tups H5 ps1 _:=ht1.same (E1 L H5);have s05:=s4.trans s5;refine⟨_,rfl,r,row,rfl,s05 _ _ hR,R2,λcl xs2 H6 ncl hcl hal6 s6=>?_⟩;refine⟨cl,rfl,⟨_,SqL.of hcl⟩,λM nM=>?_⟩;have hxl:xs2.length=(crs row).length:=by
     have:=Gg hal6;simpa using this
    have of6:=(of4.mono s5).mono s6;have hD6:=s6 _ _ (s5 _ _ hD4);have c49:=Xd1 R2.two h3 (by omega);refine⟨wN (crs row).length λi Z2 H7=>(∃u v, Z2=[u,v,some (.ref D)])/\Same H6 H7/\∃qs:List Addr,H7 M=some (.lst (qs.map V.ref))/\Tups H7 qs (((crs row).take i).map λq=>(dit row).filter λy=>upB row q.1 y||upB row q.2 y),⟨(crs row).length,by simp,Pm _,⟨none,none,rfl⟩,(Same.refl H6).step nM,[],Ab,Tups.nil _⟩,?_⟩;rintro i m Z1 H7 ⟨rfl,hi,⟨u,v,rfl⟩,s7,qs,hM,htq⟩;by_cases hlt:i<(crs row).length
    ·obtain⟨g1,g2⟩:=C6 (K:=K) (SqL.of (s7 _ _ hcl)) (by omega:i<xs2.length);refine .inr ⟨g1,λx H8 y=>?_⟩;obtain⟨e1,e2⟩:=g2 x H8 y;subst e1 e2;obtain⟨v1,hv,hdat⟩:=Mw (i:=i) (d:=prD ((crs row)[i])) hal6 (by rw[Ox,Oi hlt];rfl);have hq:=Pa hlt;generalize hqe:(crs row)[i]=q at hdat hq;obtain⟨hq1,hq2,_,_⟩:=Iz hq;have ev:xs2.getD i .non=v1:=by simp[List.getD,hv]
     rw[ev];unfold prD DAt at hdat;obtain⟨pp,ys,rfl,hpp,hys⟩:=hdat;obtain rfl:=Ih (ss:=[q.1,q.2]) hys;have hpp6:=E1 cl H6 _ _ hpp;have htk:(crs row).take (i+1)=(crs row).take i++[q]:=by
      rw[O6 hlt,hqe]
     obtain⟨l1,gg1,hl1⟩:=(of6.mono s7).get (.inr ⟨o2,s7 _ _ hD6⟩) (Ap.mpr hq1);obtain⟨l2,gg2,hl2⟩:=(of6.mono s7).get (.inr ⟨o2,s7 _ _ hD6⟩) (Ap.mpr hq2);have f1:=fl q.1;have f2:=fl q.2;refine⟨pp,_,rfl,SqT.of (s7 _ _ hpp6),rfl,_,_,rfl,_,_,rfl,rfl,?_⟩;refine⟨_,rfl,_,rfl,D,_,rfl,gg1,_,rfl,_,rfl,D,_,rfl,gg2,l1,l2,_,_,rfl,rfl,hl1,hl2,by rw[Oh,Oh,Te];omega,λc nc=>?_⟩;refine⟨c,(dit row).filter (upB row q.1)++(dit row).filter (upB row q.2),rfl,.inl (by rw[Oq];exact SqL.of Ab),by rw[Oo];omega,λt H9 nt ht s9=>?_⟩;have s79:Same H8 H9:=((Same.refl H8).step nc).trans s9;have hM9:=s79 _ _ hM;have et:told ((dit row).filter (upB row q.1)++(dit row).filter (upB row q.2))=(dit row).filter λy=>upB row q.1 y||upB row q.2 y:=by
      refine Xnf (Nh _) ((Ej row).filter _) λz=>?_;rw[Xdm,Op,Ou,Ou,Ou,Rr,<-and_or_left]
     rw[et] at ht;have hql:qs.length<=49:=by
      have:=htq.1;rw[Oh,Ov] at this;omega
     refine⟨_,hM9,by rw[Oh,Te];omega,?_⟩;have keepM:∀b w,H9 b=some (.tup w)->upd H9 M (.lst (qs.map V.ref++[.ref t])) b=some (.tup w):=λb w e=>by
      rw[Ad (λz=>by rw[z,hM9] at e;cases e)];exact e
     refine wskip hlt ⟨⟨_,_,rfl⟩,λb w e=>?_,qs++[t],by rw[Ab,Oq];rfl,?_⟩
     ·rw[Ad (Au e nM)];exact s79 _ _ (s7 b w e)
     ·rw[htk,Oq];refine Tups.app ⟨htq.1,λj hj=>keepM _ _ (s79 _ _ (htq.2 j hj))⟩ (Tups.cons (keepM _ _ ht) (Tups.nil _))
    ·have ei:i=(crs row).length:=by omega
     subst ei;refine .inl ⟨by have:=C7 (K:=K) (SqL.of (s7 _ _ hcl));rwa [hxl] at this,?_⟩;rw[Pt] at htq;have s57:=s6.trans s7;have hL7:=s57 _ _ hL5;have ht7:=ht1.same s57;have s07:=s05.trans s57;refine⟨Pm _,λe0 ne0=>⟨by show 1<=sizeLine;decide,λz nz=>?_⟩⟩;generalize hHa:upd H7 e0 (.tup [])=Ha at nz;have sa:Same H7 Ha:=by rw[<-hHa];exact(Same.refl H7).step ne0
     have he0:Ha e0=some (.tup (([]:Zb).map V.str)):=by rw[<-hHa];exact Ab
     generalize hHb:upd Ha z (.lst [.ref e0])=Hb;have sb:Same Ha Hb:=by rw[<-hHb];exact(Same.refl Ha).step nz
     have hz:Hb z=some (.lst [.ref e0]):=by rw[<-hHb];exact Ab
     have l1:ps1.length=(dit row).length:=by have:=ht1.1;simpa using this
     have l2:qs.length=(crs row).length:=by have:=htq.1;simpa using this
     have s7b:=sa.trans sb;refine⟨_,rfl,z,L,_,_,rfl,rfl,hz,s7b _ _ hL7,by rw[Oh,Pw,Te];omega,λc1 n1=>?_⟩;generalize hHc:upd Hb c1 (.lst ([.ref e0]++ps1.map V.ref))=Hc;have sc:Same Hb Hc:=by rw[<-hHc];exact(Same.refl Hb).step n1
     have hc1:Hc c1=some (.lst ([.ref e0]++ps1.map V.ref)):=by rw[<-hHc];exact Ab
     have s7c:=s7b.trans sc;refine⟨_,rfl,c1,M,_,_,rfl,rfl,hc1,s7c _ _ hM,by rw[Oo,Oh,Oh,Pw,Te];omega,λc2 n2=>?_⟩;generalize hHd:upd Hc c2 (.lst (([.ref e0]++ps1.map V.ref)++qs.map V.ref))=Hd;have sd:Same Hc Hd:=by rw[<-hHd];exact(Same.refl Hc).step n2
     have hc2:Hd c2=some (.lst ((e0::(ps1++qs)).map V.ref)):=by
      rw[<-hHd,Ab,Pb,Oq];rfl
     have s7d:=s7c.trans sd;have s0d:=s07.trans s7d;have hTs:Tups Hd (e0::(ps1++qs)) ([]::cands row):=Tups.cons ((sb.trans (sc.trans sd)) _ _ he0) (Tups.app (ht7.same s7d) (htq.same s7d));refine⟨c2,e0::(ps1++qs),[]::cands row,rfl,hc2,hTs,Xnp R2.two,by rw[Pe,Oo];omega,SH.Aq.same tab s0d,λD' ps' Ts' H' nD' hD' hT' pm so tab' bt=>?_⟩;refine k D' ps' Ts' H' (s0d.free nD') hD' hT' (λS=>(pm.mem_iff).trans (Xnn R2.two h3 S)) so ?_ tab' λb w e n=>bt _ _ (s0d _ _ e) n;rw[hT'.1,pm.length_eq,<-hTs.1,Pe,Oo];omega
def Xo6:FnScope ["plot", "name"] ["plot", "name"] (defScope s_bank_of):=by walk_at "s"
def Xo7{f}{fd}(F:Fun K "bank_of" "bank_of" s_bank_of f fd):FnOk P w K mg base CX0 1 f fd ["plot", "name"] spBankOf:=by
 refine F.ok Xo6 (by walk_at "l") ?_
 ·walk_at "i"
  obtain⟨p,ss,x,rfl,hP,k⟩:=h;refine⟨_,Ag (An (G2 (Av Jm (pv 1) (pv 0) (by rfl)) Az Az)),?_⟩;refine⟨_,rfl,_,rfl,p,_,rfl,.inr (SqT.of hP),rfl,C8 ss,_,rfl,?_⟩;rw[Tf (by decide),Dg];have:=k H (Same.refl H);by_cases z:x∈ss
  ·rw[Tg z] at this;rw[Th z];exact Bq this
  ·rw[Tf z] at this;rw[Ti z];exact Bp this
def Xo8:FnScope ["plot", "kept"] ["plot", "kept"] (defScope s_lies_on):=by walk_at "s"
def Xo9{f}{fd}(F:Fun K "lies_on" "lies_on" s_lies_on f fd)(B:Bl mg)(FB:Fn P w K mg base CX0 1 "bank_of" ["plot", "name"] spBankOf):FnOk P w K mg base CX0 2 f fd ["plot", "kept"] spLiesOn:=by
 refine F.ok Xo8 (by walk_at "l") ?_
 ·walk_at "i"
  obtain⟨p,kp,S,qs,kept,rfl,hp,hk,hT,hl,k⟩:=h;have hr1:Room 1 _:=hr.mono (by decide);refine⟨_,Ag (An (A2 (F6 rfl) (by rfl) B.all (by rfl) (Aa (Dh (N:=NLo1) (cap:=[none,none,some 0]) (CompScope.of (defScope s_lies_on) ["plot", "kept"] rfl rfl rfl (by decide +kernel)) rfl
   (Bt (pv 1)) (λ_ _ _=>Jw K 2 rfl rfl (Cn (Aw (i:=0) (show NLo1.Nodup by decide +kernel) rfl (.inl rfl) (.inr rfl)) (Cn (Aw (i:=1) (show NLo1.Nodup by decide +kernel) rfl (.inl rfl) (.inr rfl)) Fd))) (λ_ _ _=>Ce)
   (λ_ _ _=>B6 Bg (Ah (by exact FB) (by exact hr1) (by rfl) Aj (Aa (pv 2) (Aa (pv 0) Ac))) (pv 1) (Ar _))) Ac))),?_⟩
  refine⟨_,rfl,kp,rfl,⟨_,SqL.of hk⟩,?_⟩;have hkl:kept.length=qs.length:=by
   have:=hT.1;rw[Oh] at this;exact this.symm
  refine Ey (n:=qs.length) (λj=>.ref (qs.getD j 0)) (λD i Z2 H2=>(∃u v, Z2=[u,v,some (.ref p)])/\Same H H2/\H2 D=some (.lst (((kept.take i).map λq=>decide (bk S q.1=q.2)).map V.bl))) ?_ ?_ ?_ ?_ ?_
  ·intro D hD;exact⟨⟨_,_,rfl⟩,(Same.refl H).step hD,Ab⟩
  ·rintro D i Z2 H2 hD hi ⟨_,s2,_⟩;have:=C6 (K:=K) (SqL.of (s2 _ _ hk)) (by rw[Oh];exact hi);rw[Bu V.ref 0 qs hi] at this;exact this
  ·rintro D Z2 H2 hD ⟨_,s2,_⟩;have:=C7 (K:=K) (SqL.of (s2 _ _ hk))
   rwa [Oh] at this
  ·rintro D i Z2 H2 hD hi ⟨⟨u,v,rfl⟩,s2,hb⟩;have hi':i<kept.length:=by rw[hkl];exact hi
   have ht:=s2 _ _ (hT.2 i hi);have eq:(kept.map pr2).getD i []=pr2 kept[i]:=by simp[List.getD,hi']
   rw[eq] at ht;have htk:kept.take (i+1)=kept.take i++[kept[i]]:=O6 hi';generalize kept[i]=q at ht htk;refine⟨_,_,rfl,SqT.of ht,rfl,_,_,rfl,_,_,rfl,rfl,?_⟩;dsimp only[C5];rw[Tg rfl];refine⟨_,rfl,_,rfl,p,S,q.1,rfl,s2 _ _ hp,λH3 s3=>⟨_,rfl,rfl,?_⟩⟩;rw[D7];refine⟨_,s3 _ _ hb,by rw[Oh,Oh,Ov,Te];omega,wskip hi ⟨⟨_,_,rfl⟩,λb o e=>?_,?_⟩⟩
   ·rw[Ad (Au e hD)];exact s3 _ _ (s2 _ _ e)
   ·rw[Ab,htk,Oq,Oq];rfl
  ·rintro D Z2 H2 hD ⟨_,s2,hb⟩;rw[<-hkl,Pt] at hb;refine⟨D,_,rfl,hb,?_⟩;have e:(kept.map λq=>decide (bk S q.1=q.2)).all id=keeps kept S:=by
    unfold keeps;rw[List.all_map];rfl
   rw[e];exact k H2 s2
def Xfv:FnScope NSh ["row", "some"] (defScope s_shared):=by walk_at "s"
def Xpa{f}{fd}(F:Fun K "shared" "shared" s_shared f fd)(B:Bl mg)(FD:Fn P w K mg base CX0 1 "ditches" ["row"] spDitches)(FB:Fn P w K mg base CX0 1 "bank_of" ["plot", "name"] spBankOf):
  FnOk P w K mg base CX0 2 f fd ["row", "some"] spShared:=by
 refine F.ok Xfv (by walk_at "l") ?_
 ·walk_at "i"
  obtain⟨r,c,row,ps,Ts,rfl,hR,R2,hc,hT,hpl,k⟩:=h;have hu:=C4 hr;have hr1:Room 1 _:=hr.mono (by decide);refine⟨_,Ae (Ao (i:=2) Xfv.nd rfl (.inr rfl) (Mv (N:=NSh1) (cap:=[none,some 1]) (CompScope.of (defScope s_shared) NSh rfl rfl rfl (by decide +kernel)) rfl
    (Bt (Ah FD hr1 (by rfl) Aj (Aa (pv 0) Ac))) (λ_ _ _=>Aw (i:=0) (show NSh1.Nodup by decide +kernel) rfl (.inr rfl) (.inl rfl)) (λ_ _ _=>Ce) (λ_ _ _=>pv 0)
    (λs0 H0 ex=>A2 (Xny P w (by rfl) (by rfl) rfl) (by rfl) B.sorted (by rfl) (Aa (Xnz (P:=P) (w:=w) (N:=NSh2) (cap:=[none,some 0]) (CompScope.of _ NSh1 rfl rfl rfl (by kernel_rfl)) rfl
     (Xne K (by rfl) (pv 1)) (λ_ _ _=>Aw (i:=0) (show NSh2.Nodup by decide +kernel) rfl (.inl rfl) (.inr rfl)) (λ_ _ _=>Ce)
     (λ_ _ _=>Ah (by exact FB) (by exact hr1) (by rfl) Aj (Aa (pv 0) (Aa (pv 1) Ac)))) Ac))))
   (Ag (An (Dh (N:=NSh3) (cap:=[none,some 2]) (CompScope.of (defScope s_shared) NSh rfl rfl rfl (by decide +kernel)) rfl
    (Fl (pv 2)) (λ_ _ _=>Aw (i:=0) (show NSh3.Nodup by decide +kernel) rfl (.inl rfl) (.inr rfl))
    (λ_ _ _=>D0 (Av Bg (A2 (Xj0 K (by rfl)) (by rfl) B.len boot_len (Aa (Cf hu (pv 1) (pv 0) (λ_ _=>rfl)) Ac)) Af (Ar _)))
    (λ_ _ _=>Bk (Aa (pv 0) (Aa (Ax (Xjz K (by rfl)) (Cf hu (pv 1) (pv 0) (λ_ _=>rfl)) Af (λ_ _=>rfl)) Ac)))))),?_⟩
  have hl:=R2.len;have hdl:=D3 row;refine⟨_,rfl,r,row,rfl,hR,by omega,λnl H1 nnl hnl s1=>?_⟩;refine⟨nl,rfl,⟨_,SqL.of hnl⟩,λD nD=>?_⟩;have go:∀i H3,i<(dit row).length->Same H1 H3->(Itl K nl).go i H3/\∀x H4,(Itl K nl).yld i H3 x H4->H4=H3/\x = .str ((dit row).getD i Str.empty):=λi H3 hi s3=>by
   have:=C6 (K:=K) (SqL.of (s3 _ _ hnl)) (by rw[Oh];exact hi);rw[Bu V.str Str.empty (dit row) hi] at this;exact this
  have hT1:=hT.same s1;have hc1:=s1 _ _ hc;refine⟨wN (dit row).length λi Z2 H3=>(∃v, Z2=[v,some (.ref c)])/\Same H1 H3/\∃kv2,H3 D=some (.dK kv2)/\Lsts H3 kv2 (A9 Ts) ((dit row).take i),⟨(dit row).length,by simp,Pm _,⟨none,rfl⟩,(Same.refl H1).step nD,[],Ab,⟨rfl,λx hx=>by simp at hx⟩⟩,?_⟩;rintro i m Z1 H3 ⟨rfl,hi,⟨v,rfl⟩,s3,kv2,hD,ofs⟩;by_cases hlt:i<(dit row).length
  ·obtain⟨g1,g2⟩:=go i H3 hlt s3;refine .inr ⟨g1,λx H4 y=>?_⟩;obtain⟨e1,e2⟩:=g2 x H4 y;subst e1 e2;generalize hx:(dit row).getD i Str.empty=x;have htk:(dit row).take (i+1)=(dit row).take i++[x]:=by
    rw[O6 hlt,<-hx];simp[List.getD,hlt]
   have hnx:x∉(dit row).take i:=by
    have nd:=Ge row;have h2:((dit row).take (i+1)).Nodup:=nd.sublist (P3 ..);rw[htk] at h2;exact λz=>(Qi.mp h2).2.2 x z x (by simp) rfl
   have hc3:=s3 _ _ hc1;have hT3:=hT1.same s3;refine⟨_,rfl,_,rfl,c,rfl,⟨_,SqL.of hc3⟩,?_⟩;refine Xnw (P:=P) (w:=w) (n:=ps.length) (by unfold scanBound;omega) (λj=>.ref (ps.getD j 0)) (λj=>bk (Ts.getD j []) x) ?_ ?_ ?_ ?_
   ·intro j H5 hj s5;have:=C6 (K:=K) (SqL.of (s5 _ _ hc3)) (by rw[Oh];exact hj);rw[Bu V.ref 0 ps hj] at this;exact this
   ·intro H5 s5;have:=C7 (K:=K) (SqL.of (s5 _ _ hc3))
    rwa [Oh] at this
   ·intro j H5 Q' hj s5 kk;exact⟨_,rfl,_,rfl,_,Ts.getD j [],x,rfl,s5 _ _ (hT3.2 j hj),λH6 s6=>kk H6 s6⟩
   ·intro a H5 na s5 ha;have eL:(List.range ps.length).map (λj=>bk (Ts.getD j []) x)=Ts.map λS=>bk S x:=by
     rw[hT.1];have:=Ct [] (λ_=>true) Ts;rw[Pi.mpr (λ_ _=>rfl),Pi.mpr (λ_ _=>rfl)] at this;have q:=congrArg (List.map λS=>bk S x) this;rw[Pj] at q;exact q
    rw[eL] at ha;have dl:(ddup (Ts.map λS=>bk S x)).length<=2:=by
     have nd:=Ho (Ts.map λS=>bk S x);refine Pd (Im (b:=([("off" : Str),("home" : Str)]:Zb)) nd λz hz=>?_) (Oj 2);obtain⟨S,_,e⟩:=O5.mp ((Hn _ z).mp hz);rw[<-e];unfold bk;by_cases h:x∈S
     ·rw[Tg h];simp
     ·rw[Tf h];simp
    refine⟨a,_,rfl,ha,by omega,λl ls nl' hp hs=>?_⟩;have hD5:=s5 _ _ hD;have kl2:kv2.length<=60:=by
     have:=ofs.len;rw[Ov] at this;omega
    have hl6:upd H5 l (.lst (ls.map V.str)) l=some (.lst ((A9 Ts x).map V.str)):=by
     rw[Ab,Gb hp hs];rfl
    have s6:Same H5 (upd H5 l (.lst (ls.map V.str))):=(Same.refl H5).step nl';generalize upd H5 l (.lst (ls.map V.str))=H6 at hl6 s6;have s36:=s5.trans s6;have hD6:=s36 _ _ hD;refine⟨kv2,Sum.inr x,rfl,hD6,by rw[Te];omega,?_⟩;refine wskip hlt ⟨⟨_,rfl⟩,λb u e=>?_,_,Ab,?_⟩
    ·rw[Ad (Au e nD)];exact s36 _ _ (s3 b u e)
    ·rw[htk];refine ofs.snoc hnx ?_ λb xs e=>?_
     ·rw[Ad (λz=>by rw[z,hD6] at hl6;cases hl6)];exact hl6
     ·have e4:=s36 _ _ e;rw[Ad (λz=>by rw[z,hD6] at e4;cases e4)];exact e4
  ·have ei:i=(dit row).length:=by omega
   subst ei;refine .inl ⟨by have:=C7 (K:=K) (SqL.of (s3 _ _ hnl));rwa [Oh] at this,?_⟩;rw[Pt] at ofs;have s03:=s1.trans s3;have nD0:H D=none:=s1.free nD;refine⟨_,rfl,D,kv2,rfl,.inl ⟨hD,λo2=>?_⟩⟩;generalize hH4:upd H3 D (.frz o2 (.dK kv2))=H4;have s4:Same H H4:=λb u e=>by rw[<-hH4,Ad (Au e nD0)];exact s03 b u e
   have hD4:H4 D=some (.frz o2 (.dK kv2)):=by rw[<-hH4];exact Ab
   have of4:Lsts H4 kv2 (A9 Ts) (dit row):=⟨ofs.keys,λx hx=>let ⟨l,h1,h2⟩:=ofs.val x hx; ⟨l,h1,by rw[<-hH4,Ad (λz=>by rw[z,hD] at h2;cases h2)];exact h2⟩⟩;have kl2:=of4.len;refine Xnx (n:=(dit row).length) (by rw[Te];omega) (λj=>.str ((dit row).getD j Str.empty)) (λj=>decide ((A9 Ts ((dit row).getD j Str.empty)).length=1)) (λj=>pr2 ((dit row).getD j Str.empty,(A9 Ts ((dit row).getD j Str.empty)).headD Str.empty)) ?_ ?_ ?_ ?_ ?_
   ·intro j H5 hj s5;have:=F7 (kvs:=kv2) (s5 _ _ hD4) (by omega:j<kv2.length);rw[of4.at j hj] at this;exact this
   ·intro H5 s5;have:=F8 (kvs:=kv2) (s5 _ _ hD4)
    rwa [kl2] at this
   ·intro j H5 Q' hj s5 kk;obtain⟨l,gg,hl5⟩:=(of4.mono s5).get (.inr ⟨o2,s5 _ _ hD4⟩) (Cl hj);refine⟨_,rfl,_,rfl,D,_,rfl,gg,l,_,rfl,.inl (SqL.of hl5),rfl,_,rfl,?_⟩;rw[Oh];have e:decide (V.int ((A9 Ts ((dit row).getD j Str.empty)).length:Int)=V.int 1)=decide ((A9 Ts ((dit row).getD j Str.empty)).length=1):=
     decide_eq_decide.mpr ⟨λh=>by injection h with h;omega,λh=>by rw[h];rfl⟩
    rw[e];exact kk H5 (Same.refl _)
   ·intro j H5 Q' hj hk s5 kk;obtain⟨l,gg,hl5⟩:=(of4.mono s5).get (.inr ⟨o2,s5 _ _ hD4⟩) (Cl hj);generalize (dit row).getD j Str.empty=x at gg hl5 hk kk;obtain⟨b,hb⟩:=R7.mp (Tj hk);rw[hb] at hl5 kk;refine⟨_,rfl,_,rfl,_,rfl,D,_,rfl,gg,l,_,_,_,rfl,rfl,SqL.of hl5,rfl,by show 2<=sizeLine;decide,λt nt=>?_⟩;exact kk t _ Ab ((Same.refl H5).step nt)
   ·intro L qs H5 nL s5 hL hq;refine k L qs H5 (s4.free nL) hL ?_ (s4.trans s5);have e:((List.range (dit row).length).filter λj=>decide ((A9 Ts ((dit row).getD j Str.empty)).length=1)).map (λj=>pr2 ((dit row).getD j Str.empty,(A9 Ts ((dit row).getD j Str.empty)).headD Str.empty))=(B5 row Ts).map pr2:=by
     have q:=congrArg (List.map λx=>pr2 (x,(A9 Ts x).headD Str.empty)) (Ct Str.empty (λx=>decide ((A9 Ts x).length=1)) (dit row));rw[Pj] at q;unfold B5;rw[Pj];exact q
    rw[e] at hq;exact hq
def Xfw:FnScope NHe ["row", "kept"] (defScope s_held):=by walk_at "s"
def Xpb{f B0 T}{fd}(F:Fun K "held" "held" s_held f fd)(hB:mg "BadGround" = some (.ref B0))(hb:excIn K B0 bmV "ValueError.__new__" = true)(FP:Fn P w K mg base CX0 5 "plots" ["row"] (Xe7 T (lamPos s_in_order)))
  (FL:Fn P w K mg base CX0 2 "lies_on" ["plot", "kept"] spLiesOn) (FS:Fn P w K mg base CX0 2 "shared" ["row", "some"] spShared):FnOk P w K mg base (CX1 P w) 6 f fd ["row", "kept"] (spHeld B0 T (lamPos s_in_order)):=by
 refine F.ok1 Xfw (by walk_at "l") ?_
 ·walk_at "i"
  obtain⟨r,kp,row,kept,rfl,⟨hR,R2,h3,hd,tab,⟨qs,hk,hq⟩,ko⟩,k1,k2⟩:=h;have hr2:Room 2 _:=hr.mono (by decide);refine⟨_,Ae (Hx (i:=2) (N:=["plot", "kept"]) (cap:=[none,some 1]) (CompScope.of (defScope s_held) NHe rfl rfl rfl (by decide +kernel)) rfl Xfw.nd rfl rfl (Bt (Ah FP hr (by rfl) Aj (Aa (pv 0) Ac)))
    (λ_ _ _=>Aw (i:=0) (show (["plot", "kept"]:Zb).Nodup by decide +kernel) rfl (.inl rfl) (.inr rfl)) (λ_ _ _=>D0 (Dd (Ah (by exact FL) (by exact hr2) (by rfl) Aj (Aa (pv 0) (Aa (pv 1) Ac))))) (λ_ _ _=>pv 0))
   (Ae (A5 (Et (Fy (Xgw (pv 2) (λ_=>rfl))) (Es (Av (J4 (hu3 hr)) (Ah FS hr2 (by rfl) Aj (Aa (pv 0) (Aa (pv 2) Ac))) (pv 1) (Ar _)))).pt
    (Ag (Ma (C:=B0) (E:=E) hb rfl leaves1 (by rfl) hB (Aa (Mg (Hk (by decide +kernel) (Xn5 hr (pv 1) Mf))) Ac))) A8)
   (Ag (An (pv 2)))),?_⟩
  refine⟨_,rfl,r,row,rfl,hR,R2,h3,hd,tab,λL ps Ts H1 nL hL hT hall pw hle tab1 bt=>?_⟩;have keep:∀{b:Addr} {o:HO},H b=some o->(∀z,o ≠ .tbl z)->H1 b=some o:=λe n=>bt _ _ e (Aq.ne tab e n);have hk1:=keep hk λz=>by simp
  have hq1:Tups H1 qs (kept.map pr2):=⟨hq.1,λi hi=>keep (hq.2 i hi) λz=>by simp⟩;have hql:qs.length<=16:=by
   have:=hq.1;rw[Oh] at this;have:=ko.len;omega
  refine⟨L,rfl,⟨_,SqL.of hL⟩,?_⟩;refine Gf (n:=ps.length) (by rw[Te];omega) (λi=>.ref (ps.getD i 0)) (λi=>keeps kept (Ts.getD i [])) (λi=>.ref (ps.getD i 0)) ?_ ?_ ?_ ?_ ?_
  ·intro i H4 hi s4;have:=C6 (K:=K) (SqL.of (s4 _ _ hL)) (by rw[Oh];exact hi);rw[Bu V.ref 0 ps hi] at this;exact this
  ·intro H4 s4;have:=C7 (K:=K) (SqL.of (s4 _ _ hL))
   rwa [Oh] at this
  ·intro i H4 Q' hi s4 kk;exact⟨_,rfl,_,rfl,ps.getD i 0,kp,Ts.getD i [],qs,kept,rfl,s4 _ _ (hT.2 i hi),s4 _ _ hk1,hq1.same s4,by omega,λH5 s5=>⟨_,rfl,kk H5 s5⟩⟩
  ·intro i H4 Q' hi _ s4 kk;exact⟨_,rfl,kk H4 (Same.refl _)⟩
  ·intro D H4 nD s4 hD;have eT:(((List.range ps.length).filter λi=>keeps kept (Ts.getD i [])).map λi=>Ts.getD i [])=Ts.filter (keeps kept):=by
    rw[hT.1];exact Ct [] (keeps kept) Ts
   have tx:Tups H4 (((List.range ps.length).filter λi=>keeps kept (Ts.getD i [])).map λi=>ps.getD i 0) (Ts.filter (keeps kept)):=by
    rw[<-eT];exact Xfi (hT.same s4) λi hi=>P1.mp (Ou.mp hi).1
   have hD':H4 D=some (.lst ((((List.range ps.length).filter λi=>keeps kept (Ts.getD i [])).map λi=>ps.getD i 0).map V.ref)):=by rw[hD,Pj];rfl
   have hle':(((List.range ps.length).filter λi=>keeps kept (Ts.getD i [])).map λi=>ps.getD i 0).length<=ps.length:=by
    rw[Oh];exact Pd (Pn ..) (by rw[Px];omega)
   generalize (((List.range ps.length).filter λi=>keeps kept (Ts.getD i [])).map λi=>ps.getD i 0)=us at hD' tx hle';have mem:∀S,S∈Ts.filter (keeps kept)↔Am row S=true/\keeps kept S=true:=λS=>by rw[Ou,hall]
   have gi:=Xfc mem;have isH:N9 row kept (Ts.filter (keeps kept)):=⟨mem,pw.filter _⟩;have nD0:H D=none:=by
    cases e:H D with
    | none=>rfl
    | some o=>
     by_cases z:D=T
     ·rcases tab1 with q | ⟨_,q,_⟩<;>(rw[<-z,nD] at q;cases q)
     ·rw[bt _ _ e z] at nD;cases nD
   have tab4:=SH.Aq.same tab1 s4;have b4:But T H H4:=λb o e n=>s4 _ _ (bt _ _ e n);have bad:∀H5,Same H4 H5->¬Good row kept->Xb0 (Xbz (Xff (C0 1) Xby)) [some (.ref r),some (.ref kp),some (.ref D)] H5 (λx H1=>[x].length<=sizeLine/\E (.ref B0) none H1):=λH5 s5 ng=>by
    refine⟨_,rfl,kp,qs,kept.map pr2,rfl,s5 _ _ (s4 _ _ hk1),(hq1.same s4).same s5,hql,λS hS=>?_,λz=>⟨by show 1<=sizeLine;decide,k2 ng H5 (SH.Aq.same tab4 s5) λb o e n=>s5 _ _ (b4 _ _ e n)⟩⟩;obtain⟨q,hq,rfl⟩:=O5.mp hS;obtain⟨o1,o2,_,_⟩:=ko.ok q hq;refine⟨by show 2<=3;decide,λz hz=>?_⟩;rcases O2.mp hz with e | e
    ·rw[e];exact o1
    ·rw[Om.mp e];exact o2
   dsimp only[A6];refine⟨_,rfl,_,.inl ⟨_,SqL.of hD',rfl⟩,?_⟩;by_cases e:Ts.filter (keeps kept)=[]
   ·have ep:us=[]:=Pr.mp (by rw[tx.1,e];rfl);subst ep;exact Bq (bad H4 (Same.refl _) λg=>(gi.mp g).1 e)
   ·have np:(us.map V.ref).isEmpty=false:=by
     cases us with
     | nil=>exact absurd (Pr.mp tx.1.symm) e
     | cons _ _=>rfl
    rw[np];refine Bp ?_;have hR4:=s4 _ _ (keep hR λz=>by simp);refine⟨_,rfl,_,rfl,r,D,row,us,_,rfl,hR4,R2,hD',tx,by omega,λG gs H5 nG hG hgs s5=>?_⟩;have okS:=Xfd e R2.ok;refine⟨_,rfl,.list ((B5 row (Ts.filter (keeps kept))).map pr2 |>.map tupD),.list ((kept.map pr2).map tupD),Cy hG hgs,Cy (s5 _ _ (s4 _ _ hk1)) ((hq1.same s4).same s5),Cb _ (Cw okS),Cb _ (Cw ko.okL),Fu _ _,_,rfl,?_⟩;rw[Ft okS ko.okL];by_cases e2:B5 row (Ts.filter (keeps kept))=kept
    ·rw[Th (by rw[e2])];refine Bp ?_;exact⟨_,rfl,k1 (gi.mpr ⟨e,e2⟩) D us _ H5 nD0 (s5 _ _ hD') (tx.same s5) isH (by omega) (SH.Aq.same tab4 s5) λb o e n=>s5 _ _ (b4 _ _ e n)⟩
    ·rw[Ti (λz=>e2 (Xfe z))];exact Bq (bad H5 s5 λg=>e2 (gi.mp g).2)
def Xfx:FnScope ["row", "kept", "plot", "some"] ["row", "kept", "plot"] (defScope s_inside):=by walk_at "s"
def Xpc{f B0 C T}{fd}(F:Fun K "inside" "inside" s_inside f fd)(FH:Fn P w K mg base (CX1 P w) 6 "held" ["row", "kept"] (spHeld B0 T (lamPos s_in_order)))(FA:Fn P w K mg base (CX1 P w) 5 "ask_plot" ["row", "plot"] (Xdt C)):
  FnOk P w K mg base (CX1 P w) 7 f fd ["row", "kept", "plot"] (Oa B0 C T (lamPos s_in_order)):=by
 refine F.ok1 Xfx (by walk_at "l") ?_
 ·walk_at "i"
  obtain⟨r,kp,p,row,kept,S,rfl,hA,hp,oS,lS,k1,k2,k3⟩:=h;have hr5:Room 5 _:=hr.mono (by decide);refine⟨_,Ae (Ao (i:=3) Xfx.nd rfl (.inl rfl) (Ah FH hr (by rfl) pass1 (Aa (pv 0) (Aa (pv 1) Ac))))
   (Ae (Eu (Ah FA hr5 (by rfl) pass1 (Aa (pv 0) (Aa (pv 2) Ac))))
   (Ag (An (B6 (Xcy (hu4 hr)) (pv 2) (pv 3) (by rfl))))),?_⟩
  refine⟨_,rfl,_,rfl,r,kp,row,kept,rfl,hA,λg D ps Ts H1 nD hD hT isH hle tab1 bt=>?_,k2⟩;have R2:=hA.r2;have keep:∀{b:Addr} {o:HO},H b=some o->(∀z,o ≠ .tbl z)->H1 b=some o:=λe n=>bt _ _ e (Aq.ne hA.tab e n);have hp1:=keep hp λz=>by simp
  dsimp only[A6];refine⟨_,rfl,_,rfl,r,p,row,S,rfl,keep hA.hr (λz=>by simp),R2,hp1,oS,lS,λip H2 s2=>?_,λe H2 s2=>k3 g e H2 (SH.Aq.same tab1 s2) λb o e n=>s2 _ _ (bt _ _ e n)⟩;have okT:∀W∈Ts,∀y∈W,okN y:=λW hW y hy=>R2.ok y ((Ep ((isH.1 W).mp hW).1).1 y hy);refine⟨_,rfl,_,rfl,tupD S,Ts.map tupD,En (s2 _ _ hp1),Cy (s2 _ _ hD) (hT.same s2),Cb _ (Em oS),Gh _ (N8 okT),by show PyData.depthAll (S.map PyData.str)+1<=3;rw[Ii];decide,?_⟩;rw[isin okT oS];have e:decide (S∈Ts)=keeps kept S:=by
   cases hk:keeps kept S with
   | true=>exact Th ((isH.1 S).mpr ⟨ip,hk⟩)
   | false=>exact Ti λz=>by rw[((isH.1 S).mp z).2] at hk;cases hk
  rw[e];exact k1 g ip H2 (SH.Aq.same tab1 s2) λb o e n=>s2 _ _ (bt _ _ e n)
def Xpd:FnScope ["_law_script"] ["_law_script"] (defScope sBegin):=by walk_at "s"
def Xpe{f}{fd}(F:Fun K "_law_begin" "_law_begin" sBegin f fd)(T:Bl mg):FnOk P w K mg base CX0 1 f fd ["_law_script"] (Xc8 K):=by
 refine F.ok Xpd (by walk_at "l") ?_
 ·walk_at "i"
  obtain⟨a,ns,rfl,hS,hl,k⟩:=h;refine⟨_,Ag (An (Bh (Aa (B7 F3 rfl T.list boot_list (Aa (Bm Bz (pv 0) Bo (Bi Af)) Ac)) (Aa Af (Aa Af (Aa Af (Aa Af Ac))))))),?_⟩;refine⟨_,rfl,_,rfl,a,_,rfl,hS,λp hp=>?_⟩;have cut:B8 (ns.map V.int) none (some 63)=ns.map V.int:=by
   unfold B8;rw[HT.sIx_none,Rl,show (some (63:Int))=some ((63:Nat):Int) from rfl,HT.sIx_nat];exact P0 (by rw[Oh];omega)
  rw[cut];refine⟨p,_,rfl,.inl (SqL.of Ab),λq hq=>?_⟩;refine⟨by show 5<=sizeLine;decide,λdr hdr=>?_⟩;have npq:p≠q:=Au (o:=.lst (ns.map V.int)) Ab hq;have nqd:q≠dr:=Au (o:=.lst (ns.map V.int)) Ab hdr;have hqH:H q=none:=by rw[Ad npq.symm] at hq;exact hq
  have hpd:p≠dr:=Au (H:=upd (upd H p (.lst (ns.map V.int))) q (.lst (ns.map V.int))) (o:=.lst (ns.map V.int)) (by rw[Ad npq,Ab]) hdr;have hdH:H dr=none:=by rw[Ad nqd.symm,Ad hpd.symm] at hdr;exact hdr
  refine k dr q _ hdH hqH ⟨⟨ns,0,0,1,0,Ab,by rw[Ad nqd,Ab],Pm _,hl,by decide,by decide⟩⟩ ((((Same.refl H).upd hp).upd hqH).upd hdH)
def Od:FnScope NP ["_law_draw", "_law_many"] (defScope sPick):=by walk_at "s"
def Xpf{f}{fd}(F:Fun K "_law_pick" "_law_pick" sPick f fd)(T:Bl mg):FnOk P w K mg base CX0 1 f fd ["_law_draw", "_law_many"] Xc9:=by
 refine F.ok Od (by walk_at "l") ?_
 ·walk_at "i"
  obtain⟨dr,sc,n,rfl,hn0,hn1,⟨ns,p,c,m,k,hd,hs,hp,hl,hm0,hm1⟩,kk⟩:=h;have nds:dr≠sc:=by
   intro e;subst e;rw[hd] at hs;cases ns with
   | nil=>cases hs
   | cons a r=>cases hs
  refine Xjv (fun Z' H'=>∃x y p c m, Z'=[some (.ref dr),some (.int n),x,y]/\H' dr=some (.lst [.ref sc,.int (p:Nat),.int c,.int m,.int k])/\p<=ns.length/\0<=m/\m<1000000007/\∀b o,H b=some o->b≠dr->H' b=some o) ?_ ?_
  ·-- the rest
   refine⟨_,Ae (A5 (Av Xaq (Ax Bd (pv 0) Af (λ_ _=>rfl)) (pv 1) (Ar _))
     (Ae (Ao (i:=3) Od.nd rfl (.inl rfl) (Ak Fz (Ax Bd (pv 0) Af (λ_ _=>rfl)) (pv 1)))
     (Ae (Ef (Ak Lf (Ax Bd (pv 0) Af (λ_ _=>rfl)) (pv 1)) (Fe (pv 0) Af Ff))
     (Ag (An (pv 3))))) A8)
    (Ae (Ef (Ak Bw (Ax Bd (pv 0) Af (λ_ _=>rfl)) Af) (Fe (pv 0) Af Ff))
    (Ae (Ef (Ak Fz (Ak Bw (Ak Bw (Ak Xal (Ax Bd (pv 0) Af (λ_ _=>rfl)) Af) (Ak Xak Af (Ax Bd (pv 0) Af (λ_ _=>rfl)))) Af) Af) (Fe (pv 0) Af Ff))
    (Ag (An (Ak Fz (Ak Lf (Ax Bd (pv 0) Af (λ_ _=>rfl)) Af) (pv 1)))))),?_⟩
   rintro Z' H' ⟨x,y,p,c,m,rfl,hd',hp',hm0',hm1',kp⟩;refine⟨_,rfl,dr,_,_,_,rfl,rfl,SqL.of hd',rfl,_,rfl,_,_,rfl,rfl,_,rfl,?_⟩;refine A0 (λhc=>?_) (λhc=>?_)
   ·-- got
    refine⟨_,rfl,dr,_,_,_,rfl,rfl,SqL.of hd',rfl,_,rfl,_,_,rfl,rfl,hn0,?_⟩;refine⟨_,rfl,dr,_,_,_,rfl,rfl,SqL.of hd',rfl,_,rfl,_,_,rfl,rfl,⟨hn0,by omega⟩,?_⟩;refine⟨_,rfl,dr,_,_,2,rfl,rfl,hd',rfl,?_⟩;refine⟨_,rfl,?_⟩;refine kk _ _ (Sn _ (by omega)) (R4 _ hn0) ⟨⟨ns,p,c / n,m,k,Ab,?_,hp',hl,hm0',hm1'⟩⟩ λb o e hb=>by rw[Ad hb];exact kp b o e hb
    rw[Ad nds.symm];exact kp _ _ hs nds.symm
   ·refine⟨_,rfl,dr,_,_,_,rfl,rfl,SqL.of hd',rfl,_,_,rfl,rfl,?_⟩;refine⟨_,rfl,dr,_,_,4,rfl,rfl,hd',rfl,?_⟩;refine⟨_,rfl,dr,_,_,_,rfl,rfl,SqL.of Ab,rfl,_,_,rfl,rfl,cpow3 hm0' hm1',?_⟩;refine⟨_,rfl,dr,_,_,_,rfl,rfl,SqL.of Ab,rfl,_,_,rfl,rfl,.inl ⟨by decide,by decide⟩,_,_,rfl,rfl,_,_,rfl,rfl,_,_,rfl,rfl,(by show (0:Int)<1000000007;decide),?_⟩;refine⟨_,rfl,dr,_,_,3,rfl,rfl,Ab,rfl,?_⟩;refine⟨_,rfl,dr,_,_,_,rfl,rfl,SqL.of Ab,rfl,_,_,rfl,rfl,⟨by decide,by decide⟩,_,rfl,_,_,rfl,rfl,hn0,?_⟩;refine kk _ _ (Sn _ (by omega)) (R4 _ hn0) ⟨⟨ns,p,c,_,k+1,Ab,?_,hp',hl,Sn _ (by decide),R4 _ (by decide)⟩⟩ λb o e hb=>by rw[Ad hb,Ad hb];exact kp b o e hb
    rw[Ad nds.symm,Ad nds.symm];exact kp _ _ hs nds.symm
  ·intro nx hnx;refine⟨_,A5 (Ee (Av De (Ax Bd (pv 0) Af (λ_ _=>rfl)) (pv 1) (Ar _)) (Ed (Av De (Ax Bd (pv 0) Af (λ_ _=>rfl)) (A2 B9 (by rfl) T.len boot_len (Aa (Ax Bd (pv 0) Af (λ_ _=>rfl)) Ac)) (Ar _)))).pt
     (Ae (Ao (i:=2) Od.nd rfl (.inl rfl) (Ax Bd (Ax Bd (pv 0) Af (λ_ _=>rfl)) (Ax Bd (pv 0) Af (λ_ _=>rfl)) (λ_ _=>rfl)))
     (Ae (Ef (Ak Bw (Ax Bd (pv 0) Af (λ_ _=>rfl)) Af) (Fe (pv 0) Af Ff))
     (Ae (Ef Af (Fe (pv 0) Af Ff))
     (Ag (A5 (Av Xaq (pv 2) (Ak Xal Af Af) (Ar _))
      (Ag (Ef (pv 2) (Fe (pv 0) Af Ff)))
      (Ag (Ef (Ak Fz (Ak Bw (Ax Bd (pv 0) Af (λ_ _=>rfl)) (pv 2)) Af) (Fe (pv 0) Af Ff)))))))) A8,?_⟩
   refine⟨_,rfl,dr,_,_,_,rfl,rfl,SqL.of hd,rfl,_,rfl,_,_,rfl,rfl,_,rfl,?_⟩;have skip:nx [some (.ref dr),some (.int n),none,none] H:=hnx _ _ ⟨none,none,p,c,m,rfl,hd,hp,hm0,hm1,λb o e _=>e⟩;refine A0 (λ_=>?_) (λ_=>Bp skip);refine⟨_,rfl,dr,_,_,_,rfl,rfl,SqL.of hd,rfl,_,rfl,dr,_,_,_,rfl,rfl,SqL.of hd,rfl,sc,_,rfl,.inl (SqL.of hs),_,_,rfl,rfl,_,rfl,?_⟩;refine A0 (λhlt=>?_) (λ_=>skip);have hlt':(p:Int)<((ns.map V.int).length:Nat):=Tj hlt;rw[Oh] at hlt';have hpl:p<ns.length:=by omega
   have hat:(ns.map V.int)[p]? = some (.int (ns[p]'hpl)):=by rw[Ox,Oi hpl];rfl
   refine⟨_,rfl,dr,_,_,_,rfl,rfl,SqL.of hd,rfl,_,rfl,dr,_,_,_,rfl,rfl,SqL.of hd,rfl,sc,_,_,_,rfl,rfl,SqL.of hs,Dz hat,?_⟩;refine⟨_,rfl,dr,_,_,_,rfl,rfl,SqL.of hd,rfl,_,_,rfl,rfl,?_⟩;refine⟨_,rfl,dr,_,_,1,rfl,rfl,hd,rfl,?_⟩;refine⟨_,rfl,dr,_,_,2,rfl,rfl,Ab,rfl,?_⟩;refine⟨_,rfl,_,_,rfl,rfl,⟨by decide,by decide,by decide⟩,_,_,rfl,rfl,_,rfl,?_⟩;refine A0 (λ_=>?_) (λ_=>?_)
   ·refine⟨_,rfl,_,rfl,dr,_,_,2,rfl,rfl,Ab,rfl,?_⟩;refine hnx _ _ ⟨_,none,p+1,_,m,rfl,Ab,hpl,hm0,hm1,λb o e hb=>by rw[Ad hb,Ad hb,Ad hb];exact e⟩
   ·refine⟨_,rfl,dr,_,_,_,rfl,rfl,SqL.of Ab,rfl,_,rfl,_,_,rfl,rfl,_,_,rfl,rfl,(by show (0:Int)<1000000007;decide),?_⟩;refine⟨_,rfl,dr,_,_,3,rfl,rfl,Ab,rfl,?_⟩;refine hnx _ _ ⟨_,none,p+1,_,_,rfl,Ab,hpl,Sn _ (by decide),R4 _ (by decide),λb o e hb=>by rw[Ad hb,Ad hb,Ad hb];exact e⟩
def Xfy:FnScope NPut ["_law_row_here", "_law_name", "_law_at", "_law_to"] (defScope sPut):=by walk_at "s"
def Xpg{f}{fd}(F:Fun K "_law_put" "_law_put" sPut f fd):FnOk P w K mg base CX0 1 f fd ["_law_row_here", "_law_name", "_law_at", "_law_to"] Xdb:=by
 refine F.ok Xfy (by walk_at "l") ?_
 ·walk_at "i"
  obtain⟨r,row,x,a,b,rfl,hR,hl,hab,hb,k⟩:=h;refine⟨_,Ae (Ao (i:=4) Xfy.nd rfl (.inl rfl) (Ak Bn (Ak Bn (Bm Bz (pv 0) Bo (Bi (pv 2))) (Bh (Aa (pv 1) Ac))) (Bm Bz (pv 0) (Bi (pv 2)) (Bi (pv 3)))))
   (Ag (An (Ak Bn (Ak Bn (pv 4) (Bh (Aa (pv 1) Ac))) (Bm Bz (pv 0) (Bi (pv 3)) Bo)))),?_⟩
  have h24:∀n,n<=100000->n<=sizeLine:=λn h=>by rw[Te];omega
  refine⟨_,rfl,_,rfl,_,rfl,r,_,rfl,SqL.of hR,λp1 n1=>?_⟩;rw[Ds _ _ _ (by omega)];refine⟨_,rfl,by show 1<=sizeLine;decide,λp2 n2=>?_⟩;refine⟨p1,p2,_,_,rfl,rfl,ku Ab n2,Ab,h24 _ (by simp;omega),λp3 n3=>?_⟩;refine⟨_,rfl,_,rfl,_,rfl,_,rfl,_,rfl,r,_,rfl,SqL.of (ku (ku (ku hR n1) n2) n3),λp4 n4=>?_⟩;rw[Xjw _ _ _ _ hab hb];refine⟨p3,p4,_,_,rfl,rfl,ku Ab n4,Ab,h24 _ (by simp;omega),λp5 n5=>?_⟩;refine⟨_,rfl,_,rfl,by show 1<=sizeLine;decide,λp6 n6=>?_⟩;refine⟨p5,p6,_,_,rfl,rfl,ku Ab n6,Ab,h24 _ (by simp;omega),λp7 n7=>?_⟩;refine⟨_,rfl,_,rfl,_,rfl,r,_,rfl,SqL.of (ku (ku (ku (ku (ku (ku (ku hR n1) n2) n3) n4) n5) n6) n7),λp8 n8=>?_⟩;rw[Dt _ _ _ hb];refine⟨p7,p8,_,_,rfl,rfl,ku Ab n8,Ab,h24 _ (by simp;omega),λp9 n9=>?_⟩;have s8:=((((((((Same.refl H).go n1 n2).go n2 n3).go n3 n4).go n4 n5).go n5 n6).go n6 n7).go n7 n8).go n8 n9;refine k p9 _ (s8.free n9) (Ab.trans ?_) (s8.step n9);unfold E4;simp
def Oe:FnScope NWh ["_law_row_here"] (defScope sWhere):=by walk_at "s"
def Xph{f}{fd}(F:Fun K "_law_where" "_law_where" sWhere f fd)(T:Bl mg):FnOk P w K mg base CX0 1 f fd ["_law_row_here"] Nb:=by
 refine F.ok Oe (by walk_at "l") ?_
 ·walk_at "i"
  obtain⟨r,row,rfl,hR,hl,k⟩:=h;have hu:=C4 hr;refine⟨_,Ae (Ao (i:=1) Oe.nd rfl (.inl rfl) Xhx)
   (Ae (C2 PassesOwn.never rfl (G3 rfl T.range (Aa (A2 B9 (by rfl) T.len boot_len (Aa (pv 0) Ac)) Ac)) (Aw (i:=2) Oe.nd rfl (.inl rfl))
    (Ag (Xhv hu (pv 1) (Ax Bd (pv 0) (pv 2) (λ_ _=>rfl))
     (Ak Bn (Xh4 hu (pv 1) (Ax Bd (pv 0) (pv 2) (λ_ _=>rfl)) (Bh Ac) ⟨rfl,rfl,rfl,rfl⟩) (Bh (Aa (pv 2) Ac))) rfl)))
   (Ag (An (pv 1)))),?_⟩
  intro d nd;have s0:Same H (upd H d (.dK [])):=(Same.refl H).step nd;refine⟨_,rfl,r,_,rfl,.inl (SqL.of (s0 _ _ hR)),((row.map V.str).length:Int),rfl,by omega,by rw[Oh];omega,?_⟩;have hn:((row.map V.str).length:Int).toNat=row.length:=by rw[Oh];simp
  rw[hn];refine Jj (lo:=0) (n:=row.length) (λi Z H2=>∃kvs v, Z=[some (.ref r),some (.ref d),v]/\Same H H2/\H2 d=some (.dK kvs)/\Wh H2 kvs (row.take i)) ?_ ?_ ?_
  ·exact⟨[],none,rfl,s0,Ab,⟨λk hk=>by simp at hk,λx hx=>by simp at hx,λ_ _=>rfl,by simp,by simp⟩⟩
  ·rintro i Z H2 hi ⟨kvs,v,rfl,s2,hd,wh⟩;have hat:(row.map V.str)[i]? = some (.str (row[i]'hi)):=by rw[Ox,Oi hi];rfl
   have hat':atI (row.map V.str) (0+(i:Int))=some (.str (row[i]'hi)):=by rw[Int.zero_add];exact Dz hat
   have tk:row.take (i+1)=row.take i++[row[i]'hi]:=by rw[O6 hi]
   have kl:=wh.len;rw[Ov] at kl;have ll:(plc (row.take i) (row[i]'hi)).length<=1000:=by
    rw[M9];have:=List.count_le_length (a:=row[i]'hi) (l:=row.take i);rw[Ov] at this;omega
   have h24:∀n,n<=100000->n<=sizeLine:=λn h=>by rw[Te];omega
   refine⟨_,rfl,d,rfl,.inl ⟨kvs,.inl hd⟩,_,rfl,_,rfl,r,_,_,_,rfl,rfl,SqL.of (s2 _ _ hR),hat',by show 0<=sizeLine;decide,λp1 n1=>?_⟩;refine⟨_,DGet.k (k:=Sum.inr (row[i]'hi)) (ku hd n1),?_⟩;obtain⟨q,xs,e1,hq,hxs⟩:∃q xs,(Ay kvs (Sum.inr (row[i]'hi):Key)).getD (V.ref p1)=V.ref q/\upd H2 p1 (.lst []) q=some (.lst (xs.map V.int))/\plc (row.take i) (row[i]'hi)=xs:=by
    by_cases hx:row[i]'hi∈row.take i
    ·obtain⟨l,e1,e2⟩:=wh.val _ hx;exact⟨l,_,by rw[e1];rfl,ku e2 n1,rfl⟩
    ·refine⟨p1,[],by rw[wh.none _ hx];rfl,Ab,?_⟩;have:(plc (row.take i) (row[i]'hi)).length=0:=by rw[M9];exact Rm.mpr hx
     exact Pr.mp this
   have hlx:xs.length<=1000:=by rw[<-hxs];exact ll
   rw[e1];refine⟨_,rfl,by show 1<=sizeLine;decide,λp2 n2=>?_⟩;refine⟨q,p2,_,_,rfl,rfl,ku hq n2,Ab,h24 _ (by simp;omega),λp3 n3=>?_⟩;refine⟨_,rfl,_,rfl,_,rfl,r,_,_,_,rfl,rfl,SqL.of (ku (ku (ku (s2 _ _ hR) n1) n2) n3),hat',?_⟩;have hd2:=ku (u:=.lst [V.int (0+(i:Int))]) (ku (u:=.lst []) hd n1) n2;have hd3:=ku (u:=.lst (xs.map V.int++[V.int (0+(i:Int))])) hd2 n3;refine⟨d,_,rfl,DPut.k (k:=Sum.inr (row[i]'hi)) hd3 (by rw[Te];omega),_,_,rfl,?_,Ab,?_⟩
   ·have s3:=((s2.go n1 n2).go n2 n3).step (o:=.lst (xs.map V.int++[V.int (0+(i:Int))])) n3;exact s3.upd nd
   ·rw[tk];refine wh.snoc _ p3 ?_ λb ys e=>?_
    ·have ne:p3≠d:=(Au hd2 n3).symm;rw[Ad ne,Ab,Na,Tg rfl,hxs,Oq,Ov,Qz (Rz hi)];simp
    ·have ne:b≠d:=λz=>by rw[z,hd] at e;cases e
     rw[Ad ne];exact ku (ku (ku e n1) n2) n3
  ·rintro Z H2 ⟨kvs,v,rfl,s2,hd,wh⟩;rw[Pt] at wh;exact⟨_,rfl,k d kvs H2 nd hd wh s2⟩
def K1:FnScope NWo ["_law_where_here", "_law_one_here", "_law_other"] (defScope sWord):=by walk_at "s"
def Xpi{f}{fd}(F:Fun K "_law_word" "_law_word" sWord f fd)(T:Bl mg):FnOk P w K mg base CX0 1 f fd ["_law_where_here", "_law_one_here", "_law_other"] spWord:=by
 refine F.ok K1 (by walk_at "l") ?_
 ·walk_at "i"
  obtain⟨d,l1,l2,kvs,x,y,a,b,c,e,rfl,hd,v1,v2,h1,h2,k⟩:=h;have hu:=C4 hr;refine⟨_,Ae (Ef (Cf hu (pv 0) (pv 1) (λ_ _=>rfl)) (Xik rfl (Cn (Aw (i:=3) K1.nd rfl (.inr rfl)) (Cn (Aw (i:=4) K1.nd rfl (.inr rfl)) Fd))))
   (Ae (Hx (i:=5) (N:=["_law_at", "_law_high", "_law_low"]) (cap:=[none,some 4,some 3]) (CompScope.of (defScope sWord) NWo rfl rfl rfl (by decide +kernel)) rfl K1.nd rfl rfl
     (Bt (Cf hu (pv 0) (pv 2) (λ_ _=>rfl))) (λ_ _ _=>Aw (i:=0) (show (["_law_at", "_law_high", "_law_low"]:Zb).Nodup by decide +kernel) rfl (.inl rfl) (.inr rfl))
     (λ_ _ _=>D0 (Ee (Av De (pv 2) (pv 0) (Ar _)) (Ed (Av De (pv 0) (pv 1) (Ar _)))).pt) (λ_ _ _=>pv 0))
   (Ae (A5 (Et (Av Bg (pv 1) (pv 2) (Ar _)) (Es (Av Xgr (A2 B9 (by rfl) T.len boot_len (Aa (pv 5) Ac)) Af (Ar _)))).pt
    (Ag (An (Ax G6 (Bk (Aa Az (Aa Az (Aa Az Ac)))) (A2 B9 (by rfl) T.len boot_len (Aa (pv 5) Ac)) (λ_ _=>rfl)))) A8)
   (Ag (An (G2 (Ee (Av De (Ax Bd (Cf hu (pv 0) (pv 2) (λ_ _=>rfl)) Af (λ_ _=>rfl)) (pv 3) (Ar _)) (Ed (Av De (pv 4) (Ax Bd (Cf hu (pv 0) (pv 2) (λ_ _=>rfl)) Af (λ_ _=>rfl)) (Ar _)))).pt Az Az))))),?_⟩
  refine⟨_,rfl,_,rfl,d,_,rfl,DGet.rd hd v1,l1,_,rfl,SqL.of h1,rfl,?_⟩;refine⟨_,_,rfl,_,_,rfl,rfl,?_⟩;refine⟨_,rfl,_,rfl,d,_,rfl,DGet.rd hd v2,l2,rfl,⟨_,SqL.of h2⟩,?_⟩;refine Ey (n:=2) (λi=>([V.int c,V.int e]:List V).getD i .non) (λD i Z2 H2=>∃v, Z2=[v,some (.int b),some (.int a)]/\Same H H2/\H2 D=some (.lst ((inn a b (([c,e]:List Int).take i)).map V.int))) ?_ ?_ ?_ ?_ ?_
  ·intro D hD;exact⟨none,rfl,(Same.refl H).step hD,Ab⟩
  ·rintro D i Z2 H2 hD hi ⟨v,rfl,s2,hl⟩;exact C6 (SqL.of (s2 _ _ h2)) hi
  ·rintro D Z2 H2 hD ⟨v,rfl,s2,hl⟩;exact C7 (SqL.of (s2 _ _ h2))
  ·rintro D i Z2 H2 hD hi ⟨v,rfl,s2,hl⟩;obtain⟨t,ht1,ht2⟩:∃t,([V.int c,V.int e]:List V).getD i .non = .int t/\([c,e]:List Int).take (i+1)=([c,e]:List Int).take i++[t]:=by
    match i,hi with
    | 0,_=>exact⟨c,rfl,rfl⟩
    | 1,_=>exact⟨e,rfl,rfl⟩
   rw[ht1];have hil:(inn a b (([c,e]:List Int).take i)).length<=2:=Pd (Nc ..) (by rw[Ov];simp;omega);refine⟨_,rfl,_,rfl,_,_,rfl,rfl,_,rfl,?_⟩;refine A0 (λq1=>?_) (λq1=>Bp (wskip hi ⟨_,rfl,s2,?_⟩))
   ·refine⟨_,rfl,_,rfl,_,_,rfl,rfl,_,rfl,?_⟩;refine A0 (λq2=>?_) (λq2=>wskip hi ⟨_,rfl,s2,?_⟩)
    ·refine⟨_,rfl,wput hi hl (by rw[Oh,Te];omega) ⟨_,rfl,?_,?_⟩⟩
     ·intro b' o e';rw[Ad (Au e' hD)];exact s2 b' o e'
     ·rw[Ab,ht2];unfold inn;rw[O8,Oq,Pu,Tg (by rw[q1,q2];rfl)];rfl
    ·rw[hl,ht2];unfold inn;rw[O8,Pu,Tf (by rw[q1,q2];decide)];simp
   ·rw[hl,ht2];unfold inn;rw[O8,Pu,Tf (by rw[q1];simp)];simp
  ·rintro D Z2 H2 hD ⟨v,rfl,s2,hl⟩;have hl':H2 D=some (.lst ((inn a b [c,e]).map V.int)):=hl;have hil:(inn a b [c,e]).length<=2:=Nc ..;have three:∀p,H2 p=none->atI ([V.str "same",V.str "cross",V.str "around"]:List V) (((inn a b [c,e]).map V.int).length:Int)=some (.str (words3.getD (inn a b [c,e]).length "apart")):=λp _=>by
    rw[Oh];generalize (inn a b [c,e]).length=n at hil
    match n,hil with
    | 0,_=>rfl
    | 1,_=>rfl
    | 2,_=>rfl
   have ret3:(decide (x=y)||decide (0<(inn a b [c,e]).length))=true->∀p,H2 p=none->∀H',Same H H'->Q (.str (words3.getD (inn a b [c,e]).length "apart")) H':=λhc p _ H' s'=>by
    have:=k H' s';unfold D6 at this;rw[Tg hc] at this;exact this
   refine⟨_,rfl,_,rfl,rfl,_,rfl,?_⟩;refine A0 (λq1=>?_) (λq1=>?_)
   ·refine Bq ⟨by show 3<=sizeLine;decide,λp hp=>?_⟩;refine⟨_,rfl,D,_,rfl,.inl (SqL.of (ku hl' hp)),p,_,_,_,rfl,rfl,SqT.of Ab,three p hp,?_⟩;refine ret3 ?_ p hp _ (s2.step hp);have q1':decide (x=y)=true:=by
     have:=Tj q1;injection this with this
     exact Th this
    rw[q1'];rfl
   ·refine⟨_,rfl,D,_,rfl,.inl (SqL.of hl'),_,_,rfl,rfl,_,rfl,?_⟩;have q1':decide (x=y)=false:=by
     have:=Tk q1;exact Ti λz=>this (by rw[z])
    refine A0 (λq2=>?_) (λq2=>?_)
    ·have q2':0<(inn a b [c,e]).length:=by
      have:=Tj q2;rw[Oh] at this;omega
     refine⟨by show 3<=sizeLine;decide,λp hp=>?_⟩;refine⟨_,rfl,D,_,rfl,.inl (SqL.of (ku hl' hp)),p,_,_,_,rfl,rfl,SqT.of Ab,three p hp,?_⟩;exact ret3 (by rw[Th q2',S9]) p hp _ (s2.step hp)
    ·have q2':¬ 0<(inn a b [c,e]).length:=by
      have:=Tk q2;rw[Oh] at this;omega
     have last:∀z:Str,(if c<a/\b<e then ("within" : Str) else "apart")=z->Q (.str z) H2:=λz hz=>by
      have:=k H2 s2;unfold D6 at this;rw[Tf (by rw[q1',Ti q2'];decide),hz] at this;exact this
     refine⟨_,rfl,_,rfl,d,_,rfl,DGet.rd (Rd.same hd s2) v2,l2,_,_,_,rfl,rfl,SqL.of (s2 _ _ h2),rfl,_,rfl,_,_,rfl,rfl,_,rfl,?_⟩;refine A0 (λq3=>?_) (λq3=>?_)
     ·refine⟨_,rfl,_,rfl,_,rfl,d,_,rfl,DGet.rd (Rd.same hd s2) v2,l2,_,_,_,rfl,rfl,SqL.of (s2 _ _ h2),rfl,_,_,rfl,rfl,_,rfl,?_⟩;refine A0 (λq4=>?_) (λq4=>?_)
      ·exact last _ (Tg ⟨Tj q3,Tj q4⟩)
      ·exact last _ (Tf λz=>Tk q4 z.2)
     ·exact Bp (last _ (Tf λz=>Tk q3 z.1))
def Jc:FnScope NBa ["_law_row_here", "_law_name"] (defScope sBarred):=by walk_at "s"
def Xpj{f}{fd}(F:Fun K "_law_barred" "_law_barred" sBarred f fd)(T:Bl mg)(FW:Fn P w K mg base CX0 1 "_law_where" ["_law_row_here"] Nb)
  (FO:Fn P w K mg base CX0 1 "_law_word" ["_law_where_here", "_law_one_here", "_law_other"] spWord):FnOk P w K mg base CX0 2 f fd ["_law_row_here", "_law_name"] spBarredN:=by
 refine F.ok Jc (by walk_at "l") ?_
 ·walk_at "i"
  obtain⟨r,row,x,rfl,hR,hl,h2,hx,k⟩:=h;have hu:=C4 hr;refine⟨_,Ae (Ao (i:=2) Jc.nd rfl (.inr rfl) (Ah FW hr rfl Aj (Aa (pv 0) Ac)))
   (Ae (Hx (i:=3) (N:=NBc) (cap:=[none,some 1,some 2]) (CompScope.of (defScope sBarred) NBa rfl rfl rfl (by decide +kernel)) rfl Jc.nd rfl rfl
     (Xiq (pv 2)) (λ_ _ _=>Aw (i:=0) (show NBc.Nodup by decide +kernel) rfl (.inl rfl) (.inr rfl))
     (λ_ _ _=>D0 (Av Bg (Ah FO hr rfl Aj (Aa (pv 2) (Aa (pv 1) (Aa (pv 0) Ac)))) Az (Ar _))) (λ_ _ _=>pv 0))
   (Ae (C2 PassesOwn.never rfl (G3 rfl T.range (Aa (A2 B9 (by rfl) T.len boot_len (Aa (pv 3) Ac)) Ac)) (Aw (i:=4) Jc.nd rfl (.inl rfl))
    (Ag (C2 PassesOwn.never rfl (Bt (Bm Bz (pv 3) (Bi (Ak Bw (pv 4) Af)) Bo)) (Aw (i:=5) Jc.nd rfl (.inl rfl))
     (Ag (A5 (Av Bg (Ah FO hr rfl Aj (Aa (pv 2) (Aa (Ax Bd (pv 3) (pv 4) (λ_ _=>rfl)) (Aa (pv 5) Ac)))) Az (Ar _)) (Ag (An Dm)) A8)))))
   (Ag (An Dm)))),?_⟩
  refine⟨_,rfl,r,row,rfl,hR,hl,λd kvs H1 nd hd wh s1=>?_⟩;refine⟨_,rfl,d,kvs,rfl,hd,λo=>?_⟩;generalize hH2:upd H1 d (.frz o (.dK kvs))=H2;have s2:Same H H2:=λb u e=>by rw[<-hH2,Ad (Au e nd)];exact s1 b u e
  have hd2:H2 d=some (.frz o (.dK kvs)):=by rw[<-hH2];exact Ab
  have wh2:Wh H2 kvs row:=⟨wh.keys,λy hy=>let ⟨l,e1,e2⟩:=wh.val y hy; ⟨l,e1,by rw[<-hH2,Ad (λz=>by rw[z,hd] at e2;cases e2)];exact e2⟩,wh.none,wh.nd,wh.len⟩;have hkl:=wh.len;refine Ey (n:=kvs.length) (λi=>(kvs.map λp=>kV p.1).getD i .non) (λD i Z2 H3=>∃(v:Option V) (ms:Zb), Z2=[v,some (.str x),some (.ref d)]/\Same H2 H3/\H3 D=some (.lst (ms.map V.str))/\(∀m∈ms,m∈row)/\ms.length<=i/\∀(j:Nat) (y:Str),j<i->(kvs.map λp=>kV p.1).getD j .non = .str y->A3 row x y->y∈ms) ?_ ?_ ?_ ?_ ?_
  ·intro D hD;exact⟨none,[],rfl,(Same.refl H2).step hD,Ab,by simp,Oj _,λj y h=>absurd h (Qp _)⟩
  ·rintro D i Z2 H3 hD hi ⟨v,ms,rfl,s3,hm,hin,hml,hall⟩;exact F7 (s3 _ _ hd2) hi
  ·rintro D Z2 H3 hD ⟨v,ms,rfl,s3,hm,hin,hml,hall⟩;exact F8 (s3 _ _ hd2)
  ·rintro D i Z2 H3 hD hi ⟨v,ms,rfl,s3,hm,hin,hml,hall⟩;obtain⟨y,hy1,hy2⟩:∃y,(kvs.map λp=>kV p.1).getD i .non = .str y/\y∈row:=by
    obtain⟨y,e1,e2⟩:=wh.keys (kvs[i]'hi).1 (O5.mpr ⟨kvs[i]'hi,Pa hi,rfl⟩);refine⟨y,?_,e2⟩;simp only[List.getD,Ox,Oi hi,Qy,Option.getD_some];rw[e1];rfl
   rw[hy1];obtain⟨l1,e1,g1⟩:=wh2.pl hx (h2 x hx);obtain⟨l2,e2,g2⟩:=wh2.pl hy2 (h2 y hy2);refine⟨_,rfl,_,rfl,_,rfl,d,l1,l2,kvs,x,y,_,_,_,_,rfl,.inr ⟨o,s3 _ _ hd2⟩,e1,e2,s3 _ _ g1,s3 _ _ g2,λH4 s4=>?_⟩;have s24:=s3.trans s4;refine⟨rfl,_,rfl,?_⟩;rw[<-Gj (h2 x hx) (h2 y hy2)];refine A0 (λhc=>?_) (λhc=>wskip hi ⟨_,ms,rfl,s24,s4 _ _ hm,hin,by omega,λj z hj hz kz=>?_⟩);rotate_left
   ·by_cases ej:j=i
    ·subst ej;rw[hy1] at hz;injection hz with hz
     subst hz;exact absurd (by rw[show lieR row x y = "cross" from kz]) (Xdy hc)
    ·exact hall j z (by omega) hz kz
   refine⟨_,rfl,wput hi (s4 _ _ hm) (by rw[Oh,Te];omega) ⟨_,ms++[y],rfl,?_,by rw[Ab,Oq];rfl,?_,by rw[Oo,Pw];omega,λj z hj hz kz=>?_⟩⟩
   ·intro b u e;rw[Ad (Au e hD)];exact s24 b u e
   ·intro m hm;rcases Op.mp hm with z | z
    ·exact hin m z
    ·rw[Om.mp z];exact hy2
   ·by_cases ej:j=i
    ·subst ej;rw[hy1] at hz;injection hz with hz
     subst hz;simp
    ·exact P2 _ (hall j z (by omega) hz kz)
  ·rintro D Z2 H3 hD ⟨v,ms,rfl,s3,hm,hin,hml,hall⟩;refine⟨_,rfl,D,_,rfl,.inl (SqL.of hm),((ms.map V.str).length:Int),rfl,by omega,by rw[Oh];omega,?_⟩;have hn:((ms.map V.str).length:Int).toNat=ms.length:=by rw[Oh];simp
   rw[hn];refine Jj (lo:=0) (n:=ms.length) (λi Z H4=>∃v1 v2, Z=[some (.ref r),some (.str x),some (.ref d),some (.ref D),v1,v2]/\Same H3 H4/\∀(p q:Nat) (y z:Str),p<i->p<q->ms[p]? = some y->ms[q]? = some z->¬A3 row y z) ?_ ?_ ?_
   ·exact⟨none,none,rfl,Same.refl _,λp q y z h=>absurd h (Qp _)⟩
   ·rintro i Z H4 hi ⟨v1,v2,rfl,s4,ho⟩;refine⟨_,rfl,_,rfl,_,_,rfl,rfl,_,rfl,D,_,rfl,SqL.of (s4 _ _ hm),λp np=>?_⟩;have e0:(0:Int)+(i:Int)+1=((i+1:Nat):Int):=by omega
    rw[e0,Dt _ _ _ (by omega)];have s5:Same H3 (upd H4 p (.lst ((ms.drop (i+1)).map V.str))):=s4.step np;refine⟨p,rfl,⟨_,SqL.of Ab⟩,?_⟩;refine Eg (K:=K) (a:=p) (xs:=(ms.drop (i+1)).map V.str) (λj Z H5=>∃v2, Z=[some (.ref r),some (.str x),some (.ref d),some (.ref D),some (.int (0+(i:Int))),v2]/\Same (upd H4 p (.lst ((ms.drop (i+1)).map V.str))) H5/\∀(q:Nat) (z:Str),q<j->ms[i+1+q]? = some z->¬A3 row (ms[i]'hi) z) ?_ ?_ ?_ ?_
    ·exact⟨_,rfl,Same.refl _,λq z h=>absurd h (Qp _)⟩
    ·rintro j Z H5 _ ⟨v2,rfl,s6,hi2⟩;exact SqL.of (s6 _ _ Ab)
    ·rintro j y Z H5 hj ⟨v2,rfl,s6,hi2⟩;obtain⟨z,rfl,hz,hzj⟩:∃z,y=V.str z/\z∈ms/\ms[i+1+j]? = some z:=by
      rw[Ox] at hj;cases q:(ms.drop (i+1))[j]? with
      | none=>rw[q] at hj;cases hj
      | some z=>
       rw[q] at hj;exact⟨z,(O0 hj).symm,Pq (Qk q),by rw[<-q,Q9]⟩
     have s36:=s5.trans s6;have hat:(ms.map V.str)[i]? = some (.str (ms[i]'hi)):=by rw[Ox,Oi hi];rfl
     have hat':atI (ms.map V.str) (0+(i:Int))=some (.str (ms[i]'hi)):=by rw[Int.zero_add];exact Dz hat
     obtain⟨l1,e1,g1⟩:=wh2.pl (hin _ (Pa hi)) (h2 _ (hin _ (Pa hi)));obtain⟨l2,e2,g2⟩:=wh2.pl (hin _ hz) (h2 _ (hin _ hz));have s26:=s3.trans s36;refine⟨_,rfl,_,rfl,_,rfl,D,_,_,_,rfl,rfl,SqL.of (s36 _ _ hm),hat',_,rfl,d,l1,l2,kvs,_,z,_,_,_,_,rfl,.inr ⟨o,s26 _ _ hd2⟩,e1,e2,s26 _ _ g1,s26 _ _ g2,λH6 s7=>?_⟩;refine⟨rfl,_,rfl,?_⟩;rw[<-Gj (h2 _ (hin _ (Pa hi))) (h2 _ (hin _ hz))];refine A0 (λ_=>?_) (λhc=>?_)
     ·exact k true H6 (λe=>by cases e) ((s2.trans s3).trans (s36.trans s7))
     ·refine⟨_,rfl,s6.trans s7,λq u hq hu=>?_⟩;by_cases eq:q=j
      ·subst eq;rw[hzj] at hu;have hu:=O0 hu;subst hu;exact λkz=>absurd (by rw[show lieR row (ms[i]'hi) z = "cross" from kz]) (Xdy hc)
      ·exact hi2 q u (by omega) hu
    ·rintro Z H5 ⟨v2,rfl,s6,hi2⟩;refine⟨_,_,rfl,s5.trans s6,λp q y z hp hpq hy hz=>?_⟩;by_cases ep:p=i
     ·subst ep;rw[Oi hi] at hy;rw[<-O0 hy];refine hi2 (q - (p+1)) z ?_ (by rw[show p+1+(q - (p+1))=q by omega];exact hz);have:=(Oy.mp hz).1;rw[Oh,Pk];omega
     ·exact ho p q y z (by omega) hpq hy hz
   ·rintro Z H4 ⟨v1,v2,rfl,s4,ho⟩;refine k false H4 (λ_ y hy z hz k1 k2 k3=>?_) ((s2.trans s3).trans s4);have mem:∀u∈row,A3 row x u->u∈ms:=λu hu ku=>by
     obtain⟨l,e,_⟩:=wh.val u hu;obtain⟨j,hj,ej⟩:=Po.mp (F5 e);rw[Oh] at hj;refine hall j u hj ?_ ku;rw[Q6] at ej;simp only[List.getD,Ox,Oi hj,Qy,Option.getD_some];rw[ej];rfl
    obtain⟨p,hp,ep⟩:=Po.mp (mem y hy k1);obtain⟨q,hq,eq⟩:=Po.mp (mem z hz k2);have ep':ms[p]? = some y:=by rw[Oi hp,ep]
    have eq':ms[q]? = some z:=by rw[Oi hq,eq]
    rcases Nat.lt_trichotomy p q with h | h | h
    ·exact ho p q y z hp h ep' eq' k3
    ·subst h;rw[ep'] at eq';have e:=O0 eq';subst e;exact E8 (h2 y hy) k3
    ·exact ho q p z y hq h eq' ep' (D8 (h2 y hy) (h2 z hz) k3)
def Er:FnScope NRo ["_law_draw", "_law_names_here"] (defScope sRow):=by walk_at "s"
def Xpk{f}{fd}(F:Fun K "_law_row" "_law_row" sRow f fd)(T:Bl mg)(FP:FnPick P w K mg base)(FPut:Fn P w K mg base CX0 1 "_law_put" ["_law_row_here", "_law_name", "_law_at", "_law_to"] Xdb)
  (FB:Fn P w K mg base CX0 2 "_law_barred" ["_law_row_here", "_law_name"] spBarredN):FnOk P w K mg base CX0 3 f fd ["_law_draw", "_law_names_here"] spRowN:=by
 refine F.ok Er (by walk_at "l") ?_
 ·walk_at "i"
  obtain⟨dr,sc,nl,ns,rfl,dk,hN,nnd,hnd,hnl,k⟩:=h;have hr1:Room 1 _:=hr.mono (by decide);have h24:∀m,m<=100000->m<=sizeLine:=λm h=>by rw[Te];omega
  refine⟨_,Ae (A5 (Av Bg (Ah FP hr1 rfl Aj (Aa (pv 0) (Aa Af Ac))) Af (Ar _))
    (Ae (Ao (i:=2) Er.nd rfl (.inl rfl) (Ah FP hr1 rfl Aj (Aa (pv 0) (Aa (Ak Bw (A2 B9 (by rfl) T.len boot_len (Aa (pv 1) Ac)) Af) Ac))))
    (Ag (An (Ak Bn (Ak Bn (pv 1) (Mb (Bm Bz (pv 1) Bo (Bi (pv 2))))) (Mb (Bm Bz (pv 1) (Bi (pv 2)) Bo)))))) A8)
   (Ae (Ao (i:=3) Er.nd rfl (.inl rfl) (Bh Ac))
   (Ae (C2 PassesOwn.never rfl (Bt (pv 1)) (Aw (i:=4) Er.nd rfl (.inl rfl))
    (Ae (Ao (i:=5) Er.nd rfl (.inl rfl) (Ah FP hr1 rfl Aj (Aa (pv 0) (Aa (Ak Bw (A2 B9 (by rfl) T.len boot_len (Aa (pv 3) Ac)) Af) Ac))))
    (Ae (Ao (i:=6) Er.nd rfl (.inl rfl) (Ak Bw (pv 5) (Ah FP hr1 rfl Aj (Aa (pv 0) (Aa (Ak Xgq (Ak Bw (A2 B9 (by rfl) T.len boot_len (Aa (pv 3) Ac)) Af) (pv 5)) Ac)))))
    (Ae (Ao (i:=7) Er.nd rfl (.inl rfl) (Ah FPut hr1 rfl Aj (Aa (pv 3) (Aa (pv 4) (Aa (pv 5) (Aa (pv 6) Ac))))))
    (Ae (A5 (Dd (Ah FB hr rfl Aj (Aa (pv 7) (Aa (pv 4) Ac))))
     (Ag (Ao (i:=7) Er.nd rfl (.inl rfl) (Ak Bn (Ak Bn (Bm Bz (pv 3) Bo (Bi (pv 5))) (Bh (Aa (pv 4) (Aa (pv 4) Ac)))) (Bm Bz (pv 3) (Bi (pv 5)) Bo)))) A8)
    (Ag (Ao (i:=3) Er.nd rfl (.inl rfl) (pv 7))))))))
   (Ag (An (pv 3))))),?_⟩
  refine⟨_,rfl,dr,sc,4,rfl,by decide,by decide,dk,λr1 H1 _ _ d1 b1=>?_⟩;refine⟨rfl,_,rfl,?_⟩;have b1:But dr H H1:=b1;have hN1:=b1 _ _ hN nnd;refine A0 (λ_=>?_) (λ_=>?_)
  ·-- the grid
   refine⟨_,rfl,_,rfl,nl,_,rfl,.inl (SqL.of hN1),_,_,rfl,rfl,dr,sc,_,rfl,by omega,by rw[Oh];omega,d1,λc H2 c0 c1 d2 b2=>?_⟩;obtain⟨c,rfl⟩:=Pl c0;rw[Oh] at c1;have hc:c<=ns.length:=by omega
   have b12:=But.trans b1 b2;have hN2:=b2 _ _ hN1 nnd;obtain⟨xs,hdr⟩:=d2.at;refine⟨_,rfl,_,rfl,_,rfl,_,rfl,nl,_,rfl,SqL.of hN2,λp1 n1=>?_⟩;rw[Ds _ _ _ hc];refine⟨p1,_,rfl,SqL.of Ab,λp2 n2=>?_⟩;refine⟨nl,p2,_,_,rfl,rfl,ku (ku hN2 n1) n2,Ab,h24 _ (by simp;omega),λp3 n3=>?_⟩;refine⟨_,rfl,_,rfl,_,rfl,nl,_,rfl,SqL.of (ku (ku (ku hN2 n1) n2) n3),λp4 n4=>?_⟩;rw[Dt _ _ _ hc];refine⟨p4,_,rfl,SqL.of Ab,λp5 n5=>?_⟩;refine⟨p3,p5,_,_,rfl,rfl,ku (ku Ab n4) n5,Ab,h24 _ (by simp;omega),λp6 n6=>?_⟩;have s5:=(((((Same.refl H2).go n1 n2).go n2 n3).go n3 n4).go n4 n5).go n5 n6;have f6:=s5.free n6;have hpm:(ns++(ns.take c).reverse++(ns.drop c).reverse).Perm (ns++ns):=by
    rw[Pg];refine P8 ns ?_;refine((List.reverse_perm _).append (List.reverse_perm _)).trans ?_;rw[Pf]
   refine k p6 (ns++(ns.take c).reverse++(ns.drop c).reverse) _ (b12.free hdr f6) (Ab.trans (by simp)) hpm (noThree_grid hnd c λz hz=>Gi hnd hpm z ?_) (d2.same (s5.step n6)) (b12.same (s5.step n6));exact hpm.mem_iff.mpr (P2 _ hz)
  ·-- dug one by one
   refine⟨by show 0<=sizeLine;decide,λp np=>?_⟩;obtain⟨xs1,hdr1⟩:=d1.at;have s0:Same H1 (upd H1 p (.lst [])):=(Same.refl H1).step np;refine⟨_,rfl,nl,rfl,⟨_,SqL.of (s0 _ _ hN1)⟩,?_⟩;refine Eg (K:=K) (a:=nl) (xs:=ns.map V.str) (λi Z H2=>∃(v2 v4 v5 v6 v7:Option V) (q:Addr) (row:Zb), Z=[some (.ref dr),some (.ref nl),v2,some (.ref q),v4,v5,v6,v7]/\H2 q=some (.lst (row.map V.str))/\H q=none/\q≠dr/\row.Perm (ns.take i++ns.take i)/\B2 row/\DrawOk H2 dr sc/\But dr H H2) ?_ ?_ ?_ ?_
   ·exact⟨_,_,_,_,_,p,[],rfl,Ab,b1.free hdr1 np,(Au hdr1 np).symm,by simp,Xlm,d1.same s0,b1.same s0⟩
   ·rintro i Z H2 _ ⟨v2,v4,v5,v6,v7,q,row,rfl,hq,nq,nqd,hp,hno,d2,b2⟩;exact SqL.of (b2 _ _ hN nnd)
   ·rintro i y Z H2 hi ⟨v2,v4,v5,v6,v7,q,row,rfl,hq,nq,nqd,hp,hno,d2,b2⟩;have hil:i<ns.length:=by
     have:=(Oy.mp hi).1
     rwa [Oh] at this
    obtain⟨x,rfl,hx⟩:∃x,y=V.str x/\ns[i]? = some x:=by
     rw[Ox] at hi;cases z:ns[i]? with
     | none=>rw[z] at hi;cases hi
     | some x=>rw[z] at hi;exact⟨x,(O0 hi).symm,rfl⟩
    have tk:ns.take (i+1)=ns.take i++[x]:=by
     rw[O6 hil];rw[Oi hil] at hx;rw[O0 hx]
    have hrl:row.length<=28:=by
     have:=hp.length_eq;rw[Oo,Ov] at this;omega
    have ndT:(ns.take i++[x]).Nodup:=by rw[<-tk];exact hnd.sublist (P3 ..)
    refine⟨_,rfl,_,rfl,q,_,rfl,.inl (SqL.of hq),_,_,rfl,rfl,dr,sc,_,rfl,by omega,by rw[Oh];omega,d2,λa H3 a0 a1 d3 b3=>?_⟩;obtain⟨a,rfl⟩:=Pl a0;rw[Oh] at a1;have hq3:=b3 _ _ hq nqd;refine⟨_,rfl,_,rfl,_,rfl,q,_,rfl,.inl (SqL.of hq3),_,_,rfl,rfl,_,rfl,_,_,rfl,rfl,dr,sc,_,rfl,by rw[Oh];omega,by rw[Oh];omega,d3,λc H4 c0 c1 d4 b4=>?_⟩;obtain⟨c,rfl⟩:=Pl c0;rw[Oh] at c1;refine⟨_,_,rfl,rfl,?_⟩;have eac:(a:Int)+(c:Int)=((a+c:Nat):Int):=by omega
    dsimp only;rw[eac];have hac:a+c<=row.length:=by omega
    have hq4:=b4 _ _ hq3 nqd;have b24:=But.trans b2 (But.trans b3 b4);obtain⟨xs4,hdr4⟩:=d4.at;refine⟨_,rfl,_,rfl,_,rfl,_,rfl,q,row,x,a,a+c,rfl,hq4,by omega,by omega,hac,λl H5 nl5 hl5 s5=>?_⟩;have d5:=d4.same s5;have b25:=b24.same s5;have nlH:=b24.free hdr4 nl5;have nld:l≠dr:=(Au hdr4 nl5).symm;have hperm:(E4 row x a (a+c)).Perm ((ns.take i++[x])++(ns.take i++[x])):=Xdf hp (Xda row x a (a+c) (by omega));have hll:(E4 row x a (a+c)).length<=1000:=by
     have:=hperm.length_eq;rw[Oo,Oo,Ov,Pw] at this;omega
    refine⟨_,rfl,_,rfl,l,_,x,rfl,hl5,hll,Gi ndT hperm,hperm.mem_iff.mpr (by simp),λbb H6 hbb s6=>?_⟩;have d6:=d5.same s6;have b26:=b25.same s6;refine⟨bb,rfl,?_⟩;have two0:∀y∈row,row.count y=2:=Gi (hnd.sublist (P3 ..)) hp;refine A0 (λ_=>?_) (λhbf=>?_)
    ·have hq6:=s6 _ _ (s5 _ _ hq4);refine⟨_,rfl,_,rfl,_,rfl,q,_,rfl,SqL.of hq6,λp1 n1=>?_⟩;rw[Ds _ _ _ (by omega)];refine⟨_,rfl,_,rfl,by show 2<=sizeLine;decide,λp2 n2=>?_⟩;refine⟨p1,p2,_,_,rfl,rfl,ku Ab n2,Ab,h24 _ (by simp;omega),λp3 n3=>?_⟩;refine⟨_,rfl,_,rfl,_,rfl,q,_,rfl,SqL.of (ku (ku (ku hq6 n1) n2) n3),λp4 n4=>?_⟩;rw[Dt _ _ _ (by omega)];refine⟨p3,p4,_,_,rfl,rfl,ku Ab n4,Ab,h24 _ (by simp;omega),λp5 n5=>?_⟩;have s4':=((((Same.refl H6).go n1 n2).go n2 n3).go n3 n4).go n4 n5;have f5:=s4'.free n5;obtain⟨xs6,hdr6⟩:=d6.at;have pN:(row.take a++[x,x]++row.drop a).Perm (x::x::row):=by
      have e:row.take a++[x,x]++row.drop a=row.take a++x::x::row.drop a:=by simp
      rw[e];refine Rk.trans (List.Perm.cons x (Rk.trans (List.Perm.cons x ?_)));rw[Pf]
     have pM:=Xdf hp pN;have twoN:=Gi ndT pM;refine⟨_,rfl,_,_,_,_,_,p5,row.take a++[x,x]++row.drop a,rfl,Ab.trans (by simp),b26.free hdr6 f5,(Au hdr6 f5).symm,by rw[tk];exact pM,?_,d6.same (s4'.step n5),b26.same (s4'.step n5)⟩;refine Xdw (x:=x) hno two0 twoN (λy hy=>?_) (λp hp=>Xlp hp) (λy hy z hz ky=>absurd ky (Xlo (twoN x (by simp)) (twoN y hy)));have:=pN.mem_iff.mp hy;simp only[O2] at this;rcases this with h | h | h
     ·exact .inl h
     ·exact .inl h
     ·exact .inr h
    ·refine⟨_,rfl,_,_,_,_,_,l,_,rfl,s6 _ _ hl5,nlH,nld,by rw[tk];exact hperm,?_,d6,b26⟩;refine Xdw (x:=x) hno two0 (Gi ndT hperm) (λy hy=>?_) (λp hp=>Xln (by omega) hp) (hbb hbf);have:=(Xda row x a (a+c) (by omega)).mem_iff.mp hy;simp only[O2] at this;rcases this with h | h | h
     ·exact .inl h
     ·exact .inl h
     ·exact .inr h
   ·rintro Z H2 ⟨v2,v4,v5,v6,v7,q,row,rfl,hq,nq,nqd,hp,hno,d2,b2⟩;rw[Oh,Pt] at hp;exact⟨_,rfl,k q row H2 nq hq hp hno d2 b2⟩
def Fc:FnScope NNa ["_law_draw", "_law_many"] (defScope sNames):=by walk_at "s"
def Xpl{f}{fd}(F:Fun K "_law_names" "_law_names" sNames f fd)(T:Bl mg)(FP:FnPick P w K mg base):FnOk P w K mg base CX0 2 f fd ["_law_draw", "_law_many"] Xde:=by
 refine F.ok Fc (by walk_at "l") ?_
 ·walk_at "i"
  obtain⟨dr,sc,n,rfl,hn,dk,k⟩:=h;refine⟨_,Ae (Ao (i:=2) Fc.nd rfl (.inl rfl) Az)
   (Ae (Ao (i:=3) Fc.nd rfl (.inl rfl) (Ah FP hr rfl Aj (Aa (pv 0) (Aa Af Ac))))
   (Ae (Ao (i:=4) Fc.nd rfl (.inl rfl) (B6 Bg (Ah FP hr rfl Aj (Aa (pv 0) (Aa Af Ac))) Af (Ar _)))
   (Ae (Ao (i:=5) Fc.nd rfl (.inl rfl) (Bh Ac))
   (Ae (C2 PassesOwn.never rfl (G3 rfl T.range (Aa (pv 1) Ac)) (Aw (i:=6) Fc.nd rfl (.inl rfl))
    (Ae (Ao (i:=7) Fc.nd rfl (.inl rfl) (Ax Xhe (pv 2) (Ak Fz (Ak Bw (pv 3) (pv 6)) Af) (λ_ _=>rfl)))
    (Ae (Ao (i:=8) Fc.nd rfl (.inl rfl) (Ak Xin Az (Ak Fz (Ak Bw (pv 3) (Ak Xak (pv 6) (pv 6))) Af)))
    (Ag (Eu (G8 PySem.F.plainAttrs_list PySem.F.slot_list_append PySem.F.type_list_append G9 (pv 5)
     (Aa (G2 (Dd (pv 4)) (Ak Jk (Ak Jk (pv 8) (pv 7)) Az) (Ak Jk (pv 7) (pv 8))) Ac)))))))
   (Ag (An (pv 5))))))),?_⟩
  refine⟨_,rfl,dr,sc,26,rfl,by decide,by decide,dk,λr1 H1 r10 r11 d1 b1=>?_⟩;refine⟨_,rfl,dr,sc,2,rfl,by decide,by decide,d1,λr2 H2 r20 r21 d2 b2=>?_⟩;refine⟨rfl,?_⟩;refine⟨by show 0<=sizeLine;decide,λl nl=>?_⟩;obtain⟨st,rfl⟩:=Pl r10;have hst:st<26:=by omega
  generalize hlt:decide (V.int r2=V.int 1)=late;have b12:But dr H H2:=But.trans b1 b2;obtain⟨xs,hdr⟩:=d2.at;have nlH:H l=none:=b12.free hdr nl;obtain⟨nld,nls⟩:=d2.ne nl;refine⟨_,rfl,(n:Int),rfl,by omega,by omega,?_⟩;rw[Rs];refine Jj (lo:=0) (n:=n) (λi Z H3=>∃v1 v2 v3, Z=[some (.ref dr),some (.int n),some (.str Fm),some (.int st),some (.bl late),some (.ref l),v1,v2,v3]/\H3 l=some (.lst ((Bb st late i).map V.str))/\DrawOk H3 dr sc/\But dr H H3) ?_ ?_ ?_
  ·exact⟨none,none,none,rfl,Ab,d2.upd nld nls,b12.upd nlH⟩
  ·rintro i Z H3 hi ⟨v1,v2,v3,rfl,hl3,d3,b3⟩;have e26:((st:Int)+(0+(i:Int))) % 26=(((st+i) % 26:Nat):Int):=by omega
   have h26:(st+i) % 26<26:=Nat.mod_lt _ (by decide);have eii:((0:Int)+(i:Int)) * (0+(i:Int))=((i * i:Nat):Int):=by rw[Int.zero_add];exact(Int.natCast_mul i i).symm
   have h7:(st+i * i) % 7<7:=Nat.mod_lt _ (by decide);have e7:((st:Int)+((i * i:Nat):Int)) % 7=(((st+i * i) % 7:Nat):Int):=by
    generalize i * i=j;omega
   refine⟨_,rfl,_,rfl,_,rfl,_,_,rfl,rfl,_,_,rfl,rfl,(by show (0:Int)<26;decide),_,_,_,rfl,rfl,(by show 26<=sizeLine;decide),by rw[e26];exact Xkv h26,?_⟩;refine⟨_,rfl,_,rfl,_,rfl,_,_,rfl,rfl,.inl ⟨by omega,by omega⟩,_,_,rfl,rfl,_,_,rfl,rfl,(by show (0:Int)<7;decide),?_⟩;have e77:((st:Int)+((0:Int)+(i:Int)) * (0+(i:Int))) % 7=(((st+i * i) % 7:Nat):Int):=by rw[eii,e7]
   refine⟨_,_,rfl,rfl,by rw[e77];omega,by rw[e77];omega,by show 1<=1000;decide,?_⟩;rw[e77,Rs];have hrl:(repS "m" ((st+i * i) % 7)).length<=6:=by
    rw[Md];have:(Str.ofString "m").length=1:=rfl;rw[this];omega
   have hsl:(signOf ((st+i) % 26)).length=1:=rfl;have hnl:(Bb st late i).length=i:=by unfold Bb;simp
   have hsnoc:Bb st late (i+1)=Bb st late i++[Ig st late i]:=by unfold Bb;rw[Pz,Oq];rfl
   have h24:∀m,m<=100000->m<=sizeLine:=λm h=>by rw[Te];omega
   have fin:∀z:Str,Ig st late i=z->Lv (.ref l) [.str z] H3 λ_ H4=>∃v1 v2 v3,[some (V.ref dr),some (.int n),some (.str Fm),some (.int st),some (.bl late),some (.ref l),some (.int (0+(i:Int))),some (.str (signOf ((st+i) % 26))),some (.str (repS "m" ((st+i * i) % 7)))]=[some (.ref dr),some (.int n),some (.str Fm),some (.int st),some (.bl late),some (.ref l),v1,v2,v3]/\H4 l=some (.lst ((Bb st late (i+1)).map V.str))/\DrawOk H4 dr sc/\But dr H H4:=λz hz=>by
    refine⟨l,_,_,rfl,rfl,hl3,by rw[Oh,hnl,Te];omega,_,_,_,rfl,?_,d3.upd nld nls,b3.upd nlH⟩;rw[Ab,hsnoc,Oq,<-hz];rfl
   refine⟨_,rfl,.inl ⟨rfl,_,SqL.of hl3⟩,_,rfl,late,rfl,?_⟩;refine A0 (λhL=>?_) (λhL=>?_)
   ·refine⟨_,rfl,_,rfl,_,_,rfl,rfl,h24 _ (by show (repS "m" ((st+i * i) % 7)).length+1<=100000;omega),_,_,rfl,rfl,h24 _ ?_,fin _ (by unfold Ig;rw[Tg hL];rfl)⟩;rw[Dr];show (repS "m" ((st+i * i) % 7)).length+1+1<=100000;omega
   ·exact⟨_,rfl,_,rfl,_,_,rfl,rfl,h24 _ (by show 1+(repS "m" ((st+i * i) % 7)).length<=100000;omega),fin _ (by unfold Ig;rw[Tf (by rw[hL];decide)];rfl)⟩
  ·rintro Z H3 ⟨v1,v2,v3,rfl,hl3,d3,b3⟩;exact⟨_,rfl,k l st late H3 nlH hst hl3 nls d3 b3⟩
def Og:FnScope NIsF ["_law_draw", "_law_most"] (defScope sIsland):=by walk_at "s"
def Xpm{f}{fd}(F:Fun K "_law_island" "_law_island" sIsland f fd)(T:Bl mg)(FP:FnPick P w K mg base)(FN:Fn P w K mg base CX0 2 "_law_names" ["_law_draw", "_law_many"] Xde)
  (FR:Fn P w K mg base CX0 3 "_law_row" ["_law_draw", "_law_names_here"] spRowN):FnOk P w K mg base CX0 4 f fd ["_law_draw", "_law_most"] spIslandN:=by
 refine F.ok Og (by walk_at "l") ?_
 ·walk_at "i"
  obtain⟨dr,sc,m,rfl,hm,dk,k⟩:=h;have hr1:Room 1 _:=hr.mono (by decide);have hr2:Room 2 _:=hr.mono (by decide);refine⟨_,Ae (Ao (i:=2) Og.nd rfl (.inl rfl) (Ak Bw Af (Ah FP hr1 rfl Aj (Aa (pv 0) (Aa Af Ac)))))
   (Ae (Ao (i:=3) Og.nd rfl (.inl rfl) (Ax G6 (Bk (Aa (Ah FP hr1 rfl Aj (Aa (pv 0) (Aa Af Ac))) (Aa (pv 2) (Aa (Ah FP hr1 rfl Aj (Aa (pv 0) (Aa (Ak Bw (pv 1) Af) Ac))) Ac))))
    (Ah FP hr1 rfl Aj (Aa (pv 0) (Aa Af Ac))) (λ_ _=>rfl)))
   (Ag (An (Ah FR hr rfl Aj (Aa (pv 0) (Aa (Ah FN hr2 rfl Aj (Aa (pv 0) (Aa (A2 (Xgx rfl) (by rfl) T.min boot_min (Aa (pv 3) (Aa (pv 1) Ac))) Ac))) Ac)))))),?_⟩
  refine⟨_,rfl,dr,sc,5,rfl,by decide,by decide,dk,λr1 H1 r10 _ d1 b1=>⟨_,_,rfl,rfl,?_⟩⟩;refine⟨_,rfl,dr,sc,5,rfl,by decide,by decide,d1,λr2 H2 r20 _ d2 b2=>?_⟩;refine⟨_,rfl,_,rfl,_,rfl,_,_,rfl,rfl,dr,sc,_,rfl,by omega,by omega,d2,λr3 H3 r30 _ d3 b3=>?_⟩;have b1:But dr H H1:=b1;have b13:But dr H H3:=But.trans b1 (But.trans b2 b3);refine⟨by show 3<=sizeLine;decide,λp np=>?_⟩;obtain⟨ne1,ne2⟩:=d3.ne np;obtain⟨xs3,hdr3⟩:=d3.at;have npH:=b13.free hdr3 np;refine⟨_,rfl,dr,sc,3,rfl,by decide,by decide,d3.upd ne1 ne2,λr4 H4 r40 r41 d4 b4=>?_⟩;have b4:But dr (L2.upd H3 p (.tup [.int r2,.int (2+r1),.int r3])) H4:=b4;have hp4:=b4 p _ Ab ne1;have b14:But dr H H4:=But.trans (b13.upd npH) b4;obtain⟨mm,hmm0,hmm⟩:∃mm:Int,0<=mm/\atI ([.int r2,.int (2+r1),.int r3]:List V) r4=some (.int mm):=by
   obtain⟨i,rfl⟩:=Pl r40;have hi:i<3:=by omega
   match i,hi with
   | 0,_=>exact⟨r2,r20,rfl⟩
   | 1,_=>exact⟨2+r1,by omega,rfl⟩
   | 2,_=>exact⟨r3,r30,rfl⟩
  refine⟨p,_,_,_,rfl,rfl,SqT.of hp4,hmm,?_⟩;obtain⟨n,hn,hnm⟩:∃n:Nat,(if (m:Int)<mm then (m:Int) else mm)=(n:Int)/\n<=m:=by
   obtain⟨j,rfl⟩:=Pl hmm0;by_cases hj:(m:Int)<(j:Int)
   ·exact⟨m,Tg hj,Oj _⟩
   ·exact⟨j,Tf hj,by omega⟩
  refine⟨_,rfl,_,rfl,_,rfl,_,rfl,_,_,rfl,?_⟩;rw[hn];refine⟨dr,sc,n,rfl,by omega,d4,λl st late H5 nl hst hl5 nls d5 b5=>?_⟩;obtain⟨xs4,hdr4⟩:=d4.at;have nld:l≠dr:=(Au hdr4 nl).symm;have b15:=But.trans b14 b5;refine⟨dr,sc,l,_,rfl,d5,hl5,nld,Nd hst (by omega),by unfold Bb;simp;omega,λl2 row H6 nl2 hl6 hp hno d6 b6=>?_⟩;obtain⟨xs5,hdr5⟩:=d5.at;exact k l2 row n st late H6 (b15.free hdr5 nl2) hnm hst hl6 hp hno d6 (But.trans b15 b6)
def Xpn:FnScope ["_law_draw", "_law_most"] ["_law_draw", "_law_most"] (defScope s__law_island_to):=by walk_at "s"
def Xpo{f}{fd}(F:Fun K "_law_island_to" "_law_island_to" s__law_island_to f fd)(T:Bl mg)(FP:FnPick P w K mg base)(FI:Fn P w K mg base CX0 4 "_law_island" ["_law_draw", "_law_most"] spIslandN):FnOk P w K mg base CX0 5 f fd ["_law_draw", "_law_most"] spIslTo:=by
 refine F.ok Xpn (by walk_at "l") ?_
 ·walk_at "i"
  obtain⟨dr,sc,m,rfl,hm,d,k⟩:=h;have hr1:Room 1 _:=hr.mono (by decide);refine⟨_,Ag (An (Ah FI hr (by rfl) Aj (Aa (pv 0) (Aa (Ax G6 (Bk (Aa (pv 1) (Aa Af Ac)))
   (B7 G5 (by rfl) T.int (by rfl) (Aa (B6 Bg (Ah FP hr1 (by rfl) Aj (Aa (pv 0) (Aa Af Ac))) Af (Ar _)) Ac)) (λ_ _=>rfl)) Ac)))),?_⟩
  refine⟨_,rfl,_,rfl,by show 2<=sizeLine;decide,λt nt=>?_⟩;obtain⟨n1,n2⟩:=d.ne nt;refine⟨_,rfl,dr,sc,8,rfl,by decide,by decide,d.upd n1 n2,λg H4 _ _ d4 b4=>?_⟩;have b4:But dr (L2.upd H t (.tup [.int m,.int 14])) H4:=b4;have ht4:=b4 t _ Ab n1;have b04:But dr H H4:=But.trans ((But.refl dr H).upd nt) b4;have fin:∀mm:Nat,mm<=14->spIslandN [.ref dr,.int mm] H4 Q E0:=λmm hmm=>⟨dr,sc,mm,rfl,hmm,d4,λl row n st late H' nl hn hst hl hp h3 d' b'=>by
   obtain⟨xs,hd⟩:=d4.at;exact k l row n st late H' (b04.free hd nl) (Pd hn hmm) hst hl hp h3 d' (b04.trans b')⟩
  refine⟨rfl,.inr ⟨_,rfl,?_⟩⟩;cases decide (V.int g=V.int 1) with
  | true=>exact⟨t,_,_,_,rfl,rfl,SqT.of ht4,rfl,fin 14 (by decide)⟩
  | false=>exact⟨t,_,_,_,rfl,rfl,SqT.of ht4,rfl,fin m hm⟩
def Gx:FnScope NBr ["_law_row_here"] (defScope s__law_bars):=by walk_at "s"
def Xpp{f}{fd}(F:Fun K "_law_bars" "_law_bars" s__law_bars f fd)(T:Bl mg)(FW:Fn P w K mg base CX0 1 "_law_where" ["_law_row_here"] Nb)
  (FO:Fn P w K mg base CX0 1 "_law_word" ["_law_where_here", "_law_one_here", "_law_other"] spWord):FnOk P w K mg base CX0 2 f fd ["_law_row_here"] spBars:=by
 refine F.ok Gx (by walk_at "l") ?_
 ·walk_at "i"
  obtain⟨r,row,rfl,hR,R2,k⟩:=h;refine⟨_,Ae (Ao (i:=1) Gx.nd rfl (.inl rfl) (Ah FW hr (by rfl) Aj (Aa (pv 0) Ac)))
   (Ae (Ao (i:=2) Gx.nd rfl (.inl rfl) (Bh Ac))
   (Ae (C2 PassesOwn.never rfl (Bt (A2 (Xcf rfl) (by rfl) T.sorted (by rfl) (Aa (pv 1) Ac))) (Aw (i:=3) Gx.nd rfl (.inl rfl))
    (Ag (C2 PassesOwn.never rfl (Bt (A2 (Xcf rfl) (by rfl) T.sorted (by rfl) (Aa (pv 1) Ac))) (Aw (i:=4) Gx.nd rfl (.inl rfl))
     (Ae (Ao (i:=5) Gx.nd rfl (.inl rfl) (Ah FO hr (by rfl) Aj (Aa (pv 1) (Aa (pv 3) (Aa (pv 4) Ac)))))
     (Ag (A5 (Et (Av Bg (pv 5) Az (Ar _)) (Es (Ee (Av Bg (pv 5) Az (Ar _)) (Ed (Av Xar (pv 3) (pv 4) (Ar _)))).pt)).pt
      (Ag (Eu (G8 PySem.F.plainAttrs_list PySem.F.slot_list_append PySem.F.type_list_append G9 (pv 2) (Aa (Bk (Aa (pv 3) (Aa (pv 4) (Aa (pv 5) Ac)))) Ac)))) A8))))))
   (Ag (An (pv 2))))),?_⟩
  have hrl:=R2.len;have hdl:=D3 row;refine⟨_,rfl,r,row,rfl,hR,by omega,λd kvs H1 nd hd wh s1=>?_⟩;obtain⟨ss,hss,hsn,hsm⟩:=wh.names;have hsl:ss.length<=60:=by
   have h1:=congrArg List.length hss;rw[Oh,Oh] at h1;have:=wh.len;omega
  refine⟨by show 0<=sizeLine;decide,λu nu=>?_⟩;refine⟨_,rfl,d,kvs,ss,rfl,.inl (ku hd nu),hss,by omega,λsn ls nsn hp1 hs1=>?_⟩;rw[Xck hp1 hs1 hsn hsm];have hnu:∀{xs:List V},upd (upd H1 u (.lst [])) sn (.lst xs) u=some (.lst []):=λ{xs}=>ku Ab nsn;have s2:Same H1 (upd (upd H1 u (.lst [])) sn (.lst ((dit row).map V.str))):=((Same.refl H1).step nu).step nsn;have hsn2:upd (upd H1 u (.lst [])) sn (.lst ((dit row).map V.str)) sn=some (.lst ((dit row).map V.str)):=Ab;have nsu:sn≠u:=(Au (H:=upd H1 u (.lst [])) Ab nsn).symm;have hu2:upd (upd H1 u (.lst [])) sn (.lst ((dit row).map V.str)) u=some (.lst []):=hnu;generalize upd (upd H1 u (.lst [])) sn (.lst ((dit row).map V.str))=H2 at s2 hsn2 hu2;have hlq:∀(i j:Nat),i<=60->∀x,((Dj row i++Da row x ((dit row).take j)).map trD).length<=5000:=λi j hi x=>by
   rw[Oh,Oo];have h1:=Xlh row i;have h2:=Xds row x ((dit row).take j);rw[Ov] at h2;have h3:i * (dit row).length<=60 * 60:=Nat.mul_le_mul hi (by omega);omega
  have hbase:∀b o,H1 b=some o->hid u H2 b=some o:=λb o e=>Cr (s2 _ _ e) (Au e nu);refine⟨sn,rfl,⟨_,SqL.of hsn2⟩,?_⟩;refine Eg (K:=K) (a:=sn) (xs:=(dit row).map V.str) (λi Z H9=>∃v3 v4 v5, Z=[some (.ref r),some (.ref d),some (.ref u),v3,v4,v5]/\Same (hid u H2) H9/\∃xs,H9 u=some (.lst xs)/\DAll (hid u H9) ((Dj row i).map trD) xs) ?_ ?_ ?_ ?_
  ·exact⟨none,none,none,rfl,E1 u H2,[],hu2,D4⟩
  ·rintro i Z H9 _ ⟨v3,v4,v5,rfl,s9,_⟩;exact SqL.of (s9 _ _ (Cr hsn2 nsu))
  ·rintro i y Z H9 hi ⟨v3,v4,v5,rfl,s9,xs,hu9,hal⟩;have hil:i<(dit row).length:=by
    have:=(Oy.mp hi).1
    rwa [Oh] at this
   obtain⟨x,rfl,hx⟩:∃x,y=V.str x/\(dit row).getD i Str.empty=x:=by
    rw[Ox,Oi hil] at hi;exact⟨_,(O0 hi).symm,by simp[List.getD,hil]⟩
   have hxr:x∈row:=Ap.mp (by rw[<-hx];exact Cl hil);refine⟨_,rfl,d,kvs,ss,rfl,.inl (s9 _ _ (hbase _ _ hd)),hss,by omega,λsn2 ls2 nsn2 hp2 hs2=>?_⟩;rw[Xck hp2 hs2 hsn hsm];have s10:Same H9 (upd H9 sn2 (.lst ((dit row).map V.str))):=(Same.refl H9).step nsn2;have hsn10:upd H9 sn2 (.lst ((dit row).map V.str)) sn2=some (.lst ((dit row).map V.str)):=Ab;have nsu2:sn2≠u:=(Au hu9 nsn2).symm;generalize upd H9 sn2 (.lst ((dit row).map V.str))=H10 at s10 hsn10;have hal10:=DAll.same (Ia (D:=u) s10) _ _ hal;have hu10:=s10 _ _ hu9;have b10:=s9.trans s10;refine⟨sn2,rfl,⟨_,SqL.of hsn10⟩,?_⟩;refine Eg (K:=K) (a:=sn2) (xs:=(dit row).map V.str) (λj Z H11=>∃v4 v5, Z=[some (.ref r),some (.ref d),some (.ref u),some (.str x),v4,v5]/\Same (hid u H10) H11/\∃xs,H11 u=some (.lst xs)/\DAll (hid u H11) ((Dj row i++Da row x ((dit row).take j)).map trD) xs) ?_ ?_ ?_ ?_
   ·exact⟨v4,v5,rfl,E1 u H10,xs,hu10,by simpa [Da] using hal10⟩
   ·rintro j Z H11 _ ⟨v4,v5,rfl,s11,_⟩;exact SqL.of (s11 _ _ (Cr hsn10 nsu2))
   ·rintro j z Z H11 hj ⟨v4,v5,rfl,s11,xs,hu11,hal11⟩;have hjl:j<(dit row).length:=by
     have:=(Oy.mp hj).1
     rwa [Oh] at this
    obtain⟨y,rfl,hy⟩:∃x,z=V.str x/\(dit row).getD j Str.empty=x:=by
     rw[Ox,Oi hjl] at hj;exact⟨_,(O0 hj).symm,by simp[List.getD,hjl]⟩
    have hyr:y∈row:=Ap.mp (by rw[<-hy];exact Cl hjl);have c1:=R2.two x hxr;have c2:=R2.two y hyr;have bb:∀b o,H1 b=some o->H11 b=some o:=λb o e=>s11 _ _ (Cr (b10 _ _ (hbase b o e)) (Au e nu));obtain⟨l1,e1,g1⟩:=wh.two' hxr c1;obtain⟨l2,e2,g2⟩:=wh.two' hyr c2;refine⟨_,rfl,_,rfl,_,rfl,d,l1,l2,kvs,x,y,_,_,_,_,rfl,.inl (bb _ _ hd),e1,e2,bb _ _ g1,bb _ _ g2,λH12 s12=>?_⟩;rw[<-Gj c1 c2];have hu12:=s12 _ _ hu11;have hal12:=DAll.same (Ia (D:=u) s12) _ _ hal11;have b12:=s11.trans s12;have hps:=Xlg row x hjl;rw[hy] at hps;have stay:Cu row x y=false->∃v4 v5,[some (V.ref r),some (.ref d),some (.ref u),some (.str x),some (.str y),some (.str (lieR row x y))]=[some (.ref r),some (.ref d),some (.ref u),some (.str x),v4,v5]/\Same (hid u H10) H12/\∃xs,H12 u=some (.lst xs)/\DAll (hid u H12) ((Dj row i++Da row x ((dit row).take (j+1))).map trD) xs:=λhk=>by
     refine⟨_,_,rfl,b12,xs,hu12,?_⟩;rw[hps,hk,Tf O3,Ps];exact hal12
    have app:Cu row x y=true->Xae (tBM K "list" Lv (C0 2) (Ev (Ll (Ev (C0 3) (Ev (C0 4) (Ev (C0 5) F1)))) F1)) {nx:=fun Z H=>∃v4 v5, Z=[some (.ref r),some (.ref d),some (.ref u),some (.str x),v4,v5]/\Same (hid u H10) H/\∃xs,H u=some (.lst xs)/\DAll (hid u H) ((Dj row i++Da row x ((dit row).take (j+1))).map trD) xs,rt:=Q} [some (V.ref r),some (.ref d),some (.ref u),some (.str x),some (.str y),some (.str (lieR row x y))] H12:=λhk=>by
     refine⟨_,rfl,.inl ⟨rfl,_,SqL.of hu12⟩,_,rfl,_,rfl,_,rfl,by show 3<=sizeLine;decide,λp np=>?_⟩;have hxl:xs.length<=5000:=by
      rw[Gg hal12];exact hlq i j (by omega) x
     refine⟨u,_,_,rfl,rfl,ku hu12 np,by rw[Te];omega,?_⟩;refine⟨_,_,rfl,?_,xs++[.ref p],Ab,?_⟩
     ·intro b o e;have nb:b≠u:=λz=>by rw[z] at e;unfold hid at e;rw[Tg rfl] at e;cases e
      rw[Ad nb,Ad (Au (b12 _ _ e) np)];exact b12 _ _ e
     ·rw[Xc0,hps,hk,Tg rfl,<-Pg,Oq];refine Jz (DAll.same (Ia (D:=u) ((Same.refl H12).step np)) _ _ hal12) ?_;exact Xc1 hu12 np (Mx [x,y,lieR row x y])
    refine⟨_,rfl,rfl,_,rfl,?_⟩;rw[D7];refine A0 (λq1=>?_) (λq1=>?_)
    ·exact Bq (app (by unfold Cu;rw[q1];rfl))
    ·refine⟨_,rfl,rfl,_,rfl,?_⟩;rw[D7];refine A0 (λq2=>?_) (λq2=>?_)
     ·refine⟨_,rfl,_,rfl,_,_,rfl,rfl,_,rfl,?_⟩;refine A0 (λq3=>?_) (λq3=>?_)
      ·refine app ?_;unfold Cu;have q3':decide (ltS x y)=true:=q3;rw[q2,q3',Bool.and_self,S9]
      ·refine stay ?_;unfold Cu;have q3':decide (ltS x y)=false:=q3;rw[q1,q3',Sx,S6]
     ·refine Bp (stay ?_);unfold Cu;rw[q1,q2,P7,S6]
   ·rintro Z H11 ⟨v4,v5,rfl,s11,xs,hu11,hal11⟩;rw[Oh,Pt] at hal11;refine⟨_,_,_,rfl,λb o e=>?_,xs,hu11,?_⟩
    ·have nb:b≠u:=λz=>by rw[z] at e;unfold hid at e;rw[Tg rfl] at e;cases e
     exact s11 _ _ (Cr (b10 _ _ e) nb)
    ·rw[Xlf row hil,hx];exact hal11
  ·rintro Z H9 ⟨v3,v4,v5,rfl,s9,xs,hu9,hal⟩;rw[Oh,Xle] at hal;refine⟨_,rfl,k u xs H9 (s1.free nu) hu9 (DAll.same (E1 u H9) _ _ hal) (λb o e=>s9 _ _ (hbase _ _ (s1 _ _ e)))⟩
def K2:FnScope NFi ["_law_bars_here", "_law_plot"] (defScope s__law_fits):=by walk_at "s"
def Xpq{f}{fd}(F:Fun K "_law_fits" "_law_fits" s__law_fits f fd):FnOk P w K mg base CX0 1 f fd ["_law_bars_here", "_law_plot"] Nm:=by
 refine F.ok K2 (by walk_at "l") ?_
 ·walk_at "i"
  obtain⟨b,p,xs,bs,ss,rfl,hB,hal,hP,k⟩:=h;refine⟨_,Ae (C2 PassesOwn.never rfl (Bt (pv 0)) (Lb (n:=3) rfl (Cn (Aw (i:=2) K2.nd rfl (.inl rfl)) (Cn (Aw (i:=3) K2.nd rfl (.inl rfl)) (Cn (Aw (i:=4) K2.nd rfl (.inl rfl)) Fd))))
    (Ag (A5 (Ee (Av Jm (pv 2) (pv 1) (by rfl)) (Ed (Av F0 (B6 Jm (pv 3) (pv 1) (by rfl)) (B6 Bg (pv 4) Az (Ar _)) (Ar _)))).pt (Ag (An Dm)) A8)))
   (Ag (An Dm)),?_⟩
  refine⟨_,rfl,b,rfl,⟨_,SqL.of hB⟩,?_⟩;have hxl:xs.length=bs.length:=by rw[Gg hal,Oh]
  refine Eg (K:=K) (a:=b) (xs:=xs) (λi Z H2=>∃v2 v3 v4, Z=[some (.ref b),some (.ref p),v2,v3,v4]/\Same H H2/\C9 (bs.take i) ss=true) ?_ ?_ ?_ ?_
  ·exact⟨none,none,none,rfl,Same.refl H,rfl⟩
  ·rintro i Z H2 _ ⟨v2,v3,v4,rfl,s2,_⟩;exact SqL.of (s2 _ _ hB)
  ·rintro i y Z H2 hi ⟨v2,v3,v4,rfl,s2,hf⟩;have hil:i<xs.length:=(Oy.mp hi).1;have hib:i<bs.length:=by omega
   obtain⟨v,hv,dv⟩:=Mw hal (show (bs.map trD)[i]? = some (trD bs[i]) by rw[Ox,Oi hib];rfl);rw[hi] at hv;cases hv;obtain⟨q,rfl,hq⟩:=Xld dv;have htk:bs.take (i+1)=bs.take i++[bs[i]]:=O6 hib;generalize bs[i]=t at *;have hfs:C9 (bs.take (i+1)) ss = !(decide (t.1∈ss) && !decide (decide (t.2.1∈ss)=decide (t.2.2 = "within"))):=by
    rw[htk];unfold C9 at hf ⊢;rw[List.all_append,hf,Qg];simp
   have bad:(decide (t.1∈ss) && !decide (decide (t.2.1∈ss)=decide (t.2.2 = "within")))=true->C9 bs ss=false:=λhb=>by
    rw[Rg];intro z;have hz:C9 (bs.take (i+1)) ss=true:=by
     unfold C9 at z ⊢;rw[O9] at z ⊢;exact λx hx=>z x (Pp hx)
    rw[hfs,hb] at hz;cases hz
   refine⟨q,_,rfl,SqT.of (s2 _ _ hq),rfl,_,_,rfl,_,_,rfl,_,_,rfl,rfl,?_⟩;refine⟨_,rfl,_,rfl,p,_,rfl,.inr (SqT.of (s2 _ _ hP)),rfl,C8 ss,_,rfl,?_⟩;rw[Tf (by decide),Dg];refine A0 (λq1=>?_) (λq1=>?_)
   ·refine⟨_,rfl,_,rfl,p,_,rfl,.inr (SqT.of (s2 _ _ hP)),rfl,C8 ss,_,rfl,rfl,rfl,_,rfl,?_⟩;rw[Tf (by decide),Dg,D7];have eb:(!decide (V.bl (decide (t.2.1∈ss))=V.bl (decide (t.2.2 = "within")))) = !decide (decide (t.2.1∈ss)=decide (t.2.2 = "within")):=by
     congr 1;rw[Qe,decide_eq_true_eq,decide_eq_true_eq];exact⟨λz=>by injection z,λz=>by rw[z]⟩
    rw[eb];refine A0 (λq2=>?_) (λq2=>?_)
    ·have:=k H2 s2;rw[bad (by rw[q1,q2];rfl)] at this;exact this
    ·exact⟨_,_,_,rfl,s2,by rw[hfs,q1,q2];rfl⟩
   ·exact Bp ⟨_,_,_,rfl,s2,by rw[hfs,q1];rfl⟩
  ·rintro Z H2 ⟨v2,v3,v4,rfl,s2,hf⟩;rw[hxl,Pt] at hf;have:=k H2 s2;rw[hf] at this;exact this
def Db:FnScope NPl ["_law_row_here"] (defScope s__law_plots):=by walk_at "s"
def Xpr{f}{fd}(F:Fun K "_law_plots" "_law_plots" s__law_plots f fd)(T:Bl mg)(FFi:Fn P w K mg base CX0 1 "_law_fits" ["_law_bars_here", "_law_plot"] Nm)
  (FBr:Fn P w K mg base CX0 2 "_law_bars" ["_law_row_here"] spBars):FnOk P w K mg base CX0 3 f fd ["_law_row_here"] spPlotsO:=by
 refine F.ok Db (by walk_at "l") ?_
 ·walk_at "i"
  obtain⟨r,row,rfl,hR,R2,h3,h14,k⟩:=h;have hu4:_+4<cLine:=Sr (Nat.add_le_add_left (by decide:4<=64) _) hr.units;have hr1:Room 1 _:=hr.mono (by decide);have hr2:Room 2 _:=hr.mono (by decide);refine⟨_,Ae (Ao (i:=1) Db.nd rfl (.inl rfl) (Ah FBr hr2 (by rfl) Aj (Aa (pv 0) Ac)))
   (Ae (Ao (i:=2) Db.nd rfl (.inl rfl) (Nl (i:=0) rfl (by rfl) T.sorted (by rfl) T.set (pv 0)))
   (Ae (Ao (i:=3) Db.nd rfl (.inl rfl) (Bh (Aa (Bk Ac) Ac)))
   (Ae (Ao (i:=4) Db.nd rfl (.inl rfl) (Bh (Aa (Bk Ac) Ac)))
   (Ae (C2 PassesOwn.never rfl (G3 rfl T.range (Aa (A2 B9 (by rfl) T.len boot_len (Aa (pv 2) Ac)) Ac)) (Aw (i:=5) Db.nd rfl (.inl rfl))
    (Ae (Ao (i:=6) Db.nd rfl (.inl rfl) (Bh Ac))
    (Ae (C2 PassesOwn.never rfl (Bt (pv 4)) (Aw (i:=7) Db.nd rfl (.inl rfl))
     (Ag (C2 PassesOwn.never rfl (Bt (pv 2)) (Aw (i:=8) Db.nd rfl (.inl rfl))
      (Ae (Ao (i:=9) Db.nd rfl (.inl rfl) (B7 Jn (by rfl) T.tuple (by rfl) (Aa (A2 Xlw (by rfl) T.sorted (by rfl) (Aa (Ak Ib (pv 7) (Bk (Aa (pv 8) Ac))) Ac)) Ac)))
      (Ag (A5 (Ee (Av Lu (pv 8) (pv 7) (by rfl)) (Ed (Av (Xlx hu4) (pv 9) (pv 6) (by rfl)))).pt
       (Ag (Ao (i:=6) Db.nd rfl (.inl rfl) (Ak Bn (pv 6) (Ak Xba (Bh (Aa (pv 9) Ac)) (B7 G5 (by rfl) T.int (by rfl) (Aa (Ah FFi hr1 (by rfl) Aj (Aa (pv 1) (Aa (pv 9) Ac))) Ac))))))
       A8))))))
    (Ae (Ao (i:=4) Db.nd rfl (.inl rfl) (A2 Xl6 (by rfl) T.sorted (by rfl) (Aa (pv 6) Ac)))
    (Ag (Ao (i:=3) Db.nd rfl (.inl rfl) (Ak Bn (pv 3) (pv 4))))))))
   (Ag (An (pv 3))))))),?_⟩
  have hrl:=R2.len;have hdl:=D3 row;refine⟨_,rfl,r,row,rfl,hR,R2,λb xs0 H1 nb hb hall s1=>?_⟩;refine⟨_,rfl,r,row,rfl,.inl (SqL.of (s1 _ _ hR)),R2.len,λnl H2 nn hn2 s2=>?_⟩;have hb2:=s2 _ _ hb;have hall2:=DAll.same s2 _ _ hall;have s12:=s1.trans s2;refine⟨by show 0<=sizeLine;decide,λe1 ne1=>?_⟩;refine⟨by show 1<=sizeLine;decide,λtl0 ntl0=>?_⟩;refine⟨by show 0<=sizeLine;decide,λe2 ne2=>?_⟩;refine⟨by show 1<=sizeLine;decide,λly0 nly0=>?_⟩;generalize hH3:upd (upd (upd (upd H2 e1 (.tup [])) tl0 (.lst [.ref e1])) e2 (.tup [])) ly0 (.lst [.ref e2])=H3;have f1:Same H2 H3:=by
   rw[<-hH3];exact((((Same.refl H2).step ne1).step ntl0).step ne2).step nly0
  have ht3:H3 tl0=some (.lst ([e1].map V.ref)):=by
   rw[<-hH3];exact ku (ku Ab ne2) nly0
  have hy3:H3 ly0=some (.lst ([e2].map V.ref)):=by
   rw[<-hH3];exact Ab
  have hP1:Tups H3 [e1] [[]]:=Tups.cons (by rw[<-hH3];exact ku (ku (ku Ab ntl0) ne2) nly0) (Tups.nil _);have hP2:Tups H3 [e2] [[]]:=Tups.cons (by rw[<-hH3];exact ku Ab nly0) (Tups.nil _);have ntl:H tl0=none:=s12.free (((Same.refl H2).step ne1).free ntl0);clear hH3;have hn3:=f1 _ _ hn2;refine⟨_,rfl,nl,_,rfl,.inl (SqL.of hn3),(((dit row).map V.str).length:Int),rfl,by omega,by rw[Oh];omega,?_⟩;have hnn:(((dit row).map V.str).length:Int).toNat=(dit row).length:=by rw[Oh];simp
  rw[hnn];refine Jj (lo:=0) (n:=(dit row).length) (λi Z H4=>∃(v5 v6 v7 v8 v9:Option V) (tl ly:Addr) (ps qs:List Addr) (Vs Us:List (Zb)), Z=[some (.ref r),some (.ref b),some (.ref nl),some (.ref tl),some (.ref ly),v5,v6,v7,v8,v9]/\Same H3 H4/\H tl=none/\H4 tl=some (.lst (ps.map V.ref))/\H4 ly=some (.lst (qs.map V.ref))/\ps.length<=1+63 * i/\Tups H4 ps Vs/\Upto row i Vs/\Tups H4 qs Us/\SH.Lay row i Us) ?_ ?_ ?_
  ·exact⟨_,_,_,_,_,tl0,ly0,[e1],[e2],[[]],[[]],rfl,Same.refl _,ntl,ht3,hy3,by simp,hP1,Xoe row,hP2,Xof row⟩
  ·rintro i Z H4 hi ⟨v5,v6,v7,v8,v9,tl,ly,ps,qs,Vs,Us,rfl,s4,nt4,ht4,hy4,hpl,hPs,hVs,hQs,hUs⟩;refine⟨by show 0<=sizeLine;decide,λf0 nf0=>?_⟩;have g1:Same H4 (upd H4 f0 (.lst [])):=(Same.refl H4).step nf0;have hf0:Fresh row (upd H4 f0 (.lst [])) f0 [] []:=⟨Ab,rfl,.nil,λ_ h=>by cases h⟩;generalize upd H4 f0 (.lst [])=H5 at g1 hf0;have s35:=s4.trans g1;have hn5:=s35 _ _ hn3;have hb5:=s35 _ _ (f1 _ _ hb2);have ha5:=DAll.same s35 _ _ (DAll.same f1 _ _ hall2);have hQ5:=hQs.same g1;refine⟨_,rfl,ly,rfl,⟨_,SqL.of (g1 _ _ hy4)⟩,?_⟩;refine Eg (K:=K) (a:=ly) (xs:=qs.map V.ref) (λj Z H6=>∃(v7 v8 v9:Option V) (f:Addr) (xs:List V) (Ts:List (Zb)), Z=[some (.ref r),some (.ref b),some (.ref nl),some (.ref tl),some (.ref ly),some (.int (0+(i:Int))),some (.ref f),v7,v8,v9]/\Same H5 H6/\Fresh row H6 f xs Ts/\(∀T∈Ts,T.length=i+1)/\Cov row Us j Ts) ?_ ?_ ?_ ?_
   ·exact⟨_,_,_,f0,[],[],rfl,Same.refl _,hf0,(λ_ h=>by cases h),λj hj=>absurd hj (Qp _)⟩
   ·rintro j Z H6 _ ⟨v7,v8,v9,f,xs,Ts,rfl,s6,hf,hfl,hcv⟩;exact SqL.of (s6 _ _ (g1 _ _ hy4))
   ·rintro j y Z H6 hj ⟨v7,v8,v9,f,xs,Ts,rfl,s6,hf,hfl,hcv⟩;obtain⟨q,rfl,hjl,hqj⟩:∃q,y=V.ref q/\j<qs.length/\qs.getD j 0=q:=by
     rw[Ox] at hj;cases z:qs[j]? with
     | none=>rw[z] at hj;cases hj
     | some q=>rw[z] at hj;exact⟨q,(O0 hj).symm,(Oy.mp z).1,by simp[List.getD,z]⟩
    have hqs:=hQ5.2 j hjl;rw[hqj] at hqs;have hjU:j<Us.length:=by rw[<-hQ5.1];exact hjl
    have hUj:Us.getD j []∈Us:=by
     have:Us.getD j []=Us[j]:=by simp[List.getD,hjU]
     rw[this];exact Pa hjU
    obtain⟨hip,hil⟩:=(hUs.mem _).mp hUj;generalize hss:Us.getD j []=ss at hqs hip hil;have hssl:=Nv hip;obtain⟨hsr,hslt⟩:=Ep hip;refine⟨_,rfl,nl,rfl,⟨_,SqL.of (s6 _ _ hn5)⟩,?_⟩;refine Eg (K:=K) (a:=nl) (xs:=(dit row).map V.str) (λm Z H7=>∃(v8 v9:Option V) (f:Addr) (xs:List V) (Ts:List (Zb)), Z=[some (.ref r),some (.ref b),some (.ref nl),some (.ref tl),some (.ref ly),some (.int (0+(i:Int))),some (.ref f),some (.ref q),v8,v9]/\Same H5 H7/\Fresh row H7 f xs Ts/\(∀T∈Ts,T.length=i+1)/\Cov row Us j Ts/\∀m',m'<m->(dit row).getD m' Str.empty∉ss->Am row (srt (ss++[(dit row).getD m' Str.empty]))=true->srt (ss++[(dit row).getD m' Str.empty])∈Ts) ?_ ?_ ?_ ?_
    ·exact⟨_,_,f,xs,Ts,rfl,s6,hf,hfl,hcv,λm' hm'=>absurd hm' (Qp _)⟩
    ·rintro m Z H7 _ ⟨v8,v9,f,xs,Ts,rfl,s7,hf,hfl,hcv,hcm⟩;exact SqL.of (s7 _ _ hn5)
    ·rintro m y Z H7 hm ⟨v8,v9,f,xs,Ts,rfl,s7,hf,hfl,hcv,hcm⟩;obtain⟨x,rfl,hx,hxm⟩:∃x,y=V.str x/\x∈row/\(dit row).getD m Str.empty=x:=by
      rw[Ox] at hm;cases z:(dit row)[m]? with
      | none=>rw[z] at hm;cases hm
      | some x=>rw[z] at hm;exact⟨x,(O0 hm).symm,Ap.mp (Qk z),by simp[List.getD,z]⟩
     have step:∀Ts':List (Zb),(∀T∈Ts,T∈Ts')->(x∉ss->Am row (srt (ss++[x]))=true->srt (ss++[x])∈Ts')->∀m',m'<m+1->(dit row).getD m' Str.empty∉ss->Am row (srt (ss++[(dit row).getD m' Str.empty]))=true->srt (ss++[(dit row).getD m' Str.empty])∈Ts':=λTs' sub new m' hm' a1 a2=>by
      by_cases e:m'=m
      ·subst e;rw[hxm] at a1 a2 ⊢;exact new a1 a2
      ·exact sub _ (hcm m' (by omega) a1 a2)
     refine⟨_,rfl,_,rfl,by show 1<=sizeLine;decide,λt1 nt1=>?_⟩;have s8:Same H5 (upd H7 t1 (.tup [.str x])):=s7.step nt1;have k78:Same H7 (upd H7 t1 (.tup [.str x])):=(Same.refl H7).step nt1;refine⟨q,t1,_,_,rfl,rfl,s8 _ _ hqs,Ab,by rw[Oh,Te];show ss.length+1<=_;omega,λp1 H9 s9 hp1=>?_⟩;have hp1':H9 p1=some (.tup ((ss++[x]).map V.str)):=by rw[hp1,Oq];rfl
     refine⟨p1,_,rfl,hp1',by rw[Oo];show ss.length+1<64;omega,λl2 nl2=>?_⟩;refine⟨l2,_,rfl,.inl ⟨SqL.of Ab,λov nov=>?_⟩⟩;have k7:Same H7 (upd (upd H9 l2 (.lst ((srt (ss++[x])).map V.str))) ov (.tup ((srt (ss++[x])).map V.str))):=((k78.trans s9).step nl2).step nov;have hov:upd (upd H9 l2 (.lst ((srt (ss++[x])).map V.str))) ov (.tup ((srt (ss++[x])).map V.str)) ov=some (.tup ((srt (ss++[x])).map V.str)):=Ab;generalize upd (upd H9 l2 (.lst ((srt (ss++[x])).map V.str))) ov (.tup ((srt (ss++[x])).map V.str))=HA at k7 hov;have s5A:=s7.trans k7;have hfA:=hf.same k7;have okr:∀y∈srt (ss++[x]),okN y:=λy hy=>by
      rcases Op.mp (Gc.mp hy) with z | z
      ·exact R2.ok y (hsr y z)
      ·rw[Om.mp z];exact R2.ok x hx
     have okT:∀T∈Ts,∀y∈T,okN y:=λT hT y hy=>R2.ok y ((Ep (hf.ok T hT).2).1 y hy);have dep:PyData.depth (tupD (srt (ss++[x])))<=3:=by
      have:=Xdo (srt (ss++[x])) (srt (ss++[x]))
      rwa [Nat.min_self] at this
     have xsl:xs.length=Ts.length:=by rw[Gg hfA.all,Oh]
     have hlt:=Nq R2.two h3 h14 hf.nd hf.ok;dsimp only[A6];refine⟨_,rfl,_,rfl,q,_,rfl,.inr (SqT.of (s5A _ _ hqs)),rfl,C8 ss,_,rfl,?_⟩;rw[Tg rfl,Dg];refine A0 (λhc=>?_) (λhc=>Bp ⟨_,_,f,xs,Ts,rfl,s5A,hfA,hfl,hcv,step Ts (λ_ h=>h) λz=>absurd (by simpa using hc) z⟩);have hxs:x∉ss:=by simpa using hc
     refine⟨_,rfl,_,rfl,tupD (srt (ss++[x])),Ts.map tupD,En hov,J3 hfA.at' hfA.all,Cb _ (Em okr),Gh _ (plainAll_map tupD Ts λT hT=>Em (okT T hT)),dep,_,rfl,?_⟩;refine A0 (λhd=>?_) (λhd=>⟨_,_,f,xs,Ts,rfl,s5A,hfA,hfl,hcv,step Ts (λ_ h=>h) λ_ _=>?_⟩);rotate_left
     ·have hd:((Ts.map tupD).any λe=>PyData.eqv e (tupD (srt (ss++[x]))))=true:=by simpa using hd
      rw[Qu] at hd;obtain⟨e,he,hq⟩:=hd;obtain⟨T,hT,rfl⟩:=O5.mp he;have hq:PyData.eqv (.tuple (T.map PyData.str)) (.tuple ((srt (ss++[x])).map PyData.str))=true:=hq;rw[Ij (okT T hT) okr] at hq;rw[<-Tj hq];exact hT
     have hnew:srt (ss++[x])∉Ts:=λhm=>by
      have:((Ts.map tupD).any λe=>PyData.eqv e (tupD (srt (ss++[x]))))=true:=by
       rw[Qu];refine⟨_,O5.mpr ⟨_,hm,rfl⟩,?_⟩;show PyData.eqv (.tuple _) (.tuple _)=true;rw[Ij okr okr];exact Th rfl
      rw[this] at hd;exact absurd hd (by decide)
     refine⟨_,rfl,_,rfl,by show 1<=sizeLine;decide,λc nc=>?_⟩;have kA:Same HA (upd HA c (.lst [.ref ov])):=(Same.refl HA).step nc;refine⟨_,rfl,_,rfl,b,ov,xs0,bars row,srt (ss++[x]),rfl,kA _ _ (s5A _ _ hb5),DAll.same kA _ _ (DAll.same s5A _ _ ha5),kA _ _ hov,λHB sB=>?_⟩;have hcB:=sB _ _ (show upd HA c (.lst [.ref ov]) c=_ from Ab);refine .inr ⟨_,rfl,?_⟩;cases hfit:C9 (bars row) (srt (ss++[x])) with
     | false=>
      refine⟨c,_,_,rfl,rfl,hcB,by simp,by simp,by simp,λc2 nc2=>?_⟩;have e0:(if True then (List.replicate ((if (false:Bool)=true then (1:Int) else 0)).toNat [V.ref ov]).flatten else ([]:List V))=[]:=by simp
      have kB:Same HA (upd HB c2 (.lst [])):=(kA.trans sB).step nc2;refine⟨f,c2,xs,[],rfl,rfl,kB _ _ hfA.at',Ab,by rw[Te];simp;omega,λg ng=>?_⟩;have kC:Same HA (upd (upd HB c2 (.lst [])) g (.lst (xs++[]))):=kB.step ng;refine⟨_,_,g,xs++[],Ts,rfl,s5A.trans kC,⟨Ab,?_,hf.nd,hf.ok⟩,hfl,hcv,step Ts (λ_ h=>h) λ_ z=>absurd ((Xnd R2.two z).symm.trans hfit) (by decide)⟩;exact(congrArg (DAll _ _) (Ps xs)).mpr (DAll.same kC _ _ hfA.all)
     | true=>
      refine⟨c,_,_,rfl,rfl,hcB,by simp,by simp,by show 1 * 1<=sizeLine;decide,λc2 nc2=>?_⟩;have kB:Same HA (upd HB c2 (.lst [V.ref ov])):=(kA.trans sB).step nc2;refine⟨f,c2,xs,[V.ref ov],rfl,rfl,kB _ _ hfA.at',Ab,by rw[Te];simp;omega,λg ng=>?_⟩;have kC:Same HA (upd (upd HB c2 (.lst [V.ref ov])) g (.lst (xs++[V.ref ov]))):=kB.step ng;refine⟨_,_,g,xs++[V.ref ov],Ts++[srt (ss++[x])],rfl,s5A.trans kC,⟨Ab,?_,?_,?_⟩,?_,λi' hi' z hz a1 a2=>P2 _ (hcv i' hi' z hz a1 a2),step _ (λ_ h=>P2 _ h) λ_ _=>by simp⟩
      ·rw[Oq];exact Jz (DAll.same kC _ _ hfA.all) (En (kC _ _ hov))
      ·rw[Qi];exact⟨hf.nd,by simp,λa ha b hb e=>hnew (by rw[Om.mp hb] at e;exact e ▸ ha)⟩
      ·intro T hT;rcases Op.mp hT with z | z
       ·exact hf.ok T z
       ·rw[Om.mp z];exact⟨Xlz,Xly R2.two hip hx hxs hfit⟩
      ·intro T hT;rcases Op.mp hT with z | z
       ·exact hfl T z
       ·rw[Om.mp z,(Cq _).length_eq,Oo,hil];rfl
    ·rintro Z H7 ⟨v8,v9,f,xs,Ts,rfl,s7,hf,hfl,hcv,hcm⟩;refine⟨_,_,_,f,xs,Ts,rfl,s7,hf,hfl,λi' hi' z hz a1 a2=>?_⟩;by_cases e:i'=j
     ·subst e;rw[hss] at a1 a2 ⊢;obtain⟨m',hm',e'⟩:=Po.mp (Ap.mpr hz);have e2:(dit row).getD m' Str.empty=z:=by rw[<-e'];simp[List.getD,hm']
      have:=hcm m' (by rw[Oh];exact hm');rw[e2] at this;exact this a1 a2
     ·exact hcv i' (by omega) z hz a1 a2
   ·rintro Z H6 ⟨v7,v8,v9,f,xs,Ts,rfl,s6,hf,hfl,hcv⟩;have hlt:=Nq R2.two h3 h14 hf.nd hf.ok;obtain⟨fs,rfl,hfs⟩:=N5 hf.all;have hfl0:=hfs.1;refine⟨_,rfl,f,fs,Ts,rfl,hf.at',hfs,λz=>(hf.ok _ z).1 rfl,hf.nd,by omega,λly' fs' Ts' nly' hfs' hpm hpw=>?_⟩;have g6:Same H6 (upd H6 ly' (.lst (fs'.map V.ref))):=(Same.refl H6).step nly';have s46:=(g1.trans s6).trans g6;rw[Oh,hQ5.1] at hcv;have hL':=Xod R2.two hUs hcv (λT hT=>⟨(hf.ok T hT).2,hfl T hT⟩) hpm hpw;have hP':=hfs'.same g6;have hly':upd H6 ly' (.lst (fs'.map V.ref)) ly'=some (.lst (fs'.map V.ref)):=Ab;generalize upd H6 ly' (.lst (fs'.map V.ref))=H8 at g6 s46 hP' hly';have hfl1:=hfs'.1;have hfl':=hpm.length_eq;refine⟨_,rfl,_,rfl,tl,ly',_,_,rfl,rfl,s46 _ _ ht4,hly',by rw[Oh,Oh,Te];omega,λtl' ntl'=>?_⟩;have g8:Same H8 (upd H8 tl' (.lst (ps.map V.ref++fs'.map V.ref))):=(Same.refl H8).step ntl';have e8:upd H8 tl' (.lst (ps.map V.ref++fs'.map V.ref)) tl'=some (.lst ((ps++fs').map V.ref)):=by rw[Ab,Oq]
    refine⟨_,_,_,_,_,tl',ly',ps++fs',fs',Vs++Ts',Ts',rfl,(s4.trans s46).trans g8,?_,e8,g8 _ _ hly',by rw[Oo];omega,(hPs.same (s46.trans g8)).app (hP'.same g8),hVs.next hL',hP'.same g8,hL'⟩;exact s12.free (f1.free (s4.free (s46.free ntl')))
  ·rintro Z H4 ⟨v5,v6,v7,v8,v9,tl,ly,ps,qs,Vs,Us,rfl,s4,nt4,ht4,hy4,hpl,hPs,hVs,hQs,hUs⟩;exact⟨_,rfl,k tl ps Vs H4 nt4 ht4 hPs hVs.all ((s12.trans f1).trans s4)⟩
abbrev NKt:Zb:=["_law_row_here", "_law_crowd", "_law_told", "_law_name", "_law_banks"]
abbrev NKt1:Zb:=["_law_plot", "_law_name"]
def K3:FnScope NKt ["_law_row_here", "_law_crowd"] (defScope s__law_kept):=by walk_at "s"
def Xps{f}{fd}(F:Fun K "_law_kept" "_law_kept" s__law_kept f fd)(B:Bl mg):FnOk P w K mg base CX0 1 f fd ["_law_row_here", "_law_crowd"] Ob:=by
 refine F.ok K3 (by walk_at "l") ?_
 ·walk_at "i"
  obtain⟨r,c,row,ps,Ts,rfl,hR,R2,hc,hT,hpl,ne,k⟩:=h;refine⟨_,Ae (Ao (i:=2) K3.nd rfl (.inl rfl) (Bh Ac))
   (Ae (C2 PassesOwn.never rfl (Bt (Nl (i:=0) rfl (by rfl) B.sorted (by rfl) B.set (pv 0))) (Aw (i:=3) K3.nd rfl (.inr rfl))
    (Ae (Hx (i:=4) (N:=NKt1) (cap:=[none,some 3]) (CompScope.of (defScope s__law_kept) NKt rfl rfl rfl (by decide +kernel)) rfl K3.nd rfl rfl (Bt (pv 1)) (λ_ _ _=>Aw (i:=0) (show NKt1.Nodup by decide +kernel) rfl (.inl rfl) (.inr rfl)) (λ_ _ _=>Ce)
     (λ_ _ _=>Ax (Df K (by rfl)) (Bk (Aa Az (Aa Az Ac))) (B7 G5 (by rfl) B.int (by rfl) (Aa (B6 (Hu K (by rfl)) (pv 1) (pv 0) (by rfl)) Ac)) (λ_ _=>rfl)))
    (Ag (A5 (Av Bg (Nk K (by rfl) PySem.F.plainAttrs_list PySem.F.slot_list_count PySem.F.type_list_count Xc3 (pv 4) (Aa (Ax Bd (pv 4) Af (λ_ _=>rfl)) Ac)) (A2 B9 (by rfl) B.len boot_len (Aa (pv 4) Ac)) (Ar _))
     (Ag (Eu (G8 PySem.F.plainAttrs_list PySem.F.slot_list_append PySem.F.type_list_append G9 (pv 2) (Aa (Bk (Aa (pv 3) (Aa (Ax Bd (pv 4) Af (λ_ _=>rfl)) Ac))) Ac)))) A8))))
   (Ag (An (pv 2)))),?_⟩
  have hrl:=R2.len;have hdl:=D3 row;refine⟨by show 0<=sizeLine;decide,λu nu=>?_⟩;have s1:Same H (upd H u (.lst [])):=(Same.refl H).step nu;have hu1:upd H u (.lst []) u=some (.lst []):=Ab;dsimp only[A6];generalize upd H u (.lst [])=H1 at s1 hu1;refine⟨_,rfl,r,row,rfl,.inl (SqL.of (s1 _ _ hR)),R2.len,λnl H2 nnl hnl s2=>?_⟩;have hu2:=s2 _ _ hu1;have s02:=s1.trans s2;have nlu:nl≠u:=(Au hu1 nnl).symm;have base2:∀b o,H b=some o->hid u H2 b=some o:=λb o e=>Cr (s02 _ _ e) (Au e nu);have hnl2:hid u H2 nl=some (.lst ((dit row).map V.str)):=Cr hnl nlu;refine⟨nl,rfl,⟨_,SqL.of hnl⟩,?_⟩;refine Eg (K:=K) (a:=nl) (xs:=(dit row).map V.str) (λi Z H4=>(∃v3 v4, Z=[some (.ref r),some (.ref c),some (.ref u),v3,v4])/\Same (hid u H2) H4/\∃qs:List Addr,H4 u=some (.lst (qs.map V.ref))/\Tups H4 qs ((Fv ((dit row).take i) Ts).map pr2)) ?_ ?_ ?_ ?_
  ·exact⟨⟨_,_,rfl⟩,E1 u H2,[],hu2,Tups.nil _⟩
  ·rintro i Z H4 _ ⟨⟨v3,v4,rfl⟩,s4,_⟩;exact SqL.of (s4 _ _ hnl2)
  ·rintro i v Z H4 hi ⟨⟨v3,v4,rfl⟩,s4,qs,hu4,ht4⟩;obtain⟨x,rfl,hx1⟩:=Xob hi;have hlt:i<(dit row).length:=(Oy.mp hx1).1;have htk:(dit row).take (i+1)=(dit row).take i++[x]:=by
    rw[List.take_succ,hx1];rfl
   have bb:∀b o,H b=some o->H4 b=some o:=λb o e=>s4 _ _ (base2 b o e);have hc4:=bb _ _ hc;have hT4:Tups H4 ps Ts:=⟨hT.1,λj hj=>bb _ _ (hT.2 j hj)⟩;refine⟨_,rfl,c,rfl,⟨_,SqL.of hc4⟩,?_⟩;refine Ju (n:=ps.length) (by rw[Te];omega) (λj=>.ref (ps.getD j 0)) (λj=>.str (bk (Ts.getD j []) x)) ?_ ?_ ?_ ?_
   ·intro j H5 hj s5;have:=C6 (K:=K) (SqL.of (s5 _ _ hc4)) (by rw[Oh];exact hj);rw[Bu V.ref 0 ps hj] at this;exact this
   ·intro H5 s5;have:=C7 (K:=K) (SqL.of (s5 _ _ hc4))
    rwa [Oh] at this
   ·intro j H5 Q' hj s5 kk;have hp5:=s5 _ _ (hT4.2 j hj);generalize Ts.getD j []=S at hp5 kk;refine⟨by show 2<=sizeLine;decide,λt nt=>?_⟩;have s6:Same H5 (upd H5 t (.tup [.str "home",.str "off"])):=(Same.refl H5).step nt;have ht6:upd H5 t (.tup [.str "home",.str "off"]) t=some (.tup [.str "home",.str "off"]):=Ab;dsimp only;generalize upd H5 t (.tup [.str "home",.str "off"])=H6 at s6 ht6;refine⟨_,rfl,_,rfl,ps.getD j 0,_,rfl,.inr (SqT.of (s6 _ _ hp5)),rfl,C8 S,.inr ⟨_,rfl,?_⟩⟩;have ei:(if false=true then !inV (.str x) (S.map V.str) else inV (.str x) (S.map V.str))=decide (x∈S):=by rw[Tf (by decide),Dg]
    rw[ei];have hat:atI [V.str "home",V.str "off"] (if decide (x∈S)=true then (1:Int) else 0)=some (.str (bk S x)):=by
     unfold bk;by_cases z:x∈S
     ·rw[Th z,Tg rfl,Tg z];rfl
     ·rw[Ti z,Tf (by decide),Tf z];rfl
    exact⟨t,_,_,_,rfl,rfl,SqT.of ht6,hat,kk H6 s6⟩
   ·intro D H5 nD s5 hD;have eL:(List.range ps.length).map (λj=>V.str (bk (Ts.getD j []) x))=(Ts.map λS=>bk S x).map V.str:=by
     rw[hT.1];have:=Ct [] (λ_=>true) Ts;rw[Pi.mpr (λ_ _=>rfl),Pi.mpr (λ_ _=>rfl)] at this;have q:=congrArg (List.map λS=>V.str (bk S x)) this;rw[Pj] at q;rw[Pj];exact q
    rw[eL] at hD;have hl0:0<Ts.length:=So.mpr ne;have hat0:atI ((Ts.map λS=>bk S x).map V.str) 0=some (.str (bk (Ts.headD []) x)):=by
     cases Ts with
     | nil=>exact absurd rfl ne
     | cons S r=>exact Dz (j:=0) rfl
    have hu5:=s5 _ _ hu4;have ht5:=ht4.same s5;dsimp only[A6];refine⟨_,rfl,.inl ⟨rfl,_,SqL.of hD⟩,_,rfl,D,_,_,_,rfl,rfl,SqL.of hD,hat0,D,_,_,rfl,rfl,hD,rfl,C8 _,?_⟩;refine⟨_,rfl,D,_,rfl,.inl (SqL.of hD),rfl,_,rfl,?_⟩;have eb:decide (V.int (((Ts.map λS=>bk S x).map V.str).countP (λz=>eqV z (.str (bk (Ts.headD []) x))):Nat)=V.int (((Ts.map λS=>bk S x).map V.str).length:Nat))=decide ((A9 Ts x).length=1):=by
     rw[Xfk,Oh,Oh];refine decide_eq_decide.mpr ?_;rw[<-Xn9 ne x];exact⟨λh=>by injection h with h;exact Int.ofNat.inj h,λh=>by rw[h]⟩
    rw[eb];refine A0 (λq=>?_) (λq=>?_)
    ·have h1:=Tj q;refine⟨_,rfl,.inl ⟨rfl,_,SqL.of hu5⟩,_,rfl,_,rfl,D,_,_,_,rfl,rfl,SqL.of hD,hat0,by show 2<=sizeLine;decide,λp np=>?_⟩;have hql:qs.length<=60:=by
      have:=ht4.1;rw[Oh] at this;have h2:(Fv ((dit row).take i) Ts).length<=i:=by
       unfold Fv;rw[Oh];exact Pd (Pn ..) (by rw[Ov];omega)
      omega
     refine⟨u,_,_,rfl,rfl,ku hu5 np,by rw[Oh,Te];omega,?_⟩;have hu6:upd H5 p (.tup [.str x,.str (bk (Ts.headD []) x)]) u=some (.lst (qs.map V.ref)):=ku hu5 np;have hp6:upd H5 p (.tup [.str x,.str (bk (Ts.headD []) x)]) p=some (.tup ((pr2 (x,bk (Ts.headD []) x)).map V.str)):=Ab;have s6:Same H5 (upd H5 p (.tup [.str x,.str (bk (Ts.headD []) x)])):=(Same.refl H5).step np;dsimp only;generalize upd H5 p (.tup [.str x,.str (bk (Ts.headD []) x)])=H6 at hu6 hp6 s6;have keep:∀b w,H6 b=some (.tup w)->upd H6 u (.lst (qs.map V.ref++[.ref p])) b=some (.tup w):=λb w e=>by
      rw[Ad (λz=>by rw[z,hu6] at e;cases e)];exact e
     refine⟨⟨_,_,rfl⟩,λb o e=>?_,qs++[p],by rw[Ab,Oq];rfl,?_⟩
     ·have nb:b≠u:=λz=>by rw[z] at e;unfold hid at e;rw[Tg rfl] at e;cases e
      rw[Ad nb];exact s6 _ _ (s5 _ _ (s4 _ _ e))
     ·rw[htk,Xfj,Tg h1,Xoa ne h1,Oq];exact Tups.app ⟨ht5.1,λj hj=>keep _ _ (s6 _ _ (ht5.2 j hj))⟩ (Tups.cons (keep _ _ hp6) (Tups.nil _))
    ·refine⟨⟨_,_,rfl⟩,s4.trans s5,qs,hu5,?_⟩;rw[htk,Xfj,Tf (Tk q),Ps];exact ht5
  ·rintro Z H4 ⟨⟨v3,v4,rfl⟩,s4,qs,hu4,ht4⟩;rw[Oh,Pt,Xn7] at ht4;exact⟨_,rfl,k u qs H4 nu hu4 ht4 λb o e=>s4 _ _ (base2 b o e)⟩
def Xpt:FnScope ["_law_draw", "_law_some"] ["_law_draw", "_law_some"] (defScope s__law_one):=by walk_at "s"
def Xpu{f}{fd}(F:Fun K "_law_one" "_law_one" s__law_one f fd)(T:Bl mg)(FP:FnPick P w K mg base):FnOk P w K mg base CX0 2 f fd ["_law_draw", "_law_some"] spOne:=by
 refine F.ok Xpt (by walk_at "l") ?_
 ·walk_at "i"
  obtain⟨dr,sc,l,xs,rfl,d,hl,nld,h0,h1,k⟩:=h;have hr1:Room 1 _:=hr.mono (by decide);refine⟨_,Ag (An (Ax Bd (pv 1) (Ah FP hr1 (by rfl) Aj (Aa (pv 0) (Aa (A2 B9 (by rfl) T.len boot_len (Aa (pv 1) Ac)) Ac))) (λ_ _=>rfl))),?_⟩;refine⟨_,rfl,_,rfl,_,rfl,l,_,rfl,.inl (SqL.of hl),dr,sc,_,rfl,by omega,by omega,d,λgi H4 g0 g1 d4 b4=>?_⟩;have b4:But dr H H4:=b4;obtain⟨gi,rfl⟩:=Pl g0;have hgi:gi<xs.length:=by omega
  have hat:atI xs (gi:Int)=some (xs.getD gi .non):=Dz (by rw[Oi hgi];simp[List.getD,hgi]);exact⟨l,_,_,_,rfl,rfl,SqL.of (b4 _ _ hl nld),hat,k gi H4 hgi d4 b4⟩
def Xpv:FnScope ["_law_draw", "_law_some"] ["_law_draw", "_law_some"] (defScope s__law_few):=by walk_at "s"
def Xpw{f}{fd}(F:Fun K "_law_few" "_law_few" s__law_few f fd)(B:Bl mg)(FP:FnPick P w K mg base)(FO:Fn P w K mg base CX0 2 "_law_one" ["_law_draw", "_law_some"] spOne):FnOk P w K mg base CX0 3 f fd ["_law_draw", "_law_some"] spFew:=by
 refine F.ok Xpv (by walk_at "l") ?_
 ·walk_at "i"
  obtain⟨dr,sc,l,ps,rfl,d,hl,nld,h0,h1,k⟩:=h;have hr1:Room 1 _:=hr.mono (by decide);refine⟨_,Ag (An (Dh (N:=NFw) (cap:=[none,some 0,some 1]) (CompScope.of (defScope s__law_few) ["_law_draw", "_law_some"] rfl rfl rfl (by decide +kernel)) rfl
   (G3 (by rfl) B.range (Aa (Ak Bw Af (Ah FP hr1 (by rfl) Aj (Aa (pv 0) (Aa Af Ac)))) Ac)) (λ_ _ _=>Aw (i:=0) (show NFw.Nodup by decide +kernel) rfl (.inl rfl) (.inr rfl)) (λ_ _ _=>Ce)
   (λ_ _ _=>Ah (by exact FO) (by exact hr) (by rfl) Aj (Aa (pv 1) (Aa (pv 2) Ac))))),?_⟩
  refine⟨_,rfl,dr,sc,4,rfl,by decide,by decide,d,λm H1 m0 m1 d1 b1=>?_⟩;have b1:But dr H H1:=b1;obtain⟨m,rfl⟩:=Pl m0;refine⟨1,(m:Int),rfl,rfl,_,rfl,by omega,by omega,?_⟩;have hn:((1:Int)+(m:Int)).toNat=1+m:=by omega
  rw[hn];have hl1:=b1 _ _ hl nld;refine Xjy (n:=1+m) (λi=>.int (0+(i:Int))) (λD i Z2 H2=>(∃v, Z2=[v,some (.ref dr),some (.ref l)])/\DrawOk H2 dr sc/\But dr H1 H2/\∃qs:List Addr,H2 D=some (.lst (qs.map V.ref))/\qs.length=i/\∀q∈qs,q∈ps) ?_ ?_ ?_ ?_ ?_
  ·intro D hD;obtain⟨n1,n2⟩:=d1.ne hD;exact⟨⟨_,rfl⟩,d1.upd n1 n2,(But.refl dr H1).upd hD,[],Ab,rfl,λq hq=>by simp at hq⟩
  ·rintro D i Z2 H2 hD hi _;refine⟨hi,λx H3 y=>?_⟩;obtain⟨e1,e2⟩:=y;exact⟨e1,e2⟩
  ·rintro D Z2 H2 hD _;exact Oj _
  ·rintro D i Z2 H2 hD hi ⟨⟨v,rfl⟩,d2,b2,qs,hq,hl2,hm⟩;obtain⟨n1,n2⟩:=d1.ne hD;have nlD:l≠D:=Au hl1 hD;refine⟨_,rfl,_,rfl,dr,sc,l,_,rfl,d2,b2 _ _ hl1 nld,nld,by rw[Oh];exact h0,by rw[Oh];exact h1,λgi H3 hgi d3 b3=>?_⟩;have b3:But dr H2 H3:=b3;rw[Oh] at hgi;rw[Bu V.ref 0 ps hgi];have hq3:=b3 _ _ hq n1;refine wput hi hq3 (by rw[Oh,Te];omega) ⟨⟨_,rfl⟩,d3.upd n1 n2,λb o e n=>?_,qs++[ps.getD gi 0],by rw[Ab,Oq];rfl,by rw[Oo,hl2];rfl,λq hq=>?_⟩
   ·rw[Ad (Au e hD)];exact b3 _ _ (b2 _ _ e n) n
   ·rcases Op.mp hq with z | z
    ·exact hm q z
    ·rw[Om.mp z];have:ps.getD gi 0=ps[gi]:=by simp[List.getD,hgi]
     rw[this];exact Pa hgi
  ·rintro D Z2 H2 hD ⟨_,d2,b2,qs,hq,hl2,hm⟩;obtain⟨xs,hdr⟩:=d1.at;exact k D qs H2 (b1.free hdr hD) hq hm (by omega) (by omega) d2 (b1.trans b2)
def Xpx:FnScope ["_law_row_here"] ["_law_row_here"] (defScope s__law_stranger):=by walk_at "s"
def Xpy{f}{fd}(F:Fun K "_law_stranger" "_law_stranger" s__law_stranger f fd):FnOk P w K mg base CX0 1 f fd ["_law_row_here"] J9:=by
 refine F.ok Xpx (by walk_at "l") ?_
 ·walk_at "i"
  obtain⟨r,row,rfl,hR,hl,k⟩:=h;have hu:=C4 hr;refine⟨_,Ag (An (G2 (Av (Xbv (Sa hu)) (pv 0) (Bh Ac) (Ar _))
   (Ak Jk (Bm Xjr (Ax Bd (pv 0) Af (λ_ _=>rfl)) Bo (Bi Af)) Az) Az)),?_⟩
  refine⟨_,rfl,by show 0<=sizeLine;decide,λp np=>?_⟩;have s1:Same H (upd H p (.lst [])):=(Same.refl H).step np;refine⟨r,p,_,_,rfl,rfl,SqL.of (s1 _ _ hR),SqL.of Ab,J7 row,by simp,_,rfl,?_⟩;have e:Ca (row.map V.str) []=decide (row=[]):=Mc row [];rw[e];cases row with
  | nil=>exact k _ s1
  | cons y r'=>
   refine Bq ?_;refine⟨_,rfl,r,_,_,_,rfl,rfl,SqL.of (s1 _ _ hR),(show atI ((y::r').map V.str) ((0:Nat):Int)=some (.str y) from Dz rfl),_,rfl,y,rfl,rfl,⟨_,rfl⟩,by have:=hl y Os;omega,?_⟩;refine⟨_,_,rfl,rfl,?_,k _ s1⟩;have h1:=Txt.slice_le y none (some 7);have h2:=hl y Os;have h3:(Str.ofString "q").length=1:=rfl;rw[Te,h3];omega
def Fw:FnScope NOk ["_law_draw", "_law_row_here", "_law_kept_here"] (defScope s__law_odd_kept):=by walk_at "s"
def Xpz{f}{fd}(F:Fun K "_law_odd_kept" "_law_odd_kept" s__law_odd_kept f fd)(B:Bl mg)(FP:FnPick P w K mg base)(FS:Fn P w K mg base CX0 1 "_law_stranger" ["_law_row_here"] J9)
  (FO:Fn P w K mg base CX0 2 "_law_one" ["_law_draw", "_law_some"] spOne):FnOk P w K mg base CX0 3 f fd ["_law_draw", "_law_row_here", "_law_kept_here"] spOddK:=by
 refine F.ok Fw (by walk_at "l") ?_
 ·walk_at "i"
  obtain⟨dr,sc,r,kp,row,qs,kept,rfl,d0,hR,nrd,hI,hk,nkd,hq,g,k⟩:=h;have hu:=Sa (C4 hr);have hu1:=C4 hr;have hr1:Room 1 _:=hr.mono (by decide);have h24:∀m,m<=100000->m<=sizeLine:=λm h=>by rw[Te];omega
  refine⟨_,Ae (Ao (i:=2) Fw.nd rfl (.inl rfl) (B7 F3 (by rfl) B.list (by rfl) (Aa (pv 2) Ac)))
   (Ae (Ao (i:=3) Fw.nd rfl (.inl rfl) (Ah FP hr1 (by rfl) Aj (Aa (pv 0) (Aa Af Ac))))
   (Ae (Ao (i:=4) Fw.nd rfl (.inl rfl) (Ah FP hr1 (by rfl) Aj (Aa (pv 0) (Aa (Ak Bw (A2 B9 (by rfl) B.len boot_len (Aa (pv 2) Ac)) Af) Ac))))
   (Ae (A5 (Et (Av Bg (pv 3) Af (Ar _)) (Es (Av (Xbu hu) (pv 1) (Bh Ac) (Ar _)))).pt
    (Ag (An (Ak Bn (Ak Bn (Bm Bz (pv 2) Bo (Bi (pv 4))) (Bh (Aa (Bk (Aa (Ah FS hr1 (by rfl) Aj (Aa (pv 1) Ac)) (Aa Az Ac))) Ac))) (Bm Bz (pv 2) (Bi (pv 4)) Bo)))) A8)
   (Ae (A5 (Av Bg (pv 3) Af (Ar _))
    (Ag (An (Ak Bn (Ak Bn (Bm Bz (pv 2) Bo (Bi (pv 4))) (Bh (Aa (Bk (Aa (Ah FO hr (by rfl) Aj (Aa (pv 0) (Aa (pv 1) Ac))) (Aa (Ax G6 (Bk (Aa Az (Aa Az Ac))) (Ah FP hr1 (by rfl) Aj (Aa (pv 0) (Aa Af Ac))) (λ_ _=>rfl)) Ac))) Ac))) (Bm Bz (pv 2) (Bi (pv 4)) Bo)))) A8)
   (Ae (A5 (Av (Hz (hu3 hr)) (pv 2) (Bh Ac) (Ar _)) (Ag (An (pv 2))) A8)
   (Ae (Ao (i:=4) Fw.nd rfl (.inl rfl) (Ah FP hr1 (by rfl) Aj (Aa (pv 0) (Aa (A2 B9 (by rfl) B.len boot_len (Aa (pv 2) Ac)) Ac))))
   (Ae (Ef (Ax Bd (pv 2) (pv 4) (λ_ _=>rfl)) (Lb (n:=2) rfl (Cn (Aw (i:=5) Fw.nd rfl (.inl rfl)) (Cn (Aw (i:=6) Fw.nd rfl (.inl rfl)) Fd))))
   (Ae (A5 (Av Bg (pv 3) Af (Ar _)) (Ag (An (Ak Bn (Bm Bz (pv 2) Bo (Bi (pv 4))) (Bm Bz (pv 2) (Bi (Ak Bw (pv 4) Af)) Bo)))) A8)
   (Ae (A5 (Av Bg (pv 3) Af (Ar _))
    (Ag (An (Ak Bn (Ak Bn (Bm Bz (pv 2) Bo (Bi (pv 4))) (Bh (Aa (Bk (Aa (pv 5) (Aa (Cf hu1 (Xh0 (Xbh Az Az (Xbh Az Az Xhy)) rfl rfl (by simp) (by decide)) (pv 6) (λ_ _=>rfl)) Ac))) Ac))) (Bm Bz (pv 2) (Bi (Ak Bw (pv 4) Af)) Bo)))) A8)
   (Ae (A5 (Av Bg (pv 3) Af (Ar _))
    (Ag (An (Ak Bn (Ak Bn (Bm Bz (pv 2) Bo (Bi (pv 4))) (Bh (Aa (Bk (Aa (pv 5) (Aa Az Ac))) Ac))) (Bm Bz (pv 2) (Bi (Ak Bw (pv 4) Af)) Bo)))) A8)
   (Ag (An (Mb (pv 2)))))))))))))),?_⟩
  have ko:=g.kp hI;have hkl:qs.length=kept.length:=by
   have:=hq.1
   rwa [Oh] at this
  have kl:kept.length<=14:=Pd g.len hI.dlen;refine⟨_,rfl,kp,_,rfl,.inl (SqL.of hk),λkl' nkl=>?_⟩;have s1:Same H (upd H kl' (.lst (qs.map V.ref))):=(Same.refl H).step nkl;have hk1:upd H kl' (.lst (qs.map V.ref)) kl'=some (.lst (qs.map V.ref)):=Ab;have nk1:kl'≠dr:=(d0.ne nkl).1;dsimp only[A6];generalize upd H kl' (.lst (qs.map V.ref))=H1 at s1 hk1;have d1:=d0.same s1;have bB1:But dr H H1:=λb o e _=>s1 _ _ e;refine⟨_,rfl,dr,sc,6,rfl,by decide,by decide,d1,λwy H2 w0 w1 d2 b2=>?_⟩;have b2:But dr H1 H2:=b2;dsimp only[A6];refine⟨_,rfl,_,rfl,kl',_,rfl,.inl (SqL.of (b2 _ _ hk1 nk1)),_,_,rfl,rfl,dr,sc,_,rfl,by omega,by rw[Oh];omega,d2,λat_ H3 a0 a1 d3 b3=>?_⟩;have b3:But dr H2 H3:=b3;obtain⟨at_,rfl⟩:=Pl a0;rw[Oh] at a1;have hat:at_<=qs.length:=by omega
  have b13:=b2.trans b3;have b03:=bB1.trans b13;have fin:∀{H4:Hp} {k':Addr} {qs':List Addr} {kept':List (Str×Str)},But dr H H4->DrawOk H4 dr sc->k'≠dr->H4 k'=some (.lst (qs'.map V.ref))->Tups H4 qs' (kept'.map pr2)->KpOk kept'->Q (.ref k') H4:=λb d n h t o=>k _ _ _ _ n h t o d b;have tq:∀{H4:Hp},But dr H H4->Tups H4 qs (kept.map pr2):=λb=>⟨hq.1,λi hi=>b _ _ (hq.2 i hi) (d0.ntup _ _ (hq.2 i hi))⟩;have hk3:=b13 _ _ hk1 nk1;dsimp only[A6];refine Xog (decide ((wy:Int)=0)) (decide (row=[])) (λQ' hQ=>?_) (λH4 Q' s4 hQ=>?_) (λ_ H4 s4=>?_) (λhne H4 s4=>?_)
  ·refine⟨_,rfl,rfl,_,rfl,?_⟩;have e:decide (V.int wy=V.int 0)=decide (wy=0):=decide_eq_decide.mpr ⟨λh=>by injection h,λh=>by rw[h]⟩;rw[e];exact hQ H3 (Same.refl _)
  ·refine⟨_,rfl,by show 0<=sizeLine;decide,λe ne=>?_⟩;refine⟨r,e,_,[],rfl,rfl,SqL.of (ku (s4 _ _ (b03 _ _ hR nrd)) ne),SqL.of Ab,λv hv=>?_,λv hv=>absurd hv (by simp),_,rfl,?_⟩
   ·obtain⟨x,_,rfl⟩:=O5.mp hv;rfl
   ·have ee:id (Ca (row.map V.str) [])=decide (row=[]):=by cases row<;>rfl
    rw[ee];exact hQ _ ((Same.refl H4).step ne)
  ·-- a stranger
   have b04:=b03.same s4;have d4:=d3.same s4;have hk4:=s4 _ _ hk3;refine⟨_,rfl,_,rfl,_,rfl,kl',_,rfl,SqL.of hk4,λp1 n1=>?_⟩;rw[Ds _ _ _ hat];have s5:Same H4 (upd H4 p1 (.lst ((qs.take at_).map V.ref))):=(Same.refl H4).step n1;have hp5:upd H4 p1 (.lst ((qs.take at_).map V.ref)) p1=some (.lst ((qs.take at_).map V.ref)):=Ab;dsimp only;generalize upd H4 p1 (.lst ((qs.take at_).map V.ref))=H5 at s5 hp5;refine⟨_,rfl,r,row,rfl,s5 _ _ (b04 _ _ hR nrd),λy hy=>(hI.ok y hy).1,λH6 s6=>⟨by show 2<=sizeLine;decide,λt nt=>⟨by show 1<=sizeLine;decide,λp2 n2=>?_⟩⟩⟩;refine⟨p1,p2,_,[.ref t],rfl,rfl,ku (ku (s6 _ _ hp5) nt) n2,Ab,h24 _ (by simp;omega),λp3 n3=>?_⟩;refine⟨_,rfl,_,rfl,_,rfl,kl',_,rfl,SqL.of (ku (ku (ku (s6 _ _ (s5 _ _ hk4)) nt) n2) n3),λp4 n4=>?_⟩;rw[Dt _ _ _ hat];refine⟨p3,p4,_,_,rfl,rfl,ku Ab n4,Ab,h24 _ (by simp;omega),λp5 n5=>?_⟩;have s7:=((((((Same.refl H6).go nt n2).go n2 n3).go n3 n4).go n4 n5)).step (o:=.lst ((qs.take at_).map V.ref++[.ref t]++(qs.drop at_).map V.ref)) n5;have b07:=b04.same (s5.trans (s6.trans s7));refine fin (qs':=qs.take at_++t::qs.drop at_) (kept':=kept.take at_++(E5 row,("home" : Str))::kept.drop at_) b07 (d4.same (s5.trans (s6.trans s7))) ?_ (by rw[Ab];simp) (SH.Tups.mid (tq b07) (ku (ku (ku (ku Ab n2) n3) n4) n5) at_ at_) (ko.mid kl _ _ (Oj _) ⟨hI.stranger9,(Gw (.inr rfl)).1,hI.stranger.1,(Gw (.inr rfl)).2⟩);obtain⟨xs,hdr⟩:=(d4.same (s5.trans s6)).at;exact λz=>by rw[z] at n5;rw[ku (ku (ku (ku hdr nt) n2) n3) n4] at n5;cases n5
  ·have b04:=b03.same s4;have d4:=d3.same s4;have hk4:=s4 _ _ hk3;have hR4:=b04 _ _ hR nrd;clear s4;refine⟨_,rfl,rfl,_,rfl,?_⟩;refine A0 (λ_=>?_) (λ_=>?_)
   ·-- a name of the row
    have nr:row≠[]:=λz=>by rw[z] at hne;simp at hne
    have rl:0<row.length:=So.mpr nr;have rl2:=hI.len;obtain⟨xs4,hdr4⟩:=d4.at;refine⟨_,rfl,_,rfl,_,rfl,kl',_,rfl,SqL.of hk4,λp1 n1=>?_⟩;rw[Ds _ _ _ hat];have s5:Same H4 (upd H4 p1 (.lst ((qs.take at_).map V.ref))):=(Same.refl H4).step n1;have hp5:upd H4 p1 (.lst ((qs.take at_).map V.ref)) p1=some (.lst ((qs.take at_).map V.ref)):=Ab;have np1:p1≠dr:=λz=>by rw[z,hdr4] at n1;cases n1
    dsimp only;generalize upd H4 p1 (.lst ((qs.take at_).map V.ref))=H5 at s5 hp5;have d5:=d4.same s5;have b05:=b04.same s5;refine⟨_,rfl,_,rfl,dr,sc,r,_,rfl,d5,s5 _ _ hR4,nrd,by rw[Oh];exact rl,by rw[Oh];omega,λgi H6 hgi d6 b6=>?_⟩;have b6:But dr H5 H6:=b6;rw[Oh] at hgi;rw[Bu V.str Str.empty row hgi];have hx:row.getD gi Str.empty∈row:=Cl hgi;generalize row.getD gi Str.empty=x at hx;refine⟨by show 2<=sizeLine;decide,λu nu=>?_⟩;have s7:Same H6 (upd H6 u (.tup [.str "home",.str "off"])):=(Same.refl H6).step nu;have hu7:upd H6 u (.tup [.str "home",.str "off"]) u=some (.tup [.str "home",.str "off"]):=Ab;dsimp only;generalize upd H6 u (.tup [.str "home",.str "off"])=H7 at s7 hu7;have d7:=d6.same s7;refine⟨_,rfl,dr,sc,2,rfl,by decide,by decide,d7,λbb H8 c0 c1 d8 b8=>?_⟩;have b8:But dr H7 H8:=b8;obtain⟨bb,rfl⟩:=Pl c0;have hbb:∃y:Str,atI [V.str "home",V.str "off"] (bb:Int)=some (.str y)/\(y = "off" \/ y = "home"):=by
     have:bb<2:=by omega
     match bb,this with
     | 0,_=>exact⟨"home",rfl,.inr rfl⟩
     | 1,_=>exact⟨"off",rfl,.inl rfl⟩
    obtain⟨y,hy,hyb⟩:=hbb;have hp8:H8 p1=some (.lst ((qs.take at_).map V.ref)):=b8 _ _ (s7 _ _ (b6 _ _ hp5 np1)) np1;have hk8:H8 kl'=some (.lst (qs.map V.ref)):=b8 _ _ (s7 _ _ (b6 _ _ (s5 _ _ hk4) nk1)) nk1;have b08:=((b05.trans b6).same s7).trans b8;obtain⟨xs8,hdr8⟩:=d8.at;refine⟨u,_,_,_,rfl,rfl,SqT.of (b8 _ _ hu7 (d7.ntup _ _ hu7)),hy,by show 2<=sizeLine;decide,λt nt=>⟨by show 1<=sizeLine;decide,λp2 n2=>?_⟩⟩;refine⟨p1,p2,_,[.ref t],rfl,rfl,ku (ku hp8 nt) n2,Ab,h24 _ (by simp;omega),λp3 n3=>?_⟩;refine⟨_,rfl,_,rfl,_,rfl,kl',_,rfl,SqL.of (ku (ku (ku hk8 nt) n2) n3),λp4 n4=>?_⟩;rw[Dt _ _ _ hat];refine⟨p3,p4,_,_,rfl,rfl,ku Ab n4,Ab,h24 _ (by simp;omega),λp5 n5=>?_⟩;have s9:=(((((Same.refl H8).go nt n2).go n2 n3).go n3 n4).go n4 n5).step (o:=.lst ((qs.take at_).map V.ref++[.ref t]++(qs.drop at_).map V.ref)) n5;have b09:=b08.same s9;have oy:=Gw hyb;exact fin (qs':=qs.take at_++t::qs.drop at_) (kept':=kept.take at_++(x,y)::kept.drop at_) b09 (d8.same s9) (λz=>by rw[z] at n5;rw[ku (ku (ku (ku hdr8 nt) n2) n3) n4] at n5;cases n5) (by rw[Ab];simp) (SH.Tups.mid (tq b09) (ku (ku (ku (ku Ab n2) n3) n4) n5) at_ at_) (ko.mid kl _ _ (Oj _) ⟨hI.r9 x hx,oy.1,hI.ok x hx,oy.2⟩)
   ·refine⟨_,rfl,by show 0<=sizeLine;decide,λe ne=>?_⟩;have s5:Same H4 (upd H4 e (.lst [])):=(Same.refl H4).step ne;have he5:upd H4 e (.lst []) e=some (.lst []):=Ab;dsimp only;generalize upd H4 e (.lst [])=H5 at s5 he5;have b05:=b04.same s5;have d5:=d4.same s5;have hk5:=s5 _ _ hk4;refine⟨.list ((kept.map pr2).map tupD),.list (([]:List (Zb)).map tupD),Cy hk5 (tq b05),J3 he5 D4,Cb _ (Cw ko.okL),rfl,Fu _ [],_,rfl,?_⟩;rw[Ft ko.okL (λS hS=>absurd hS (by simp))];refine A0 (λ_=>?_) (λq0=>?_)
    ·exact⟨_,rfl,fin b05 d5 nk1 hk5 (tq b05) ko⟩
    have kn:0<kept.length:=by
     have:=Tk q0;cases kept with
     | nil=>exact absurd rfl this
     | cons _ _=>exact Nat.succ_pos _
    clear s5 he5;refine⟨_,rfl,_,rfl,kl',_,rfl,.inl (SqL.of hk5),dr,sc,_,rfl,by rw[Oh];omega,by rw[Oh];omega,d5,λi H6 i0 i1 d6 b6=>?_⟩;have b6:But dr H5 H6:=b6;obtain⟨i,rfl⟩:=Pl i0;rw[Oh] at i1;have hi:i<kept.length:=by omega
    have hiq:i<qs.length:=by omega
    have b06:=b05.trans b6;have hk6:=b6 _ _ hk5 nk1;have ht6:=(tq b06).2 i hiq;have e1:(kept.map pr2).getD i []=pr2 kept[i]:=by simp[List.getD,hi]
    rw[e1] at ht6;have hm:=Pa hi;generalize kept[i]=q at ht6 hm;obtain⟨o1,o2,o3,o4⟩:=ko.ok q hm;have hs:=(g.row q hm).2;have hat6:atI (qs.map V.ref) (i:Int)=some (.ref (qs.getD i 0)):=Dz (by rw[Ox,Oi hiq];simp[List.getD,hiq]);have ii:(i:Int)+1=((i+1:Nat):Int):=by simp
    have hc1:i<=qs.length:=by omega
    have hc2:i+1<=qs.length:=by omega
    obtain⟨xs6,hdr6⟩:=d6.at;dsimp only[A6];refine⟨_,rfl,_,rfl,kl',_,_,_,rfl,rfl,SqL.of hk6,hat6,_,_,rfl,SqT.of ht6,rfl,_,_,rfl,_,_,rfl,rfl,?_⟩;refine⟨_,rfl,rfl,_,rfl,?_⟩;refine A0 (λ_=>?_) (λ_=>?_)
    ·-- one less
     refine⟨_,rfl,_,rfl,_,rfl,kl',_,rfl,SqL.of hk6,λp1 n1=>?_⟩;rw[Ds _ _ _ hc1];refine⟨_,rfl,_,rfl,_,_,rfl,rfl,_,rfl,kl',_,rfl,SqL.of (ku hk6 n1),λp2 n2=>?_⟩;rw[ii,Dt _ _ _ hc2];refine⟨p1,p2,_,_,rfl,rfl,ku Ab n2,Ab,h24 _ (by simp;omega),λp3 n3=>?_⟩;have s7:=(((Same.refl H6).go n1 n2).go n2 n3).step (o:=.lst ((qs.take i).map V.ref++(qs.drop (i+1)).map V.ref)) n3;have b07:=b06.same s7;refine fin (qs':=qs.take i++qs.drop (i+1)) (kept':=kept.take i++kept.drop (i+1)) b07 (d6.same s7) (λz=>by rw[z] at n3;rw[ku (ku hdr6 n1) n2] at n3;cases n3) (by rw[Ab];simp) ?_ (ko.cut kl _ _ (Qc _));have ek:(kept.take i++kept.drop (i+1)).map pr2=(kept.map pr2).take i++(kept.map pr2).drop (i+1):=by rw[Oq,Sh,Si]
     rw[ek];exact Tups.app (Xfo (tq b07) i) (Xfp (tq b07) (i+1))
    refine⟨_,rfl,rfl,_,rfl,?_⟩;refine A0 (λ_=>?_) (λ_=>?_)
    ·-- the other bank
     have hfl:∃y:Str,Ay (mergeK [] [((Sum.inr "home" : Key),V.str "off"),(Sum.inr "off",V.str "home")]) (Sum.inr q.2:Key)=some (.str y)/\(y = "off" \/ y = "home"):=by
      rcases hs with e | e
      ·rw[e];exact⟨"home",rfl,.inr rfl⟩
      ·rw[e];exact⟨"off",rfl,.inl rfl⟩
     obtain⟨y,hy,hyb⟩:=hfl;refine⟨_,rfl,_,rfl,_,rfl,kl',_,rfl,SqL.of hk6,λp1 n1=>?_⟩;rw[Ds _ _ _ hc1];refine⟨_,rfl,λdd ndd=>⟨Ab,[((Sum.inr "home" : Key),V.str "off"),(Sum.inr "off",V.str "home")],rfl,by show 2<=15;decide,?_⟩⟩;have s7:Same (upd H6 p1 (.lst ((qs.take i).map V.ref))) (upd (upd (upd H6 p1 (.lst ((qs.take i).map V.ref))) dd (.dK [])) dd (.dK (mergeK [] [((Sum.inr "home" : Key),V.str "off"),(Sum.inr "off",V.str "home")]))):=λb o e=>by
      rw[Ad (Au e ndd),Ad (Au e ndd)];exact e
     have hd7:upd (upd (upd H6 p1 (.lst ((qs.take i).map V.ref))) dd (.dK [])) dd (.dK (mergeK [] [((Sum.inr "home" : Key),V.str "off"),(Sum.inr "off",V.str "home")])) dd=some (.dK (mergeK [] [((Sum.inr "home" : Key),V.str "off"),(Sum.inr "off",V.str "home")])):=Ab;have hp7:=s7 p1 _ Ab;have s67:=((Same.refl H6).step (o:=.lst ((qs.take i).map V.ref)) n1).trans s7;dsimp only;generalize upd (upd (upd H6 p1 (.lst ((qs.take i).map V.ref))) dd (.dK [])) dd (.dK (mergeK [] [((Sum.inr "home" : Key),V.str "off"),(Sum.inr "off",V.str "home")]))=H7 at hd7 hp7 s67;refine⟨_,rfl,dd,_,rfl,.inl ⟨_,_,.inl hd7,rfl,hy.symm⟩,by show 2<=sizeLine;decide,λt nt=>⟨by show 1<=sizeLine;decide,λp2 n2=>?_⟩⟩;have hdr7:=s67 _ _ hdr6;refine⟨p1,p2,_,[.ref t],rfl,rfl,ku (ku hp7 nt) n2,Ab,h24 _ (by simp;omega),λp3 n3=>?_⟩;refine⟨_,rfl,_,rfl,_,_,rfl,rfl,_,rfl,kl',_,rfl,SqL.of (ku (ku (ku (s67 _ _ hk6) nt) n2) n3),λp4 n4=>?_⟩;rw[ii,Dt _ _ _ hc2];refine⟨p3,p4,_,_,rfl,rfl,ku Ab n4,Ab,h24 _ (by simp;omega),λp5 n5=>?_⟩;have s8:=(((((Same.refl H7).go nt n2).go n2 n3).go n3 n4).go n4 n5).step (o:=.lst ((qs.take i).map V.ref++[.ref t]++(qs.drop (i+1)).map V.ref)) n5;have s68:=s67.trans s8;have b08:=b06.same s68;have oy:=Gw hyb;exact fin (qs':=qs.take i++t::qs.drop (i+1)) (kept':=kept.take i++(q.1,y)::kept.drop (i+1)) b08 (d6.same s68) (λz=>by rw[z] at n5;rw[ku (ku (ku (ku hdr7 nt) n2) n3) n4] at n5;cases n5) (by rw[Ab];simp) (SH.Tups.mid (tq b08) (ku (ku (ku (ku Ab n2) n3) n4) n5) i (i+1)) (ko.mid kl _ _ (Qc _) ⟨o1,oy.1,o3,oy.2⟩)
    refine⟨_,rfl,rfl,_,rfl,?_⟩;refine A0 (λ_=>?_) (λ_=>?_)
    ·-- no bank
     refine⟨_,rfl,_,rfl,_,rfl,kl',_,rfl,SqL.of hk6,λp1 n1=>?_⟩;rw[Ds _ _ _ hc1];refine⟨_,rfl,by show 2<=sizeLine;decide,λt nt=>⟨by show 1<=sizeLine;decide,λp2 n2=>?_⟩⟩;refine⟨p1,p2,_,[.ref t],rfl,rfl,ku (ku Ab nt) n2,Ab,h24 _ (by simp;omega),λp3 n3=>?_⟩;refine⟨_,rfl,_,rfl,_,_,rfl,rfl,_,rfl,kl',_,rfl,SqL.of (ku (ku (ku (ku hk6 n1) nt) n2) n3),λp4 n4=>?_⟩;rw[ii,Dt _ _ _ hc2];refine⟨p3,p4,_,_,rfl,rfl,ku Ab n4,Ab,h24 _ (by simp;omega),λp5 n5=>?_⟩;have s7:=(((((Same.refl H6).go n1 nt).go nt n2).go n2 n3).go n3 n4).go n4 n5;have s8:=s7.step (o:=.lst ((qs.take i).map V.ref++[.ref t]++(qs.drop (i+1)).map V.ref)) n5;have b08:=b06.same s8;exact fin (qs':=qs.take i++t::qs.drop (i+1)) (kept':=kept.take i++(q.1,("bank" : Str))::kept.drop (i+1)) b08 (d6.same s8) (λz=>by rw[z] at n5;rw[ku (ku (ku (ku (ku hdr6 n1) nt) n2) n3) n4] at n5;cases n5) (by rw[Ab];simp) (SH.Tups.mid (tq b08) (ku (ku (ku (ku Ab n2) n3) n4) n5) i (i+1)) (ko.mid kl _ _ (Qc _) ⟨o1,Xfn.1,o3,Xfn.2⟩)
    ·refine⟨_,rfl,kl',_,rfl,SqL.of hk6,λp1 n1=>?_⟩;have s7:=(Same.refl H6).step (o:=.lst (qs.map V.ref).reverse) n1;have b07:=b06.same s7;refine fin (qs':=qs.reverse) (kept':=kept.reverse) b07 (d6.same s7) (λz=>by rw[z,hdr6] at n1;cases n1) (by rw[Ab,Sd]) ?_ ko.rev;have ek:kept.reverse.map pr2=(kept.map pr2).reverse:=Sd;rw[ek];exact Xoh (tq b07)
def Xp0:FnScope NFl ["_law_plot", "_law_name"] (defScope s__law_flip):=by walk_at "s"
def Xp1{f}{fd}(F:Fun K "_law_flip" "_law_flip" s__law_flip f fd)(T:Bl mg):FnOk P w K mg base CX0 1 f fd ["_law_plot", "_law_name"] spFlip:=by
 refine F.ok Xp0 (by walk_at "l") ?_
 ·walk_at "i"
  obtain⟨p,ss,x,rfl,hP,hl,k⟩:=h;refine⟨_,Ag (An (B7 Jn (by rfl) T.tuple (by rfl) (Aa (A2 Xkd (by rfl) T.sorted (by rfl) (Aa (Ak Bn
   (Dh (N:=NFl1) (cap:=[none,some 1]) (CompScope.of (defScope s__law_flip) NFl rfl rfl rfl (by decide +kernel)) rfl
    (Jh (pv 0)) (λ_ _ _=>Aw (i:=0) (show NFl1.Nodup by decide +kernel) rfl (.inl rfl) (.inr rfl)) (λ_ _ _=>D0 (Av F0 (pv 0) (pv 1) (Ar _))) (λ_ _ _=>pv 0))
   (Ak Xba (Bh (Aa (pv 1) Ac)) (B7 G5 (by rfl) T.int (by rfl) (Aa (B6 Lu (pv 1) (pv 0) (by rfl)) Ac)))) Ac)) Ac))),?_⟩
  refine⟨_,rfl,p,rfl,⟨_,SqT.of hP⟩,?_⟩;refine Gf (n:=ss.length) (by rw[Te];omega) (λi=>(ss.map V.str).getD i .non) (λi=>decide (ss.getD i Str.empty≠x)) (λi=>.str (ss.getD i Str.empty)) ?_ ?_ ?_ ?_ ?_
  ·intro i H2 hi s2;exact Jq (SqT.of (s2 _ _ hP)) (by rw[Oh];exact hi)
  ·intro H2 s2;have:=Jr (K:=K) (SqT.of (s2 _ _ hP))
   rwa [Oh] at this
  ·intro i H2 Q' hi s2 kk;rw[Bu V.str Str.empty _ hi];refine⟨_,rfl,_,rfl,rfl,_,rfl,?_⟩;rw[D7];have:=kk H2 (Same.refl _);have e:(!decide (ss.getD i Str.empty=x))=decide (ss.getD i Str.empty≠x):=by
    by_cases z:ss.getD i Str.empty=x
    ·simp[z]
    ·simp[z]
   rw[e];exact this
  ·intro i H2 Q' hi hk s2 kk;rw[Bu V.str Str.empty _ hi];exact⟨_,rfl,kk H2 (Same.refl _)⟩
  ·intro D H2 nD s2 hD;have hD':H2 D=some (.lst ((ss.filter λy=>decide (y≠x)).map V.str)):=by
    rw[hD,<-Ct Str.empty (λy=>decide (y≠x)) ss,Pj];rfl
   have hfl:=Pn (λy=>decide (y≠x)) ss;refine⟨_,rfl,by show 1<=sizeLine;decide,λb nb=>?_⟩;refine⟨_,rfl,_,rfl,p,_,rfl,.inr (SqT.of (ku (s2 _ _ hP) nb)),rfl,C8 ss,.inr ⟨_,rfl,?_⟩⟩;rw[Dg];show Xa9 _ _ _ _;have eint:(if (!decide (x∈ss))=true then (1:Int) else 0).toNat=(if x∈ss then 0 else 1):=by
    by_cases hx:x∈ss
    ·simp[hx]
    ·simp[hx]
   have erep:(List.replicate (if x∈ss then 0 else 1) [V.str x]).flatten=(if x∈ss then ([]:Zb) else [x]).map V.str:=by
    by_cases hx:x∈ss
    ·simp[hx]
    ·simp[hx]
   refine⟨b,_,_,rfl,rfl,Ab,?_,?_,?_,λc nc=>?_⟩
   ·by_cases hx:x∈ss<;>simp[hx]
   ·by_cases hx:x∈ss<;>simp[hx]
   ·rw[Tg rfl,eint,Te];by_cases hx:x∈ss<;>simp[hx]
   ·rw[Tg rfl,eint,erep];have hone:(if x∈ss then ([]:Zb) else [x]).length<=1:=by by_cases hx:x∈ss<;>simp[hx]
    have s3:=(s2.step (o:=.lst [V.str x]) nb);refine⟨D,c,_,_,rfl,rfl,ku (ku hD' nb) nc,Ab,by rw[Oh,Oh,Te];omega,λe ne=>?_⟩;have s4:=s3.step (o:=.lst ((if x∈ss then ([]:Zb) else [x]).map V.str)) nc;rw[<-Oq];refine⟨e,_,rfl,Ab,by rw[Oo];omega,λt nt=>?_⟩;have s5:=s4.step (o:=.lst ((ss.filter (λy=>decide (y≠x))++(if x∈ss then [] else [x])).map V.str)) ne;refine⟨t,_,rfl,.inl ⟨SqL.of Ab,λq nq=>?_⟩⟩;have s6:=s5.step (o:=.lst ((srt (ss.filter (λy=>decide (y≠x))++(if x∈ss then [] else [x]))).map V.str)) nt;exact k q _ (s6.free nq) Ab (s6.step nq)
def K4:FnScope NOd ["_law_draw", "_law_row_here", "_law_plot"] (defScope s__law_odd_plot):=by walk_at "s"
def Xp2{f}{fd}(F:Fun K "_law_odd_plot" "_law_odd_plot" s__law_odd_plot f fd)(T:Bl mg)(FP:FnPick P w K mg base)(FS:Fn P w K mg base CX0 1 "_law_stranger" ["_law_row_here"] J9)
  (FF:Fn P w K mg base CX0 1 "_law_flip" ["_law_plot", "_law_name"] spFlip):FnOk P w K mg base CX0 2 f fd ["_law_draw", "_law_row_here", "_law_plot"] spOdd:=by
 refine F.ok K4 (by walk_at "l") ?_
 ·walk_at "i"
  obtain⟨dr,sc,r,p,row,ss,rfl,dk,hR,nrd,hI,hP,hok,hsl,k⟩:=h;have hu:=Sa (C4 hr);have h24:∀m,m<=100000->m<=sizeLine:=λm h=>by rw[Te];omega
  refine⟨_,Ae (Ao (i:=3) K4.nd rfl (.inl rfl) (Ah FP hr (by rfl) Aj (Aa (pv 0) (Aa Af Ac))))
   (Ae (Ao (i:=4) K4.nd rfl (.inl rfl) (Ah FP hr (by rfl) Aj (Aa (pv 0) (Aa (Ak Bw (A2 B9 (by rfl) T.len boot_len (Aa (pv 2) Ac)) Af) Ac))))
   (Ae (A5 (Et (Av Bg (pv 3) Af (Ar _)) (Es (Av (Xbu hu) (pv 1) (Bh Ac) (Ar _)))).pt
    (Ag (An (Ak Ib (Ak Ib (Bm Ie (pv 2) Bo (Bi (pv 4))) (Bk (Aa (Ah FS hr (by rfl) Aj (Aa (pv 1) Ac)) Ac))) (Bm Ie (pv 2) (Bi (pv 4)) Bo)))) A8)
   (Ae (Ao (i:=5) K4.nd rfl (.inl rfl) (Ax Bd (pv 1) (Ah FP hr (by rfl) Aj (Aa (pv 0) (Aa (A2 B9 (by rfl) T.len boot_len (Aa (pv 1) Ac)) Ac))) (λ_ _=>rfl)))
   (Ae (A5 (Av Bg (pv 3) Af (Ar _)) (Ag (An (Ak Ib (Ak Ib (Bm Ie (pv 2) Bo (Bi (pv 4))) (Bk (Aa (pv 5) Ac))) (Bm Ie (pv 2) (Bi (pv 4)) Bo)))) A8)
   (Ae (A5 (Av Bg (pv 3) Af (Ar _)) (Ag (An (Xkj (pv 2)))) A8)
   (Ae (A5 (Av Bg (pv 3) Af (Ar _)) (Ag (An (B7 Jn (by rfl) T.tuple (by rfl) (Aa (Ak Bn (B7 F3 (by rfl) T.list boot_list (Aa (pv 2) Ac)) (B7 F3 (by rfl) T.list boot_list (Aa (Bm Ie (pv 2) Bo (Bi Af)) Ac))) Ac)))) A8)
   (Ag (An (Ah FF hr (by rfl) Aj (Aa (pv 2) (Aa (pv 5) Ac))))))))))),?_⟩
  refine⟨_,rfl,dr,sc,5,rfl,by decide,by decide,dk,λwy H1 w0 w1 d1 b1=>?_⟩;have npd:∀{H0:Hp} {q:Addr} {xs:List V},DrawOk H0 dr sc->H0 q=some (.tup xs)->q≠dr:=λ{H0 q xs} d e z=>by
   obtain⟨ys,h⟩:=d.at;rw[z,h] at e;cases e
  have b1:But dr H H1:=b1;have hP1:=b1 _ _ hP (npd dk hP);have hR1:=b1 _ _ hR nrd;refine⟨_,rfl,_,rfl,p,_,rfl,.inr (SqT.of hP1),_,_,rfl,rfl,dr,sc,_,rfl,by omega,by rw[Oh];omega,d1,λat_ H2 a0 a1 d2 b2=>?_⟩;obtain⟨at_,rfl⟩:=Pl a0;rw[Oh] at a1;have hat:at_<=ss.length:=by omega
  have b2:But dr H1 H2:=b2;have b12:=b1.trans b2;have hP2:=b2 _ _ hP1 (npd d1 hP1);have hR2:=b2 _ _ hR1 nrd;have put:∀(x:Str) (H3:Hp),okN x->DrawOk H3 dr sc->But dr H H3->H3 p=some (.tup (ss.map V.str))->∀(q:Addr) (H4:Hp),Same H3 H4->H4 q=some (.tup ((ss.take at_++[x]++ss.drop at_).map V.str))->Q (.ref q) H4:=λx H3 hx d3 b3 _ q H4 s4 hq=>by
   refine k q _ H4 hq (λy hy=>?_) ?_ (d3.same s4) (b3.same s4)
   ·rcases Op.mp hy with hy | hy
    ·rcases Op.mp hy with hy | hy
     ·exact hok y (Pp hy)
     ·rw[Om.mp hy];exact hx
    ·exact hok y (Pq hy)
   ·rw[Oo,Oo,Ov,Pk,Pw];omega
  have strange:∀H3,DrawOk H3 dr sc->But dr H H3->H3 p=some (.tup (ss.map V.str))->H3 r=some (.lst (row.map V.str)) ->
    ∀(q:Addr) (H4:Hp),Same H3 H4->H4 q=some (.tup ((ss.take at_++[E5 row]++ss.drop at_).map V.str))->Q (.ref q) H4:=λH3 d3 b3 hP3 _=>put _ H3 hI.stranger.1 d3 b3 hP3
  have tailS:∀H3,DrawOk H3 dr sc->But dr H H3->H3 p=some (.tup (ss.map V.str))->H3 r=some (.lst (row.map V.str)) ->
    tSl M7 (C0 2) Lo (Lp (C0 4)) [some (.ref dr),some (.ref r),some (.ref p),some (.int wy),some (.int at_),none] H3 λx H4=>Ll (Ev (Lm J9 [] E0 (Ev (C0 1) F1)) F1) [some (.ref dr),some (.ref r),some (.ref p),some (.int wy),some (.int at_),none] H4 λy H5=>M6 x y H5 λz H6=>
     tSl M7 (C0 2) (Lp (C0 4)) Lo [some (.ref dr),some (.ref r),some (.ref p),some (.int wy),some (.int at_),none] H6 λu H7=>M6 z u H7 Q:=λH3 d3 b3 hP3 hR3=>by
   refine⟨_,rfl,_,rfl,_,rfl,p,_,rfl,hP3,λq1 H4 s4 hq1=>?_⟩;rw[Ds _ _ _ hat] at hq1;refine⟨_,rfl,r,row,rfl,s4 _ _ hR3,λy hy=>(hI.ok y hy).1,λH5 s5=>⟨by show 1<=sizeLine;decide,λq2 n2=>?_⟩⟩;have s35:=(s4.trans s5).step (o:=.tup [.str (E5 row)]) n2;refine⟨q1,q2,_,[.str (E5 row)],rfl,rfl,ku (s5 _ _ hq1) n2,Ab,h24 _ (by simp;omega),λq3 H6 s6 hq3=>?_⟩;have s36:=s35.trans s6;refine⟨_,rfl,_,rfl,_,rfl,p,_,rfl,s36 _ _ hP3,λq4 H7 s7 hq4=>?_⟩;rw[Dt _ _ _ hat] at hq4;refine⟨q3,q4,_,_,rfl,rfl,s7 _ _ hq3,hq4,h24 _ (by simp;omega),λq5 H8 s8 hq5=>?_⟩;refine strange H3 d3 b3 hP3 hR3 q5 H8 (s36.trans (s7.trans s8)) (hq5.trans ?_);rw[Oq,Oq];rfl
  refine⟨_,rfl,rfl,_,rfl,?_⟩;refine A0 (λ_=>?_) (λ_=>?_)
  ·exact Bq (tailS H2 d2 b12 hP2 hR2)
  ·refine⟨_,rfl,by show 0<=sizeLine;decide,λe ne=>?_⟩;have s3:Same H2 (upd H2 e (.lst [])):=(Same.refl H2).step ne;refine⟨r,e,_,_,rfl,rfl,SqL.of (s3 _ _ hR2),SqL.of Ab,J7 row,by simp,_,rfl,?_⟩;generalize upd H2 e (.lst [])=H3 at s3;have d3:=d2.same s3;have b13:=b12.same s3;have hP3:=s3 _ _ hP2;have hR3:=s3 _ _ hR2;have ee:Ca (row.map V.str) []=decide (row=[]):=Mc row [];rw[ee];refine A0 (λ_=>tailS H3 d3 b13 hP3 hR3) (λhne=>?_);have hne:=Tk hne;have hrl:=hI.len;have hpos:0<row.length:=So.mpr hne;refine⟨_,rfl,_,rfl,_,rfl,r,_,rfl,.inl (SqL.of hR3),dr,sc,_,rfl,by rw[Oh];omega,by rw[Oh];omega,d3,λi H4 i0 i1 d4 b4=>?_⟩;obtain⟨i,rfl⟩:=Pl i0;rw[Oh] at i1;have hi:i<row.length:=by omega
   have b4:But dr H3 H4:=b4;have b14:=b13.trans b4;have hP4:=b4 _ _ hP3 (npd d3 hP3);have hR4:=b4 _ _ hR3 nrd;refine⟨r,_,_,_,rfl,rfl,SqL.of hR4,Xkw V.str Str.empty row hi,?_⟩;have hx:row.getD i Str.empty∈row:=Cl hi;generalize row.getD i Str.empty=x at hx;have hxo:=hI.ok x hx;refine⟨_,rfl,rfl,_,rfl,?_⟩;refine A0 (λ_=>?_) (λ_=>?_)
   ·refine⟨_,rfl,_,rfl,_,rfl,p,_,rfl,hP4,λq1 H5 s5 hq1=>?_⟩;rw[Ds _ _ _ hat] at hq1;refine⟨_,rfl,by show 1<=sizeLine;decide,λq2 n2=>?_⟩;have s46:=s5.step (o:=.tup [.str x]) n2;refine⟨q1,q2,_,[.str x],rfl,rfl,ku hq1 n2,Ab,h24 _ (by simp;omega),λq3 H6 s6 hq3=>?_⟩;have s47:=s46.trans s6;refine⟨_,rfl,_,rfl,_,rfl,p,_,rfl,s47 _ _ hP4,λq4 H7 s7 hq4=>?_⟩;rw[Dt _ _ _ hat] at hq4;refine⟨q3,q4,_,_,rfl,rfl,s7 _ _ hq3,hq4,h24 _ (by simp;omega),λq5 H8 s8 hq5=>?_⟩;refine put x H4 hxo d4 b14 hP4 q5 H8 (s47.trans (s7.trans s8)) (hq5.trans ?_);rw[Oq,Oq];rfl
   ·refine⟨_,rfl,rfl,_,rfl,?_⟩;refine A0 (λ_=>?_) (λ_=>?_)
    ·refine⟨_,rfl,p,_,rfl,hP4,λq nq=>?_⟩;have s5:Same H4 (upd H4 q (.tup (ss.map V.str).reverse)):=(Same.refl H4).step nq;refine k q ss.reverse _ (Ab.trans (by rw[Sd])) (λy hy=>hok y (List.mem_reverse.mp hy)) (by rw[Qh];omega) (d4.same s5) (b14.same s5)
    ·refine⟨_,rfl,rfl,_,rfl,?_⟩;refine A0 (λ_=>?_) (λ_=>?_)
     ·refine⟨_,rfl,p,_,rfl,.inr (SqT.of hP4),λl1 n1=>?_⟩;have s5:Same H4 (upd H4 l1 (.lst (ss.map V.str))):=(Same.refl H4).step n1;refine⟨_,rfl,_,rfl,p,_,rfl,s5 _ _ hP4,λq1 H6 s6 hq1=>?_⟩;have e1:(some (1:Int))=some ((1:Nat):Int):=rfl;rw[e1,Xli] at hq1;refine⟨q1,_,rfl,.inr (SqT.of hq1),λl2 n2=>?_⟩;have s7:=(s5.trans s6).step (o:=.lst ((ss.take 1).map V.str)) n2;refine⟨l1,l2,_,_,rfl,rfl,ku (s6 _ _ Ab) n2,Ab,h24 _ (by simp;omega),λl3 n3=>?_⟩;have s8:=s7.step (o:=.lst (ss.map V.str++(ss.take 1).map V.str)) n3;refine⟨l3,_,rfl,.inl ⟨SqL.of Ab,λq nq=>?_⟩⟩;have s9:=s8.step (o:=.tup (ss.map V.str++(ss.take 1).map V.str)) nq;refine k q (ss++ss.take 1) _ (Ab.trans (by rw[Oq])) (λy hy=>?_) (by rw[Oo,Ov];omega) (d4.same s9) (b14.same s9);rcases Op.mp hy with hy | hy
      ·exact hok y hy
      ·exact hok y (Pp hy)
     ·refine⟨_,rfl,_,rfl,p,ss,x,rfl,hP4,by omega,λq H5 nq hq s5=>?_⟩;refine k q _ H5 hq (λy hy=>?_) (Xlc ss x) (d4.same s5) (b14.same s5);rcases Xlb hy with h | h
      ·exact hok y h
      ·rw[h];exact hxo
abbrev NKp:Zb:=["_law_name", "_law_side", "_law_plot"]
def Xp3:FnScope ["_law_kept_here", "_law_plot"] ["_law_kept_here", "_law_plot"] (defScope s__law_keeps):=by walk_at "s"
def Xp4{f}{fd}(F:Fun K "_law_keeps" "_law_keeps" s__law_keeps f fd)(B:Bl mg):FnOk P w K mg base CX0 1 f fd ["_law_kept_here", "_law_plot"] spKeepsL:=by
 refine F.ok Xp3 (by walk_at "l") ?_
 ·walk_at "i"
  obtain⟨p,kp,S,qs,kept,rfl,hp,hk,hT,hl,k⟩:=h;refine⟨_,Ag (An (A2 (F6 rfl) (by rfl) B.all (by rfl) (Aa (Dh (N:=NKp) (cap:=[none,none,some 1]) (CompScope.of (defScope s__law_keeps) ["_law_kept_here", "_law_plot"] rfl rfl rfl (by decide +kernel)) rfl
   (Bt (pv 0)) (λ_ _ _=>Jw K 2 rfl rfl (Cn (Aw (i:=0) (show NKp.Nodup by decide +kernel) rfl (.inl rfl) (.inr rfl)) (Cn (Aw (i:=1) (show NKp.Nodup by decide +kernel) rfl (.inl rfl) (.inr rfl)) Fd))) (λ_ _ _=>Ce)
   (λ_ _ _=>B6 Bg (Ax (Df K (by rfl)) (Bk (Aa Az (Aa Az Ac))) (B7 G5 (by rfl) B.int (by rfl) (Aa (B6 (Hu K (by rfl)) (pv 0) (pv 2) (by rfl)) Ac)) (λ_ _=>rfl)) (pv 1) (Ar _))) Ac))),?_⟩
  refine⟨_,rfl,kp,rfl,⟨_,SqL.of hk⟩,?_⟩;have hkl:kept.length=qs.length:=by
   have:=hT.1;rw[Oh] at this;exact this.symm
  refine Ey (n:=qs.length) (λj=>.ref (qs.getD j 0)) (λD i Z2 H2=>(∃u v, Z2=[u,v,some (.ref p)])/\Same H H2/\H2 D=some (.lst (((kept.take i).map λq=>decide (bk S q.1=q.2)).map V.bl))) ?_ ?_ ?_ ?_ ?_
  ·intro D hD;exact⟨⟨_,_,rfl⟩,(Same.refl H).step hD,Ab⟩
  ·rintro D i Z2 H2 hD hi ⟨_,s2,_⟩;have:=C6 (K:=K) (SqL.of (s2 _ _ hk)) (by rw[Oh];exact hi);rw[Bu V.ref 0 qs hi] at this;exact this
  ·rintro D Z2 H2 hD ⟨_,s2,_⟩;have:=C7 (K:=K) (SqL.of (s2 _ _ hk))
   rwa [Oh] at this
  ·rintro D i Z2 H2 hD hi ⟨⟨u,v,rfl⟩,s2,hb⟩;have hi':i<kept.length:=by rw[hkl];exact hi
   have ht:=s2 _ _ (hT.2 i hi);have eq:(kept.map pr2).getD i []=pr2 kept[i]:=by simp[List.getD,hi']
   rw[eq] at ht;have htk:kept.take (i+1)=kept.take i++[kept[i]]:=O6 hi';generalize kept[i]=q at ht htk;refine⟨_,_,rfl,SqT.of ht,rfl,_,_,rfl,_,_,rfl,rfl,?_⟩;dsimp only[C5];rw[Tg rfl];refine⟨by show 2<=sizeLine;decide,λt nt=>?_⟩;have s3:Same H2 (upd H2 t (.tup [.str "home",.str "off"])):=(Same.refl H2).step nt;have ht3:upd H2 t (.tup [.str "home",.str "off"]) t=some (.tup [.str "home",.str "off"]):=Ab;dsimp only;generalize upd H2 t (.tup [.str "home",.str "off"])=H3 at s3 ht3;refine⟨_,rfl,_,rfl,p,_,rfl,.inr (SqT.of ((s2.trans s3) _ _ hp)),rfl,C8 S,.inr ⟨_,rfl,?_⟩⟩;have ei:(if false=true then !inV (.str q.1) (S.map V.str) else inV (.str q.1) (S.map V.str))=decide (q.1∈S):=by rw[Tf (by decide),Dg]
   rw[ei];have hat:atI [V.str "home",V.str "off"] (if decide (q.1∈S)=true then (1:Int) else 0)=some (.str (bk S q.1)):=by
    unfold bk;by_cases z:q.1∈S
    ·rw[Th z,Tg rfl,Tg z];rfl
    ·rw[Ti z,Tf (by decide),Tf z];rfl
   refine⟨t,_,_,_,rfl,rfl,SqT.of ht3,hat,_,rfl,rfl,?_⟩;rw[D7];refine⟨_,s3 _ _ hb,by rw[Oh,Oh,Ov,Te];omega,wskip hi ⟨⟨_,_,rfl⟩,λb o e=>?_,?_⟩⟩
   ·rw[Ad (Au e hD)];exact s3 _ _ (s2 _ _ e)
   ·rw[Ab,htk,Oq,Oq];rfl
  ·rintro D Z2 H2 hD ⟨_,s2,hb⟩;rw[<-hkl,Pt] at hb;refine⟨D,_,rfl,hb,?_⟩;have e:(kept.map λq=>decide (bk S q.1=q.2)).all id=keeps kept S:=by
    unfold keeps;rw[List.all_map];rfl
   rw[e];exact k H2 s2
def Xp5:FnScope ["_law_some", "_law_kept_here"] ["_law_some", "_law_kept_here"] (defScope s__law_held):=by walk_at "s"
def Xp6{f}{fd}(F:Fun K "_law_held" "_law_held" s__law_held f fd)(FK:Fn P w K mg base CX0 1 "_law_keeps" ["_law_kept_here", "_law_plot"] spKeepsL):FnOk P w K mg base CX0 2 f fd ["_law_some", "_law_kept_here"] spHeldL:=by
 refine F.ok Xp5 (by walk_at "l") ?_
 ·walk_at "i"
  obtain⟨l,kp,ps,Ts,qs,kept,rfl,hl,hT,hlp,hk,hq,hql,k⟩:=h;have hr1:Room 1 _:=hr.mono (by decide);refine⟨_,Ag (An (Dh (N:=["_law_plot", "_law_kept_here"]) (cap:=[none,some 1]) (CompScope.of (defScope s__law_held) ["_law_some", "_law_kept_here"] rfl rfl rfl (by decide +kernel)) rfl
   (Bt (pv 0)) (λ_ _ _=>Aw (i:=0) (show (["_law_plot", "_law_kept_here"]:Zb).Nodup by decide +kernel) rfl (.inl rfl) (.inr rfl)) (λ_ _ _=>D0 (Dd (Ah (by exact FK) (by exact hr1) (by rfl) Aj (Aa (pv 1) (Aa (pv 0) Ac))))) (λ_ _ _=>pv 0))),?_⟩
  refine⟨_,rfl,l,rfl,⟨_,SqL.of hl⟩,?_⟩;refine Gf (n:=ps.length) (by rw[Te];omega) (λi=>.ref (ps.getD i 0)) (λi=>keeps kept (Ts.getD i [])) (λi=>.ref (ps.getD i 0)) ?_ ?_ ?_ ?_ ?_
  ·intro i H4 hi s4;have:=C6 (K:=K) (SqL.of (s4 _ _ hl)) (by rw[Oh];exact hi);rw[Bu V.ref 0 ps hi] at this;exact this
  ·intro H4 s4;have:=C7 (K:=K) (SqL.of (s4 _ _ hl))
   rwa [Oh] at this
  ·intro i H4 Q' hi s4 kk;exact⟨_,rfl,_,rfl,ps.getD i 0,kp,Ts.getD i [],qs,kept,rfl,s4 _ _ (hT.2 i hi),s4 _ _ hk,hq.same s4,hql,λH5 s5=>⟨_,rfl,kk H5 s5⟩⟩
  ·intro i H4 Q' hi _ s4 kk;exact⟨_,rfl,kk H4 (Same.refl _)⟩
  ·intro D H4 nD s4 hD;have eT:(((List.range ps.length).filter λi=>keeps kept (Ts.getD i [])).map λi=>Ts.getD i [])=Ts.filter (keeps kept):=by
    rw[hT.1];exact Ct [] (keeps kept) Ts
   have tx:Tups H4 (((List.range ps.length).filter λi=>keeps kept (Ts.getD i [])).map λi=>ps.getD i 0) (Ts.filter (keeps kept)):=by
    rw[<-eT];exact Xfi (hT.same s4) λi hi=>P1.mp (Ou.mp hi).1
   refine k D _ H4 nD (by rw[hD,Pj];rfl) tx ?_ s4;rw[Oh];exact Pd (Pn ..) (by rw[Px];omega)
def Xfz:FnScope ["_law_row_here", "_law_some", "_law_kept_here", "_law_of"] ["_law_row_here", "_law_some", "_law_kept_here"] (defScope s__law_good_kept):=by walk_at "s"
def Xp7{f}{fd}(F:Fun K "_law_good_kept" "_law_good_kept" s__law_good_kept f fd)(FH:Fn P w K mg base CX0 2 "_law_held" ["_law_some", "_law_kept_here"] spHeldL)(FK:Fn P w K mg base CX0 1 "_law_kept" ["_law_row_here", "_law_crowd"] Ob):
  FnOk P w K mg base CX0 3 f fd ["_law_row_here", "_law_some", "_law_kept_here"] Xfm:=by
 refine F.ok Xfz (by walk_at "l") ?_
 ·walk_at "i"
  obtain⟨r,l,kp,row,ps,Ts,qs,kept,rfl,hR,R2,hl,hT,hlp,hPL,hk,hq,ko,k⟩:=h;have hr1:Room 1 _:=hr.mono (by decide);have hr2:Room 2 _:=hr.mono (by decide);refine⟨_,Ae (Ao (i:=3) Xfz.nd rfl (.inl rfl) (Ah FH hr2 (by rfl) Aj (Aa (pv 1) (Aa (pv 2) Ac))))
   (Ag (An (Jd (B6 (J4 (hu3 hr)) (pv 3) (Bh Ac) (Ar _)) (G1 (B6 (Hz (hu3 hr)) (Ah FK hr1 (by rfl) Aj (Aa (pv 0) (Aa (pv 3) Ac))) (pv 2) (Ar _)))))),?_⟩
  have hql:qs.length<=16:=by
   have:=hq.1;rw[Oh] at this;have:=ko.len;omega
  have mem:∀S,S∈Ts.filter (keeps kept)↔Am row S=true/\keeps kept S=true:=λS=>by rw[Ou,hPL]
  have gi:=Xfc mem;have okT:∀S∈Ts.filter (keeps kept),∀y∈S,okN y:=λS hS y hy=>R2.ok y ((Ep ((mem S).mp hS).1).1 y hy);refine⟨_,rfl,_,rfl,l,kp,ps,Ts,qs,kept,rfl,hl,hT,by omega,hk,hq,by omega,λD us H1 nD hD tx hle s1=>?_⟩;dsimp only[A6];refine⟨_,rfl,by show 0<=sizeLine;decide,λe ne=>?_⟩;have s2:Same H1 (upd H1 e (.lst [])):=(Same.refl H1).step ne;have he2:upd H1 e (.lst []) e=some (.lst []):=Ab;dsimp only;generalize upd H1 e (.lst [])=H2 at s2 he2;refine⟨.list ((Ts.filter (keeps kept)).map tupD),.list (([]:List (Zb)).map tupD),Cy (s2 _ _ hD) (tx.same s2),J3 he2 D4,Cb _ (Cw okT),rfl,Fu _ [],_,rfl,?_⟩;rw[Ft okT (λS hS=>absurd hS (by simp))];have s12:=s1.trans s2;by_cases n:Ts.filter (keeps kept)=[]
  ·rw[Th n];exact Bp (k false H2 ⟨λz=>absurd z (by decide),λg=>absurd n (gi.mp g).1⟩ s12)
  ·rw[Ti n];refine Bq ?_;refine⟨_,rfl,_,rfl,r,D,row,us,_,rfl,s12 _ _ hR,R2,s2 _ _ hD,tx.same s2,by omega,n,λG gs H3 nG hG hgs s3=>?_⟩;have okS:=Xfd n R2.ok;have s13:=s12.trans s3;refine⟨_,rfl,_,_,Cy hG hgs,Cy (s13 _ _ hk) (hq.same s13),Cb _ (Cw okS),Cb _ (Cw ko.okL),Fu _ _,?_⟩;rw[Ft okS ko.okL];refine k _ H3 ?_ s13;rw[decide_eq_true_eq,gi];exact⟨λz=>⟨n,Xfe z⟩,λz=>by rw[z.2]⟩
def Xp8:FnScope ["_law_found"] ["_law_found"] (defScope s__law_tuple):=by walk_at "s"
def Xp9{f}{fd}(F:Fun K "_law_tuple" "_law_tuple" s__law_tuple f fd)(T:Bl mg):FnOk P w K mg base CX0 1 f fd ["_law_found"] spTuple:=by
 refine F.ok Xp8 (by walk_at "l") ?_
 ·walk_at "i"
  obtain⟨v,ss,rfl,hv,hl,k⟩:=h;obtain⟨a,xs,rfl,hR,hs⟩:=Mz hv;rw[Ih hs] at hR;refine⟨_,Ag (An (Jd (A2 Jp (by rfl) T.isi boot_isinstance (Aa (pv 0) (Aa (G0 (v:=.ty "tuple") (by rfl) T.tuple (by rfl) rfl) Ac)))
   (G1 (A2 (F6 rfl) (by rfl) T.all (by rfl) (Aa (Dh (N:=["_law_one_here"]) (cap:=[none]) (CompScope.of (defScope s__law_tuple) ["_law_found"] rfl rfl rfl (by decide +kernel)) rfl
    (Jh (pv 0)) (λ_ _ _=>Aw (i:=0) (show (["_law_one_here"]:Zb).Nodup by decide +kernel) rfl (.inl rfl) (.inr rfl)) (λ_ _ _=>Ce)
    (λ_ _ _=>A2 (Xjx K rfl) (by rfl) T.isi boot_isinstance (Aa (pv 0) (Aa (G0 (v:=.ty "str") (by rfl) T.str boot_str rfl) Ac)))) Ac))))),?_⟩
  refine⟨_,rfl,_,_,_,_,true,rfl,.tup hR,rfl,J6 K "tuple",true,rfl,Bq ?_⟩;refine⟨_,rfl,a,rfl,⟨_,SqT.of hR⟩,?_⟩;refine Ju (n:=ss.length) (by rw[Te];omega) (λi=>(ss.map V.str).getD i .non) (λ_=>.bl true) ?_ ?_ ?_ ?_
  ·intro i H2 hi s2;exact Jq (SqT.of (s2 _ _ hR)) (by rw[Oh];exact hi)
  ·intro H2 s2;have:=Jr (K:=K) (SqT.of (s2 _ _ hR))
   rwa [Oh] at this
  ·intro i H2 Q' hi s2 kk;rw[Bu V.str Str.empty ss hi];exact⟨_,rfl,_,_,_,_,true,rfl,.str _,rfl,J6 K "str",kk H2 (Same.refl _)⟩
  ·intro D H2 nD s2 hD;refine⟨D,List.replicate ss.length true,rfl,?_,?_⟩
   ·rw[hD,List.map_const',Px,List.map_replicate]
   ·have e:(List.replicate ss.length true).all id=true:=by
     rw[O9];intro b hb;rw[(List.mem_replicate.mp hb).2];rfl
    rw[e];exact k H2 s2
def Xqa:FnScope ["_law_found"] ["_law_found"] (defScope s__law_all_texts):=by walk_at "s"
def Xqb{f}{fd}(F:Fun K "_law_all_texts" "_law_all_texts" s__law_all_texts f fd)(T:Bl mg)(FT:Fn P w K mg base CX0 1 "_law_tuple" ["_law_found"] spTuple):FnOk P w K mg base CX0 2 f fd ["_law_found"] spAllT:=by
 refine F.ok Xqa (by walk_at "l") ?_
 ·walk_at "i"
  obtain⟨l,ps,Ts,rfl,hl,hT,hS,hp,k⟩:=h;have hr1:Room 1 _:=hr.mono (by decide);refine⟨_,Ag (An (Jd (A2 Jp (by rfl) T.isi boot_isinstance (Aa (pv 0) (Aa (G0 (v:=.ty "list") (by rfl) T.list boot_list rfl) Ac)))
   (G1 (A2 (F6 rfl) (by rfl) T.all (by rfl) (Aa (Dh (N:=["_law_one_here"]) (cap:=[none]) (CompScope.of (defScope s__law_all_texts) ["_law_found"] rfl rfl rfl (by decide +kernel)) rfl
    (Bt (pv 0)) (λ_ _ _=>Aw (i:=0) (show (["_law_one_here"]:Zb).Nodup by decide +kernel) rfl (.inl rfl) (.inr rfl)) (λ_ _ _=>Ce)
    (λ_ _ _=>Ah (by exact FT) (by exact hr1) (by rfl) Aj (Aa (pv 0) Ac))) Ac))))),?_⟩
  refine⟨_,rfl,_,_,_,_,true,rfl,.lst hl,rfl,J6 K "list",true,rfl,Bq ?_⟩;refine⟨_,rfl,l,rfl,⟨_,SqL.of hl⟩,?_⟩;refine Ju (n:=ps.length) (by rw[Te];omega) (λi=>.ref (ps.getD i 0)) (λi=>.bl true) ?_ ?_ ?_ ?_
  ·intro j H2 hj s2;have:=C6 (K:=K) (SqL.of (s2 _ _ hl)) (show j<(ps.map V.ref).length by rw[Oh];exact hj)
   rwa [Bu V.ref 0 ps hj] at this
  ·intro H2 s2;have:=C7 (K:=K) (SqL.of (s2 _ _ hl))
   rwa [Oh] at this
  ·intro j H2 Q' hj s2 kk;have hj':j<Ts.length:=by rw[<-hT.1];exact hj
   have hm:Ts.getD j []∈Ts:=by
    have:Ts.getD j []=Ts[j]:=by simp[List.getD,hj']
    rw[this];exact Pa hj'
   exact⟨_,rfl,_,Ts.getD j [],rfl,En (s2 _ _ (hT.2 j hj)),hS _ hm,λH3 s3=>kk H3 s3⟩
  ·intro D H2 nD s2 hD;have hD':H2 D=some (.lst (((List.range ps.length).map λ_=>true).map V.bl)):=by rw[hD,Pj];rfl
   refine⟨D,_,rfl,hD',?_⟩;have e:((List.range ps.length).map λ_=>true).all id=true:=by simp
   rw[e];exact k H2 s2
def Xqc:FnScope NGo ["_law_row_here", "_law_plot"] (defScope s__law_good_plot):=by walk_at "s"
def Xqd{f}{fd}(F:Fun K "_law_good_plot" "_law_good_plot" s__law_good_plot f fd)(T:Bl mg)(FF:Fn P w K mg base CX0 1 "_law_fits" ["_law_bars_here", "_law_plot"] Nm)
    (FB:Fn P w K mg base CX0 2 "_law_bars" ["_law_row_here"] spBars):FnOk P w K mg base CX0 3 f fd ["_law_row_here", "_law_plot"] spGood:=by
  refine F.ok Xqc (by walk_at "l") ?_
  . walk_at "i"
    obtain⟨r,p,row,ss,rfl,hR,R2,hP,hok,hsl,k⟩:=h;have hu:=Sa (C4 hr);have hr1:Room 1 _:=hr.mono (by decide);refine⟨_,Ae (A5 (Av (Xbv hu) (B7 F3 (by rfl) T.list boot_list (Aa (pv 1) Ac)) (Dh (N:=NGo1) (cap:=[none,some 1]) (CompScope.of (defScope s__law_good_plot) NGo rfl rfl rfl (by decide +kernel)) rfl
          (Bt (Nl (i:=0) rfl (by rfl) T.sorted (by rfl) T.set (pv 0))) (λ_ _ _=>Aw (i:=0) (show NGo1.Nodup by decide +kernel) rfl (.inl rfl) (.inr rfl))
          (λ_ _ _=>D0 (Av (Hu K (by rfl)) (pv 0) (pv 1) (by rfl))) (λ_ _ _=>pv 0)) (Ar _)) (Ag (An Dm)) A8)
      (Ag (An (Ah FF hr1 (by rfl) Aj (Aa (Ah FB hr (by rfl) Aj (Aa (pv 0) Ac)) (Aa (pv 1) Ac))))),?_⟩
    have hrl:=R2.len;have hdl:=D3 row;refine⟨_,rfl,p,_,rfl,.inr (SqT.of hP),λl1 n1=>?_⟩;have s1:Same H (upd H l1 (.lst (ss.map V.str))):=(Same.refl H).step n1;have h1:upd H l1 (.lst (ss.map V.str)) l1=some (.lst (ss.map V.str)):=Ab;generalize upd H l1 (.lst (ss.map V.str))=H1 at s1 h1;refine⟨_,rfl,r,row,rfl,.inl (SqL.of (s1 _ _ hR)),hrl,λl H2 nl hl2 s2=>?_⟩;have hP2:=s2 _ _ (s1 _ _ hP);refine⟨l,rfl,⟨_,SqL.of hl2⟩,?_⟩;refine Gf (n:=(dit row).length) (by rw[Te];omega) (λi=>((dit row).map V.str).getD i .non) (λi=>decide ((dit row).getD i Str.empty∈ss)) (λi=>.str ((dit row).getD i Str.empty)) ?_ ?_ ?_ ?_ ?_
    . intro i H3 hi s3;exact C6 (SqL.of (s3 _ _ hl2)) (by rw[Oh];exact hi)
    . intro H3 s3;have:=C7 (K:=K) (SqL.of (s3 _ _ hl2))
      rwa [Oh] at this
    . intro i H3 Q' hi s3 kk;rw[Bu V.str Str.empty _ hi];refine⟨_,rfl,_,rfl,p,_,rfl,.inr (SqT.of (s3 _ _ hP2)),rfl,C8 ss,_,rfl,?_⟩;rw[Tf (by decide),Dg];exact kk H3 (Same.refl _)
    . intro i H3 Q' hi hk s3 kk;rw[Bu V.str Str.empty _ hi];exact⟨_,rfl,kk H3 (Same.refl _)⟩
    . intro D H3 nD s3 hD;have hD':H3 D=some (.lst (((dit row).filter λy=>decide (y∈ss)).map V.str)):=by
        rw[hD,<-Ct Str.empty (λy=>decide (y∈ss)) (dit row),Pj];rfl
      have s13:=s1.trans (s2.trans s3);refine⟨l1,D,_,_,rfl,rfl,SqL.of (s3 _ _ (s2 _ _ h1)),SqL.of hD',J7 _,J7 _,_,rfl,?_⟩;rw[Mc];by_cases e:ss=(dit row).filter λy=>decide (y∈ss)
      . rw[Th e];refine Bp ?_;refine⟨_,rfl,r,row,rfl,s13 _ _ hR,R2,λb xs H4 nb hb hal s4=>?_⟩;refine⟨_,rfl,b,p,xs,bars row,ss,rfl,hb,hal,s4 _ _ (s13 _ _ hP),λH5 s5=>?_⟩;have:=k H5 (s13.trans (s4.trans s5));unfold E6 at this;rw[Th e,Qg] at this;exact this
      . rw[Ti e];refine Bq ?_;have:=k H3 s13;unfold E6 at this;rw[Ti e,P7] at this;exact this
def Gy:FnScope NSd ["_law_row_here", "_law_kept_here", "_law_plot"] (defScope s__law_said):=by walk_at "s"
def Xf0(K)(C):kitOne K (.ref C) (.ref C)=some true:=by
 unfold kitOne;rw[Tg (beq_self_eq_true _)]
def Xqe{f C D S T fa fb}{fd fda fdb}(F:Fun K "_law_said" "_law_said" s__law_said f fd)(B:Bl mg)(hS:mg "ShoreError" = some (.ref S))(hC:mg "BadGround" = some (.ref C))(hD:mg "NoPlot" = some (.ref D))
  (hma:mg "held" = some (.ref fa)) (hka:keepIn K (.ref fa)=true) (hba:Binds K fda ["row", "kept"] []) (FA:FnOk P w K mg base (CX1 P w) 6 fa fda ["row", "kept"] (spHeld C T (lamPos s_in_order)))
  (hmb:mg "inside" = some (.ref fb)) (hkb:keepIn K (.ref fb)=true) (hbb:Binds K fdb ["row", "kept", "plot"] []) (FY:FnOk P w K mg base (CX1 P w) 7 fb fdb ["row", "kept", "plot"] (Oa C D T (lamPos s_in_order)))
  (xC:ExcF K C) (xD:ExcF K D) (e1:exmOne K (.ref C) (.ref S)=some true) (e2:exmOne K (.ref D) (.ref S)=some true) (v1:kitOne K (.ref C) (.type "ValueError")=some true) (v2:kitOne K (.ref D) (.type "ValueError")=some true)
  (n1:kitOne K (.ref C) (.ref D)=some false) (n2:kitOne K (.ref D) (.ref C)=some false):
  FnOk P w K mg base CX0 8 f fd ["_law_row_here", "_law_kept_here", "_law_plot"] (spSaid31 T (lamPos s_in_order)):=by
 refine F.ok Gy (by walk_at "l") ?_
 ·walk_at "i"
  obtain⟨r,kp,row,kept,v,b0,rfl,hA,hb,hv,k⟩:=h;have hr6:Room 6 _:=hr.mono (by decide);refine⟨_,Ae (Ao (i:=3) Gy.nd rfl (.inl rfl) Az)
   (Ae (Xii (i:=4) (Cc:=S) rfl rfl rfl Gy.nd rfl rfl (by rfl) hS
     (λpn R=>Ag (A5 (Av Xgs (pv 2) Xac (Ar _)) (Ag (Eu (Xbr FA hr6 (by rfl) hma hka hba .nil (Aa (pv 0) (Aa (pv 1) Ac))))) (Ag (Eu (Xbr FY hr (by rfl) hmb hkb hbb .nil (Aa (pv 0) (Aa (pv 1) (Aa (pv 2) Ac))))))))
     (λpn ex=>Ae (Ao (i:=5) Gy.nd rfl (.inl rfl) (Bh (Aa (A2 (Mq K rfl) (by rfl) B.isi boot_isinstance (Aa (pv 4) (Aa (Xad (v:=.ref C) (by rfl) hC rfl) Ac)))
       (Aa (A2 (Mq K rfl) (by rfl) B.isi boot_isinstance (Aa (pv 4) (Aa (Xad (v:=.ref D) (by rfl) hD rfl) Ac))) Ac))))
      (Ae (Ao (i:=3) Gy.nd rfl (.inl rfl) Az)
      (Ag (A5 (Ee (Av Bg (Nk K (by rfl) PySem.F.plainAttrs_list PySem.F.slot_list_count PySem.F.type_list_count Xc3 (pv 5) (Aa Dm Ac)) Af (Ar _))
        (Ed (Dd (A2 (Mq K rfl) (by rfl) B.isi boot_isinstance (Aa (pv 4) (Aa (G0 (v:=.ty "ValueError") (by rfl) B.val (by rfl) rfl) Ac)))))).pt
       (Ag (Ao (i:=3) Gy.nd rfl (.inl rfl) (Ax (Df K (by rfl)) (Bk (Aa Az (Aa Az Ac))) (Nk K (by rfl) PySem.F.plainAttrs_list PySem.F.slot_list_index PySem.F.type_list_index Xkn (pv 5) (Aa Dm Ac)) (λ_ _=>rfl)))) A8)))))
   (Ag (An (pv 3)))),?_⟩
  refine⟨λC1 Z1 H1=>C1=(if b0=true then C else D) /\ Z1=[some (.ref r),some (.ref kp),some v,some (.str "told"),none,none]/\Aq T (lamPos s_in_order) qIn H1/\But T H H1,?_,?_⟩
  ·refine⟨_,rfl,rfl,_,rfl,?_⟩;rcases hv with ⟨rfl,e⟩ | ⟨p,S1,rfl,hp,oS,lS,hpl⟩
   ·refine Bq ?_;refine⟨_,rfl,_,rfl,r,kp,row,kept,rfl,hA,λg=>absurd g (hb.mp e),λ_ H' t' b'=>?_⟩;exact⟨C,rfl,by rw[e];rfl,rfl,t',b'⟩
   ·refine Bp ?_;refine⟨_,rfl,_,rfl,_,rfl,r,kp,p,row,kept,S1,rfl,hA,hp,oS,lS,λg ip=>?_,λg H' t' b'=>?_,λg ip H' t' b'=>?_⟩
    ·cases hb0:b0 with
     | true=>exact absurd g (hb.mp hb0)
     | false=>rw[hpl hb0] at ip;cases ip
    ·exact⟨C,rfl,by rw[hb.mpr g];rfl,rfl,t',b'⟩
    ·refine⟨D,rfl,?_,rfl,t',b'⟩;cases hb0:b0 with
     | true=>exact absurd g (hb.mp hb0)
     | false=>rfl
  ·rintro C1 Z1 H1 ⟨rfl,rfl,t1,b1⟩;have fin:∀{H2:Hp},Same H1 H2->Q (.str (if b0=true then "ground" else "plot")) H2:=λs=>k _ (SH.Aq.same t1 s) λb o e n=>s _ _ (b1 b o e n);clear k hA hb hv;cases b0 with
   | true=>
    refine⟨e1,λex hex=>?_⟩;refine⟨_,rfl,ex,C,_,_,true,rfl,Ab,xC,rfl,Xf0 K C,?_⟩;refine⟨_,rfl,ex,C,_,_,false,rfl,Ab,xC,rfl,n1,by show 2<=sizeLine;decide,λl nl=>?_⟩;have hex2:upd (upd H1 ex (Fj ex C)) l (.lst [.bl true,.bl false]) ex=some (Fj ex C):=ku Ab nl;refine⟨_,rfl,.inl ⟨rfl,_,SqL.of Ab⟩,l,_,_,rfl,rfl,Ab,rfl,rfl,rfl,_,rfl,?_⟩;refine Bq ?_;refine⟨_,rfl,ex,C,_,_,true,rfl,hex2,xC,rfl,v1,true,rfl,Bq ?_⟩;refine⟨by show 2<=sizeLine;decide,λt nt=>?_⟩;refine⟨_,rfl,.inl ⟨rfl,_,SqL.of (ku Ab nt)⟩,l,_,_,0,rfl,rfl,ku Ab nt,rfl,rfl,by show 2<=1000;decide,⟨_,rfl,rfl⟩,λm z hm _=>absurd hm (Qp m),?_⟩;refine⟨t,_,_,_,rfl,rfl,SqT.of Ab,rfl,?_⟩;exact⟨_,rfl,fin ((((Same.refl H1).step hex).step nl).step nt)⟩
   | false=>
    refine⟨e2,λex hex=>?_⟩;refine⟨_,rfl,ex,D,_,_,false,rfl,Ab,xD,rfl,n2,?_⟩;refine⟨_,rfl,ex,D,_,_,true,rfl,Ab,xD,rfl,Xf0 K D,by show 2<=sizeLine;decide,λl nl=>?_⟩;have hex2:upd (upd H1 ex (Fj ex D)) l (.lst [.bl false,.bl true]) ex=some (Fj ex D):=ku Ab nl;refine⟨_,rfl,.inl ⟨rfl,_,SqL.of Ab⟩,l,_,_,rfl,rfl,Ab,rfl,rfl,rfl,_,rfl,?_⟩;refine Bq ?_;refine⟨_,rfl,ex,D,_,_,true,rfl,hex2,xD,rfl,v2,true,rfl,Bq ?_⟩;refine⟨by show 2<=sizeLine;decide,λt nt=>?_⟩;refine⟨_,rfl,.inl ⟨rfl,_,SqL.of (ku Ab nt)⟩,l,_,_,1,rfl,rfl,ku Ab nt,rfl,rfl,by show 2<=1000;decide,⟨_,rfl,rfl⟩,λm z hm hz=>?_,?_⟩
    ·have:m=0:=by omega
     subst this;cases (O0 hz);rfl
    ·refine⟨t,_,_,_,rfl,rfl,SqT.of Ab,rfl,?_⟩;exact⟨_,rfl,fin ((((Same.refl H1).step hex).step nl).step nt)⟩
end
end K31
set_option maxHeartbeats 8000000
namespace K31
open L2 SH
def K5 (K:Za) (T:Addr):Sp:=λvs H Q _=>∃(a:Addr) (ns:List Int),vs=[.ref a]/\SqL K H a (ns.map V.int)/\ns.length<=63/\H T=some (.tbl #[])/\∀H',Q (.bl true) H'
theorem Xf1{H}{row}:∀qs,(∀q∈qs,∃t,H q=some (.tup (t.map V.str))/\Am row t=true)->∃Ts,Tups H qs Ts/\∀S∈Ts,Am row S=true
 | [],_=>⟨[],Tups.nil H,λS hS=>by simp at hS⟩
 | q::qs,h=>by
  obtain⟨t,h1,h2⟩:=h q Os;obtain⟨Ts,g1,g2⟩:=Xf1 qs λq' hq=>h q' (Ot _ hq);refine⟨t::Ts,Tups.cons h1 g1,λS hS=>?_⟩;rcases O2.mp hS with e | e
  ·rw[e];exact h2
  ·exact g2 S e
section
variable {P:Program}{w:World}{K:Za}{mg:Str->Option Value}{base:Heap}
abbrev NL31:Zb:=["_law_script", "_law_draw", "_law_row_here", "_law_some", "_law_kept_here", "_law_odd", "_law_handed", "_law_due", "_law_found", "_law_step", "_law_plot", "_law_told"]
abbrev NL31a:Zb:=["_law_plot", "_law_kept_here", "_law_row_here"]
def Dc:FnScope NL31 ["_law_script"] (defScope s_law):=by walk_at "s"
def Xqf{f B0 C T}{fd}(F:Fun K "law" "law" s_law f fd)(B:Bl mg)(FB:Fn P w K mg base CX0 1 "_law_begin" ["_law_script"] (Xc8 K))(FP:FnPick P w K mg base)
  (FI:Fn P w K mg base CX0 5 "_law_island_to" ["_law_draw", "_law_most"] spIslTo) (FPl:Fn P w K mg base CX0 3 "_law_plots" ["_law_row_here"] spPlotsO) (FOn:Fn P w K mg base CX0 2 "_law_one" ["_law_draw", "_law_some"] spOne)
  (FF:Fn P w K mg base CX0 3 "_law_few" ["_law_draw", "_law_some"] spFew) (FKt:Fn P w K mg base CX0 1 "_law_kept" ["_law_row_here", "_law_crowd"] Ob)
  (FOk:Fn P w K mg base CX0 3 "_law_odd_kept" ["_law_draw", "_law_row_here", "_law_kept_here"] spOddK) (FO:Fn P w K mg base CX0 2 "_law_odd_plot" ["_law_draw", "_law_row_here", "_law_plot"] spOdd) (FGk:Fn P w K mg base CX0 3 "_law_good_kept" ["_law_row_here", "_law_some", "_law_kept_here"] Xfm)
  (FG:Fn P w K mg base CX0 3 "_law_good_plot" ["_law_row_here", "_law_plot"] spGood) (FHl:Fn P w K mg base CX0 2 "_law_held" ["_law_some", "_law_kept_here"] spHeldL) (FAt:Fn P w K mg base CX0 2 "_law_all_texts" ["_law_found"] spAllT) (FSd:Fn P w K mg base CX0 8 "_law_said" ["_law_row_here", "_law_kept_here", "_law_plot"] (spSaid31 T (lamPos s_in_order)))
  (FHe:Fn P w K mg base (CX1 P w) 6 "held" ["row", "kept"] (spHeld B0 T (lamPos s_in_order))) (FIn:Fn P w K mg base (CX1 P w) 7 "inside" ["row", "kept", "plot"] (Oa B0 C T (lamPos s_in_order))):
  FnOk P w K mg base CX0 9 f fd ["_law_script"] (K5 K T):=by
 refine F.ok Dc (by walk_at "l") ?_
 ·walk_at "i"
  obtain⟨a,ns,rfl,hS,hlen,hTb,k⟩:=h;have hu:=C4 hr;have hr1:Room 1 _:=hr.mono (by decide);have hr2:Room 2 _:=hr.mono (by decide);have hr3:Room 3 _:=hr.mono (by decide);have hr4:Room 4 _:=hr.mono (by decide);have hr5:Room 5 _:=hr.mono (by decide);have hr6:Room 6 _:=hr.mono (by decide);have hr7:Room 7 _:=hr.mono (by decide);refine⟨_,Ae (Ao (i:=1) Dc.nd rfl (.inl rfl) (Ah FB hr1 (by rfl) Aj (Aa (pv 0) Ac)))
   (Ae (Ao (i:=2) Dc.nd rfl (.inr rfl) (Ah FI hr5 (by rfl) Aj (Aa (pv 1) (Aa Af Ac))))
   (Ae (Ao (i:=3) Dc.nd rfl (.inl rfl) (Ah FPl hr3 (by rfl) Aj (Aa (pv 2) Ac)))
   (Ae (Ao (i:=4) Dc.nd rfl (.inr rfl) (Ah FKt hr1 (by rfl) Aj (Aa (pv 2) (Aa (Ah FF hr3 (by rfl) Aj (Aa (pv 1) (Aa (pv 3) Ac))) Ac))))
   (Ae (A5 (Av Bg (Ah FP hr1 (by rfl) Aj (Aa (pv 1) (Aa Af Ac))) Af (Ar _)) (Ag (Ao (i:=4) Dc.nd rfl (.inr rfl) (Ah FOk hr3 (by rfl) Aj (Aa (pv 1) (Aa (pv 2) (Aa (pv 4) Ac)))))) A8)
   (Ae (Ao (i:=5) Dc.nd rfl (.inl rfl) (Ah FO hr2 (by rfl) Aj (Aa (pv 1) (Aa (pv 2) (Aa (Ah FOn hr2 (by rfl) Aj (Aa (pv 1) (Aa (pv 3) Ac))) Ac)))))
   (Ae (A5 (Fy (Dd (Ah FGk hr3 (by rfl) Aj (Aa (pv 2) (Aa (pv 3) (Aa (pv 4) Ac)))))) (Ag (An (A2 (F6 rfl) (by rfl) B.all (by rfl) (Aa (Dh (N:=NL31a) (cap:=[none,some 4,some 2]) (CompScope.of (defScope s_law) NL31 rfl rfl rfl (by decide +kernel)) rfl (Bt (Bh (Aa Xac (Aa (Ax Bd (pv 3) Af (λ_ _=>rfl)) (Aa (pv 5) Ac))))) (λ_ _ _=>Aw (i:=0) (show NL31a.Nodup by decide +kernel) rfl (.inl rfl) (.inr rfl)) (λ_ _ _=>Ce) (λ_ _ _=>B6 Bg (Ah (by exact FSd) (by exact hr) (by rfl) Aj (Aa (pv 2) (Aa (pv 1) (Aa (pv 0) Ac)))) Az (Ar _))) Ac)))) A8)
   (Ae (Ao (i:=6) Dc.nd rfl (.inl rfl) (B7 F3 (by rfl) B.list (by rfl) (Aa (pv 4) Ac)))
   (Ae (Ao (i:=7) Dc.nd rfl (.inl rfl) (Ah FHl hr2 (by rfl) Aj (Aa (pv 3) (Aa (pv 4) Ac))))
   (Ae (Ao (i:=8) Dc.nd rfl (.inl rfl) (Ah FHe hr6 (by rfl) Jv (Aa (pv 2) (Aa (pv 6) Ac))))
   (Ae (A5 (Et (Fy (Dd (Ah FAt hr2 (by rfl) Aj (Aa (pv 8) Ac)))) (Es (Av (J4 (hu3 hr)) (pv 8) (pv 7) (Ar _)))).pt (Ag (An Dm)) A8)
   (Ae (Eu (G8 PySem.F.plainAttrs_list PySem.F.slot_list_append PySem.F.type_list_append G9 (pv 8) (Aa (Bk (Aa Az Ac)) Ac)))
   (Ae (Ao (i:=9) Dc.nd rfl (.inl rfl) (Ak Bw Af (Ak Lf (A2 B9 (by rfl) B.len boot_len (Aa (pv 3) Ac)) Af)))
   (Ae (C2 PassesOwn.never rfl (Bt (Xom (pv 3) (Ah FP hr1 (by rfl) Aj (Aa (pv 1) (Aa (pv 9) Ac))) (pv 9))) (Aw (i:=10) Dc.nd rfl (.inl rfl)) (Ae (Ao (i:=11) Dc.nd rfl (.inl rfl) (Ah FIn hr7 (by rfl) Jv (Aa (pv 2) (Aa (pv 6) (Aa (pv 10) Ac)))))
   (Ag (A5 (Et (Fy (Dd (A2 Jp (by rfl) B.isi boot_isinstance (Aa (pv 11) (Aa (G0 (v:=.ty "bool") (by rfl) B.bool (by rfl) rfl) Ac))))) (Es (Av F0 (pv 11) (B6 (Xcy (hu4 hr)) (pv 10) (pv 7) (by rfl)) (Ar _)))).pt (Ag (An Dm)) A8))))
   (Ae (A5 (Ee (Fy (Dd (Ah FG hr3 (by rfl) Aj (Aa (pv 2) (Aa (pv 5) Ac))))) (Ed (Av F0 (Ah FSd hr (by rfl) Aj (Aa (pv 2) (Aa (pv 4) (Aa (pv 5) Ac)))) Az (Ar _)))).pt (Ag (An Dm)) A8)
   (Ag (An (Jd (B6 (Hz (hu3 hr)) (pv 6) (pv 4) (Ar _)) (G1 (B6 (Hz (hu3 hr)) (Ah FHe hr6 (by rfl) Jv (Aa (pv 2) (Aa (pv 6) Ac))) (pv 7) (Ar _)))))))))))))))))))),?_⟩
  have nT:∀{H':Hp} {b:Addr} {o:HO},Aq T (lamPos s_in_order) qIn H'->H' b=some o->(∀z,o ≠ .tbl z)->b≠T:=λtb e n z=>by
   rcases tb with q | ⟨_,q,_⟩<;>(rw[z,q] at e;cases e;exact n _ rfl)
  have tu:∀{H' H'':Hp},(∀{b:Addr} {o:HO},H' b=some o->(∀z,o ≠ .tbl z)->H'' b=some o)->∀{ps:List Addr} {Ts:List (Zb)},Tups H' ps Ts->Tups H'' ps Ts:=λkk _ _ h=>⟨h.1,λi hi=>kk (h.2 i hi) λz=>by simp⟩;refine⟨_,rfl,a,ns,rfl,hS,hlen,λdr sc H1 ndr nsc d1 s1=>?_⟩;have tab1:Aq T (lamPos s_in_order) qIn H1:=.inl (s1 _ _ hTb);refine⟨_,rfl,dr,sc,11,rfl,by decide,d1,λr row n st late H2 nr hn hst hR hp hno d2 b2=>?_⟩;have tab2:Aq T (lamPos s_in_order) qIn H2:=by
   obtain⟨xs1,h1⟩:=d1.at;exact SH.Aq.but tab1 h1 b2
  have hI:Isl row:=⟨n,st,late,by omega,hst,hp⟩;have R2:=hI.row2;have h14:=hI.dlen;have hrl:=R2.len;have hdl:=D3 row;have nrd:r≠dr:=(d1.ne nr).1;refine⟨_,rfl,r,row,rfl,hR,R2,hno,by omega,λl ps Ts H3 nl hl3 hTp gP s3=>?_⟩;have hPL:=gP.mem;have hps64:ps.length<=64:=by rw[hTp.1];exact gP.len R2.two hno (by omega)
  have d3:=d2.same s3;have hR3:=s3 _ _ hR;have tab3:=SH.Aq.same tab2 s3;have nld:l≠dr:=(d2.ne nl).1;have hlp:0<ps.length:=by rw[hTp.1];exact List.length_pos_of_mem ((hPL []).mpr (Kk row))
  have hps:=hTp.1;have okp:∀t,Am row t=true->(∀y∈t,okN y)/\t.length<=14:=λt ht=>⟨λy hy=>R2.ok y ((Ep ht).1 y hy),Pd (Nv ht) (by omega)⟩;have atp:∀{H':Hp} {p:Addr} {t:Zb},But dr H3 H'->H3 p=some (.tup (t.map V.str))->H' p=some (.tup (t.map V.str)):=λb h=>b _ _ h (d3.ntup _ _ h);have tps:∀{H':Hp},But dr H3 H'->Tups H' ps Ts:=λb=>⟨hTp.1,λi hi=>atp b (hTp.2 i hi)⟩;have tabB:∀{H':Hp},But dr H3 H'->Aq T (lamPos s_in_order) qIn H':=λb=>by
   obtain⟨xs,h⟩:=d3.at;exact SH.Aq.but tab3 h b
  refine⟨_,rfl,_,rfl,_,rfl,dr,sc,l,ps,rfl,d3,hl3,nld,hlp,by omega,λc qs H4 nc hc hsub hq0 hq4 d4 b4=>?_⟩;have b4:But dr H3 H4:=b4;obtain⟨Us,hU,hUp⟩:∃Us,Tups H4 qs Us/\∀S∈Us,Am row S=true:=Xf1 qs λq hq=>by
   obtain⟨i,hi,e⟩:=Po.mp (hsub q hq);have hi':i<Ts.length:=by rw[<-hps];exact hi
   refine⟨Ts.getD i [],?_,(hPL _).mp ?_⟩
   ·have:=hTp.2 i hi;rw[show ps.getD i 0=q by rw[<-e];simp[List.getD,hi]] at this;exact atp b4 this
   ·have:Ts.getD i []=Ts[i]:=by simp[List.getD,hi']
    rw[this];exact Pa hi'
  have hUn:Us≠[]:=λe=>by
   have:=hU.1;rw[e] at this;rw[this] at hq0;exact absurd hq0 (P5 _)
  refine⟨r,c,row,qs,Us,rfl,b4 _ _ hR3 nrd,R2,hc,hU,by omega,hUn,λkp ks H5 nkp hkp hks s5=>?_⟩;have g0:Good row (B5 row Us):=⟨Us,hUn,hUp,rfl⟩;generalize B5 row Us=kept0 at hks g0;have d5:=d4.same s5;have b35:=b4.same s5;have nkd:kp≠dr:=(d4.ne nkp).1;have hk5:=hkp;dsimp only[A6];refine Xe2 (t:=Jf _ _ _) (fun Z' H'=>∃(kq:Addr) (kqs:List Addr) (kept:List (Str×Str)), Z'=[some (.ref a),some (.ref dr),some (.ref r),some (.ref l),some (.ref kq),none,none,none,none,none,none,none]/\kq≠dr/\H' kq=some (.lst (kqs.map V.ref))/\Tups H' kqs (kept.map pr2)/\KpOk kept/\DrawOk H' dr sc/\But dr H3 H') ?_ ?_;rotate_left
  ·intro nx hnx;refine⟨_,rfl,dr,sc,3,rfl,by decide,by decide,d5,λq4 H7 q40 q41 d7 b7=>⟨rfl,_,rfl,?_⟩⟩;have b7:But dr H5 H7:=b7;have hk7:=b7 _ _ hk5 nkd;have hks7:Tups H7 ks (kept0.map pr2):=⟨hks.1,λi hi=>b7 _ _ (hks.2 i hi) (d5.ntup _ _ (hks.2 i hi))⟩;have b37:=b35.trans b7;refine A0 (λ_=>?_) (λ_=>hnx _ _ ⟨kp,ks,kept0,rfl,nkd,hk7,hks7,g0.kp hI,d7,b37⟩);refine⟨_,rfl,_,rfl,_,rfl,dr,sc,r,kp,row,ks,kept0,rfl,d7,b37 _ _ hR3 nrd,nrd,hI,hk7,nkd,hks7,g0,λk' qs' kept' H8 nk' hk' ht' ko' d8 b8=>?_⟩;have b8:But dr H7 H8:=b8;exact hnx _ _ ⟨k',qs',kept',rfl,nk',hk',ht',ko',d8,b37.trans b8⟩
  rintro Z' H7 ⟨kq,kqs,kept,rfl,nkq,hk7,hks7,ko,d7,b37⟩;clear hkp hks hk5 d5 s5 b35;refine⟨_,rfl,_,rfl,_,rfl,_,rfl,dr,sc,l,_,rfl,d7,b37 _ _ hl3 nld,nld,by rw[Oh];exact hlp,by rw[Oh];omega,λi1 H8 hi1 d8 b8=>?_⟩;have b8:But dr H7 H8:=b8;rw[Oh] at hi1;rw[Bu V.ref 0 ps hi1];have b38:=b37.trans b8;have hp8:=(tps b38).2 i1 hi1;have ip0:Am row (Ts.getD i1 [])=true:=(hPL _).mp (by
   have hi':i1<Ts.length:=by rw[<-hps];exact hi1
   have:Ts.getD i1 []=Ts[i1]:=by simp[List.getD,hi']
   rw[this];exact Pa hi')
  generalize Ts.getD i1 []=S0 at hp8 ip0;generalize ps.getD i1 0=p0 at hp8;obtain⟨o0,l0⟩:=okp S0 ip0;have hk8:=b8 _ _ hk7 nkq;have hks8:Tups H8 kqs (kept.map pr2):=⟨hks7.1,λi hi=>b8 _ _ (hks7.2 i hi) (d7.ntup _ _ (hks7.2 i hi))⟩;refine⟨dr,sc,r,p0,row,S0,rfl,d8,b38 _ _ hR3 nrd,nrd,hI,hp8,o0,by omega,λq S H9 hq9 oS hl' d9 b9=>?_⟩;have b9:But dr H8 H9:=b9;have b39:=b38.trans b9;have hk9:=b9 _ _ hk8 nkq;have hks9:Tups H9 kqs (kept.map pr2):=⟨hks8.1,λi hi=>b9 _ _ (hks8.2 i hi) (d8.ntup _ _ (hks8.2 i hi))⟩;have lS:S.length<=24:=by omega
  have tab9:=tabB b39;have hR9:=b39 _ _ hR3 nrd;have hl9:=b39 _ _ hl3 nld;have hT9:=tps b39;clear hk7 hks7 hk8 hks8 hp8 d7 b37 b8 d8 b38;dsimp only[A6];refine⟨_,rfl,_,rfl,_,rfl,r,l,kq,row,ps,Ts,kqs,kept,rfl,hR9,R2,hl9,hT9,hps64,hPL,hk9,hks9,ko,λb HA hb sA=>⟨_,rfl,?_⟩⟩;have tabA:=SH.Aq.same tab9 sA;have hRA:=sA _ _ hR9;have hlA:=sA _ _ hl9;have hTA:=hT9.same sA;have hkA:=sA _ _ hk9;have hksA:=hks9.same sA;have hqA:=sA _ _ hq9;have dA:=d9.same sA;have kl:=ko.len;have hkl:kqs.length=kept.length:=by
   have:=hksA.1
   rwa [Oh] at this
  cases b with
  | false=>
   refine Bq ?_;have ng:¬Good row kept:=λg=>absurd (hb.mpr g) (by decide);have h0:(ps.map V.ref)[0]? = some (.ref (ps.getD 0 0)):=by
    rw[Ox,Oi hlp];simp[List.getD,hlp]
   refine⟨_,rfl,l,_,_,_,rfl,rfl,SqL.of hlA,(show atI (ps.map V.ref) ((0:Nat):Int)=some (.ref (ps.getD 0 0)) from Dz h0),_,rfl,by show 3<=sizeLine;decide,λll nll=>?_⟩;have sB:Same HA (upd HA ll (.lst [.non,.ref (ps.getD 0 0),.ref q])):=(Same.refl HA).step nll;have hllB:upd HA ll (.lst [.non,.ref (ps.getD 0 0),.ref q]) ll=some (.lst [.non,.ref (ps.getD 0 0),.ref q]):=Ab;generalize upd HA ll (.lst [.non,.ref (ps.getD 0 0),.ref q])=HB at sB hllB;have tabBB:=SH.Aq.same tabA sB;have kB:∀{H':Hp},But T HB H'->∀{b:Addr} {o:HO},HB b=some o->(∀z,o ≠ .tbl z)->H' b=some o:=λbt _ _ e n=>bt _ _ e (nT tabBB e n);have hxs:∀i,i<3->[V.non,.ref (ps.getD 0 0),.ref q].getD i .non = .non \/ ∃(p:Addr) (U:Zb),[V.non,.ref (ps.getD 0 0),.ref q].getD i .non = .ref p/\HB p=some (.tup (U.map V.str))/\(∀y∈U,okN y)/\U.length<=24:=λi hi=>by
    match i,hi with
    | 0,_=>exact .inl rfl
    | 1,_=>
     have ip:=(hPL _).mp (SH.Tups.at hTA hlp);exact .inr ⟨_,_,rfl,sB _ _ (hTA.2 0 hlp),(okp _ ip).1,Pd (okp _ ip).2 (by decide)⟩
    | 2,_=>exact .inr ⟨_,_,rfl,sB _ _ hqA,oS,lS⟩
   generalize hxe:[V.non,.ref (ps.getD 0 0),.ref q]=xs at hllB hxs;have hxl:xs.length=3:=by rw[<-hxe];rfl
   refine⟨ll,rfl,⟨_,SqL.of hllB⟩,?_⟩;refine Ey 3 (λi=>xs.getD i .non) (λD i Z2 H2=>(∃v, Z2=[v,some (.ref kq),some (.ref r)])/\Aq T (lamPos s_in_order) qIn H2/\But T HB H2/\D≠T/\H2 D=some (.lst ((List.replicate i true).map V.bl))) ?_ ?_ ?_ ?_ ?_
   ·intro D hD;have nDT:D≠T:=λz=>by
     rcases tabBB with q | ⟨_,q,_⟩<;>(rw[z,q] at hD;cases hD)
    exact⟨⟨_,rfl⟩,SH.Aq.same tabBB ((Same.refl HB).step hD),λb o e n=>by rw[Ad (Au e hD)];exact e,nDT,Ab⟩
   ·rintro D i Z2 H2 hD hi ⟨_,_,b2,_⟩;exact C6 (K:=K) (SqL.of (kB b2 hllB λz=>by simp)) (by rw[hxl];exact hi)
   ·rintro D Z2 H2 hD ⟨_,_,b2,_⟩;have:=C7 (K:=K) (SqL.of (kB b2 hllB λz=>by simp))
    rwa [hxl] at this
   ·rintro D i Z2 H2 hD hi ⟨⟨v,rfl⟩,t2,b2,nDT,h2⟩;have hx:=hxs i hi;generalize xs.getD i .non=x at hx;dsimp only[A6,C5];rw[Tg rfl];have kk:∀{b:Addr} {o:HO},HA b=some o->(∀z,o ≠ .tbl z)->H2 b=some o:=λe n=>kB b2 (sB _ _ e) n;refine⟨_,rfl,_,rfl,_,rfl,r,kq,row,kept,x,true,rfl,⟨kk hRA λz=>by simp,R2,hno,h14,t2,⟨kqs,kk hkA λz=>by simp,tu kk hksA⟩,ko⟩,iff_of_true rfl ng,?_,λH3 t3 b3=>⟨rfl,?_⟩⟩
    ·rcases hx with hx | ⟨p,U,hx,hp,oU,lU⟩
     ·exact .inl ⟨hx,rfl⟩
     ·exact .inr ⟨p,U,hx,kB b2 hp λz=>by simp,oU,lU,λz=>by cases z⟩
    ·have h3:=b3 _ _ h2 nDT;rw[Tg (show true=true from rfl),Th rfl];refine wput hi h3 (by rw[Oh,List.length_replicate,Te];omega) ⟨⟨_,rfl⟩,SH.Aq.but t3 h3 (λb o e n=>by rw[Ad n];exact e),λb o e n=>?_,nDT,?_⟩
     ·rw[Ad (Au e hD)];exact b3 _ _ (b2 _ _ e n) n
     ·rw[Ab,List.replicate_succ',Oq];rfl
   ·rintro D Z2 H2 hD ⟨_,_,_,_,h2⟩;refine⟨D,List.replicate 3 true,rfl,h2,?_⟩;exact k H2
  | true=>
   refine Bp ?_;have g:Good row kept:=hb.mp rfl;refine⟨_,rfl,kq,_,rfl,.inl (SqL.of hkA),λhd nhd=>?_⟩;have sB:Same HA (upd HA hd (.lst (kqs.map V.ref))):=(Same.refl HA).step nhd;have hhB:upd HA hd (.lst (kqs.map V.ref)) hd=some (.lst (kqs.map V.ref)):=Ab;dsimp only[A6];generalize upd HA hd (.lst (kqs.map V.ref))=HB at sB hhB;refine⟨_,rfl,_,rfl,l,kq,ps,Ts,kqs,kept,rfl,sB _ _ hlA,hTA.same sB,by omega,sB _ _ hkA,hksA.same sB,by omega,λdu us HC ndu hdu hTD hle sC=>?_⟩;have sAC:=sB.trans sC;have tabC:=SH.Aq.same tabA sAC;have hhC:=sC _ _ hhB;have HAt:∀{H':Hp} {kx:Addr},Aq T (lamPos s_in_order) qIn H'->(∀{b:Addr} {o:HO},HC b=some o->(∀z,o ≠ .tbl z)->H' b=some o)->HC kx=some (.lst (kqs.map V.ref))->HeldAt H' T (lamPos s_in_order) r kx row kept:=λt kk hx=>⟨kk (sAC _ _ hRA) λz=>by simp,R2,hno,h14,t,⟨kqs,kk hx λz=>by simp,tu kk (hksA.same sAC)⟩,ko⟩;dsimp only[A6];refine⟨_,rfl,_,rfl,r,hd,row,kept,rfl,HAt tabC (λe _=>e) hhC,λ_ fo fps Fs HD nfo hfo hTf isH hlef tabD bD=>?_,λz=>absurd g z⟩;have bD:But T HC HD:=bD;have eF:=Xfr gP isH;subst eF;have kD:∀{b:Addr} {o:HO},HC b=some o->(∀z,o ≠ .tbl z)->HD b=some o:=λe n=>bD _ _ e (nT tabC e n);have okF:∀U∈Ts.filter (keeps kept),∀y∈U,okN y:=λU hU=>(okp U ((hPL U).mp (Ou.mp hU).1)).1;have lF:∀U∈Ts.filter (keeps kept),U.length<=1000:=λU hU=>Pd (okp U ((hPL U).mp (Ou.mp hU).1)).2 (by decide);dsimp only[A6];refine⟨_,rfl,fo,fps,_,rfl,hfo,hTf,lF,by omega,λHE sE=>⟨_,rfl,Bp ?_⟩⟩;have hduE:=sE _ _ (kD hdu λz=>by simp);have hTDE:Tups HE us (Ts.filter (keeps kept)):=(tu kD hTD).same sE;refine⟨_,rfl,_,rfl,_,_,Cy (sE _ _ hfo) (hTf.same sE),Cy hduE hTDE,Cb _ (Cw okF),Cb _ (Cw okF),Fu _ _,_,rfl,?_⟩;rw[Ft okF okF,Th rfl];refine Bp ?_;have hfoE:=sE _ _ hfo;refine⟨_,rfl,.inl ⟨rfl,_,SqL.of hfoE⟩,by show 1<=sizeLine;decide,λpn np=>⟨fo,_,_,rfl,rfl,ku hfoE np,by rw[Oh,Te];omega,?_⟩⟩;have sp:Same HD (upd HE pn (.tup [.str "none"])):=sE.step np;have bp:But fo (upd HE pn (.tup [.str "none"])) (upd (upd HE pn (.tup [.str "none"])) fo (.lst (fps.map V.ref++[.ref pn]))):=λb o e n=>by rw[Ad n];exact e
   have tabF:=SH.Aq.but (SH.Aq.same tabD sp) (sp _ _ hfo) bp;have kF:∀{b:Addr} {o:HO},HC b=some o->(∀z,o ≠ .tbl z)->upd (upd HE pn (.tup [.str "none"])) fo (.lst (fps.map V.ref++[.ref pn])) b=some o:=λe n=>bp _ _ (sp _ _ (kD e n)) (Au e nfo);dsimp only;generalize upd (upd HE pn (.tup [.str "none"])) fo (.lst (fps.map V.ref++[.ref pn]))=HF at tabF kF;have hlC:=sAC _ _ hlA;have hTC:=hTA.same sAC;have dF:DrawOk HF dr sc:=by
    obtain⟨ns',p',c',m',k',e1,e2,rest⟩:=(dA.same sAC).ex;exact⟨⟨ns',p',c',m',k',kF e1 (λz=>by simp),kF e2 (λz=>by simp),rest⟩⟩
   refine⟨_,rfl,l,_,rfl,.inl (SqL.of (kF hlC λz=>by simp)),_,_,rfl,rfl,⟨by decide,by decide⟩,_,_,rfl,rfl,?_⟩;have hst:(0:Int)<1+((ps.map V.ref).length:Int) / 30/\(1:Int)+((ps.map V.ref).length:Int) / 30<=1000:=by
    rw[Oh];omega
   dsimp only[A6];refine⟨_,rfl,_,rfl,_,rfl,dr,sc,_,rfl,hst.1,hst.2,dF,λgi HG _ _ dG bG=>?_⟩;have bG:But dr HF HG:=bG;refine⟨_,rfl,l,ps.map V.ref,gi,_,rfl,bG _ _ (kF hlC λz=>by simp) nld,rfl,rfl,hst.1,λsl ys nsl hys lys=>?_⟩;have sH:Same HG (upd HG sl (.lst ys)):=(Same.refl HG).step nsl;have hslH:upd HG sl (.lst ys) sl=some (.lst ys):=Ab;generalize upd HG sl (.lst ys)=HH at sH hslH;have kH:∀{b:Addr} {o:HO},HC b=some o->(∀z,o ≠ .tbl z)->b≠dr->HH b=some o:=λe n nd=>sH _ _ (bG _ _ (kF e n) nd);have tH:∀{qs:List Addr} {Us:List (Zb)},Tups HC qs Us->Tups HH qs Us:=λh=>⟨h.1,λi hi=>kH (h.2 i hi) (λz=>by simp) ((dA.same sAC).ntup _ _ (h.2 i hi))⟩;have tabH:Aq T (lamPos s_in_order) qIn HH:=by
    obtain⟨xs1,h1⟩:=dF.at;exact SH.Aq.same (SH.Aq.but tabF h1 bG) sH
   have hRH:=kH (sAC _ _ hRA) (λz=>by simp) nrd;have hhH:=kH hhC (λz=>by simp) (dA.ne nhd).1;have hkH:=kH (sAC _ _ hkA) (λz=>by simp) nkq;have hksH:=tH (hksA.same sAC);have hduH:=kH hdu (λz=>by simp) ((dA.same sB).ne ndu).1;have hTDH:=tH hTD;have hTH:=tH hTC;have hqH:=kH (sAC _ _ hqA) (λz=>by simp) ((dA.same sAC).ntup _ _ (sAC _ _ hqA));have kk:∀{H':Hp},But T HH H'->∀{b:Addr} {o:HO},HH b=some o->(∀z,o ≠ .tbl z)->H' b=some o:=λbt _ _ e n=>bt _ _ e (nT tabH e n);have HAt2:∀{H':Hp} {kx:Addr},Aq T (lamPos s_in_order) qIn H'->But T HH H'->HH kx=some (.lst (kqs.map V.ref))->HeldAt H' T (lamPos s_in_order) r kx row kept:=λt bt hx=>⟨kk bt hRH λz=>by simp,R2,hno,h14,t,⟨kqs,kk bt hx λz=>by simp,tu (kk bt) hksH⟩,ko⟩;clear HAt;refine⟨sl,rfl,⟨_,SqL.of hslH⟩,?_⟩;refine Eg (K:=K) (a:=sl) (xs:=ys) (λi Z H'=>(∃v10 v11, Z=[some (.ref a),some (.ref dr),some (.ref r),some (.ref l),some (.ref kq),some (.ref q),some (.ref hd),some (.ref du),some (.ref fo),some (.int (1+((ps.map V.ref).length:Int) / 30)),v10,v11])/\Aq T (lamPos s_in_order) qIn H'/\But T HH H') ?_ ?_ ?_ ?_
   ·exact⟨⟨_,_,rfl⟩,tabH,λ_ _ e _=>e⟩
   ·rintro i Z H' _ ⟨_,_,b'⟩;exact SqL.of (kk b' hslH λz=>by simp)
   ·rintro i x Z H' hx ⟨⟨v10,v11,rfl⟩,t',b'⟩;obtain⟨p,U,rfl,hpH,ipU,mU⟩:∃(p:Addr) (U:Zb),x = .ref p/\HH p=some (.tup (U.map V.str))/\Am row U=true/\U∈Ts:=by
     obtain⟨p,hp,e⟩:=O5.mp (hys x (Qk hx));obtain⟨j,hj,ej⟩:=Po.mp hp;have h1:=hTH.2 j hj;rw[show ps.getD j 0=p by rw[<-ej];simp[List.getD,hj]] at h1;have m:=SH.Tups.at hTH hj;exact⟨p,_,e.symm,h1,(hPL _).mp m,m⟩
    obtain⟨oU,lU⟩:=okp U ipU;dsimp only[A6];refine⟨_,rfl,_,rfl,_,rfl,r,hd,p,row,kept,U,rfl,HAt2 t' b' hhH,kk b' hpH λz=>by simp,oU,by omega,λ_ _ HJ tJ bJ=>?_,λz=>absurd g z,λ_ z=>by rw[ipU] at z;cases z⟩;have bJ:But T H' HJ:=bJ;have b'J:But T HH HJ:=λb o e n=>bJ _ _ (b' _ _ e n) n;dsimp only[A6];refine⟨_,rfl,_,_,_,_,true,rfl,.bl _,rfl,J6 K "bool",_,rfl,Bp ?_⟩;refine⟨_,rfl,_,rfl,_,rfl,tupD U,(Ts.filter (keeps kept)).map tupD,En (kk b'J hpH λz=>by simp),Cy (kk b'J hduH λz=>by simp) (tu (kk b'J) hTDH),Cb _ (Em oU),Gh _ (N8 okF),by show PyData.depthAll (U.map PyData.str)+1<=3;rw[Ii];decide,rfl,_,rfl,?_⟩;have e:decide (U∈Ts.filter (keeps kept))=keeps kept U:=by
     cases hb:keeps kept U with
     | true=>exact Th (Ou.mpr ⟨mU,hb⟩)
     | false=>exact Ti λz=>by rw[(Ou.mp z).2] at hb;cases hb
    rw[isin okF oU,e,Th rfl];exact Bp ⟨⟨_,_,rfl⟩,tJ,b'J⟩
   rintro Z H' ⟨⟨v10,v11,rfl⟩,t',b'⟩;dsimp only;refine Xe2 (t:=Jf _ _ _) (fun Z' H' => Z'=[some (.ref a),some (.ref dr),some (.ref r),some (.ref l),some (.ref kq),some (.ref q),some (.ref hd),some (.ref du),some (.ref fo),some (.int (1+((ps.map V.ref).length:Int) / 30)),v10,v11]/\Aq T (lamPos s_in_order) qIn H'/\But T HH H') ?_ ?_;rotate_left
   ·intro nx hnx;refine⟨_,rfl,_,rfl,r,q,row,S,rfl,kk b' hRH λz=>by simp,R2,kk b' hqH λz=>by simp,oS,by omega,λHJ sJ=>⟨_,rfl,?_⟩⟩;have tJ:=SH.Aq.same t' sJ;have bJ:But T HH HJ:=λb o e n=>sJ _ _ (b' _ _ e n);rw[Ke R2.two];cases ipS:Am row S with
    | true=>exact Bp (hnx _ _ ⟨rfl,tJ,bJ⟩)
    | false=>
     refine Bq ?_;refine⟨_,rfl,_,rfl,_,rfl,r,kq,row,kept,_,false,rfl,HAt2 tJ bJ hkH,iff_of_false (by decide) (λz=>z g),.inr ⟨q,S,rfl,kk bJ hqH λz=>by simp,oS,lS,λ_=>ipS⟩,λHK tK bK=>⟨rfl,_,rfl,?_⟩⟩;rw[Tf (show ¬(false=true) by decide),Th rfl];exact Bp (hnx _ _ ⟨rfl,tK,λb o e n=>bK _ _ (bJ _ _ e n) n⟩)
   rintro Z' HJ ⟨rfl,tJ,bJ⟩;have okK:∀U∈kept.map pr2,∀y∈U,okN y:=λU hU y hy=>by
    obtain⟨z,hz,rfl⟩:=O5.mp hU;obtain⟨_,_,h1,h2⟩:=ko.ok z hz;rcases O2.mp hy with e | hy
    ·rw[e];exact h1
    ·rw[Om.mp hy];exact h2
   have hksJ:=tu (kk bJ) hksH;refine⟨_,rfl,_,rfl,_,_,Cy (kk bJ hhH λz=>by simp) hksJ,Cy (kk bJ hkH λz=>by simp) hksJ,Cb _ (Cw okK),Cb _ (Cw okK),Fu _ _,?_⟩;rw[Ft okK okK,Th rfl];refine⟨_,rfl,Bq ?_⟩;refine⟨_,rfl,_,rfl,r,hd,row,kept,rfl,HAt2 tJ bJ hhH,λ_ f2 f2s F2 HK nf2 hf2 hT2 isH2 hle2 tabK bK=>?_,λz=>absurd g z⟩;have bK:But T HJ HK:=bK;have eF:=Xfr gP isH2;subst eF;have bHK:But T HH HK:=λb o e n=>bK _ _ (bJ _ _ e n) n;refine⟨_,rfl,_,_,Cy hf2 hT2,Cy (kk bHK hduH λz=>by simp) (tu (kk bHK) hTDH),Cb _ (Cw okF),Cb _ (Cw okF),Fu _ _,?_⟩;rw[Ft okF okF,Th rfl];exact k _
end
end K31
set_option maxHeartbeats 4000000
namespace PySem.OldK
def of_tab{h₀ h:Heap}{T:Addr}(ht:isCodeTable h₀ T)(hT:h₀.get? T=some (tabObj #[]))(hT':∃ps,h.get? T=some (tabObj ps))(k:∀b o,b≠T->h₀.get? b=some o->h.get? b=some o):OldK h₀ h:=by
 obtain⟨ps,hps⟩:=hT';refine⟨λb o e=>?_,λb o e=>?_⟩
 ·by_cases z:b=T
  ·subst z;rw[hT] at e;cases e;exact .inr (.inl ⟨ht,rfl, #[],ps,rfl,by simpa using hps⟩)
  ·exact .inl (k b o z e)
 ·by_cases z:b=T
  ·exact⟨_,z ▸ hps⟩
  ·exact⟨o,k b o z e⟩
end PySem.OldK
namespace L2
def Xqg{P:Program}{w:World}{K:Za}{mg mb:Str->Option Value}{CX:CXT}{k:Nat}{fa a:Addr}{fd:FuncData}{x:Str}{sp:Sp}{s₁ : Shared}{vs:List Value}{ns:List Int}{T c0:Addr}
  (hT:s₁.heap.get? T=some (tabObj #[])) (hTK:K.lookup T=none) (hhd:codeHdIn K c0 T=true) (hbm:BmOk mg s₁.heap)
  (KX:K.In s₁.heap) (hns:s₁.heap.Ns mainGlobals mg) (hb:s₁.heap.Ns builtinsNs mb) (hbb:∀x:Str,x ≠ "__name__" -> mb x=bootBuiltins x) (hlim:s₁.heap.NoLimit) (hg:s₁.gens = #[])
  (ha:s₁.heap.get? a=some {cls:=.type "list",data:=.seq vs.toArray}) (hi:IntsAre vs ns) (hl:ns.length<=sizeLine) (hr:Room k callerA)
  (F:∀base:Heap,K.In base->base.Ns mainGlobals mg->BmOk mg base->FnOk P w K mg base CX k fa fd [x] sp) (hbind:∀(s:Shared) (u:Value),BindsTo s fd ⟨[u],[]⟩ [(x,u)])
  (hsp:∀H:Hp,H T=some (.tbl #[])->SqL K H a (ns.map V.int)->sp [.ref a] H (λv _=>v = .bl true) λ_ _ _=>False)
  (hCX:∀H e s',CX [] H s₁ (λ_ _ _=>False) e s'->False):
  codeAny (model P w) callerA (.call (.ref fa) ⟨[.ref a],[]⟩) (λr s'=>r = .ok (.ret (.bool true))/\OldK s₁.heap s'.heap/\s'.os=s₁.os/\AllBare s'.gens) s₁:=by
 have rv:=Xbk hi;have lenV:=hi.length;have core:∀H:Hp,H T=some (.tbl #[])->(∀b,b≠T->H b=none \/ ∃o xs,H b=some (.frz o (.lst xs)))->SqL K H a (ns.map V.int)->HOk P w H s₁.heap->(∀b,H b≠none->b=a\/b=T)->(H a≠none->K.lookup a=none) ->
   codeAny (model P w) callerA (.call (.ref fa) ⟨[.ref a],[]⟩) (λr s'=>r = .ok (.ret (.bool true))/\OldK s₁.heap s'.heap/\s'.os=s₁.os/\AllBare s'.gens) s₁:=by
  intro H hHT hO hS hok hA hK;have base_of:∀{b:Addr} {o:Obj},s₁.heap.get? b=some o->H b=none->(Dy s₁.heap H).get? b=some o:=λe n=>Xgb e n;have noA:∀{b:Addr} {o:Obj} {es:Array DictEntry} {ep:Nat},s₁.heap.get? b=some o->o.data = .dict es ep->H b=none:=λ{b o es ep} e d=>by
   cases q:H b with
   | none=>rfl
   | some u=>
    rcases hA b (by rw[q];simp) with e' | e'
    ·subst e';rw[ha] at e;cases e;have d':Data.seq vs.toArray _=Data.dict es ep:=d;cases d'
    ·subst e';rw[hT] at e;cases e;cases d
  have nsK:∀{b:Addr} {m:Str->Option Value},s₁.heap.Ns b m->(Dy s₁.heap H).Ns b m:=λ{b m} ⟨o,es,ep,e,d,r⟩=>⟨o,es,ep,base_of e (noA e d),d,r⟩;have hKb:K.In (Dy s₁.heap H):=λb o e=>base_of (KX b o e) (by
   cases q:H b with
   | none=>rfl
   | some u=>
    rcases hA b (by rw[q];simp) with e' | e'
    ·subst e';rw[hK (by rw[q];simp)] at e;cases e
    ·subst e';rw[hTK] at e;cases e)
  have hbm':BmOk mg (Dy s₁.heap H):=by
   obtain⟨bm,ob,b1,b2,b3,b4,b5,b6⟩:=hbm;refine⟨bm,ob,b1,b2,base_of b3 ?_,b4,b5,b6⟩;cases q:H bm with
   | none=>rfl
   | some u=>
    rcases hA bm (by rw[q];simp) with e' | e'
    ·subst e';rw[ha] at b3;cases b3;exact absurd (show Value.type "list" = Value.type "module" from b4) (by decide)
    ·subst e';rw[hT] at b3;cases b3;cases b4
  have hM:Mod K mg (Dy s₁.heap H):=⟨hKb,nsK hns,⟨mb,nsK hb,hbb⟩,let ⟨mc,h1,h2⟩:=hlim; ⟨mc,nsK h1,h2⟩⟩;have e0:Env0 P w K mg (Dy s₁.heap H) callerA [] s₁ H:=⟨rfl,hM,λb o e=>Xgc e,Nat.le_of_eq (Xga _ _),trivial,λb hb=>absurd (show b∈([]:List Addr) from hb) (by simp),hok,.of_eq hg⟩;refine codeAny_mono ((F _ hKb (nsK hns) hbm').run callerA [] s₁ H ⟨[.ref a],[]⟩ [.ref a] [.ref a] _ _ hr e0 (hbind s₁ (.ref a)) (.cons rfl .nil) (hsp H hHT hS)) λr s' h=>?_;cases r with
  | error e=>exact(hCX H e s' h).elim
  | ok fl=>
   cases fl with
   | next=>exact False.elim h
   | brk=>exact False.elim h
   | cont=>exact False.elim h
   | ret u=>
    obtain⟨v,H',os,bare,un,hok',r',q⟩:=h;have q':v = .bl true:=q;subst q';obtain rfl:u=Value.bool true:=r';refine⟨rfl,OldK.of_tab (T:=T) (by have C:=codeHd_of_K KX hhd;exact(C.tab hT).isCodeTable) hT ?_ λb o nb e=>?_,os,bare⟩
    ·obtain⟨more,hm⟩:=un.tbls T #[] hHT;exact⟨#[]++more,hok' T _ hm⟩
    cases q:H b with
    | none=>exact un.keep b o e q (by intro z;exact absurd (show b∈([]:List Addr) from z) (by simp)) (by simp)
    | some u=>
     rcases hO b nb with z | ⟨ob,xs,z⟩
     ·rw[q] at z;cases z
     ·have z2:=un.frzs b ob _ z;obtain⟨e1,_⟩:=hok b _ z;obtain⟨e2,_⟩:=hok' b _ z2;rw[e] at e1;cases e1;exact e2
 cases hk:K.lookup a with
 | some o=>
  have e:=KX a o hk;rw[ha] at e;cases e;have naT:a≠T:=λz=>by rw[z,hTK] at hk;cases hk
  refine core (λb=>if b=T then some (.tbl #[]) else none) (Tg rfl) (λb n=>.inl (Tf n)) (.inr ⟨_,vs.toArray,_,hk,rfl,rfl,rfl,by rw[Ol,lenV];exact hl,by simpa using rv⟩) (λb u z=>?_) (λb z=>.inr (Classical.byContradiction λn=>z (Tf n))) λz=>absurd (Tf naT) z;by_cases hb:b=T
  ·have z':=(Tg hb).symm.trans z;cases z';rw[hb];exact hT
  ·have z':=(Tf hb).symm.trans z;cases z'
 | none=>
  have naT:T≠a:=λz=>by rw[z,ha] at hT;cases hT
  refine core (λb=>if b=T then some (.tbl #[]) else if b=a then some (.frz {cls:=.type "list",data:=.seq vs.toArray} (.lst (ns.map V.int))) else none) (Tg rfl) (λb n=>?_) (.inl (.inr ⟨{cls:=.type "list",data:=.seq vs.toArray},(Tf naT.symm).trans (Tg rfl)⟩)) (λb u z=>?_) (λb z=>?_) λ_=>hk
  ·by_cases hb:b=a
   ·exact .inr ⟨_,_,(Tf n).trans (Tg hb)⟩
   ·exact .inl ((Tf n).trans (Tf hb))
  ·by_cases hb:b=T
   ·have z':=(Tg hb).symm.trans z;cases z';rw[hb];exact hT
   ·have z1:=(Tf hb).symm.trans z;by_cases hb:b=a
    ·have z':=(Tg hb).symm.trans z1;cases z';subst hb;exact⟨ha,by rw[Oh];exact hl,vs,_,rv,ha⟩
    ·have z':=(Tf hb).symm.trans z1;cases z'
  ·by_cases hb:b=T
   ·exact .inr hb
   ·by_cases hc:b=a
    ·exact .inl hc
    ·exact absurd ((Tf hb).trans (Tf hc)) z
def Xqh{l:PySem.W.OpenLaw}{n k:Nat}{q:Program}{loose:Zb}{XP:(Str->Option Value)->Heap->Prop}{YP:World->Heap->Prop}{d:DefRec}{K:Params->Za}{CX:World->CXT}{sp:World->Sp}{x:Str}{T c0:Addr}
  (hn:l.most=some n) (hn2:n<=sizeLine) (hdf:d.params.defaults=[]) (hr:Room k callerA)
  (hY:∀(w:World) (h:Heap),YP w h->(K w.params).In h) (hYT:∀(w:World) (h:Heap),YP w h->h.get? T=some (tabObj #[])) (hTK:∀P,(K P).lookup T=none) (hhd:∀P,codeHdIn (K P) c0 T=true)
  (F:∀(w:World) (mg:Str->Option Value) (fa:Addr) (h:Heap),(K w.params).In h->h.Ns mainGlobals mg->mg d.name=some (.ref fa) ->
   ∃fd:FuncData,(∀(s:Shared) (u:Value),BindsTo s fd ⟨[u],[]⟩ [(x,u)]) /\
    ∀base:Heap,(K w.params).In base->base.Ns mainGlobals mg->BmOk mg base->FnOk l.prog w (K w.params) mg base (CX w) k fa fd [x] (sp w))
  (hsp:∀(w:World) (H:Hp) (a:Addr) (ns:List Int),ns.length<=n->H T=some (.tbl #[])->SqL (K w.params) H a (ns.map V.int)->sp w [.ref a] H (λv _=>v = .bl true) λ_ _ _=>False)
  (hCX:∀(w:World) (H:Hp) (s:Shared) (e:Value) (s':Shared),CX w [] H s (λ_ _ _=>False) e s'->False):
  PySem.W.WalkO q loose XP YP l.row.toRowW d [] (λf vs=>PySem.call f vs):=by
 refine Att.attach_call hn hdf λw s₀ s₁ mg mb fa o pm cd doc a vs ns G Y ho hd hcd hmg hobj hints hlen hg=>?_;have KX:=hY w _ Y;obtain⟨fd,hb,hF⟩:=F w mg fa _ KX G.T.g hmg;exact Xqg (hYT w _ Y) (hTK _) (hhd _) G.T.bmain KX G.T.g G.T.b G.T.builtins G.T.nolimit hg hobj hints (Pd hlen hn2) hr hF hb (λH hO hS=>hsp w H a ns hlen hO hS) λH e s'=>hCX w H s₁ e s'
def Fn.ofT{P:Program}{w:World}{K:Za}{h:Heap}{mg:Str->Option Value}{base:Heap}{CX:CXT}{k:Nat}{x:Str}{st:Stmt}{ps:Zb}{sp:Sp}{T:Addr}(X:K.In h)(G:h.Ns mainGlobals mg)(D:DefT K x st T)
  (hb:∀(kV doc pm:Value) (an:Option Addr) (cdv ct:Value) (us:List Value),us.length=ps.length->bindArgs (fnOf x x (Eh st) (C3 st) (defScope st) .none kV doc pm an cdv ct) ⟨us,[]⟩=pure (ps.zip us))
  (ok:∀f fd,FunT K x st f fd T->FnOk P w K mg base CX k f fd ps sp):Fn P w K mg base CX k x ps sp:=by
 obtain⟨f,fd,a,hk,F,F'⟩:=D.ex;exact⟨⟨f,fd,mg_of X G a,hk,F'.binds hb,ok f fd F⟩⟩
end L2
namespace HD
open PySem PySem.W PySem.Calls PyProof.Rows
abbrev O:=Option SharedT
noncomputable abbrev B (a b:O) (c:Bool):O := @Bool.rec (λ_=>O) a b c
noncomputable def go (F:SharedT->Thread->Option (SharedT×Thread)) (ok:Thread->Bool) (n:Nat):SharedT->Thread->O := @Nat.rec (λ_=>SharedT->Thread->O) (λ_ _=>none) (λ_ ih s t=>B (B none (@Option.rec (SharedT×Thread) (λ_=>O) none (λx=>@Prod.rec SharedT Thread (λ_=>O) ih x) (F s t)) (ok t)) (some s) (through t)) n
def Xqi{tb p w m a z}:∀n s t,go (stepT (denote tb) p w) (stepOk m a) n s t=some z->topRun tb p w m a n s.abs t=some z.abs:=by
 intro n
 induction n with
 | zero=>intro s t h;cases h
 | succ n ih=>
  intro s t h;unfold topRun;have h':B (B none (@Option.rec (SharedT×Thread) (λ_=>O) none (λx=>@Prod.rec SharedT Thread (λ_=>O) (go (stepT (denote tb) p w) (stepOk m a) n) x) (stepT (denote tb) p w s t)) (stepOk m a t)) (some s) (through t)=some z:=h;cases ht:through t with
  | true=>rw[ht] at h';cases h';rfl
  | false=>
   cases hk:stepOk m a t with
   | false=>rw[ht,hk] at h';cases h'
   | true=>
    cases hs:stepT (denote tb) p w s t with
    | none=>rw[ht,hk,hs] at h';cases h'
    | some x=>
     rw[ht,hk,hs] at h';rw[stepT_spec hs];exact ih _ _ h'
noncomputable def tree (P:Params):BT:=((boot_heap P).objs.toList.foldl (λ(x:BT×Nat) o=>(x.1.ins x.2 o,x.2+1)) (.nil,0)).1
def Xqj(P):absHeap (tree P) 11 {}=boot_heap P:=by kernel_rfl
def Xqk(P):((boot_heap P).isNs mainGlobals,(boot_heap P).objs.size,(boot_heap P).nsMap mainGlobals "__annotations__")=(true,11,some (.ref 6)):=by kernel_rfl
abbrev ck (p:Program) (g h:Heap) (z:Shared):=staticsOk (importedModules p.main.body) g h&&namesBound p h&&gensDone z&&laidKept g h
def left{p q loose Xt α}{Yf:Shared->α}{Ya N g}(e:opening p=plainProg p.main.scope.names)(hN:Nat.ble 600 N=true)(f:∀s,fenceModules? p s=some s)
 (h:∀w:World,(λos=>(go (Fast.tw10156331382660048174 (Fast.tw11892475500146522536 Fast.tw14364793385576792824) p w) (Fast.tw6613529449190102663 11 (some (.ref 6))) N ⟨tree w.params,11,{},#[],boot_drawn,boot_toks,os⟩ (topStub p)).map λz=>(ck p (boot_heap w.params) z.abs.heap z.abs,Fast.tw4187177175401517315 q loose (importedModules p.main.body) Xt g z.abs,Yf z.abs))=λ_=>some (true,openGood q loose,Ya w)):LeftO p q loose Xt Yf Ya N g:=λw=>by
 rw[<-Fast.te10156331382660048174,<-Fast.te11892475500146522536,<-Fast.te14364793385576792824,<-Fast.te6613529449190102663,<-Fast.te4187177175401517315] at h;obtain⟨⟨hp,gs,d,k,os⟩,e1,e2⟩:=R6.mp (boot_open e hN f w);obtain⟨rfl,rfl,rfl,rfl⟩:hp=boot_heap w.params/\gs=#[]/\d=boot_drawn/\k=boot_toks:=by simpa using e2
 obtain⟨z1,z2,z3⟩:_/\_/\_:=by simpa only[Prod.mk.injEq] using Xqk w.params
 obtain⟨z,hz,l⟩:=R6.mp (congrFun (h w) os);obtain⟨l1,l2,l3⟩:_/\_/\_:=by simpa only[Prod.mk.injEq] using l
 have r:=Xqi _ _ _ hz;rw[show (SharedT.mk (tree w.params) 11 {} #[] boot_drawn boot_toks os).abs=⟨boot_heap w.params,#[],boot_drawn,boot_toks,os⟩ by show Shared.mk (absHeap (tree w.params) 11 {}) _ _ _ _=_;rw[Xqj]] at r;unfold openEnds;rw[e1];show (topFrom treeTable p w N _).map _=_;rw[show topFrom treeTable p w N ⟨boot_heap w.params,#[],boot_drawn,boot_toks,os⟩=some z.abs by
  unfold topFrom;dsimp only;rw[z1,z2,z3,r];show (match ck p (boot_heap w.params) z.abs.heap z.abs with | true=>_ | false=>_)=_;rw[l1]]
 exact congrArg some (Prod.ext l2 l3)
def isDef:Stmt->Bool
 | .Assign _ (.Constant (.str _) _ _) _=>false
 | _=>true
end HD
namespace L2
open PySem
def len1{us:List Value}(h:us.length=1):∃a,us=[a]:=R7.mp h
def len2{us:List Value}(h:us.length=2):∃a b,us=[a,b]:=by
 cases us with
 | nil=>cases h
 | cons a r=>
  obtain⟨b,rfl⟩:=len1 (Nat.succ.inj h);exact⟨a,b,rfl⟩
def len3{us:List Value}(h:us.length=3):∃a b c,us=[a,b,c]:=by
 cases us with
 | nil=>cases h
 | cons a r=>
  obtain⟨b,c,rfl⟩:=len2 (Nat.succ.inj h);exact⟨a,b,c,rfl⟩
def len4{us:List Value}(h:us.length=4):∃a b c d,us=[a,b,c,d]:=by
 cases us with
 | nil=>cases h
 | cons a r=>
  obtain⟨b,c,d,rfl⟩:=len3 (Nat.succ.inj h);exact⟨a,b,c,d,rfl⟩
end L2
local macro_rules | `(tactic| walk_at "1") => `(tactic| (intro _ _ _ _ _ _ us hl;obtain⟨a,e⟩:=L2.len1 hl;subst e;rfl))
local macro_rules | `(tactic| walk_at "2") => `(tactic| (intro _ _ _ _ _ _ us hl;obtain⟨a,b,e⟩:=L2.len2 hl;subst e;rfl))
local macro_rules | `(tactic| walk_at "3") => `(tactic| (intro _ _ _ _ _ _ us hl;obtain⟨a,b,c,e⟩:=L2.len3 hl;subst e;rfl))
local macro_rules | `(tactic| walk_at "4") => `(tactic| (intro _ _ _ _ _ _ us hl;obtain⟨a,b,c,d,e⟩:=L2.len4 hl;subst e;rfl))
namespace K31
open L2 SH
def Xql{P:Program}{w:World}{K:Za}{h:Heap}{mg:Str->Option Value}{fa C_NoDitch C_NoPlot C_BadGround C_ShoreError T_:Addr}(X:K.In h)(G:h.Ns mainGlobals mg)(hfa:mg "law" = some (.ref fa))
  (d_ask_ditch:DefAt K "ask_ditch" sAsk)
  (d_ditches:DefAt K "ditches" sDitches)
  (d_ends:DefAt K "ends" sEnds)
  (d_spans:DefAt K "spans" sSpans)
  (d_lie_of:DefAt K "lie_of" sLieOf)
  (d_crossings:DefAt K "crossings" sCross)
  (d_told:DefAt K "told" sTold)
  (d_in_order:DefT K "in_order" s_in_order T_)
  (d_allows:DefAt K "allows" sAllows)
  (d_is_plot:DefAt K "is_plot" sIsPlot)
  (d_ask_plot:DefAt K "ask_plot" s_ask_plot)
  (d_plots:DefAt K "plots" s_plots)
  (d_bank_of:DefAt K "bank_of" s_bank_of)
  (d_lies_on:DefAt K "lies_on" s_lies_on)
  (d_shared:DefAt K "shared" s_shared)
  (d_held:DefAt K "held" s_held)
  (d_inside:DefAt K "inside" s_inside)
  (d__law_begin:DefAt K "_law_begin" sBegin)
  (d__law_pick:DefAt K "_law_pick" sPick)
  (d__law_put:DefAt K "_law_put" sPut)
  (d__law_where:DefAt K "_law_where" sWhere)
  (d__law_word:DefAt K "_law_word" sWord)
  (d__law_barred:DefAt K "_law_barred" sBarred)
  (d__law_row:DefAt K "_law_row" sRow)
  (d__law_names:DefAt K "_law_names" sNames)
  (d__law_island:DefAt K "_law_island" sIsland)
  (d__law_island_to:DefAt K "_law_island_to" s__law_island_to)
  (d__law_bars:DefAt K "_law_bars" s__law_bars)
  (d__law_fits:DefAt K "_law_fits" s__law_fits)
  (d__law_plots:DefAt K "_law_plots" s__law_plots)
  (d__law_kept:DefAt K "_law_kept" s__law_kept)
  (d__law_one:DefAt K "_law_one" s__law_one)
  (d__law_few:DefAt K "_law_few" s__law_few)
  (d__law_stranger:DefAt K "_law_stranger" s__law_stranger)
  (d__law_odd_kept:DefAt K "_law_odd_kept" s__law_odd_kept)
  (d__law_flip:DefAt K "_law_flip" s__law_flip)
  (d__law_odd_plot:DefAt K "_law_odd_plot" s__law_odd_plot)
  (d__law_keeps:DefAt K "_law_keeps" s__law_keeps)
  (d__law_held:DefAt K "_law_held" s__law_held)
  (d__law_good_kept:DefAt K "_law_good_kept" s__law_good_kept)
  (d__law_tuple:DefAt K "_law_tuple" s__law_tuple)
  (d__law_all_texts:DefAt K "_law_all_texts" s__law_all_texts)
  (d__law_good_plot:DefAt K "_law_good_plot" s__law_good_plot)
  (d__law_said:DefAt K "_law_said" s__law_said)
  (d_law:DefAt K "law" s_law)
  (x_NoDitch:ExcAt K "NoDitch" C_NoDitch)
  (x_NoPlot:ExcAt K "NoPlot" C_NoPlot)
  (x_BadGround:ExcAt K "BadGround" C_BadGround)
  (x_ShoreError:ClsAt K "ShoreError" C_ShoreError)
  (q_BadGround_ShoreError:subIn K (.ref C_BadGround) (.ref C_ShoreError)=some true) (n_BadGround_ShoreError:C_BadGround≠C_ShoreError)
  (q_NoPlot_ShoreError:subIn K (.ref C_NoPlot) (.ref C_ShoreError)=some true) (n_NoPlot_ShoreError:C_NoPlot≠C_ShoreError)
  (q_BadGround_NoPlot:subIn K (.ref C_BadGround) (.ref C_NoPlot)=some false) (n_BadGround_NoPlot:C_BadGround≠C_NoPlot)
  (q_NoPlot_BadGround:subIn K (.ref C_NoPlot) (.ref C_BadGround)=some false) (n_NoPlot_BadGround:C_NoPlot≠C_BadGround)
  (sS:subIn K (.ref C_ShoreError) (.type "BaseException")=some true)
  (z_len:nsIn K mainGlobals "len" = some none)
  (z_range:nsIn K mainGlobals "range" = some none)
  (z_list:nsIn K mainGlobals "list" = some none)
  (z_min:nsIn K mainGlobals "min" = some none)
  (z_isinstance:nsIn K mainGlobals "isinstance" = some none)
  (z_all:nsIn K mainGlobals "all" = some none)
  (z_str:nsIn K mainGlobals "str" = some none)
  (z_ValueError:nsIn K mainGlobals "ValueError" = some none)
  (z_sorted:nsIn K mainGlobals "sorted" = some none)
  (z_set:nsIn K mainGlobals "set" = some none)
  (z_enumerate:nsIn K mainGlobals "enumerate" = some none)
  (z_int:nsIn K mainGlobals "int" = some none)
  (z_bool:nsIn K mainGlobals "bool" = some none)
  (z_tuple:nsIn K mainGlobals "tuple" = some none)
  (z_any:nsIn K mainGlobals "any" = some none)
  (z_dict:nsIn K mainGlobals "dict" = some none)
  (z_sum:nsIn K mainGlobals "sum" = some none)
  (z_max:nsIn K mainGlobals "max" = some none)
  : ∃fd:FuncData,(∀(s:Shared) (v:Value),BindsTo s fd ⟨[v],[]⟩ [("_law_script",v)])/\∀base:Heap,K.In base->base.Ns mainGlobals mg->BmOk mg base->FnOk P w K mg base CX0 9 fa fd ["_law_script"] (K5 K T_):=by
 have T:Bl mg:=⟨mg_none_of X G z_len,mg_none_of X G z_range,mg_none_of X G z_list,mg_none_of X G z_min,mg_none_of X G z_isinstance,mg_none_of X G z_all,mg_none_of X G z_str,mg_none_of X G z_ValueError,mg_none_of X G z_sorted,mg_none_of X G z_set,mg_none_of X G z_enumerate,mg_none_of X G z_int,mg_none_of X G z_bool,mg_none_of X G z_tuple,mg_none_of X G z_any,mg_none_of X G z_dict,mg_none_of X G z_sum,mg_none_of X G z_max⟩;obtain⟨f,fd,a,hk,F⟩:=d_law.ex;have e:=hfa.symm.trans (mg_of X G a);cases e;refine⟨fd,?_,λbase hB hG hbm=>?_⟩
 ·obtain⟨oc,od,kV,doc,pm,an,cdv,ct,osl,rfl,lk,hcd⟩:=F.ex;exact λs v=>.of_eq rfl
 ·have FB:Fn P w K mg base _ _ _ _ _:=Fn.of X G d__law_begin (by walk_at "1") λf fd F=>Xpe F T;have FP:FnPick P w K mg base:=Fn.of X G d__law_pick (by walk_at "2") λf fd F=>Xpf F T;have FU:Fn P w K mg base _ _ _ _ _:=Fn.of X G d__law_put (by walk_at "4") λf fd F=>Xpg F;have FW:Fn P w K mg base _ _ _ _ _:=Fn.of X G d__law_where (by walk_at "1") λf fd F=>Xph F T;have FO:Fn P w K mg base _ _ _ _ _:=Fn.of X G d__law_word (by walk_at "3") λf fd F=>Xpi F T;have FA:Fn P w K mg base _ _ _ _ _:=Fn.of X G d__law_barred (by walk_at "2") λf fd F=>Xpj F T FW FO;have FR:Fn P w K mg base _ _ _ _ _:=Fn.of X G d__law_row (by walk_at "2") λf fd F=>Xpk F T FP FU FA;have FN:Fn P w K mg base _ _ _ _ _:=Fn.of X G d__law_names (by walk_at "2") λf fd F=>Xpl F T FP;have FI:Fn P w K mg base _ _ _ _ _:=Fn.of X G d__law_island (by walk_at "2") λf fd F=>Xpm F T FP FN FR;have FK:Fn P w K mg base _ _ _ _ _:=Fn.of X G d_ask_ditch (by walk_at "2") λf fd F=>Xoo F (mg_of X G x_NoDitch.a) x_NoDitch.e;have FD:Fn P w K mg base _ _ _ _ _:=Fn.of X G d_ditches (by walk_at "1") λf fd F=>Xoq F T;have FE:Fn P w K mg base _ _ _ _ _:=Fn.of X G d_ends (by walk_at "2") λf fd F=>Xor F T FK;have FSp:Fn P w K mg base _ _ _ _ _:=Fn.of X G d_spans (by walk_at "1") λf fd F=>Xot F FD FE;have FLo:Fn P w K mg base _ _ _ _ _:=Fn.of X G d_lie_of (by walk_at "2") λf fd F=>Xou F;have FCr:Fn P w K mg base _ _ _ _ _:=Fn.of X G d_crossings (by walk_at "1") λf fd F=>Xov F FSp FLo;have FTo:Fn P w K mg base _ _ _ _ _:=Fn.of X G d_told (by walk_at "1") λf fd F=>Xox F T;have FAl:Fn P w K mg base _ _ _ _ _:=Fn.of X G d_allows (by walk_at "2") λf fd F=>Xo1 F;have FIp:Fn P w K mg base _ _ _ _ _:=Fn.of X G d_is_plot (by walk_at "2") λf fd F=>Xo2 F T FSp FLo FTo FAl;have FIo:Fn P w K mg base _ _ _ _ _:=Fn.ofT X G d_in_order (by walk_at "1") λf fd F=>Xoz F T hbm;have FPl:Fn P w K mg base _ _ _ _ _:=Fn.of X G d_plots (by walk_at "1") λf fd F=>Xo5 F FSp FLo FTo FCr FIo;have FAp:Fn P w K mg base _ _ _ _ _:=Fn.of X G d_ask_plot (by walk_at "2") λf fd F=>Xo4 F (mg_of X G x_NoPlot.a) x_NoPlot.e FIp;have FBo:Fn P w K mg base _ _ _ _ _:=Fn.of X G d_bank_of (by walk_at "2") λf fd F=>Xo7 F;have FLn:Fn P w K mg base _ _ _ _ _:=Fn.of X G d_lies_on (by walk_at "2") λf fd F=>Xo9 F T FBo;have FSh:Fn P w K mg base _ _ _ _ _:=Fn.of X G d_shared (by walk_at "2") λf fd F=>Xpa F T FD FBo;have FHe:Fn P w K mg base _ _ _ _ _:=Fn.of X G d_held (by walk_at "2") λf fd F=>Xpb F (mg_of X G x_BadGround.a) x_BadGround.e FPl FLn FSh;have FIn:Fn P w K mg base _ _ _ _ _:=Fn.of X G d_inside (by walk_at "3") λf fd F=>Xpc F FHe FAp;have FFi:Fn P w K mg base _ _ _ _ _:=Fn.of X G d__law_fits (by walk_at "2") λf fd F=>Xpq F;have FBr:Fn P w K mg base _ _ _ _ _:=Fn.of X G d__law_bars (by walk_at "1") λf fd F=>Xpp F T FW FO;have FLp:Fn P w K mg base _ _ _ _ _:=Fn.of X G d__law_plots (by walk_at "1") λf fd F=>Xpr F T FFi FBr;have FOn:Fn P w K mg base _ _ _ _ _:=Fn.of X G d__law_one (by walk_at "2") λf fd F=>Xpu F T FP;have FFw:Fn P w K mg base _ _ _ _ _:=Fn.of X G d__law_few (by walk_at "2") λf fd F=>Xpw F T FP FOn;have FKp:Fn P w K mg base _ _ _ _ _:=Fn.of X G d__law_keeps (by walk_at "2") λf fd F=>Xp4 F T;have FS:Fn P w K mg base _ _ _ _ _:=Fn.of X G d__law_stranger (by walk_at "1") λf fd F=>Xpy F;have FT:Fn P w K mg base _ _ _ _ _:=Fn.of X G d__law_tuple (by walk_at "1") λf fd F=>Xp9 F T;have FFl:Fn P w K mg base _ _ _ _ _:=Fn.of X G d__law_flip (by walk_at "2") λf fd F=>Xp1 F T;have FOd:Fn P w K mg base _ _ _ _ _:=Fn.of X G d__law_odd_plot (by walk_at "3") λf fd F=>Xp2 F T FP FS FFl;have FGo:Fn P w K mg base _ _ _ _ _:=Fn.of X G d__law_good_plot (by walk_at "2") λf fd F=>Xqd F T FFi FBr;have FKt:Fn P w K mg base _ _ _ _ _:=Fn.of X G d__law_kept (by walk_at "2") λf fd F=>Xps F T;have FHl:Fn P w K mg base _ _ _ _ _:=Fn.of X G d__law_held (by walk_at "2") λf fd F=>Xp6 F FKp;have FGk:Fn P w K mg base _ _ _ _ _:=Fn.of X G d__law_good_kept (by walk_at "3") λf fd F=>Xp7 F FHl FKt;have FOk:Fn P w K mg base _ _ _ _ _:=Fn.of X G d__law_odd_kept (by walk_at "3") λf fd F=>Xpz F T FP FS FOn;have FIt:Fn P w K mg base _ _ _ _ _:=Fn.of X G d__law_island_to (by walk_at "2") λf fd F=>Xpo F T FP FI;have FAt:Fn P w K mg base _ _ _ _ _:=Fn.of X G d__law_all_texts (by walk_at "1") λf fd F=>Xqb F T FT;have FSd:Fn P w K mg base CX0 8 "_law_said" ["_law_row_here", "_law_kept_here", "_law_plot"] (spSaid31 T_ (lamPos s_in_order)):=Fn.of X G d__law_said (by walk_at "3") λf fd F=>by
   obtain⟨fa,fda,hma,hka,hba,hFa⟩:=FHe.ex;obtain⟨fb,fdb,hmb,hkb,hbb,hFb⟩:=FIn.ex;exact Xqe F T (mg_of X G x_ShoreError.a) (mg_of X G x_BadGround.a) (mg_of X G x_NoPlot.a) hma hka hba hFa hmb hkb hbb hFb x_BadGround.f x_NoPlot.f (Xc6 x_BadGround.sb sS x_ShoreError.ic x_ShoreError.ty q_BadGround_ShoreError) (Xc6 x_NoPlot.sb sS x_ShoreError.ic x_ShoreError.ty q_NoPlot_ShoreError) x_BadGround.val x_NoPlot.val (Xcn n_BadGround_NoPlot x_NoPlot.ic x_NoPlot.ty q_BadGround_NoPlot) (Xcn n_NoPlot_BadGround x_BadGround.ic x_BadGround.ty q_NoPlot_BadGround)
  exact Xqf F T FB FP FIt FLp FOn FFw FKt FOk FOd FGk FGo FHl FAt FSd FHe FIn
def walk{l:PySem.W.OpenLaw}{q:Program}{loose:Zb}{XP:(Str->Option Value)->Heap->Prop}{YP:World->Heap->Prop}{d:DefRec}{K:Params->Za}{T c0:Addr}(hn:l.most=some 63)(hdf:d.params.defaults=[])
  (hY:∀(w:World) (h:Heap),YP w h->(K w.params).In h) (hYT:∀(w:World) (h:Heap),YP w h->h.get? T=some (tabObj #[])) (hTK:∀P,(K P).lookup T=none) (hhd:∀P,codeHdIn (K P) c0 T=true)
  (F:∀(w:World) (mg:Str->Option Value) (fa:Addr) (h:Heap),(K w.params).In h->h.Ns mainGlobals mg->mg d.name=some (.ref fa) ->
   ∃fd:FuncData,(∀(s:Shared) (u:Value),BindsTo s fd ⟨[u],[]⟩ [("_law_script",u)])/\∀base:Heap,(K w.params).In base->base.Ns mainGlobals mg->BmOk mg base->FnOk l.prog w (K w.params) mg base CX0 9 fa fd ["_law_script"] (K5 (K w.params) T)):
  PySem.W.WalkO q loose XP YP l.row.toRowW d [] (λf vs=>PySem.call f vs):=
 L2.Xqh (n:=63) (k:=9) (x := "_law_script") (CX:=λ_=>CX0) (sp:=λw=>K5 (K w.params) T) hn (by decide) hdf ⟨rfl,by decide,by decide,rfl⟩ hY hYT hTK hhd F (λ_ _ a ns hl hT hS=>⟨a,ns,rfl,hS,hl,hT,λ_=>rfl⟩) λ_ _ _ _ _ z=>z
end K31
open PySem PySem.W PyProof.Rows
local macro_rules | `(tactic| walk_at "D") => `(tactic| (refine' L2.DefAt.of ?a ?l ?c ?k;(case a=>k_is);(case l=>k_is);(case c=>k_is);(case k=>k_is)))
local macro_rules | `(tactic| walk_at "X") => `(tactic| (refine' ⟨?a,?e,?ga,?gn,?cl,?sb,?so,?sv,?ss,?ic,?ty⟩;(case a=>k_is);(case e=>k_exc);(case ga=>k_is);(case gn=>k_is);(case cl=>k_is);(case sb=>k_is);(case so=>k_is);(case sv=>k_is);(case ss=>k_is);(case ic=>k_is);(case ty=>k_is)))
def HD.q:Program:={PySem.Challenge.pw_shoretold_k31_the_plots_of_a_ground with main:={PySem.Challenge.pw_shoretold_k31_the_plots_of_a_ground.main with body:=PySem.Challenge.pw_shoretold_k31_the_plots_of_a_ground.main.body.filter HD.isDef}}
theorem HD.said:PySem.Challenge.rw_shoretold_k31_the_plots_of_a_ground.wellSaid=true:=by
 rw[Fast.te9446332074065402090]
 kernel_rfl
local macro_rules | `(tactic| o_head $H) => `(tactic| refine PySem.W.holds_open (q:=HD.q) (loose:=[]) (Xt:=λs=>xlAt HD.q [] s&&recOk [] s) (XP:=XL HD.q []) (N:=1000000) ?hl (Hook.of $H) (Hook.keeps $H) (λs e=>xl_of s (Bool.and_eq_true_iff.mp e).1) XL.keeps (by rfl) (by rfl) (by rfl) (λs e=>recFacts_of (Bool.and_eq_true_iff.mp e).2) (by rfl) (by assumption) (by decide +kernel) ⟨rfl,rfl,rfl,rfl,rfl,by decide +kernel⟩ ?hw ?hc)
set_option maxRecDepth 100000 in
set_option maxHeartbeats 0 in
theorem PySem.Challenge.cw_shoretold_k31_the_plots_of_a_ground_holds : PySem.Challenge.rw_shoretold_k31_the_plots_of_a_ground.Holds := by
 w_on
 refine holds_law HD.said λsaid=>?_
 k_head
 case hw=>w_witness2
 case hl=>exact HD.left (by kernel_rfl) (by kernel_rfl) (λs=>by kernel_rfl) (λw=>by kernel_rfl)
 k_fill
 refine K31.walk (l:=PySem.Challenge.rw_shoretold_k31_the_plots_of_a_ground) (T:=108) (c0:=112) rfl rfl (λw h Y=>PySem.W.km_in_of Y) (λw h Y=>PySem.W.km_tabs_of Y _ (Om.mpr rfl)) ?hTK ?hhd ?F
 case hTK=>intro P;kernel_rfl
 case hhd=>intro P;kernel_rfl
 case F=>
  intro w mg fa h KX G hmg;refine' K31.Xql KX G hmg ?_ ?_ ?_ ?_ ?_ ?_ ?_ ?d_in_order ?_ ?_ ?_ ?_ ?_ ?_ ?_ ?_ ?_ ?_ ?_ ?_ ?_ ?_ ?_ ?_ ?_ ?_ ?_ ?_ ?_ ?_ ?_ ?_ ?_ ?_ ?_ ?_ ?_ ?_ ?_ ?_ ?_ ?_ ?_ ?_ ?_ ?x_NoDitch ?x_NoPlot ?x_BadGround ?x_ShoreError ?q_BadGround_ShoreError ?n_BadGround_ShoreError ?q_NoPlot_ShoreError ?n_NoPlot_ShoreError ?q_BadGround_NoPlot ?n_BadGround_NoPlot ?q_NoPlot_BadGround ?n_NoPlot_BadGround ?sS ?z_len ?z_range ?z_list ?z_min ?z_isinstance ?z_all ?z_str ?z_ValueError ?z_sorted ?z_set ?z_enumerate ?z_int ?z_bool ?z_tuple ?z_any ?z_dict ?z_sum ?z_max
  any_goals walk_at "D"
  (case d_in_order=>(refine' L2.DefT.of ?a ?l ?c ?k ?t;(case a=>k_is);(case l=>k_is);(case c=>k_is);(case k=>k_is);(case t=>kernel_rfl)))
  (case x_NoDitch=>walk_at "X")
  (case x_NoPlot=>walk_at "X")
  (case x_BadGround=>walk_at "X")
  (case x_ShoreError=>(refine' ⟨?a,?ic,?ty⟩;(case a=>k_is);(case ic=>k_is);(case ty=>k_is)))
  (case q_BadGround_ShoreError=>k_is);(case n_BadGround_ShoreError=>decide)
  (case q_NoPlot_ShoreError=>k_is);(case n_NoPlot_ShoreError=>decide)
  (case q_BadGround_NoPlot=>k_is);(case n_BadGround_NoPlot=>decide)
  (case q_NoPlot_BadGround=>k_is);(case n_NoPlot_BadGround=>decide)
  (case sS=>k_is)
  (case z_len=>k_is);(case z_range=>k_is);(case z_list=>k_is);(case z_min=>k_is);(case z_isinstance=>k_is);(case z_all=>k_is);(case z_str=>k_is);(case z_ValueError=>k_is);(case z_sorted=>k_is);(case z_set=>k_is);(case z_enumerate=>k_is);(case z_int=>k_is);(case z_bool=>k_is);(case z_tuple=>k_is);(case z_any=>k_is);(case z_dict=>k_is);(case z_sum=>k_is);(case z_max=>k_is)
#print axioms PySem.Challenge.cw_shoretold_k31_the_plots_of_a_ground_holds
