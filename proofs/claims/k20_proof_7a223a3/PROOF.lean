import PyProof.Rows.All
import Wide.All
import OpenK.AllK
import Wide.FinOn
import Lean
import PyProof.EqAt
import PyProof.EqKinds
import PyProof.TupleCall
import KE.KDictSum
import PyProof.Rows.SortStr
import PyProof.EnumStmt
import PyProof.EnumMake
import PyProof.StrBlockH
import PyProof.ReprStr
import PyProof.StrLawsRepr
import PyProof.FString
import PyProof.DictCompW
import PyProof.P3Eq
import PyProof.P3In
import PyProof.NeData
import PyProof.ReprHeadsTuple
import KE.KLam
import KE.KNestM
import KE.KSortKey
import KE.KSortTup
import PyProof.WalkInts
import PyProof.DictWalks
import PyProof.MinMaxWalk
import PyProof.SeqI3
import KE.KDictOf
import PyProof.AttrMissSeq
import PyProof.ReprNest
import PyProof.ReprLen
import PySem.Challenge.RW_shoretold_k20_whole_no_walk_is_shorter
set_option bootstrap.genMatcherCode false
noncomputable section
set_option Elab.async false
set_option linter.all false
set_option maxRecDepth 100000
abbrev K8 := @List.length_map
abbrev K9 := @Nat.le_refl
abbrev Lb := @List.mem_cons_of_mem
abbrev Lc := @List.mem_filter
abbrev Ld := @List.mem_cons_self
abbrev Lf := @List.mem_singleton
abbrev Lg := @Nat.ne_of_lt
abbrev Lh := @Array.length_toList
abbrev Li := @List.getElem?_eq_getElem
abbrev Lj := @List.length_append
abbrev Lk := @List.mem_cons
abbrev Ll := @List.mem_append
abbrev Lm := @List.size_toArray
abbrev Ln := @Bool.and_eq_true
abbrev Lo := @List.map_append
abbrev Lp := @List.length_cons
abbrev Lq := @Bool.false_ne_true
abbrev Lr := @Nat.lt_of_lt_of_le
abbrev Ls := @List.filter_append
abbrev Lu := @List.take_succ_eq_append_getElem
abbrev Lv := @List.filter_eq_self
abbrev Lw := @List.mem_map
abbrev Lx := @List.getElem?_map
abbrev Ly := @Option.some.inj
abbrev Lz := @List.all_eq_true
abbrev L0 := @Nat.le_trans
abbrev L1 := @List.mem_append_right
abbrev L3 := @List.getElem?_eq_some_iff
abbrev L4 := @Bool.false_eq_true
abbrev L5 := @List.map_cons
abbrev L6 := @Nat.zero_le
abbrev L7 := @List.filter_cons
abbrev L8 := @List.getElem_mem
abbrev L9 := @List.map_map
abbrev Ma := @List.nodup_cons
abbrev Mb := @Nat.lt_irrefl
abbrev Mc := @List.length_eq_zero_iff
abbrev Md := @List.range_succ
abbrev Mf := @List.length_take
abbrev Mg := @List.lookup_cons
abbrev Mh := @List.take_append_drop
abbrev Mi := @Int.eq_ofNat_of_zero_le
abbrev Mj := @List.append_nil
abbrev Ml := @List.length_singleton
abbrev Mm := @List.getElem?_append_right
abbrev Mn := @List.countP_cons
abbrev Mo := @List.map_congr_left
abbrev Mp := @List.mem_range
abbrev Mq := @List.take_length
abbrev Mr := @List.nodup_append
abbrev Ms := @List.length_range
abbrev Mt := @List.mem_iff_getElem
abbrev Mu := @List.getElem?_append_left
abbrev Mv := @Nat.not_lt_zero
abbrev Mw := @List.length_filter_le
abbrev Mx := @Bool.eq_iff_iff
abbrev My := @List.mem_singleton_self
abbrev Mz := @List.mem_append_left
abbrev M0 := @List.filterMap_cons
abbrev M3 := @Nat.lt_succ_of_lt
abbrev M4 := @Bool.false_and
abbrev M5 := @List.Perm.refl
abbrev M6 := @Option.isSome_iff_exists
abbrev M7 := @Bool.true_and
abbrev M8 := @List.count_append
abbrev M9 := @List.length_nil
abbrev Na := @Bool.or_eq_true
abbrev Nb := @List.dropWhile_cons
abbrev Nc := @List.takeWhile_cons
abbrev Nd := @List.filter_eq_nil_iff
abbrev Nf := @List.length_eraseIdx_of_lt
abbrev Ng := @List.pairwise_cons
abbrev Nh := @List.count_eq_zero
abbrev Ni := @Nat.le_succ
abbrev Nj := @List.take_sublist
abbrev Nk := @Int.toNat_natCast
abbrev Nl := @List.find?_cons
abbrev Nm := @Option.map_some
abbrev Nn := @List.append_assoc
abbrev Np := @Nat.lt_trans
abbrev Nq := @Sum.inr.inj
abbrev Nr := @List.any_eq_true
abbrev Nt := @List.perm_middle
abbrev Nv := @List.dropLast_concat_getLast
abbrev Nw := @Int.emod_lt_of_pos
abbrev Nx := @Nat.le_of_lt
abbrev Ny := @List.getElem?_eq_none
abbrev Nz := @Nat.min_eq_left
abbrev N0 := @List.flatMap_cons
abbrev N1 := @List.sum_cons
abbrev N2 := @List.mem_of_getElem?
abbrev N3 := @List.count_cons_self
abbrev N4 := @List.getElem_map
abbrev N5 := @List.flatMap_append
abbrev N6 := @List.findIdx?_eq_some_iff_getElem
abbrev N7 := @Bool.not_true
abbrev N8 := @List.map_inj_right
abbrev N9 := @List.nil_append
abbrev Oa := @Array.forIn_toList
abbrev Ob := @Int.emod_nonneg
abbrev Oc := @List.take_of_length_le
abbrev Od := @List.pairwise_map
abbrev Oe := @Bool.eq_false_iff
abbrev Og := @Nat.zero_add
abbrev Oh := @List.not_mem_nil
abbrev Oi := @List.flatMap_nil
abbrev Oj := @List.mem_of_mem_drop
abbrev Ol := @List.any_cons
abbrev Om := @Bool.and_self
abbrev Oo := @List.of_mem_zip
abbrev Op := @List.forIn_cons
abbrev Oq := @List.foldl_cons
abbrev Os := @Bool.or_eq_true_iff
abbrev Ot := @List.getElem?_range
abbrev Ou := @List.filter_nil
abbrev Ov := @Nat.ne_of_gt
abbrev Ow := @List.mem_filterMap
abbrev Ox := @Option.isSome_some
abbrev Oy := @List.map_nil
abbrev Oz := @List.count_pos_iff
abbrev O0 := @Nat.sub_self
abbrev O1 := @List.forIn_nil
abbrev O3 := @Bool.not_eq_true'
abbrev O4 := @Nat.mod_lt
abbrev O5 := @List.all_cons
abbrev O6 := @List.set_set
abbrev O7 := @Int.zero_add
abbrev O8 := @PySem.wpAny_bind
abbrev O9 := @PySem.wpAny_pure
abbrev Pa := @PySem.sizeLine_eq
abbrev Pb := @if_neg
abbrev Pc := @if_pos
abbrev Pd := @decide_eq_true
abbrev Pe := @decide_eq_false
abbrev Pf := @of_decide_eq_true
abbrev Pg := @of_decide_eq_false
abbrev Ph := @PySem.Heap.lt_size
abbrev Pi := @PySem.Heap.get?_push_of_some
abbrev Pj := @PySem.Heap.SameBut.update
namespace L2
open PySem PySem.Spec PyProof.Rows
abbrev Key:=Sum Int Str
def C1:Key->Value->Bool
 | .inl k,v=>Value.isInt k v
 | .inr x,v=>Value.isStrOf x v
def keyH (w:World):Key->Int
 | .inl k=>hashInt k
 | .inr x=>hashStr w x
theorem Cq:∀{k:Key} {v:Value},C1 k v=true->(∃i t,k=Sum.inl i/\v=Value.int i t)\/(∃x t,k=Sum.inr x/\v=Value.str x t)
 | .inl i,v,h=>by
  obtain⟨t,e⟩:=Value.isInt_shape (k:=i) (v:=v) h;exact .inl ⟨i,t,rfl,e⟩
 | .inr x,v,h=>by
  obtain⟨t,e⟩:=Value.isStrOf_shape (x:=x) (v:=v) h;exact .inr ⟨x,t,rfl,e⟩
theorem Xe9(i:Int)(t:Tok):C1 (.inl i) (.int i t)=true:=by simp[C1,Value.isInt]
theorem Xfa(x:Str)(t:Tok):C1 (.inr x) (.str x t)=true:=by simp[C1,Value.isStrOf]
theorem Xfb(a b:Int):decide ((Sum.inl a:Key)=Sum.inl b)=(a==b):=by
 by_cases e:a=b
 ·subst e;simp
 ·have h:¬(Sum.inl a:Key)=Sum.inl b:=λq=>e (Sum.inl.inj q);rw[Pe h];exact(beq_eq_false_iff_ne.mpr e).symm
theorem Xfc(a b:Str):decide ((Sum.inr a:Key)=Sum.inr b)=decide (a=b):=by
 by_cases e:a=b
 ·subst e;simp
 ·have h:¬(Sum.inr a:Key)=Sum.inr b:=λq=>e (Nq q);rw[Pe h,Pe e]
theorem Xfd(a:Int)(b:Str):decide ((Sum.inl a:Key)=Sum.inr b)=false:=Pe (λq=>nomatch q)
theorem Xfe(a:Str)(b:Int):decide ((Sum.inr a:Key)=Sum.inl b)=false:=Pe (λq=>nomatch q)
def A0 (prog:Program) (w:World):PySem.KeyKind prog w Key where
 is:=C1
 hash:=keyH w
 inj:=λv a b ha hb=>by
  rcases Cq ha with ⟨i,t,rfl,rfl⟩ | ⟨x,t,rfl,rfl⟩
  ·rcases Cq hb with ⟨j,u,rfl,e⟩ | ⟨y,u,rfl,e⟩
   ·injection e with e1 _;rw[e1]
   ·exact nomatch e
  ·rcases Cq hb with ⟨j,u,rfl,e⟩ | ⟨y,u,rfl,e⟩
   ·exact nomatch e
   ·injection e with e1 _;rw[e1]
 byValue:=λk v h=>by
  rcases Cq h with ⟨i,t,rfl,rfl⟩ | ⟨x,t,rfl,rfl⟩<;>rfl
 pyHash:=λhv h=>by
  rcases Cq hv with ⟨i,t,rfl,rfl⟩ | ⟨x,t,rfl,rfl⟩
  ·exact wpAny_pyHash_int h
  ·exact wpAny_pyHash_str h
 eqBool:=λhu hv h=>by
  rcases Cq hu with ⟨i,t,rfl,rfl⟩ | ⟨x,t,rfl,rfl⟩
  ·rcases Cq hv with ⟨j,u,rfl,rfl⟩ | ⟨y,u,rfl,rfl⟩
   ·rw[Xfb] at h;exact wpAny_eqBool_int h
   ·rw[Xfd] at h;exact SeqAt.EqAt.int_str i t y u _ _ _ _ h
  ·rcases Cq hv with ⟨j,u,rfl,rfl⟩ | ⟨y,u,rfl,rfl⟩
   ·rw[Xfe] at h;exact SeqAt.EqAt.str_int x t j u _ _ _ _ h
   ·rw[Xfc] at h;exact wpAny_eqBool_str h
 «strs»:=λk x t v h=>by
  rcases Cq h with ⟨i,u,rfl,e⟩ | ⟨y,u,rfl,e⟩
  ·exact nomatch e
  ·injection e with e1 _
   subst e1;cases v<;>rfl
theorem Xff(prog:Program)(w:World)(i:Int)(t:Tok):(A0 prog w).is (.inl i) (.int i t)=true:=Xe9 i t
theorem Xfg(prog:Program)(w:World)(x:Str)(t:Tok):(A0 prog w).is (.inr x) (.str x t)=true:=Xfa x t
inductive V where
 | non | bl (b:Bool) | int (i:Int) | str (x:Str) | byt (b:Array UInt8) | flt (b:UInt64) | ref (a:Addr) | ty (n:String)
 deriving DecidableEq
def Ag:V->Value->Prop
 | .non,u=>u=Value.none
 | .bl b,u=>u=Value.bool b
 | .int i,u=>∃t,u=Value.int i t
 | .str x,u=>∃t,u=Value.str x t
 | .byt b,u=>∃t,u=Value.bytes b t
 | .flt b,u=>∃t,u=Value.float b t
 | .ref a,u=>u=Value.ref a
 | .ty n,u=>u=Value.type n
abbrev Vals:List V->List Value->Prop:=Paired Ag
theorem Vals.length{xs:List V}{us:List Value}(r:Vals xs us):xs.length=us.length:=Paired.length r
theorem Vals.get:∀{xs:List V} {us:List Value} {i:Nat} {x:V},Vals xs us->xs[i]? = some x->∃u,us[i]? = some u/\Ag x u
 | _,_,_,_,.nil,e=>by simp at e
 | _,_,0,_,.cons r _,e=>by simp at e;subst e;exact⟨_,rfl,r⟩
 | _,_,i+1,x,.cons _ t,e=>by
  obtain⟨u,h1,h2⟩:=Vals.get (i:=i) (x:=x) t (by simpa using e);exact⟨u,by simpa using h1,h2⟩
theorem Vals.set{x:V}{u:Value}(r:Ag x u):∀{xs:List V} {us:List Value} (i:Nat),Vals xs us->Vals (xs.set i x) (us.set i u)
 | _,_,_,.nil=>.nil
 | _,_,0,.cons _ t=>.cons r t
 | _,_,i+1,.cons q t=>.cons q (Vals.set r i t)
theorem Vals.append:∀{xs ys:List V} {us ws:List Value},Vals xs us->Vals ys ws->Vals (xs++ys) (us++ws)
 | _,_,_,_,.nil,s=>s
 | _,_,_,_,.cons r t,s=>.cons r (Vals.append t s)
theorem Vals.take:∀{xs:List V} {us:List Value} (n:Nat),Vals xs us->Vals (xs.take n) (us.take n)
 | _,_,0,_=>.nil
 | _,_,_+1,.nil=>.nil
 | _,_,n+1,.cons r t=>.cons r (Vals.take n t)
theorem Vals.drop:∀{xs:List V} {us:List Value} (n:Nat),Vals xs us->Vals (xs.drop n) (us.drop n)
 | _,_,0,r=>r
 | _,_,_+1,.nil=>.nil
 | _,_,n+1,.cons _ t=>Vals.drop n t
def B9:Option V->Option Value->Prop
 | some v,some u=>Ag v u
 | none,none=>True
 | _,_=>False
def KV {κ : Type}:List (κ × V)->List (κ × Value)->Prop:=Paired λ(p : κ × V) (q : κ × Value)=>p.1=q.1/\Ag p.2 q.2
def kV:Key->V
 | .inl i=>.int i
 | .inr x=>.str x
inductive HO where
 | lst (xs:List V)
 | tup (xs:List V)
 | dK (kvs:List (Key×V)) | dT (kvs:List (List Key×V))
 | set (S:Int->Bool) (n:Nat)
 | ins (C dx:Addr) (fs:List (Str×V))
 | own (x:Addr)
 | xd (fs:List (Str×V))
 | met (f x:Addr)
 | rng (lo hi:Int)
 | frz (o:Obj) (u:HO)
 | tbl (ps:Array Value)
 | ext (φ : Heap->Prop)
abbrev Hp:=Addr->Option HO
def upd (H:Hp) (a:Addr) (o:HO):Hp:=λb=>if b=a then some o else H b
theorem Ab{H:Hp}{a:Addr}{o:HO}:upd H a o a=some o:=by unfold upd;rw[Pc rfl]
theorem Ad{H:Hp}{a b:Addr}{o:HO}(h:b≠a):upd H a o b=H b:=by unfold upd;rw[Pb h]
theorem Xaa{H:Hp}{a b:Addr}{o u:HO}(h:H a=some o)(h':H b=some u)(d:o≠u):a≠b:=by
 intro e;subst e;rw[h] at h';exact d (Ly h')
theorem Aq{H:Hp}{a b:Addr}{o:HO}(h:H a=some o)(h':H b=none):a≠b:=by
 intro e;subst e;rw[h] at h';cases h'
section
variable (P:Program) (w:World)
def A5 (H:Hp) (h:Heap) (a:Addr):HO->Prop
 | .lst xs=>xs.length<=sizeLine/\∃(its:List Value) (n:Nat),Vals xs its/\h.get? a=some {cls:=.type "list",data:=.seq its.toArray n}
 | .tup xs=>xs.length<=sizeLine/\∃its:List Value,Vals xs its/\IsTup h a its.toArray
 | .dK kvs=>kvs.length<=sizeLine/\(a==sysModules)=false/\∃vs,KV kvs vs/\h.DictOf (A0 P w) a vs
 | .dT kvs=>kvs.length<=sizeLine/\(a==sysModules)=false/\∃xs:List (List Key×Addr×Value),
   Paired (λ(p:List Key×V) (q:List Key×Addr×Value)=>p.1=q.1/\H q.2.1=some (.tup (p.1.map kV))/\Ag p.2 q.2.2) kvs xs /\
   ∃o es ep,h.get? a=some o/\o.ExactDict/\o.data = .dict es ep/\es.toList=xs.map (entryOfKey (tupleKind (A0 P w)))/\(xs.map (·.1)).Nodup
 | .set S n=>h.SetOf (intKind P w) a S n
 | .ins C dx fs=>H dx=some (.own a)/\fs.length<=1000/\dx≠a/\h.get? a=some (PySem.W.instObj C dx) /\
   ∃mA,h.Ns1 dx mA/\(∀f,B9 (fs.lookup f) (mA f))/\PySem.Within mA (fs.map (·.1))
 | .own _=>∃o,h.get? a=some o
 | .xd fs=>∃mA,h.Ns1 a mA/\∀f,B9 (fs.lookup f) (mA f)
 | .rng lo hi=>∃t u v,h.get? a=some {cls:=.type "range",data:=.fields #[.int lo t,.int hi u,.int 1 v]}
 | .frz o u=>h.get? a=some o/\A5 H h a u
 | .tbl ps=>h.get? a=some {cls:=.none,data:=.fields ps}
 | .met f x=>h.get? a=some (PySem.W.methodObj (.ref f) (.ref x))
 | .ext φ => φ h/\(∃o,h.get? a=some o)/\∀h1 h2:Heap, φ h1->(∀o,h1.get? a=some o->h2.get? a=some o) -> φ h2
def HOk (H:Hp) (h:Heap):Prop:=∀a o,H a=some o->A5 P w H h a o
end
section
variable {P:Program}{w:World}{H H':Hp}{h h':Heap}{a:Addr}{o:HO}
theorem A5.lt(x:A5 P w H h a o):a<h.objs.size:=by
 cases o with
 | lst xs=>obtain⟨_,_,_,_,e⟩:=x;exact Ph e
 | tup xs=>obtain⟨_,_,_,p⟩:=x;exact p.lt
 | dK kvs=>obtain⟨_,_,_,_,o,_,_,e,_⟩:=x;exact Ph e
 | dT kvs=>obtain⟨_,_,_,_,o,_,_,e,_⟩:=x;exact Ph e
 | set S n=>obtain⟨o,_,_,_,e,_⟩:=x;exact Ph e
 | ins C dx fs=>obtain⟨_,_,_,e,_⟩:=x;exact Ph e
 | own y=>obtain⟨_,e⟩:=x;exact Ph e
 | xd fs=>obtain⟨_,⟨_,_,_,e,_⟩,_⟩:=x;exact Ph e
 | rng lo hi=>obtain⟨_,_,_,e⟩:=x;exact Ph e
 | frz ob u=>obtain⟨e,_⟩:=x;exact Ph e
 | tbl ps=>exact Ph (show h.get? a=some _ from x)
 | met f y=>exact Ph (show h.get? a=some _ from x)
 | ext φ=>obtain⟨_,⟨_,e⟩,_⟩:=x;exact Ph e
theorem Paired.mapP{α β : Type}{F G : α -> β->Prop}:∀{l₁ : List α} {l₂ : List β},Paired F l₁ l₂->(∀a b,F a b->G a b)->Paired G l₁ l₂
 | _,_,.nil,_=>.nil
 | _,_,.cons r t,f=>.cons (f _ _ r) (Paired.mapP t f)
theorem A5.stay(x:A5 P w H h a o)(k:∀b u,(b=a\/H b=some (.own a))->h.get? b=some u->h'.get? b=some u)
  (ho:∀b,H b=some (.own a)->H' b=some (.own a)) (ht:∀b xs,H b=some (.tup xs)->H' b=some (.tup xs)):A5 P w H' h' a o:=by
 induction o with
 | lst xs=>obtain⟨z,its,n,r,e⟩:=x;exact⟨z,its,n,r,k _ _ (.inl rfl) e⟩
 | tup xs=>obtain⟨z,its,r,ob,e,c⟩:=x;exact⟨z,its,r,ob,k _ _ (.inl rfl) e,c⟩
 | dK kvs=>obtain⟨z,y,vs,r,ob,es,ep,e,c⟩:=x;exact⟨z,y,vs,r,ob,es,ep,k _ _ (.inl rfl) e,c⟩
 | dT kvs=>
  obtain⟨z,y,xs,r,ob,es,ep,e,c⟩:=x;exact⟨z,y,xs,Paired.mapP r λp q z=>⟨z.1,ht _ _ z.2.1,z.2.2⟩,ob,es,ep,k _ _ (.inl rfl) e,c⟩
 | set S n=>obtain⟨ob,es,ep,t,e,c⟩:=x;exact⟨ob,es,ep,t,k _ _ (.inl rfl) e,c⟩
 | ins C dx fs=>
  obtain⟨d,z,ne,e,mA,⟨od,es,ep,e2,c⟩,r⟩:=x;exact⟨ho _ d,z,ne,k _ _ (.inl rfl) e,mA,⟨od,es,ep,k _ _ (.inr d) e2,c⟩,r⟩
 | own y=>obtain⟨ob,e⟩:=x;exact⟨ob,k _ _ (.inl rfl) e⟩
 | xd fs=>obtain⟨mA,⟨od,es,ep,e,c⟩,r⟩:=x;exact⟨mA,⟨od,es,ep,k _ _ (.inl rfl) e,c⟩,r⟩
 | rng lo hi=>obtain⟨t,u,v,e⟩:=x;exact⟨t,u,v,k _ _ (.inl rfl) e⟩
 | frz ob u ih=>obtain⟨e,q⟩:=x;exact⟨k _ _ (.inl rfl) e,ih q⟩
 | tbl ps=>
  have e:h.get? a=some {cls:=.none,data:=.fields ps}:=x;show h'.get? a=some {cls:=.none,data:=.fields ps};exact k a _ (.inl rfl) e
 | met f y=>
  have e:h.get? a=some (PySem.W.methodObj (.ref f) (.ref y)):=x;show h'.get? a=some (PySem.W.methodObj (.ref f) (.ref y));exact k a _ (.inl rfl) e
 | ext φ=>obtain⟨p,⟨o,e⟩,st⟩:=x;exact⟨st _ _ p λo q=>k _ _ (.inl rfl) q,⟨o,k _ _ (.inl rfl) e⟩,st⟩
theorem HOk.lt(x:HOk P w H h)(e:H a=some o):a<h.objs.size:=(x a o e).lt
theorem HOk.fresh(x:HOk P w H h)(e:h.objs.size<=a):H a=none:=by
 cases q:H a with
 | none=>rfl
 | some u=>exact absurd (Lr (x.lt q) e) (Mb _)
theorem HOk.kept(x:HOk P w H h)(k:∀b u,h.get? b=some u->h'.get? b=some u):HOk P w H h':=λa o e=>
 (x a o e).stay (λb u _ q=>k b u q) (λ_ q=>q) λ_ _ q=>q
theorem HOk.laid(x:HOk P w H h)(k:∀b u,h.get? b=some u->h'.get? b=some u)(hp:h.objs.size<=a)(new:A5 P w (upd H a o) h' a o):HOk P w (upd H a o) h':=λb u e=>by
 have hn:=x.fresh hp;by_cases hb:b=a
 ·subst hb;rw[Ab] at e;cases e;exact new
 ·rw[Ad hb] at e;exact(x b u e).stay (λc v _ q=>k c v q) (λc q=>by rw[Ad (Aq q hn)];exact q) λc xs q=>by rw[Ad (Aq q hn)];exact q
end
def Rd (H:Hp) (a:Addr) (u:HO):Prop:=H a=some u \/ ∃o,H a=some (.frz o u)
theorem Rd.ok{P:Program}{w:World}{H:Hp}{h:Heap}{a:Addr}{u:HO}(r:Rd H a u)(x:HOk P w H h):A5 P w H h a u:=by
 rcases r with r | ⟨o,r⟩
 ·exact x a u r
 ·obtain⟨_,q⟩:=x a _ r;exact q
def Mut:Option HO->Prop
 | some (.lst _)=>True
 | some (.dK _)=>True
 | some (.dT _)=>True
 | some (.set _ _)=>True
 | some (.ins _ _ _)=>True
 | some (.ext _)=>True
 | _=>False
section
variable {P:Program}{w:World}{H:Hp}{h h':Heap}{x e:Addr}{o':HO}
theorem HOk.write(ok:HOk P w H h)(mu:Mut (H x))(he:e=x\/H e=some (.own x))(k:∀b u,b≠e->h.get? b=some u->h'.get? b=some u)(heo:∃u,h'.get? e=some u)
  (new:A5 P w (upd H x o') h' x o'):HOk P w (upd H x o') h':=λb u q=>by
 have nown:∀c y,H c=some (.own y)->c≠x:=λc y r z=>by subst z;rw[r] at mu;exact mu
 have ntup:∀c xs,H c=some (.tup xs)->c≠x:=λc xs r z=>by subst z;rw[r] at mu;exact mu
 by_cases hb:b=x
 ·subst hb;rw[Ab] at q;cases q;exact new
 ·rw[Ad hb] at q;by_cases hbe:b=e
  ·have q':H b=some (.own x):=by
    rcases he with z | z
    ·exact absurd (hbe.trans z) hb
    ·rw[hbe];exact z
   rw[q] at q';cases q';obtain⟨v,hv⟩:=heo;exact⟨v,by rw[hbe];exact hv⟩
  ·refine(ok b u q).stay (λc v hc r=>k c v ?_ r) (λc r=>by rw[Ad (nown c b r)];exact r) λc xs r=>by rw[Ad (ntup c xs r)];exact r
   rcases hc with rfl | hc
   ·exact hbe
   ·rintro rfl;rcases he with z | z
    ·exact nown c b hc z
    ·rw[hc] at z;cases z;exact hb rfl
end
structure Un (fs ex:List Addr) (H H':Hp) (h h':Heap):Prop where
 keep:∀b o,h.get? b=some o->H b=none->b∉fs->b∉ex->h'.get? b=some o
 slot:∀b o,h.get? b=some o->H b=none->b∈fs->b∉ex->∃sl,h'.get? b=some {o with slots:=sl}
 free:∀b o,h.get? b=some o->H b=none->b∉ex->H' b=none
 there:∀b o,h.get? b=some o->b∉ex->∃o',h'.get? b=some o'
 tups:∀b xs,H b=some (.tup xs)->H' b=some (.tup xs)
 frzs:∀b o u,H b=some (.frz o u)->H' b=some (.frz o u)
 tbls:∀b ps,H b=some (.tbl ps)->∃more,H' b=some (.tbl (ps++more))
section
variable {fs fs' ex ex':List Addr}{H H1 H2:Hp}{h h1 h2 h':Heap}{a x e:Addr}{o:HO}
theorem Un.any(u:Un fs ex H H1 h h1){b:Addr}{ob:Obj}(q:h.get? b=some ob)(n:H b=none)(hx:b∉ex):∃sl,h1.get? b=some {ob with slots:=sl}:=by
 by_cases hb:b∈fs
 ·exact u.slot b ob q n hb hx
 ·exact⟨ob.slots,u.keep b ob q n hb hx⟩
theorem Un.kept(k:∀b u,h.get? b=some u->h'.get? b=some u):Un fs ex H H h h':=
 ⟨λb ob q _ _ _=>k b ob q,λb ob q _ _ _=>⟨ob.slots,k b ob q⟩,λ_ _ _ n _=>n,λb ob q _=>⟨ob,k b ob q⟩,λ_ _ q=>q,λ_ _ _ q=>q,λ_ ps q=>⟨#[],by rw[q];simp⟩⟩
theorem Un.refl:Un fs ex H H h h:=Un.kept λ_ _ q=>q
theorem Un.laid(k:∀b u,h.get? b=some u->h'.get? b=some u)(hp:h.objs.size<=a)(hn:H a=none):Un fs ex H (upd H a o) h h' where
 keep:=λb u q _ _ _=>k b u q
 slot:=λb u q _ _ _=>⟨u.slots,k b u q⟩
 free:=λb u q n _=>by rw[Ad (Lg (Lr (Ph q) hp))];exact n
 there:=λb u q _=>⟨u,k b u q⟩
 tups:=λb xs q=>by rw[Ad (Aq q hn)];exact q
 frzs:=λb u xs q=>by rw[Ad (Aq q hn)];exact q
 tbls:=λb ps q=>⟨#[],by rw[Ad (Aq q hn),q];simp⟩
theorem Un.write(mu:Mut (H x))(he:e=x\/H e=some (.own x))(k:∀b u,b≠e->h.get? b=some u->h'.get? b=some u)(heo:∃u,h'.get? e=some u):Un fs ex H (upd H x o) h h':=by
 have hx:∀b,H b=none->b≠x:=λb n z=>by subst z;rw[n] at mu;exact mu
 have hb:∀b,H b=none->b≠e:=λb n z=>by
  subst z;rcases he with r | r
  ·exact hx b n r
  ·rw[n] at r;cases r
 have hm:∀b u,H b=some u->¬Mut (some u)->b≠x:=λb u q nm z=>by subst z;rw[q] at mu;exact nm mu
 refine⟨λb u q n _ _=>k b u (hb b n) q,λb u q n _ _=>⟨u.slots,k b u (hb b n) q⟩,λb u q n _=>by rw[Ad (hx b n)];exact n,λb u q _=>?_,
  λb xs q=>by rw[Ad (hm b _ q λz=>z)];exact q,λb u xs q=>by rw[Ad (hm b _ q λz=>z)];exact q,λb ps q=>⟨#[],by rw[Ad (hm b _ q λz=>z),q];simp⟩⟩
 by_cases hbe:b=e
 ·subst hbe;exact heo
 ·exact⟨u,k b u hbe q⟩
end
def trk (h:Heap) (H:Hp):List Addr:=(List.range h.objs.size).filter λa=>(H a).isSome
def Cr (h:Heap) (H:Hp):Heap:=PySem.W.hideAll h (trk h H)
theorem Xfh(h:Heap)(H:Hp):(Cr h H).objs.size=h.objs.size:=PySem.W.hideAll_size _ _
theorem Xfi{h:Heap}{H:Hp}{b:Addr}{o:Obj}(e:h.get? b=some o)(n:H b=none):(Cr h H).get? b=some o:=
 PySem.W.hideAll_get _ e λhm=>by
  have q:(H b).isSome=true:=(Lc.mp hm).2;rw[n] at q;simp at q
theorem Xfj{h:Heap}{H:Hp}{b:Addr}{o:Obj}(e:(Cr h H).get? b=some o):h.get? b=some o/\H b=none:=by
 have e':h.get? b=some o:=PySem.W.of_hideAll (trk h H) e;refine⟨e',?_⟩;cases q:H b with
 | none=>rfl
 | some x=>
  have hm:b∈trk h H:=Lc.mpr ⟨Mp.mpr (Ph e'),by simp[q]⟩;have z:(Cr h H).get? b=none:=PySem.W.hideAll_none (trk h H) hm;rw[z] at e;cases e
def Xfk (g h:Heap) (L:Addr):List (Addr×Obj):=(List.range h.objs.size).filterMap λa=>if a=L\/(g.get? a).isSome=true then none else (h.get? a).map λo=>(a,o)
def rest (g h:Heap) (L d:Addr):List (Addr×Obj):=(Xfk g h L).filter λp=>decide (p.1≠d)
structure Mod (K:PySem.W.Frag) (mg:Str->Option Value) (base:Heap):Prop where
 kin:K.In base
 glob:base.Ns mainGlobals mg
 blt:∃mb,base.Ns builtinsNs mb/\∀x:Str,x ≠ "__name__" -> mb x=bootBuiltins x
 nolimit:base.NoLimit
structure Cx where
 prog:Program
 w:World
 K:PySem.W.Frag
 mg:Str->Option Value
 base:Heap
 A:Around
 N:List Str
 s₀ : Shared
 H₀ : Hp
 env:Env
 outer:List Env
 stack:List Env
 ex:List Addr
 fn:Str->Bool
 calm:Bool
 pn:List (Addr×Obj)
 xe:Value->Shared->Prop
def frs (l:List Env):List Addr:=l.filterMap (·.frame)
abbrev Cx.fs (X:Cx):List Addr:=frs X.outer
def Vis (sc:Scope) (x:Str):Prop:=sc.names.lookup x=some .local\/sc.names.lookup x=some .cell\/sc.names.lookup x=some .free
def Loc (sc:Scope) (x:Str):Prop:=sc.names.lookup x=some .local\/sc.names.lookup x=some .cell
def Look (env:Env) (h:Heap) (m:Str->Option Value) (x:Str) (u:Value):Prop:=
 (env.kindOf x=some .local/\m x=some u)\/((env.kindOf x=some .cell\/env.kindOf x=some .free)/\∃c,env.cells.lookup x=some c/\h.IsCell c (some u))
structure Cx.Ok (X:Cx):Prop where
 mod:Mod X.K X.mg X.base
 kind:X.env.scope.kind = .function
 glob:X.env.globals=mainGlobals
 blt:X.env.builtins=builtinsNs
 above:X.s₀.heap.objs.size<=X.env.locals
 inj:∀x y c,X.env.cells.lookup x=some c->X.env.cells.lookup y=some c->x=y
 has:∀x,(X.env.kindOf x=some .cell\/X.env.kindOf x=some .free)->∃c,X.env.cells.lookup x=some c
 cab:∀x c,X.fn x=true->X.env.cells.lookup x=some c->X.s₀.heap.objs.size<=c
 hd:X.calm=true->X.A.handled=none
 frames:X.A.frames=some X.stack
 stk:X.stack=X.outer\/(X.stack=X.env::X.outer/\X.env.frame=some X.env.locals)
 exf:∀b∈X.ex,b≠X.env.locals/\∀x c,X.env.cells.lookup x=some c->c≠b
 bs:∀b o,X.base.get? b=some o->X.s₀.heap.get? b=some o/\X.H₀ b=none
 bsz:X.base.objs.size<=X.s₀.heap.objs.size
 noex:∀b o,X.base.get? b=some o->b∉X.ex
 exfs:∀b∈X.ex,b∉X.fs
 funs:X.s₀.heap.FunFrames X.base X.outer
 frf:∀b∈X.fs,X.H₀ b=none
structure Inv (X:Cx) (pins:List (Addr×Obj)) (σ:List (Option V)) (H:Hp) (s:Shared):Prop where
 ok:X.Ok
 os:s.os=X.s₀.os
 bare:AllBare s.gens
 base:Un X.fs X.ex X.H₀ H X.s₀.heap s.heap
 loc:∃m,s.heap.Ns X.env.locals m/\∀(i:Nat) (x:Str) (v:V),X.N[i]? = some x -> σ[i]? = some (some v)->Vis X.env.scope x->∃u,Ag v u/\Look X.env s.heap m x u
 cell:∀x c,X.env.cells.lookup x=some c->∃v,s.heap.IsCell c v
 free:H X.env.locals=none
 freeC:∀x c,X.env.cells.lookup x=some c->H c=none
 pin:∀p∈X.pn++pins,s.heap.get? p.1=some p.2/\H p.1=none/\p.1≠X.env.locals/\p.1∉X.fs/\∀v,p.2.data ≠ .cell v
 hok:HOk X.prog X.w H s.heap
 len : σ.length=X.N.length
section
variable {X:Cx}{pins:List (Addr×Obj)}{σ:List (Option V)}{H H':Hp}{s:Shared}{h':Heap}
theorem Cx.Ok.nofr(ok:X.Ok){b:Addr}{o:Obj}(e:X.base.get? b=some o):b∉X.fs:=λhb=>by
 have:=(ok.funs.mem hb).1;rw[e] at this;cases this
theorem Inv.bs(I:Inv X pins σ H s):∀b o,X.base.get? b=some o->s.heap.get? b=some o/\H b=none:=λb o e=>
 ⟨I.base.keep b o (I.ok.bs b o e).1 (I.ok.bs b o e).2 (I.ok.nofr e) (I.ok.noex b o e),I.base.free b o (I.ok.bs b o e).1 (I.ok.bs b o e).2 (I.ok.noex b o e)⟩
theorem Inv.bk(I:Inv X pins σ H s):∀b o,X.base.get? b=some o->s.heap.get? b=some o:=λb o e=>(I.bs b o e).1
theorem Inv.mod(I:Inv X pins σ H s):Mod X.K X.mg X.base:=I.ok.mod
theorem Inv.kIn(I:Inv X pins σ H s):X.K.In s.heap:=I.ok.mod.kin.keeps I.bk
theorem Inv.lt(I:Inv X pins σ H s):X.env.locals<s.heap.objs.size:=let ⟨_,hn,_⟩:=I.loc;hn.lt
theorem Inv.sz(I:Inv X pins σ H s):X.s₀.heap.objs.size<=s.heap.objs.size:=L0 I.ok.above (Nx I.lt)
theorem Inv.nofs(I:Inv X pins σ H s){a:Addr}(h:s.heap.objs.size<=a):a∉X.fs:=λhb=>by
 obtain⟨_,o,ho,_⟩:=I.ok.funs.mem hb;exact absurd (Lr (Ph ho) (L0 I.sz h)) (Mb _)
theorem Inv.cne(I:Inv X pins σ H s):∀x c,X.env.cells.lookup x=some c->c≠X.env.locals:=λx c e z=>by
 obtain⟨v,o,ho,hd⟩:=I.cell x c e;obtain⟨m,⟨o',es,ep,ho',hd',_⟩,_⟩:=I.loc;rw[z,ho'] at ho;cases ho;rw[hd'] at hd;cases hd
theorem Inv.funs(I:Inv X pins σ H s):s.heap.FunFrames X.base X.outer:=by
 have all:∀(l:List Env),(∀b∈frs l,b∈X.fs)->X.s₀.heap.FunFrames X.base l->s.heap.FunFrames X.base l:=by
  intro l
  induction l with
  | nil=>intro _ _;trivial
  | cons env r ih=>
   intro hs hl;obtain⟨hk,⟨L,o,hf,hn,ho,hd⟩,hr⟩:=hl;have hL:L∈X.fs:=hs L (by unfold frs;rw[M0,hf];exact Ld);obtain⟨sl,e⟩:=I.base.slot L o ho (I.ok.frf L hL) hL λz=>I.ok.exfs L z hL;exact⟨hk,⟨L,_,hf,hn,e,hd⟩,ih (λb hb=>hs b (by unfold frs;rw[M0,hf];exact Lb _ hb)) hr⟩
 exact all X.outer (λ_ hb=>hb) I.ok.funs
theorem Inv.stack(I:Inv X pins σ H s):s.heap.FunFrames X.base X.stack:=by
 rcases I.ok.stk with e | ⟨e,hf⟩
 ·rw[e];exact I.funs
 ·rw[e];obtain⟨m,hn,_⟩:=I.loc;refine .cons (by rw[I.ok.kind];decide) hf hn ?_ I.funs;exact Heap.get?_none_of_le (L0 I.ok.bsz I.ok.above)
theorem Inv.stkSub(I:Inv X pins σ H s):∀b∈frs X.stack,b∈X.env.locals::X.fs:=λb hb=>by
 rcases I.ok.stk with e | ⟨e,hf⟩
 ·rw[e] at hb;exact Lb _ hb
 ·rw[e] at hb;unfold frs at hb;rw[M0,hf] at hb;exact hb
theorem Inv.stkFree(I:Inv X pins σ H s):∀b∈frs X.stack,H b=none:=λb hb=>by
 rcases Lk.mp (I.stkSub b hb) with e | hb
 ·rw[e];exact I.free
 ·obtain⟨_,o,ho,_⟩:=I.ok.funs.mem hb;exact I.base.free b o ho (I.ok.frf b hb) λz=>I.ok.exfs b z hb
theorem Inv.step{g':Array GenState}{t':Nat}{d':Drawn}{ch:List Addr}(I:Inv X pins σ H s)
  (hch:∀b∈ch,(b∈X.ex\/X.s₀.heap.objs.size<=b)/\b≠X.env.locals/\(∀x c,X.env.cells.lookup x=some c->c≠b)/\∀p∈X.pn++pins,p.1≠b)
  (keep:∀b o,b≠X.env.locals->b∉X.fs->b∉ch->s.heap.get? b=some o->H b=none->h'.get? b=some o)
  (slot:∀b o,b≠X.env.locals->b∈X.fs->b∉ch->s.heap.get? b=some o->H b=none->∃sl,h'.get? b=some {o with slots:=sl}) (free:∀b o,b∉ch->s.heap.get? b=some o->H b=none->H' b=none)
  (there:∀b o,b∉ch->s.heap.get? b=some o->∃o',h'.get? b=some o')
  (tups:∀b xs,H b=some (.tup xs)->H' b=some (.tup xs)) (frzs:∀b o u,H b=some (.frz o u)->H' b=some (.frz o u)) (tbls:∀b ps,H b=some (.tbl ps)->∃more,H' b=some (.tbl (ps++more)))
  (ns:∀m,s.heap.Ns X.env.locals m->h'.Ns X.env.locals m) (hok:HOk X.prog X.w H' h') (hg:AllBare g'):
  Inv X pins σ H' {s with heap:=h',gens:=g',drawn:=d',toks:=t'}:=by
 have neL:∀b o,X.s₀.heap.get? b=some o->b≠X.env.locals:=λb o e=>Lg (Lr (Ph e) I.ok.above);have neC:∀b o,X.s₀.heap.get? b=some o->b∉X.ex->b∉ch:=λb o e hx hb=>by
  rcases (hch b hb).1 with z | z
  ·exact hx z
  ·exact absurd (Lr (Ph e) z) (Mb _)
 have cellK:∀x c,X.env.cells.lookup x=some c->∀v,s.heap.IsCell c v->h'.IsCell c v:=λx c e v ⟨o,ho,hd⟩=>by
  have nch:c∉ch:=λz=>(hch c z).2.2.1 x c e rfl;by_cases hc:c∈X.fs
  ·obtain⟨sl,q⟩:=slot c o (I.cne x c e) hc nch ho (I.freeC x c e);exact⟨_,q,hd⟩
  ·exact⟨o,keep c o (I.cne x c e) hc nch ho (I.freeC x c e),hd⟩
 refine⟨I.ok,I.os,hg,⟨λb o e n hb hx=>?_,λb o e n hb hx=>?_,λb o e n hx=>?_,λb o e hx=>?_,λb xs e=>tups b xs (I.base.tups b xs e),λb o xs e=>frzs b o xs (I.base.frzs b o xs e),λb ps e=>?_⟩,?_,λx c e=>?_,?_,λx c e=>?_,λp hp=>?_,hok,I.len⟩
 ·exact keep b o (neL b o e) hb (neC b o e hx) (I.base.keep b o e n hb hx) (I.base.free b o e n hx)
 ·obtain⟨sl,e1⟩:=I.base.slot b o e n hb hx;obtain⟨sl',e2⟩:=slot b _ (neL b o e) hb (neC b o e hx) e1 (I.base.free b o e n hx);exact⟨sl',e2⟩
 ·obtain⟨o',e1⟩:=I.base.there b o e hx;exact free b o' (neC b o e hx) e1 (I.base.free b o e n hx)
 ·obtain⟨o',e1⟩:=I.base.there b o e hx;exact there b o' (neC b o e hx) e1
 ·obtain⟨m1,e1⟩:=I.base.tbls b ps e;obtain⟨m2,e2⟩:=tbls b _ e1;exact⟨m1++m2,by rw[e2,Array.append_assoc]⟩
 ·obtain⟨m,hn,hl⟩:=I.loc;refine⟨m,ns m hn,λi x v e1 e2 e3=>?_⟩;obtain⟨u,r,l⟩:=hl i x v e1 e2 e3;refine⟨u,r,?_⟩;rcases l with l | ⟨k,c,e,z⟩
  ·exact .inl l
  ·exact .inr ⟨k,c,e,cellK x c e _ z⟩
 ·obtain⟨v,z⟩:=I.cell x c e;exact⟨v,cellK x c e v z⟩
 ·obtain⟨m,⟨o,_,_,ho,_⟩,_⟩:=I.loc;exact free _ o (λz=>(hch _ z).2.1 rfl) ho I.free
 ·obtain⟨v,o,ho,hd⟩:=I.cell x c e;exact free c o (λz=>(hch c z).2.2.1 x c e rfl) ho (I.freeC x c e)
 ·obtain⟨e,n,ne,nf,d⟩:=I.pin p hp;have nch:p.1∉ch:=λz=>(hch p.1 z).2.2.2 p hp rfl;exact⟨keep p.1 p.2 ne nf nch e n,free p.1 p.2 nch e n,ne,nf,d⟩
theorem Inv.un{t':Nat}(I:Inv X pins σ H s)(u:Un X.fs [] H H' s.heap h')(hok:HOk X.prog X.w H' h'):Inv X pins σ H' {s with heap:=h',toks:=t'}:=by
 obtain⟨m,⟨o,es,ep,ho,r⟩,_⟩:=id I.loc;obtain⟨sl,hL⟩:=u.any ho I.free (by simp);exact I.step (g':=s.gens) (d':=s.drawn) (ch:=[]) (λ_ z=>nomatch z) (λb o _ hb _ e n=>u.keep b o e n hb (by simp)) (λb o _ hb _ e n=>u.slot b o e n hb (by simp)) (λb o _ e n=>u.free b o e n (by simp)) (λb o _ e=>u.there b o e (by simp)) u.tups u.frzs u.tbls (λm' hm=>by
  obtain⟨o',es',ep',ho',r'⟩:=hm;rw[ho] at ho';cases ho';exact⟨_,es',ep',hL,r'⟩) hok I.bare
theorem Inv.call{g':Array GenState}{t':Nat}{d':Drawn}{ch:List Addr}(I:Inv X pins σ H s)(u:Un (frs X.stack) ch H H' s.heap h')(hok:HOk X.prog X.w H' h')(hg:AllBare g')
  (hch:∀b∈ch,(b∈X.ex\/X.s₀.heap.objs.size<=b)/\b≠X.env.locals/\(∀x c,X.env.cells.lookup x=some c->c≠b)/\∀p∈X.pn++pins,p.1≠b):
  Inv X pins σ H' {s with heap:=h',gens:=g',drawn:=d',toks:=t'}:=by
 obtain⟨m,⟨o,es,ep,ho,r⟩,_⟩:=id I.loc;obtain⟨sl,hL⟩:=u.any ho I.free λz=>(hch _ z).2.1 rfl;exact I.step (ch:=ch) hch (λb o hL hb hc e n=>u.keep b o e n (λz=>(Lk.mp (I.stkSub b z)).elim hL hb) hc) (λb o _ _ hc e n=>u.any e n hc) (λb o hc e n=>u.free b o e n hc) (λb o hc e=>u.there b o e hc) u.tups u.frzs u.tbls (λm' hm=>by
  obtain⟨o',es',ep',ho',r'⟩:=hm;rw[ho] at ho';cases ho';exact⟨_,es',ep',hL,r'⟩) hok hg
theorem Inv.turned{t':Nat}{it:Addr}(I:Inv X pins σ H s)(k:∀b o,b≠it->s.heap.get? b=some o->h'.get? b=some o)(hn:H it=none)(hL:it≠X.env.locals)
  (h1:it∈X.ex\/X.s₀.heap.objs.size<=it) (h2:∀x c,X.env.cells.lookup x=some c->c≠it) (h3:∀p∈X.pn++pins,p.1≠it):Inv X pins σ H {s with heap:=h',toks:=t'}:=by
 have nit:∀b u,H b=some u->b≠it:=λb u e z=>by rw[z,hn] at e;cases e
 refine I.step (g':=s.gens) (d':=s.drawn) (ch:=[it]) (λb hb=>?_) (λb o _ _ hc e _=>k b o (λz=>hc (by simp[z])) e) (λb o _ _ hc e _=>⟨o.slots,k b o (λz=>hc (by simp[z])) e⟩) (λ_ _ _ _ n=>n)
  (λb o hc e=>⟨o,k b o (λz=>hc (by simp[z])) e⟩) (λ_ _ e=>e) (λ_ _ _ e=>e) (λb ps e=>⟨#[],by rw[e];simp⟩) (λm hm=>?_) (λb u e=>?_) I.bare
 ·have e:b=it:=by simpa using hb
  subst e;exact⟨h1,hL,h2,h3⟩
 ·obtain⟨o,es,ep,ho,r⟩:=hm;exact⟨o,es,ep,k _ o (Ne.symm hL) ho,r⟩
 ·refine(I.hok b u e).stay (λc v hc q=>k c v ?_ q) (λ_ q=>q) λ_ _ q=>q;rcases hc with z | z
  ·rw[z];exact nit b u e
  ·exact nit c _ z
theorem Inv.tok(I:Inv X pins σ H s)(t:Nat):Inv X pins σ H {s with toks:=t}:=I.un (h':=s.heap) (t':=t) Un.refl I.hok
theorem Inv.kept{t':Nat}(I:Inv X pins σ H s)(k:∀b u,s.heap.get? b=some u->h'.get? b=some u):Inv X pins σ H {s with heap:=h',toks:=t'}:=I.un (Un.kept k) (I.hok.kept k)
theorem Inv.laid{a:Addr}{o:HO}{t':Nat}(I:Inv X pins σ H s)(k:∀b u,s.heap.get? b=some u->h'.get? b=some u)(hp:s.heap.objs.size<=a)(new:A5 X.prog X.w (upd H a o) h' a o):
  Inv X pins σ (upd H a o) {s with heap:=h',toks:=t'}:=I.un (Un.laid k hp (I.hok.fresh hp)) (I.hok.laid k hp new)
theorem Inv.write{x e:Addr}{o:HO}{t':Nat}(I:Inv X pins σ H s)(mu:Mut (H x))(he:e=x\/H e=some (.own x))(k:∀b u,b≠e->s.heap.get? b=some u->h'.get? b=some u)(heo:∃u,h'.get? e=some u)
  (new:A5 X.prog X.w (upd H x o) h' x o):Inv X pins σ (upd H x o) {s with heap:=h',toks:=t'}:=I.un (Un.write mu he k heo) (I.hok.write mu he k heo new)
theorem Inv.pins_of{pins':List (Addr×Obj)}(I:Inv X pins σ H s)(h:∀p∈pins',s.heap.get? p.1=some p.2/\H p.1=none/\p.1≠X.env.locals/\p.1∉X.fs/\∀v,p.2.data ≠ .cell v):Inv X pins' σ H s:=
 ⟨I.ok,I.os,I.bare,I.base,I.loc,I.cell,I.free,I.freeC,λp hp=>(Ll.mp hp).elim (λz=>I.pin p (Mz _ z)) (h p),I.hok,I.len⟩
theorem Xab{N:List Str}(hN:N.Nodup){i j:Nat}{x:Str}(a:N[i]? = some x)(b:N[j]? = some x):i=j:=by
 obtain⟨h1,e1⟩:=L3.mp a;obtain⟨h2,e2⟩:=L3.mp b;exact(List.getElem_inj hN).mp (e1.trans e2.symm)
theorem Xac{M:Model}{A:Around}{E:Value->Shared->Prop}{i:Nat}{x:Str}{v:V}{u:Value}{Q:Unit->Shared->Prop}(I:Inv X pins σ H s)(hN:X.N.Nodup)(hi:X.N[i]? = some x)(hx:Loc X.env.scope x)(r:Ag v u)
  (h:∀s',Inv X pins (σ.set i (some v)) H s'->(∃a,Heap.SameBut a s.heap s'.heap/\(a=X.env.locals\/X.env.cells.lookup x=some a))->Q () s') (hf:X.fn x=true\/X.env.scope.names.lookup x=some .local:=by first | exact .inl rfl | exact .inr rfl | assumption):wpAny M A (storeName X.env x u) Q E s:=by
 obtain⟨m,hn,hl⟩:=id I.loc;have hcls:(X.env.scope.kind == .class||(X.env.scope.kind == .module&&X.env.locals != X.env.globals))=false:=by rw[I.ok.kind];rfl
 have hiσ:i < σ.length:=by rw[I.len];exact(L3.mp hi).1
 have cne:=I.cne;have tracked:∀{a:Addr} {h':Heap},(∃o,s.heap.get? a=some o/\H a=none)->Heap.SameBut a s.heap h'->HOk X.prog X.w H h':=λ{a h'} ha hs b ob e=>by
  obtain⟨_,_,hfree⟩:=ha;refine(I.hok b ob e).stay (λc w' hc q=>(hs.2 c ?_).trans q) (λ_ q=>q) λ_ _ q=>q;rintro rfl;rcases hc with rfl | hc
  ·rw[hfree] at e;cases e
  ·rw[hfree] at hc;cases hc
 rcases hx with hk | hk
 ·refine wpAny_storeName_local hk hn (λh' hn' hs=>?_) hcls;obtain⟨oL,_,_,hoL,_⟩:=id hn;refine h _ ⟨I.ok,I.os,I.bare,⟨λb o e n hb hx=>?_,λb o e n hb hx=>?_,I.base.free,λb o e hx=>?_,I.base.tups,I.base.frzs,I.base.tbls⟩,⟨_,hn',λj y v' e1 e2 e3=>?_⟩,λy c e=>?_,I.free,I.freeC,λp hp=>?_,tracked ⟨oL,hoL,I.free⟩ hs,by simpa using I.len⟩ ⟨_,hs,.inl rfl⟩
  ·exact(hs.2 b (Lg (Lr (Ph e) I.ok.above))).trans (I.base.keep b o e n hb hx)
  ·obtain⟨sl,e1⟩:=I.base.slot b o e n hb hx;exact⟨sl,(hs.2 b (Lg (Lr (Ph e) I.ok.above))).trans e1⟩
  ·obtain⟨o',e1⟩:=I.base.there b o e hx;exact⟨o',(hs.2 b (Lg (Lr (Ph e) I.ok.above))).trans e1⟩
  ·by_cases hj:j=i
   ·subst hj;rw[hi] at e1;cases e1;rw[List.getElem?_set_self hiσ] at e2;cases e2;exact⟨u,r,.inl ⟨hk,by simp⟩⟩
   ·rw[List.getElem?_set_ne (Ne.symm hj)] at e2;obtain⟨u',r',q⟩:=hl j y v' e1 e2 e3;refine⟨u',r',?_⟩;rcases q with ⟨k,e⟩ | ⟨k,c,e,z⟩
    ·refine .inl ⟨k,?_⟩;have:y≠x:=λe=>hj (Xab hN e1 (e ▸ hi));simp[this,e]
    ·exact .inr ⟨k,c,e,z.sameBut hs (cne y c e)⟩
  ·obtain⟨w',z⟩:=I.cell y c e;exact⟨w',z.sameBut hs (cne y c e)⟩
  ·obtain⟨e,n,ne,nf,d⟩:=I.pin p hp;exact⟨(hs.2 p.1 ne).trans e,n,ne,nf,d⟩
 ·have hfn:X.fn x=true:=by
   rcases hf with z | z
   ·exact z
   ·rw[z] at hk;cases hk
  obtain⟨c,hc⟩:=I.ok.has x (.inl hk);obtain⟨w',z⟩:=I.cell x c hc;refine wpAny_storeName_cell I.ok.kind hk hc z (λh' hc' hs=>?_);obtain⟨oc,hoc,hocd⟩:=id z;refine h {s with heap:=h'} ⟨I.ok,I.os,I.bare,⟨λb o e n hb hx=>?_,λb o e n hb hx=>?_,I.base.free,λb o e hx=>?_,I.base.tups,I.base.frzs,I.base.tbls⟩,⟨m,hn.sameBut hs (Ne.symm (cne x c hc)),λj y v' e1 e2 e3=>?_⟩,λy c' e=>?_,I.free,I.freeC,λp hp=>?_,tracked ⟨oc,hoc,I.freeC x c hc⟩ hs,by simpa using I.len⟩ ⟨c,hs,.inr hc⟩
  ·exact(hs.2 b (Lg (Lr (Ph e) (I.ok.cab x c hfn hc)))).trans (I.base.keep b o e n hb hx)
  ·obtain⟨sl,e1⟩:=I.base.slot b o e n hb hx;exact⟨sl,(hs.2 b (Lg (Lr (Ph e) (I.ok.cab x c hfn hc)))).trans e1⟩
  ·obtain⟨o',e1⟩:=I.base.there b o e hx;exact⟨o',(hs.2 b (Lg (Lr (Ph e) (I.ok.cab x c hfn hc)))).trans e1⟩
  ·by_cases hj:j=i
   ·subst hj;rw[hi] at e1;cases e1;rw[List.getElem?_set_self hiσ] at e2;cases e2;exact⟨u,r,.inr ⟨.inl hk,c,hc,hc'⟩⟩
   ·rw[List.getElem?_set_ne (Ne.symm hj)] at e2;obtain⟨u',r',q⟩:=hl j y v' e1 e2 e3;refine⟨u',r',?_⟩;rcases q with q | ⟨k,c',e,z'⟩
    ·exact .inl q
    ·refine .inr ⟨k,c',e,z'.sameBut hs ?_⟩;rintro rfl;exact hj (Xab hN e1 (I.ok.inj _ _ _ e hc ▸ hi))
  ·by_cases hcc:c'=c
   ·subst hcc;exact⟨_,hc'⟩
   ·obtain⟨w2,z2⟩:=I.cell y c' e;exact⟨w2,z2.sameBut hs hcc⟩
  ·obtain⟨e,n,ne,nf,d⟩:=I.pin p hp;refine⟨(hs.2 p.1 ?_).trans e,n,ne,nf,d⟩;intro q;rw[q,hoc] at e;have q':oc=p.2:=Ly e;exact d w' (by rw[<-q'];exact hocd)
theorem Xad{M:Model}{A:Around}{E:Value->Shared->Prop}{i:Nat}{x:Str}{v:V}{u:Value}{Q:Unit->Shared->Prop}(I:Inv X pins σ H s)(hN:X.N.Nodup)(hi:X.N[i]? = some x)(hx:Loc X.env.scope x)(r:Ag v u)
  (h:∀s',Inv X pins (σ.set i (some v)) H s'->Q () s') (hf:X.fn x=true\/X.env.scope.names.lookup x=some .local:=by first | exact .inl rfl | exact .inr rfl | assumption):wpAny M A (storeName X.env x u) Q E s:=
 Xac I hN hi hx r (λs' I' _=>h s' I') hf
theorem Inv.call'{s':Shared}{ch:List Addr}(I:Inv X pins σ H s)(ho:s'.os=s.os)(u:Un (frs X.stack) ch H H' s.heap s'.heap)(hok:HOk X.prog X.w H' s'.heap)(hg:AllBare s'.gens)
  (hch:∀b∈ch,(b∈X.ex\/X.s₀.heap.objs.size<=b)/\b≠X.env.locals/\(∀x c,X.env.cells.lookup x=some c->c≠b)/\∀p∈X.pn++pins,p.1≠b):Inv X pins σ H' s':=by
 obtain⟨h',g',d',t',o'⟩:=s';have e:o'=s.os:=ho;subst e;exact I.call (g':=g') (t':=t') (d':=d') u hok hg hch
end
abbrev XK:=Value->Option Addr->Hp->Prop
abbrev St:=List (Option V)
abbrev VK:=V->Hp->Prop
abbrev TE:=St->Hp->VK->Prop
abbrev TT:=St->Hp->(Bool->Hp->Prop)->Prop
abbrev TA:=St->Hp->(List V->Hp->Prop)->Prop
structure Ends where
 nx:St->Hp->Prop
 rt:VK
 bk:St->Hp->Prop:=λ_ _=>False
 ct:St->Hp->Prop:=λ_ _=>False
abbrev TS:=Ends->St->Hp->Prop
def EP (X:Cx) (pins:List (Addr×Obj)) (σ:St) (Q:VK) (u:Value) (s':Shared):Prop:=∃v H',Inv X pins σ H' s'/\Ag v u/\Q v H'
def TP (X:Cx) (pins:List (Addr×Obj)) (σ:St) (Q:Bool->Hp->Prop) (b:Bool) (s':Shared):Prop:=∃H',Inv X pins σ H' s'/\Q b H'
def AP (X:Cx) (pins:List (Addr×Obj)) (σ:St) (Q:List V->Hp->Prop) (us:List Value) (s':Shared):Prop:=∃vs H',Inv X pins σ H' s'/\Vals vs us/\Q vs H'
def SP (X:Cx) (pins:List (Addr×Obj)) (D:Ends) (f:Flow) (s':Shared):Prop:=
 match f with
 | .next=>∃σ' H',Inv X pins σ' H' s'/\D.nx σ' H'
 | .brk=>∃σ' H',Inv X pins σ' H' s'/\D.bk σ' H'
 | .cont=>∃σ' H',Inv X pins σ' H' s'/\D.ct σ' H'
 | .ret u=>∃v σ' H',Inv X pins σ' H' s'/\Ag v u/\D.rt v H'
def PE (X:Cx) (e:Expr) (t:TE):Prop:=
 ∀(pins:List (Addr×Obj)) (s:Shared) (σ:St) (H:Hp) (Q:VK),Inv X pins σ H s->t σ H Q->wpAny (model X.prog X.w) X.A (eval e X.env) (EP X pins σ Q) X.xe s
def PT (X:Cx) (e:Expr) (t:TT):Prop:=
 ∀(pins:List (Addr×Obj)) (s:Shared) (σ:St) (H:Hp) (Q:Bool->Hp->Prop),Inv X pins σ H s->t σ H Q->wpAny (model X.prog X.w) X.A (isTrue e X.env (eval e X.env)) (TP X pins σ Q) X.xe s
def PW (X:Cx) (e:Expr) (t:TT):Prop:=
 ∀(whole:Sem Value) (pins:List (Addr×Obj)) (s:Shared) (σ:St) (H:Hp) (Q:Bool->Hp->Prop),Inv X pins σ H s->t σ H Q->wpAny (model X.prog X.w) X.A (isTrue e X.env whole) (TP X pins σ Q) X.xe s
theorem PW.pt{X:Cx}{e:Expr}{t:TT}(h:PW X e t):PT X e t:=h _
def PA (X:Cx) (es:List Expr) (t:TA):Prop:=
 ∀(pos:Pos) (pins:List (Addr×Obj)) (s:Shared) (σ:St) (H:Hp) (Q:List V->Hp->Prop),Inv X pins σ H s->t σ H Q->wpAny (model X.prog X.w) X.A (spliced (backTo pos (starEach es X.env))) (AP X pins σ Q) X.xe s
def PS (X:Cx) (st:Stmt) (t:TS):Prop:=
 ∀(pins:List (Addr×Obj)) (s:Shared) (σ:St) (H:Hp) (D:Ends),Inv X pins σ H s->t D σ H->wpAny (model X.prog X.w) X.A (exec st X.env) (SP X pins D) X.xe s
def PSs (X:Cx) (st:List Stmt) (t:TS):Prop:=
 ∀(pins:List (Addr×Obj)) (s:Shared) (σ:St) (H:Hp) (D:Ends),Inv X pins σ H s->t D σ H->wpAny (model X.prog X.w) X.A (execs st X.env) (SP X pins D) X.xe s
theorem thn{α : Type}{t:Sem α}{Q Q' : α->Shared->Prop}{M:Model}{A:Around}{E:Value->Shared->Prop}{s:Shared}(h:wpAny M A t Q E s)(hQ:∀a s,Q a s->Q' a s):wpAny M A t Q' E s:=wpAny_mono h hQ λ_ _ x=>x
section
variable {X:Cx}
def Hq (i:Nat):TE:=fun σ H Q=>∃v, σ[i]? = some (some v)/\Q v H
def tC (v:V):TE:=λ_ H Q=>Q v H
theorem Xfl{i:Nat}{x:Str}{pos:Pos}(hN:X.N[i]? = some x)(hv:Vis X.env.scope x)(hd:(x==("__debug__" : Str))=false:=by decide)(hcd:(x==("__classdict__" : Str))=false:=by decide):PE X (.Name x pos) (Hq i):=by
 intro pins s σ H Q I h;obtain⟨v,e,h⟩:=h;obtain⟨m,hn,hl⟩:=I.loc;obtain⟨u,r,l⟩:=hl i x v hN e hv;have fin:EP X pins σ Q u s:=⟨v,H,I,r,h⟩;rcases l with ⟨hk,hm⟩ | ⟨hk,c,hc,hcell⟩
 ·exact wpAny_Name (wpAny_loadName_local I.ok.kind hk hn hm fin) hd
 ·rcases hk with hk | hk
  ·exact wpAny_Name (wpAny_loadName_cell I.ok.kind hk hc hcell fin) hd
  ·exact wpAny_Name (wpAny_loadName_free I.ok.kind hk hc hcell fin hcd) hd
theorem Ah{i j pos}:PE X (.Constant (.int i) j pos) (tC (.int i)):=λ_ _ _ H _ I h=>wpAny_Constant_int ⟨.int i,H,I.tok _,⟨_,rfl⟩,h⟩
theorem E8{b j pos}:PE X (.Constant (.bool b) j pos) (tC (.bl b)):=λ_ _ _ H _ I h=>Constant_bool ⟨.bl b,H,I,rfl,h⟩
theorem Bi{x j pos}:PE X (.Constant (.str x) j pos) (tC (.str x)):=λ_ _ _ H _ I h=>Calls.Constant_str ⟨.str x,H,I.tok _,⟨_,rfl⟩,h⟩
def Gl (X:Cx) (x:Str):Prop:=X.env.kindOf x=some .globalImplicit
theorem Xae{E:Value->Shared->Prop}{pins:List (Addr×Obj)}{s:Shared}{σ:St}{H:Hp}{x:Str}{u:Value}{pos:Pos}{Q:Value->Shared->Prop}(I:Inv X pins σ H s)(hg:Gl X x)(hm:X.mg x=some u)(h:Q u s)
  (hd:(x==("__debug__" : Str))=false:=by decide):wpAny (model X.prog X.w) X.A (eval (.Name x pos) X.env) Q E s:=
 Calls.Name_function_global I.ok.kind hg (Calls.loadGlobal_global (by rw[I.ok.glob];exact I.mod.glob.keeps I.bk) hm h) hd
theorem E9{E:Value->Shared->Prop}{pins:List (Addr×Obj)}{s:Shared}{σ:St}{H:Hp}{x:Str}{u:Value}{pos:Pos}{Q:Value->Shared->Prop}(I:Inv X pins σ H s)(hg:Gl X x)(hm:X.mg x=none)(hv:bootBuiltins x=some u)(h:Q u s)
  (hn:x ≠ "__name__" := by decide) (hd:(x==("__debug__" : Str))=false:=by decide):wpAny (model X.prog X.w) X.A (eval (.Name x pos) X.env) Q E s:=by
 obtain⟨mb,h1,h2⟩:=I.mod.blt;exact Calls.Name_function_global I.ok.kind hg (Calls.loadGlobal_builtin (by rw[I.ok.glob];exact I.mod.glob.keeps I.bk) hm (by rw[I.ok.blt];exact h1.keeps I.bk) ((h2 x hn).trans hv) h) hd
def t2I (ta tb:TE) (k:Int->Int->Hp->Prop):St->Hp->Prop:=fun σ H=>ta σ H λx H1=>tb σ H1 λy H2=>∃i j,x = .int i/\y = .int j/\k i j H2
def tMul (ta tb:TE):TE:=fun σ H Q=>t2I ta tb (λi j H2=>(-(2 ^ 64)<i/\i<2 ^ 64)/\Q (.int (i * j)) H2) σ H
variable {a b:Expr}{ta tb:TE}{pos:Pos}
def PC (X:Cx) (op:CmpOp) (a b:Expr) (t:TE):Prop:=
 ∀(pins:List (Addr×Obj)) (s:Shared) (σ:St) (H:Hp) (Q:VK),Inv X pins σ H s->t σ H Q ->
  wpAny (model X.prog X.w) X.A (eval a X.env) (λv s₁=>wpAny (model X.prog X.w) X.A (eval b X.env) (λu s₂=>wpAny (model X.prog X.w) X.A (compareOp op v u) (EP X pins σ Q) X.xe s₂) X.xe s₁) X.xe s
def tIsN (ta:TE):TE:=fun σ H Q=>ta σ H λx H1=>Q (.bl (decide (x = .non))) H1
def tB (t:TE):TT:=fun σ H Q=>t σ H λx H1=>∃c,x = .bl c/\Q c H1
theorem Xfm{op:CmpOp}{t:TE}(h:PC X op a b t)(h1:behindInMarks op b=false:=by first | exact nobehind _ (by decide) (by decide) | rfl):PE X (.Compare a [op] [b] pos) t:=λpins s σ H Q I hw=>wpAny_Compare1 (h pins s σ H Q I hw) h1
theorem Em{e:Expr}{t:TE}(h:PE X e t)(he:∀whole,isTrue e X.env whole=(do let v <-whole;standAt e.pos;holding [v] (truthy v)):=by intro _;rfl):PT X e (tB t):=by
 intro pins s σ H Q I hw;refine isTrue_plain (thn (h pins s σ H _ I hw) λv s1 ⟨x,H1,I1,r1,q1⟩=>?_) (he _);obtain⟨d,rfl,q⟩:=q1;cases r1;exact wpAny_truthy_bool ⟨H1,I1,q⟩
variable {tA tB':TT}{rest:List Expr}
def tAnd (t u:TT):TT:=fun σ H Q=>t σ H λc H1=>if c=true then u σ H1 Q else Q false H1
def tOr (t u:TT):TT:=fun σ H Q=>t σ H λc H1=>if c=true then Q true H1 else u σ H1 Q
def tNot (t:TT):TT:=fun σ H Q=>t σ H λc H1=>Q (!c) H1
theorem Ga(ha:PT X a tA):PW X (.BoolOp .And [a] pos) tA:=by
 intro wh pins s σ H Q I h;refine isTrue_and (thn (ha pins s σ H Q I h) λc s1 e=>?_);cases c with
 | true=>exact isTrue_and_nil e
 | false=>exact e
theorem Hr(ha:PT X a tA):PW X (.BoolOp .Or [a] pos) tA:=by
 intro wh pins s σ H Q I h;refine isTrue_or (thn (ha pins s σ H Q I h) λc s1 e=>?_);cases c with
 | false=>exact isTrue_or_nil e
 | true=>exact e
theorem Gb(ha:PT X a tA)(hb:PW X (.BoolOp .And (b::rest) pos) tB'):PW X (.BoolOp .And (a::b::rest) pos) (tAnd tA tB'):=by
 intro wh pins s σ H Q I h;refine isTrue_and (thn (ha pins s σ H _ I h) λc s1 ⟨H1,I1,q1⟩=>?_);cases c with
 | true=>exact hb wh pins s1 σ H1 Q I1 q1
 | false=>exact⟨H1,I1,q1⟩
theorem Hs(ha:PT X a tA)(hb:PW X (.BoolOp .Or (b::rest) pos) tB'):PW X (.BoolOp .Or (a::b::rest) pos) (tOr tA tB'):=by
 intro wh pins s σ H Q I h;refine isTrue_or (thn (ha pins s σ H _ I h) λc s1 ⟨H1,I1,q1⟩=>?_);cases c with
 | true=>exact⟨H1,I1,q1⟩
 | false=>exact hb wh pins s1 σ H1 Q I1 q1
theorem Xaf(ha:PT X a tA):PT X (.UnaryOp .Not a pos) (tNot tA):=by
 intro pins s σ H Q I h;exact isTrue_not (ha pins s σ H (λc H1=>Q (!c) H1) I h)
def tAndV (ta tb:TE):TE:=fun σ H Q=>ta σ H λx H1=>∃c,x = .bl c/\if c=true then tb σ H1 Q else Q (.bl false) H1
def tOrV (ta tb:TE):TE:=fun σ H Q=>ta σ H λx H1=>∃c,x = .bl c/\if c=true then Q (.bl true) H1 else tb σ H1 Q
def Xfn (ta:TE):TE:=fun σ H Q=>ta σ H λx H1=>∃c,x = .bl c/\Q (.bl (!c)) H1
theorem Xfo{op}{t:TE}(h:PE X a t):PE X (.BoolOp op [a] pos) t:=λpins s σ H Q I hw=>BoolOp_one (h pins s σ H Q I hw)
theorem Xfp(ha:PE X a ta)(hb:PE X (.BoolOp .Or (b::rest) pos) tb):PE X (.BoolOp .Or (a::b::rest) pos) (tOrV ta tb):=by
 intro pins s σ H Q I h;refine BoolOp_or (thn (ha pins s σ H _ I h) λv s1 ⟨x,H1,I1,r1,q1⟩=>?_);obtain⟨c,rfl,q1⟩:=q1;cases r1;refine wpAny_truthy_bool ?_;cases c with
 | false=>exact hb pins s1 σ H1 Q I1 q1
 | true=>exact⟨.bl true,H1,I1,rfl,q1⟩
theorem Xfq(ha:PE X a ta):PE X (.UnaryOp .Not a pos) (Xfn ta):=by
 intro pins s σ H Q I h;refine UnaryOp_ (thn (ha pins s σ H _ I h) λv s1 ⟨x,H1,I1,r1,q1⟩=>?_);obtain⟨c,rfl,q1⟩:=q1;cases r1;exact not_of (wpAny_truthy_bool ⟨.bl (!c),H1,I1,rfl,q1⟩)
def tIf (t:TT) (ta tb:TE):TE:=fun σ H Q=>t σ H λc H1=>if c=true then ta σ H1 Q else tb σ H1 Q
theorem Ht{c:Expr}(hc:PT X c tA)(ha:PE X a ta)(hb:PE X b tb):PE X (.IfExp c a b pos) (tIf tA ta tb):=by
 intro pins s σ H Q I h;refine wpAny_IfExp (thn (hc pins s σ H _ I h) λd s1 ⟨H1,I1,q1⟩=>?_);cases d with
 | true=>exact ha pins s1 σ H1 Q I1 q1
 | false=>exact hb pins s1 σ H1 Q I1 q1
end
def SqL (K:PySem.W.Frag) (H:Hp) (a:Addr) (xs:List V):Prop:=
 Rd H a (.lst xs) \/
  ∃(o:Obj) (its:Array Value) (n:Nat),K.lookup a=some o/\o.cls = .type "list" /\ o.dict=none/\o.data = .seq its n/\its.size<=sizeLine/\Vals xs its.toList
def SqT (K:PySem.W.Frag) (H:Hp) (a:Addr) (xs:List V):Prop:=
 Rd H a (.tup xs) \/
  ∃(o:Obj) (its:Array Value) (n:Nat),K.lookup a=some o/\o.cls = .type "tuple" /\ o.data = .seq its n/\its.size<=sizeLine/\Vals xs its.toList
def absV:Value->Option V
 | .none=>some .non
 | .bool b=>some (.bl b)
 | .int i _=>some (.int i)
 | .str x _=>some (.str x)
 | .bytes b _=>some (.byt b)
 | .float b _=>some (.flt b)
 | .ref a=>some (.ref a)
 | .type n=>some (.ty n)
 | _=>none
theorem Ag.abs{x:V}{u:Value}(r:Ag x u):absV u=some x:=by
 cases x with
 | non=>cases r;rfl
 | bl _=>cases r;rfl
 | int _=>obtain⟨t,rfl⟩:=r;rfl
 | str _=>obtain⟨t,rfl⟩:=r;rfl
 | byt _=>obtain⟨t,rfl⟩:=r;rfl
 | flt _=>obtain⟨t,rfl⟩:=r;rfl
 | ref _=>cases r;rfl
 | ty _=>cases r;rfl
theorem Ag.inj{x y:V}{u:Value}(r:Ag x u)(q:Ag y u):x=y:=Ly (r.abs.symm.trans q.abs)
theorem Vals.inj:∀{xs ys:List V} {us:List Value},Vals xs us->Vals ys us->xs=ys
 | _,_,_,.nil,.nil=>rfl
 | _,_,_,.cons r t,.cons r' t'=>by rw[r.inj r',Vals.inj t t']
section
variable {X:Cx}{pins:List (Addr×Obj)}{σ:St}{H:Hp}{s:Shared}{a:Addr}{xs ys:List V}
theorem SqL.of{K:PySem.W.Frag}(h:H a=some (.lst xs)):SqL K H a xs:=.inl (.inl h)
theorem SqT.of{K:PySem.W.Frag}(h:H a=some (.tup xs)):SqT K H a xs:=.inl (.inl h)
theorem Inv.list(I:Inv X pins σ H s)(h:SqL X.K H a xs):∃its:List Value,Vals xs its/\PlainL s.heap a its.toArray/\xs.length<=sizeLine:=by
 rcases h with h | ⟨o,its,n,hk,hc,hd,hs,hz,r⟩
 ·obtain⟨z,its,n,r,e⟩:=h.ok I.hok;exact⟨its,r,⟨_,n,e,rfl,rfl,rfl⟩,z⟩
 ·refine⟨its.toList,r,⟨o,n,I.kIn a o hk,hc,hd,by simpa using hs⟩,?_⟩;have e:=r.length;simp only[Lh] at e;omega
theorem Inv.tuple(I:Inv X pins σ H s)(h:SqT X.K H a xs):∃its:List Value,Vals xs its/\IsTup s.heap a its.toArray/\xs.length<=sizeLine:=by
 rcases h with h | ⟨o,its,n,hk,hc,hs,hz,r⟩
 ·obtain⟨z,its,r,p⟩:=h.ok I.hok;exact⟨its,r,p,z⟩
 ·refine⟨its.toList,r,⟨o,I.kIn a o hk,hc,n,by simpa using hs⟩,?_⟩;have e:=r.length;simp only[Lh] at e;omega
theorem Inv.list_inj(I:Inv X pins σ H s)(h:SqL X.K H a xs)(h':SqL X.K H a ys):xs=ys:=by
 obtain⟨its,r,⟨o,n,e,_,_,d⟩,_⟩:=I.list h;obtain⟨its',r',⟨o',n',e',_,_,d'⟩,_⟩:=I.list h';rw[e] at e';cases e';rw[d] at d';injection d' with d1 _
 have:its=its':=by simpa using congrArg Array.toList d1
 subst this;exact r.inj r'
theorem Inv.tuple_inj(I:Inv X pins σ H s)(h:SqT X.K H a xs)(h':SqT X.K H a ys):xs=ys:=by
 obtain⟨its,r,⟨o,e,_,n,d⟩,_⟩:=I.tuple h;obtain⟨its',r',⟨o',e',_,n',d'⟩,_⟩:=I.tuple h';rw[e] at e';cases e';rw[d] at d';injection d' with d1 _
 have:its=its':=by simpa using congrArg Array.toList d1
 subst this;exact r.inj r'
end
abbrev Cx.wish (X:Cx) (E:Value->Shared->Prop):Cx:={X with xe:=E}
abbrev Cx.nox (X:Cx):Cx:=X.wish λ_ _=>False
theorem Cx.Ok.wish{X:Cx}(ok:X.Ok)(E:Value->Shared->Prop):(X.wish E).Ok:=
 ⟨ok.mod,ok.kind,ok.glob,ok.blt,ok.above,ok.inj,ok.has,ok.cab,ok.hd,ok.frames,ok.stk,ok.exf,ok.bs,ok.bsz,ok.noex,ok.exfs,ok.funs,ok.frf⟩
theorem Cx.Ok.unwish{X:Cx}{E:Value->Shared->Prop}(ok:(X.wish E).Ok):X.Ok:=
 ⟨ok.mod,ok.kind,ok.glob,ok.blt,ok.above,ok.inj,ok.has,ok.cab,ok.hd,ok.frames,ok.stk,ok.exf,ok.bs,ok.bsz,ok.noex,ok.exfs,ok.funs,ok.frf⟩
section
variable {X:Cx}{pins:List (Addr×Obj)}{σ:St}{H:Hp}{s:Shared}{E:Value->Shared->Prop}
theorem Inv.wish(I:Inv X pins σ H s)(E:Value->Shared->Prop):Inv (X.wish E) pins σ H s:=⟨I.ok.wish E,I.os,I.bare,I.base,I.loc,I.cell,I.free,I.freeC,I.pin,I.hok,I.len⟩
theorem Inv.unwish(I:Inv (X.wish E) pins σ H s):Inv X pins σ H s:=⟨I.ok.unwish,I.os,I.bare,I.base,I.loc,I.cell,I.free,I.freeC,I.pin,I.hok,I.len⟩
theorem SP.unwish{D:Ends}{f:Flow}{s':Shared}(h:SP (X.wish E) pins D f s'):SP X pins D f s':=by
 cases f with
 | next=>obtain⟨σ',H',I,q⟩:=h;exact⟨σ',H',I.unwish,q⟩
 | brk=>obtain⟨σ',H',I,q⟩:=h;exact⟨σ',H',I.unwish,q⟩
 | cont=>obtain⟨σ',H',I,q⟩:=h;exact⟨σ',H',I.unwish,q⟩
 | ret u=>obtain⟨v, σ',H',I,r,q⟩:=h;exact⟨v, σ',H',I.unwish,r,q⟩
theorem PSs.nox{st:List Stmt}{t:TS}(h:PSs X.nox st t):PSs X st t:=λpins s σ H D I hw=>
 wpAny_mono (h pins s σ H D (I.wish _) hw) (λ_ _ q=>q.unwish) λ_ _ z=>False.elim z
end
section
variable {X:Cx}{st:Stmt}{rest:List Stmt}{t u:TS}{e:Expr}{te:TE}{pos:Pos}
def Hu:TS:=λD σ H=>D.nx σ H
def Hv (t u:TS):TS:=λD σ H=>t {D with nx:=u D} σ H
theorem Bn:PSs X [] Hu:=λ_ _ σ H _ I h=>wpAny_execs_nil ⟨σ,H,I,h⟩
theorem Af(h1:PS X st t)(h2:PSs X rest u):PSs X (st::rest) (Hv t u):=by
 intro pins s σ H D I h;refine wpAny_execs_cons (thn (h1 pins s σ H {D with nx:=u D} I h) λf s1 q=>?_);cases f with
 | next=>
  obtain⟨σ',H',I',q⟩:=q;exact h2 pins s1 σ' H' D I' q
 | ret v=>exact q
 | brk=>exact q
 | cont=>exact q
theorem Al(h1:PS X st t):PSs X [st] t:=by
 intro pins s σ H D I h;refine wpAny_execs_cons (thn (h1 pins s σ H D I h) λf s1 q=>?_);cases f with
 | next=>exact wpAny_execs_nil q
 | ret v=>exact q
 | brk=>exact q
 | cont=>exact q
theorem Inv.quiet{pins:List (Addr×Obj)}{σ:St}{H:Hp}{s:Shared}(I:Inv X pins σ H s):interactive X.env=false:=by simp[interactive,I.ok.kind]
def Xfr (te:TE):TS:=λD σ H=>te σ H λ_ H1=>D.nx σ H1
theorem Df(he:PE X e te)(hs:swapsWith e none pos.line X.env=pure false:=by rfl):PS X (.Expr e pos) (Xfr te):=by
 intro pins s σ H D I h;exact wpAny_Expr_any (thn (he pins s σ H _ I h) λv s1 ⟨x,H1,I1,r1,q1⟩=>⟨σ,H1,I1,q1⟩) I.quiet hs
def Xag (te:TE):TS:=λD σ H=>te σ H D.rt
theorem Au(he:PE X e te):PS X (.Return (some e) pos) (Xag te):=by
 intro pins s σ H D I h;exact wpAny_Return_some (thn (he pins s σ H _ I h) λv s1 ⟨x,H1,I1,r1,q1⟩=>⟨x, σ,H1,I1,r1,q1⟩)
def tIfS (c:TT) (t u:TS):TS:=λD σ H=>c σ H λb H1=>if b=true then t D σ H1 else u D σ H1
theorem Bj{c:Expr}{a b:List Stmt}{tc:TT}(hc:PT X c tc)(ha:PSs X a t)(hb:PSs X b u):PS X (.If c a b pos) (tIfS tc t u):=by
 intro pins s σ H D I h;refine wpAny_If (thn (hc pins s σ H _ I h) λd s1 ⟨H1,I1,q1⟩=>?_);cases d with
 | true=>exact ha pins s1 σ H1 D I1 q1
 | false=>exact hb pins s1 σ H1 D I1 q1
def Xog:TS:=λ_ _ _=>False
end
abbrev TG:=V->St->Hp->(St->Hp->Prop)->Prop
abbrev TGs:=List V->St->Hp->(St->Hp->Prop)->Prop
def PG (X:Cx) (target:Expr) (t:TG):Prop:=
 ∀(pins:List (Addr×Obj)) (s:Shared) (σ:St) (H:Hp) (v:V) (u:Value) (Q:St->Hp->Prop),Inv X pins σ H s->Ag v u->t v σ H Q ->
  wpAny (model X.prog X.w) X.A (assign target X.env u) (λ_ s'=>∃σ' H',Inv X pins σ' H' s'/\Q σ' H') X.xe s
def PGs (X:Cx) (ts:List Expr) (t:TGs):Prop:=
 ∀(pins:List (Addr×Obj)) (s:Shared) (σ:St) (H:Hp) (vs:List V) (us:List Value) (Q:St->Hp->Prop),Inv X pins σ H s->Vals vs us->t vs σ H Q ->
  wpAny (model X.prog X.w) X.A (assignInOrder ((assignEach ts X.env).map (·.2)) us) (λ_ s'=>∃σ' H',Inv X pins σ' H' s'/\Q σ' H') X.xe s
abbrev TSet:=V->V->V->Hp->(Hp->Prop)->Prop
def PSet (X:Cx) (t:TSet):Prop:=
 ∀(pins:List (Addr×Obj)) (s:Shared) (σ:St) (H:Hp) (o i v:V) (ov iv u:Value) (Q:Hp->Prop),Inv X pins σ H s->Ag o ov->Ag i iv->Ag v u->t o i v H Q ->
  wpAny (model X.prog X.w) X.A (setItem ov iv u) (λ_ s'=>∃H',Inv X pins σ H' s'/\Q H') X.xe s
abbrev TIp:=V->V->Hp->VK->Prop
section
variable {X:Cx}{pos:Pos}
def Ba (i:Nat):TG:=λv σ H Q=>Q (σ.set i (some v)) H
theorem Aw{i:Nat}{x:Str}(hN:X.N.Nodup)(hi:X.N[i]? = some x)(hx:Loc X.env.scope x)(hf:X.fn x=true\/X.env.scope.names.lookup x=some .local:=by first | exact .inl rfl | exact .inr rfl | assumption):PG X (.Name x pos) (Ba i):=by
 intro pins s σ H v u Q I r h;exact wpAny_assign_Name (Xad I hN hi hx r (λs' I'=>⟨_,H,I',h⟩) hf)
def Xah:TGs:=λvs σ H Q=>vs=[]/\Q σ H
def Hw (t:TG) (u:TGs):TGs:=λvs σ H Q=>∃v r,vs=v::r/\t v σ H fun σ' H'=>u r σ' H' Q
theorem D3:PGs X [] Xah:=by
 intro pins s σ H vs us Q I r h;obtain⟨e,h⟩:=h;subst e;cases r;exact assignInOrder_nil ⟨σ,H,I,h⟩
theorem Bx{e:Expr}{es:List Expr}{t:TG}{u:TGs}(h1:PG X e t)(h2:PGs X es u)
  (hs:(assignEach (e::es) X.env).map (·.2)=assign e X.env::(assignEach es X.env).map (·.2):=by rfl):PGs X (e::es) (Hw t u):=by
 intro pins s σ H vs us Q I r h;obtain⟨v,vr,e1,h⟩:=h;subst e1;cases r with
 | cons r rr=>
  rw[hs];refine assignInOrder_cons (thn (h1 pins s σ H _ _ _ I r h) λ_ s1 ⟨σ1,H1,I1,q1⟩=>?_);exact h2 pins s1 σ1 H1 _ _ Q I1 rr q1
def Hx (K:PySem.W.Frag) (n:Nat) (t:TGs):TG:=λv σ H Q=>∃a xs,v = .ref a/\SqT K H a xs/\xs.length=n/\t xs σ H Q
theorem Xfs{es:List Expr}{k:Nat}{t:TGs}{n:Nat}(hc:X.calm=true)(h:PGs X es t)
  (hn:(assignEach es X.env).length=n:=by rfl) (hst:(assignEach es X.env).findIdx? (·.1)=none:=by rfl):PG X (.Tuple es k pos) (Hx X.K n t):=by
 intro pins s σ H v u Q I r hw;obtain⟨a,xs,e1,hq,hl,hw⟩:=hw;subst e1;cases r;obtain⟨its,rv,ht,hz⟩:=I.tuple hq;refine assign_Tuple_tuple (I.ok.hd hc) ht (by simp[hn,<-hl,rv.length]) hst λh' hx=>?_;have I1:Inv X pins σ H {s with heap:=h'}:=I.kept (t':=s.toks) λb o e=>hx b o (Lg (Ph e)) e;exact h pins _ σ H xs _ Q I1 (by simpa using rv) hw
def gSub (to ti:TE) (t:TSet):TG:=λv σ H Q=>to σ H λo H1=>ti σ H1 λi H2=>t o i v H2 λH3=>Q σ H3
theorem D4{o i:Expr}{to ti:TE}{t:TSet}(ho:PE X o to)(hi:PE X i ti)(hs:PSet X t)
  (ha:∀v,assign (.Subscript o i pos) X.env v=(do
   let ov <-holding [v] (eval o X.env)
   let iv <-holding [v,ov] (eval i X.env)
   standAt pos
   holding [v,ov,iv] (setItem ov iv v)
   release [v,ov,iv] []):=by intro _;rfl):PG X (.Subscript o i pos) (gSub to ti t):=by
 intro pins s σ H v u Q I r h;rw[ha];refine O8 (wpAny_holding (thn (ho pins s σ H _ I h) λov s1 ⟨x,H1,I1,r1,q1⟩=>?_));refine O8 (wpAny_holding (thn (hi pins s1 σ H1 _ I1 q1) λiv s2 ⟨y,H2,I2,r2,q2⟩=>?_));refine O8 (wpAny_standAt (O8 (wpAny_holding (thn (hs pins s2 σ H2 x y v ov iv u _ I2 r1 r2 r q2) λ_ s3 ⟨H3,I3,q3⟩=>?_))));exact wpAny_release ⟨σ,H3,I3,q3⟩
def Hy (te:TE) (g:TG):TS:=λD σ H=>te σ H λx H1=>g x σ H1 D.nx
theorem Cs{tg e:Expr}{te:TE}{g:TG}(he:PE X e te)(hg:PG X tg g)(hs:swapsWithSole [tg] e pos.line X.env=pure false:=by rfl)(hw:swappedStores [tg] e X.env=pure none:=by rfl)
  (h1:(assignEach [tg] X.env).map (·.2)=[assign tg X.env]:=by rfl):PS X (.Assign [tg] e pos) (Hy te g):=by
 intro pins s σ H D I h;refine wpAny_Assign_stores (thn (he pins s σ H _ I h) λv s1 ⟨x,H1,I1,r1,q1⟩=>?_) hs hw;rw[h1];exact thn (hg pins s1 σ H1 x v _ I1 r1 q1) λ_ s2 q=>q
theorem Ar{i:Nat}{x:Str}{e:Expr}{te:TE}{pos':Pos}(hN:X.N.Nodup)(hi:X.N[i]? = some x)(hx:Loc X.env.scope x)(he:PE X e te)(hs:swapsWith e (some (.Name x pos')) pos.line X.env=pure false:=by rfl)(hf:X.fn x=true\/X.env.scope.names.lookup x=some .local:=by first | exact .inl rfl | exact .inr rfl | assumption):
  PS X (.Assign [.Name x pos'] e pos) (Hy te (Ba i)):=by
 intro pins s σ H D I h;refine wpAny_Assign_Name (thn (he pins s σ H _ I h) λv s1 ⟨y,H1,I1,r1,q1⟩=>?_) hs;exact Xad I1 hN hi hx r1 (λs2 I2=>⟨_,H1,I2,q1⟩) hf
def tPar (i j:Nat) (ta:TA):TS:=λD σ H=>ta σ H λvs H1=>∃v w,vs=[v,w]/\D.nx ((σ.set i (some v)).set j (some w)) H1
def tAug (i:Nat) (te:TE) (ti:TIp):TS:=λD σ H=>∃x, σ[i]? = some (some x)/\te σ H λy H1=>ti x y H1 λz H2=>D.nx (σ.set i (some z)) H2
def tAugS (to ti te:TE) (tget:V->V->Hp->VK->Prop) (tip:TIp) (tset:TSet):TS:=λD σ H=>to σ H λo H1=>ti σ H1 λi H2=>tget o i H2 λx H3=>te σ H3 λy H4=>tip x y H4 λz H5=>tset o i z H5 λH6=>D.nx σ H6
def PGet (X:Cx) (t:V->V->Hp->VK->Prop):Prop:=
 ∀(pins:List (Addr×Obj)) (s:Shared) (σ:St) (H:Hp) (o i:V) (ov iv:Value) (Q:VK),Inv X pins σ H s->Ag o ov->Ag i iv->t o i H Q ->
  wpAny (model X.prog X.w) X.A (getItem ov iv) (EP X pins σ Q) X.xe s
def ipI (f:Int->Int->Int):TIp:=λx y H Q=>∃i j,x = .int i/\y = .int j/\Q (.int (f i j)) H
end
section
variable {X:Cx}{pos:Pos}
def Xoh (c:TT) (tb:TS):TS:=λD σ H=>∃W:Nat->St->Hp->Prop,(∃m,W m σ H)/\∀m σ H,W m σ H ->
 c σ H λb H1=>if b=true then ∃N:St->Hp->Prop,(∀σ' H',N σ' H'->∃m',m'<m/\W m' σ' H')/\tb {D with nx:=N,ct:=N,bk:=D.nx} σ H1 else D.nx σ H1
end
structure It where
 go:Nat->Hp->Prop
 yld:Nat->Hp->V->Hp->Prop
 stop:Nat->Hp->Prop
def FpOk (X:Cx) (pins:List (Addr×Obj)) (H:Hp) (b:Addr):Prop:=
 H b=none/\b≠X.env.locals/\b∉X.fs/\(b∈X.ex\/X.s₀.heap.objs.size<=b)/\(∀x c,X.env.cells.lookup x=some c->c≠b)/\∀p∈X.pn++pins,p.1≠b
theorem Inv.fpOk{X:Cx}{pins:List (Addr×Obj)}{σ:St}{H H':Hp}{s:Shared}{b:Addr}(I:Inv X pins σ H s)(hb:s.heap.objs.size<=b)(hn:H' b=none):FpOk X pins H' b:=by
 refine⟨hn,Ov (Lr I.lt hb),I.nofs hb,.inr (L0 I.sz hb),λx c e z=>?_,λp hp z=>?_⟩
 ·obtain⟨v,q⟩:=I.cell x c e;exact absurd (Lr q.lt (by rw[z];exact hb)) (Mb _)
 ·exact absurd (Lr (Ph (I.pin p hp).1) (by rw[z];exact hb)) (Mb _)
structure Turn (P:Program) (w:World) (K:PySem.W.Frag) (tg:Expr) (J:It) (fp:List Addr) (it:Addr) (tn:Nat->Heap->Prop):Prop where
 mem:it∈fp
 obj:∀i h,tn i h->∀b∈fp,∃o,h.get? b=some o/\∀v,o.data ≠ .cell v
 keep:∀i h h',tn i h->(∀b∈fp,∀o,h.get? b=some o->h'.get? b=some o)->tn i h'
 item:∀(X:Cx),X.prog=P->X.w=w->X.K=K->X.calm=true->∀(i:Nat) (pins:List (Addr×Obj)) (s:Shared) (σ:St) (H:Hp) (E:Value->Shared->Prop),Inv X pins σ H s->(∀b∈fp,FpOk X pins H b)->tn i s.heap->J.go i H ->
  wpAny (model P w) X.A (pyNext (.ref it)) (λr s1=>∃u,r=some u /\
   wpAny (model P w) X.A (letOwnedTupleGo tg (.ref it) u) (λ_ s2=>∃x H',Inv X pins σ H' s2/\Ag x u/\J.yld i H x H'/\tn (i+1) s2.heap/\∀b∈fp,H' b=none) E s1) E s
 done:∀(X:Cx),X.prog=P->X.w=w->X.K=K->X.calm=true->∀(i:Nat) (pins:List (Addr×Obj)) (s:Shared) (σ:St) (H:Hp) (E:Value->Shared->Prop),Inv X pins σ H s->(∀b∈fp,FpOk X pins H b)->tn i s.heap->J.stop i H ->
  wpAny (model P w) X.A (pyNext (.ref it)) (λr s1=>r=none/\Inv X pins σ H s1) E s
 self:∀(A:Around) (i:Nat) (s:Shared) (Q:Value->Shared->Prop) (E:Value->Shared->Prop),tn i s.heap->Q (.ref it) s->wpAny (model P w) A (pyIter (.ref it)) Q E s
abbrev TI:=St->Hp->(It->Hp->Prop)->Prop
def PIE (X:Cx) (pins:List (Addr×Obj)) (σ:St) (tg:Expr) (R:It->Hp->Prop) (itv:Value) (s2:Shared):Prop:=
 ∃(it:Addr) (fp:List Addr) (tn:Nat->Heap->Prop) (J:It) (H':Hp),itv = .ref it/\Inv X pins σ H' s2/\Turn X.prog X.w X.K tg J fp it tn/\tn 0 s2.heap/\(∀b∈fp,FpOk X pins H' b)/\R J H'
def PI (X:Cx) (tg iter:Expr) (wi:TI):Prop:=
 ∀(pins:List (Addr×Obj)) (s:Shared) (σ:St) (H:Hp) (R:It->Hp->Prop),Inv X pins σ H s->wi σ H R ->
  wpAny (model X.prog X.w) X.A (eval iter X.env) (λv s1=>wpAny (model X.prog X.w) X.A (pyIter v) (PIE X pins σ tg R) X.xe s1) X.xe s
theorem Gc{M:Model}{A:Around}{E:Value->Shared->Prop}{s:Shared}{tg:Expr}{it:Addr}{u:Value}{o:Obj}{n:String}{vs:Array Value}{Q:Unit->Shared->Prop}(ho:s.heap.get? it=some o)(hc:o.cls = .type n)(hd:o.data = .fields vs)
    (hn:["enumerate", "zip", "dict_itemiterator", "dict_reverseitemiterator", "odict_iterator", "itertools.zip_longest", "itertools.pairwise"].contains n=false) (hQ:Q () s):wpAny M A (letOwnedTupleGo tg (.ref it) u) Q E s:=by
  unfold letOwnedTupleGo;cases tg<;>first
    | exact O9 hQ
    | (cases u<;>first
        | exact O9 hQ
        | (refine O8 (wpAny_load ho ?_)
           rw[hc,hd];show wpAny M A (if (["enumerate", "zip", "dict_itemiterator", "dict_reverseitemiterator", "odict_iterator", "itertools.zip_longest", "itertools.pairwise"].contains n&&vs[0]? == some (rawInt _))=true then _ else _) Q E s;rw[Pb (by intro h;rw[hn,M4] at h;cases h)];exact O9 hQ))
def Itl (K:PySem.W.Frag) (a:Addr):It:=
 ⟨λi H=>∃xs x,SqL K H a xs/\xs[i]? = some x,λi H x H'=>H'=H/\∀xs,SqL K H a xs->xs[i]? = some x,λi H=>∃xs,SqL K H a xs/\xs.length<=i⟩
def Itt (K:PySem.W.Frag) (a:Addr):It:=
 ⟨λi H=>∃xs x,SqT K H a xs/\xs[i]? = some x,λi H x H'=>H'=H/\∀xs,SqT K H a xs->xs[i]? = some x,λi H=>∃xs,SqT K H a xs/\xs.length<=i⟩
def Itr (lo:Int) (n:Nat):It:=⟨λi _=>i<n,λi H x H'=>H'=H/\x = .int (lo+i),λi _=>n<=i⟩
theorem Xft{P:Program}{w:World}{K:PySem.W.Frag}{tg:Expr}(a it:Addr):Turn P w K tg (Itl K a) [it] it (λi h=>h.IsListIter it a i) where
 mem:=by simp
 obj:=λi h st b hb=>by
  have e:b=it:=by simpa using hb
  subst e;obtain⟨o,e,c,d⟩:=st;exact⟨o,e,λv z=>by rw[d] at z;cases z⟩
 keep:=λi h h' st k=>st.at λo e=>k it (by simp) o e
 item:=by
  intro X hP hw hK hc i pins s σ H E I hf st hg;subst hP hw hK;obtain⟨xs,x,hq,hx⟩:=hg;obtain⟨its,rv,p,hz⟩:=I.list hq;obtain⟨u,hu,ru⟩:=rv.get hx;obtain⟨f0,f1,f2,f3,f4,f5⟩:=hf it (by simp);refine wpAny_pyNext_list_item st p.isList (x:=u) (by simpa using hu) λh' st' sb=>?_;have I1:Inv X pins σ H {s with heap:=h'}:=I.turned (t':=s.toks) (λb o hb e=>(sb.2 b hb).trans e) f0 f1 f3 f4 f5;obtain⟨o,e,c,d⟩:=id st';exact⟨u,rfl,Gc (s:={s with heap:=h'}) e c d (by decide) ⟨x,H,I1,ru,⟨rfl,λys hy=>by rw[I.list_inj hy hq];exact hx⟩,st',λb hb=>(hf b hb).1⟩⟩
 done:=by
  intro X hP hw hK hc i pins s σ H E I hf st hg;subst hP hw hK;obtain⟨xs,hq,hx⟩:=hg;obtain⟨its,rv,p,hz⟩:=I.list hq;obtain⟨f0,f1,f2,f3,f4,f5⟩:=hf it (by simp);have hl:=rv.length;exact wpAny_pyNext_list_end (I.ok.hd hc) st p.isList (by simp;omega) λh' eb=>⟨rfl,I.turned (t':=s.toks) (λb o hb e=>eb b o hb e) f0 f1 f3 f4 f5⟩
 self:=λ_ _ _ _ _ st h=>wpAny_pyIter_listiter st h
theorem Xfu{P:Program}{w:World}{K:PySem.W.Frag}{tg:Expr}(a it:Addr):Turn P w K tg (Itt K a) [it] it (λi h=>h.IsTupleIter it a i) where
 mem:=by simp
 obj:=λi h st b hb=>by
  have e:b=it:=by simpa using hb
  subst e;obtain⟨o,e,c,d⟩:=st;exact⟨o,e,λv z=>by rw[d] at z;cases z⟩
 keep:=λi h h' st k=>st.at λo e=>k it (by simp) o e
 item:=by
  intro X hP hw hK hc i pins s σ H E I hf st hg;subst hP hw hK;obtain⟨xs,x,hq,hx⟩:=hg;obtain⟨its,rv,p,hz⟩:=I.tuple hq;obtain⟨u,hu,ru⟩:=rv.get hx;obtain⟨f0,f1,f2,f3,f4,f5⟩:=hf it (by simp);refine wpAny_pyNext_tuple_item st (show s.heap.IsTuple a its.toArray from p) (x:=u) (by simpa using hu) λh' st' sb=>?_;have I1:Inv X pins σ H {s with heap:=h'}:=I.turned (t':=s.toks) (λb o hb e=>(sb.2 b hb).trans e) f0 f1 f3 f4 f5;obtain⟨o,e,c,d⟩:=id st';exact⟨u,rfl,Gc (s:={s with heap:=h'}) e c d (by decide) ⟨x,H,I1,ru,⟨rfl,λys hy=>by rw[I.tuple_inj hy hq];exact hx⟩,st',λb hb=>(hf b hb).1⟩⟩
 done:=by
  intro X hP hw hK hc i pins s σ H E I hf st hg;subst hP hw hK;obtain⟨xs,hq,hx⟩:=hg;obtain⟨its,rv,p,hz⟩:=I.tuple hq;obtain⟨f0,f1,f2,f3,f4,f5⟩:=hf it (by simp);have hl:=rv.length;exact wpAny_pyNext_tuple_end (I.ok.hd hc) st (show s.heap.IsTuple a its.toArray from p) (by simp;omega) λh' eb=>⟨rfl,I.turned (t':=s.toks) (λb o hb e=>eb b o hb e) f0 f1 f3 f4 f5⟩
 self:=λ_ _ _ _ _ st h=>wpAny_pyIter_tupleiter st h
theorem Xfv{P:Program}{w:World}{K:PySem.W.Frag}{tg:Expr}(it:Addr)(lo:Int)(n:Nat):Turn P w K tg (Itr lo n) [it] it (λi h=>IsRangeIter h it (lo+(i:Nat) * 1) ((n:Int) - (i:Nat)) 1) where
 mem:=by simp
 obj:=λi h st b hb=>by
  have e:b=it:=by simpa using hb
  subst e;exact⟨_,st,λv z=>by
   have z':Data.fields _=Data.cell v:=z;cases z'⟩
 keep:=λi h h' st k=>k it (by simp) _ st
 item:=by
  intro X hP hw hK hc i pins s σ H E I hf st hg;subst hP hw hK;obtain⟨f0,f1,f2,f3,f4,f5⟩:=hf it (by simp);have W:=Walks.range (prog:=X.prog) (w:=X.w) (I.ok.hd hc) it lo 1 n;refine W.item i s _ _ hg st λv h' tk hv st' kk=>?_;obtain⟨t,rfl⟩:=hv;have I1:Inv X pins σ H {s with heap:=h',toks:=tk}:=I.turned (λb o hb e=>kk b o (by simpa using hb) e) f0 f1 f3 f4 f5;refine⟨_,rfl,Gc (s:={s with heap:=h',toks:=tk}) (n := "range_iterator") st' rfl rfl (by decide) ⟨.int (lo+i),H,I1,⟨t,?_⟩,⟨rfl,rfl⟩,st',λb hb=>(hf b hb).1⟩⟩;rw[Int.mul_one]
 done:=by
  intro X hP hw hK hc i pins s σ H E I hf st hg;subst hP hw hK;obtain⟨f0,f1,f2,f3,f4,f5⟩:=hf it (by simp);exact wpAny_pyNext_range_end (I.ok.hd hc) st (by have:n<=i:=hg;omega) λh' eb=>⟨rfl,I.turned (t':=s.toks) (λb o hb e=>eb b o hb e) f0 f1 f3 f4 f5⟩
 self:=λ_ _ _ _ _ st h=>wpAny_pyIter_rangeiter st h
section
variable {X:Cx}{tg:Expr}
def Xfw (K:PySem.W.Frag) (tl:TE):TI:=fun σ H R=>tl σ H λx H1=>∃a,x = .ref a/\(∃xs,SqL K H1 a xs)/\R (Itl K a) H1
def iTup (K:PySem.W.Frag) (tl:TE):TI:=fun σ H R=>tl σ H λx H1=>∃a,x = .ref a/\(∃xs,SqT K H1 a xs)/\R (Itt K a) H1
theorem Ca{l:Expr}{tl:TE}(hl:PE X l tl):PI X tg l (Xfw X.K tl):=by
 intro pins s σ H R I h;refine thn (hl pins s σ H _ I h) λv s1 ⟨x,H1,I1,r1,q1⟩=>?_;obtain⟨a,e,⟨xs,hq⟩,q⟩:=q1;subst e;cases r1;obtain⟨its,rv,p,hz⟩:=I1.list hq;refine wpAny_pyIter_list p.isList ?_;refine⟨s1.heap.objs.size,[s1.heap.objs.size],_,_,H1,rfl,I1.kept (t':=s1.toks) λb o e=>Pi _ e,Xft a _,⟨_,Heap.get?_push_size _ rfl,rfl,rfl⟩,λb hb=>?_,q⟩;have e:b=s1.heap.objs.size:=by simpa using hb
 subst e;exact I1.fpOk (K9 _) (I1.hok.fresh (K9 _))
theorem Xai{l:Expr}{tl:TE}(hl:PE X l tl):PI X tg l (iTup X.K tl):=by
 intro pins s σ H R I h;refine thn (hl pins s σ H _ I h) λv s1 ⟨x,H1,I1,r1,q1⟩=>?_;obtain⟨a,e,⟨xs,hq⟩,q⟩:=q1;subst e;cases r1;obtain⟨its,rv,p,hz⟩:=I1.tuple hq;refine wpAny_pyIter_tuple (show s1.heap.IsTuple a its.toArray from p) ?_;refine⟨s1.heap.objs.size,[s1.heap.objs.size],_,_,H1,rfl,I1.kept (t':=s1.toks) λb o e=>Pi _ e,Xfu a _,⟨_,Heap.get?_push_size _ rfl,rfl,rfl⟩,λb hb=>?_,q⟩;have e:b=s1.heap.objs.size:=by simpa using hb
 subst e;exact I1.fpOk (K9 _) (I1.hok.fresh (K9 _))
theorem Xfx{pins:List (Addr×Obj)}{σ:St}{H:Hp}{s:Shared}{R:It->Hp->Prop}{E:Value->Shared->Prop}{lo hi:Int}{t u v:Tok}{tk:Nat}(I:Inv X pins σ H s)(h1 : -(2 ^ 62)<=lo)(h2:lo<2 ^ 62)(h3 : -(2 ^ 62)<=hi)(h4:hi<2 ^ 62)
  (q:R (Itr lo (hi - lo).toNat) H):wpAny (model X.prog X.w) X.A (pyIter (.ref s.heap.objs.size)) (PIE X pins σ tg R) E {s with heap:=s.heap.push {cls:=.type "range",data:=.fields #[.int lo t,.int hi u,.int 1 v]},toks:=tk}:=by
 refine wpAny_pyIter_range (IsRange.new ..) (small_one h1 h2 h3 h4) ?_;have I1:Inv X pins σ H {s with heap:=s.heap.push {cls:=.type "range",data:=.fields #[.int lo t,.int hi u,.int 1 v]},toks:=tk}:=I.kept λb o e=>Pi _ e;refine⟨(s.heap.push {cls:=.type "range",data:=.fields #[.int lo t,.int hi u,.int 1 v]}).objs.size,[(s.heap.push {cls:=.type "range",data:=.fields #[.int lo t,.int hi u,.int 1 v]}).objs.size],_,_,H,rfl,
  I1.kept (t':=tk) λb o e=>Pi _ e,Xfv _ lo (hi - lo).toNat,?_,λb hb=>?_,q⟩
 ·have e1:lo+((0:Nat):Int) * 1=lo:=by simp
  have e2:(((hi - lo).toNat:Nat):Int) - ((0:Nat):Int)=Builtin.Range.rangeSize lo hi 1:=by rw[rangeSize_one];split<;>omega
  show IsRangeIter _ _ (lo+((0:Nat):Int) * 1) ((((hi - lo).toNat:Nat):Int) - ((0:Nat):Int)) 1;rw[e1,e2];exact Heap.get?_push_size _ rfl
 ·have e:b=(s.heap.push {cls:=.type "range",data:=.fields #[.int lo t,.int hi u,.int 1 v]}).objs.size:=by simpa using hb
  subst e;exact I1.fpOk (K9 _) (I1.hok.fresh (K9 _))
def Xfy (ta:TA):TI:=fun σ H R=>ta σ H λvs H1=>∃j:Int,vs=[.int j] /\ -(2 ^ 62)<=j/\j<2 ^ 62/\R (Itr 0 j.toNat) H1
theorem Fa{a:Expr}{ta:TA}{p pos:Pos}(hg:Gl X "range")(hm:X.mg "range" = none)(ha:PA X [a] ta)(hs:starEach [a] X.env=[(false,eval a X.env)]:=by rfl):PI X tg (.Call (.Name "range" p) [a] [] pos) (Xfy ta):=by
 intro pins s σ H R I h;refine Call_ (E9 I hg hm boot_range (PyProof.Rows.callWith_type1 (thn (ha pos pins s σ H _ I h) λus s1 ⟨vs,H1,I1,r1,q1⟩=>?_) hs rfl));obtain⟨j,e,q1,q2,q⟩:=q1;subst e;cases r1 with
 | cons r rr=>
  cases rr;obtain⟨t,rfl⟩:=r;exact call_range_1 (Xfx I1 (by omega) (by omega) q1 q2 (by simpa using q))
def tFor (wi:TI) (g:TG) (tb:TS):TS:=λD σ H=>wi σ H λJ H1=>∃W:Nat->Nat->St->Hp->Prop,(∃m,W 0 m σ H1)/\∀i m σ H,W i m σ H ->
 (J.stop i H/\D.nx σ H)\/(J.go i H/\∃N:St->Hp->Prop,(∀σ' H',N σ' H'->∃m',m'<m/\W (i+1) m' σ' H')/\∀x H',J.yld i H x H'->g x σ H' fun σ2 H2=>tb {D with nx:=N,ct:=N,bk:=D.nx} σ2 H2)
def Fb (fp:List Addr) (h:Heap):List (Addr×Obj):=fp.filterMap λb=>(h.get? b).map λo=>(b,o)
theorem Ge{fp:List Addr}{h:Heap}{b:Addr}{o:Obj}(hb:b∈fp)(e:h.get? b=some o):(b,o)∈Fb fp h:=Ow.mpr ⟨b,hb,by rw[e];rfl⟩
theorem Xfz{fp:List Addr}{h:Heap}{p:Addr×Obj}(hp:p∈Fb fp h):p.1∈fp/\h.get? p.1=some p.2:=by
 obtain⟨b,hb,e⟩:=Ow.mp hp;cases q:h.get? b with
 | none=>rw[q] at e;cases e
 | some o=>
  rw[q] at e;have e':(b,o)=p:=Ly e;subst e';exact⟨hb,q⟩
theorem Inv.pinned{pins:List (Addr×Obj)}{σ:St}{H:Hp}{s:Shared}{fp:List Addr}(I:Inv X pins σ H s)(hf:∀b∈fp,FpOk X pins H b)(ho:∀b∈fp,∃o,s.heap.get? b=some o/\∀v,o.data ≠ .cell v):Inv X (pins++Fb fp s.heap) σ H s:=
 I.pins_of λp hp=>(Ll.mp hp).elim (λz=>I.pin p (L1 _ z)) λz=>by
  obtain⟨hb,e⟩:=Xfz z;obtain⟨f0,f1,f2,_⟩:=hf p.1 hb;obtain⟨o,e',d⟩:=ho p.1 hb;rw[e] at e';cases e';exact⟨e,f0,f1,f2,d⟩
theorem Inv.unpinned{pins pl:List (Addr×Obj)}{σ:St}{H:Hp}{s:Shared}(I:Inv X (pins++pl) σ H s):Inv X pins σ H s:=I.pins_of λp hp=>I.pin p (L1 _ (Mz _ hp))
theorem C2{iter:Expr}{body:List Stmt}{wi:TI}{g:TG}{tb:TS}{pos:Pos}(hp:PassesOwn (model X.prog X.w) X.A X.env X.xe)(hc:X.calm=true)(hi:PI X tg iter wi)(hg:PG X tg g)(hb:PSs X body tb)
  (hs:∀x,foldedSetIterable iter X.env x=pure x:=by intro _;rfl):PS X (.For tg iter body [] pos) (tFor wi g tb):=by
 intro pins s σ H D I h;refine wpAny_For (thn (hi pins s σ H _ I h) λv s1 h1=>thn h1 λitv s2 h2=>?_) hs;obtain⟨it,fp,tn,J,H2,e,I2,T,st2,f2,W,⟨m0,w0⟩,turn⟩:=h2;subst e;have stat:∀{H':Hp},(∀b∈fp,H' b=none)->∀b∈fp,FpOk X pins H' b:=λhn b hb=>⟨hn b hb,(f2 b hb).2⟩;refine codeAny_forLoop_any (λn s'=>∃i σ' H',Inv X pins σ' H' s'/\tn i s'.heap/\(∀b∈fp,H' b=none)/\W i n σ' H') ?_ m0 ⟨0, σ,H2,I2,st2,λb hb=>(f2 b hb).1,w0⟩;rintro n s3 ⟨i, σ3,H3,I3,st3,fr3,w3⟩;rcases turn i n σ3 H3 w3 with ⟨stop,qn⟩ | ⟨go,N,hN,step⟩
 ·refine wpAny_passesOwn hp (thn (T.done X rfl rfl rfl hc i pins s3 σ3 H3 X.xe I3 (stat fr3) st3 stop) λr s4 ⟨hr,I4⟩=>?_);subst hr;exact wpAny_execs_nil ⟨σ3,H3,I4,qn⟩
 ·refine wpAny_passesOwn hp (thn (T.item X rfl rfl rfl hc i pins s3 σ3 H3 X.xe I3 (stat fr3) st3 go) λr s4 ⟨u,hr,h4⟩=>?_);subst hr;refine wpAny_passesOwn hp (thn h4 λ_ s5 ⟨x,H5,I5,r5,y5,st5,fr5⟩=>?_);have I5':=I5.pinned (stat fr5) (T.obj _ _ st5);refine wpAny_passesOwn hp (thn (hg _ s5 σ3 H5 x u _ I5' r5 (step x H5 y5)) λ_ s6 ⟨σ6,H6,I6,q6⟩=>?_);refine wpAny_passesOwn hp (thn (hb _ s6 σ6 H6 _ I6 q6) λf s7 q7=>?_);have again:∀{σ7:St} {H7:Hp},Inv X (pins++Fb fp s5.heap) σ7 H7 s7->N σ7 H7->∃m,m<n/\∃i σ' H',Inv X pins σ' H' s7/\tn i s7.heap/\(∀b∈fp,H' b=none)/\W i m σ' H':=λ{σ7 H7} I7 n7=>by
   obtain⟨m',hm,w7⟩:=hN σ7 H7 n7;refine⟨m',hm,i+1, σ7,H7,I7.unpinned,T.keep _ _ _ st5 λb hb o e=>(I7.pin (b,o) (L1 _ (L1 _ (Ge hb e)))).1,λb hb=>?_,w7⟩;obtain⟨o,e,d⟩:=T.obj _ _ st5 b hb;exact(I7.pin (b,o) (L1 _ (L1 _ (Ge hb e)))).2.1
  cases f with
  | next=>obtain⟨σ7,H7,I7,n7⟩:=q7;exact again I7 n7
  | cont=>obtain⟨σ7,H7,I7,n7⟩:=q7;exact again I7 n7
  | brk=>obtain⟨σ7,H7,I7,q7⟩:=q7;exact⟨σ7,H7,I7.unpinned,q7⟩
  | ret v=>obtain⟨x7, σ7,H7,I7,r7,q7⟩:=q7;exact⟨x7, σ7,H7,I7.unpinned,r7,q7⟩
end
theorem Gf{K:PySem.W.Frag}{a:Addr}{xs:List V}{g:TG}{tb:TS}{D:Ends}{σ:St}{H:Hp}(Pv:Nat->St->Hp->Prop)(h0:Pv 0 σ H)(hl:∀i σ H,i<=xs.length->Pv i σ H->SqL K H a xs)
  (hs:∀i x σ H,xs[i]? = some x->Pv i σ H->g x σ H fun σ2 H2=>tb {D with nx:=Pv (i+1),ct:=Pv (i+1),bk:=D.nx} σ2 H2) (hd:∀σ H,Pv xs.length σ H->D.nx σ H):
  ∃W:Nat->Nat->St->Hp->Prop,(∃m,W 0 m σ H)/\∀i m σ H,W i m σ H ->
   ((Itl K a).stop i H/\D.nx σ H)\/((Itl K a).go i H/\∃N:St->Hp->Prop,(∀σ' H',N σ' H'->∃m',m'<m/\W (i+1) m' σ' H')/\∀x H',(Itl K a).yld i H x H'->g x σ H' fun σ2 H2=>tb {D with nx:=N,ct:=N,bk:=D.nx} σ2 H2):=by
 refine⟨λi m σ H=>m=xs.length - i/\i<=xs.length/\Pv i σ H,⟨xs.length,by simp,L6 _,h0⟩,?_⟩;rintro i m σ H ⟨rfl,hi,p⟩;have q:=hl i σ H hi p;by_cases hlt:i<xs.length
 ·refine .inr ⟨⟨xs,xs[i],q,by simp[hlt]⟩,Pv (i+1),fun σ' H' p'=>⟨xs.length - (i+1),by omega,rfl,hlt,p'⟩,λx H' y=>?_⟩;obtain⟨e,y⟩:=y;subst e;exact hs i x σ _ (y xs q) p
 ·have e:i=xs.length:=by omega
  subst e;exact .inl ⟨⟨xs,q,K9 _⟩,hd σ H p⟩
theorem Fc{lo:Int}{n:Nat}{g:TG}{tb:TS}{D:Ends}{σ:St}{H:Hp}(Pv:Nat->St->Hp->Prop)(h0:Pv 0 σ H)
  (hs:∀i σ H,i<n->Pv i σ H->g (.int (lo+i)) σ H fun σ2 H2=>tb {D with nx:=Pv (i+1),ct:=Pv (i+1),bk:=D.nx} σ2 H2) (hd:∀σ H,Pv n σ H->D.nx σ H):
  ∃W:Nat->Nat->St->Hp->Prop,(∃m,W 0 m σ H)/\∀i m σ H,W i m σ H ->
   ((Itr lo n).stop i H/\D.nx σ H)\/((Itr lo n).go i H/\∃N:St->Hp->Prop,(∀σ' H',N σ' H'->∃m',m'<m/\W (i+1) m' σ' H')/\∀x H',(Itr lo n).yld i H x H'->g x σ H' fun σ2 H2=>tb {D with nx:=N,ct:=N,bk:=D.nx} σ2 H2):=by
 refine⟨λi m σ H=>m=n - i/\i<=n/\Pv i σ H,⟨n,by simp,L6 _,h0⟩,?_⟩;rintro i m σ H ⟨rfl,hi,p⟩;by_cases hlt:i<n
 ·refine .inr ⟨hlt,Pv (i+1),fun σ' H' p'=>⟨n - (i+1),by omega,rfl,hlt,p'⟩,λx H' y=>?_⟩;obtain⟨e,y⟩:=y;subst e y;exact hs i σ _ hlt p
 ·have e:i=n:=by omega
  subst e;exact .inl ⟨K9 _,hd σ H p⟩
abbrev R2:=V->V->Hp->VK->Prop
def OpR (X:Cx) (f:Value->Value->Sem Value) (r:R2):Prop:=
 ∀(pins:List (Addr×Obj)) (s:Shared) (σ:St) (H:Hp) (x y:V) (v u:Value) (Q:VK),Inv X pins σ H s->Ag x v->Ag y u->r x y H Q ->
  wpAny (model X.prog X.w) X.A (f v u) (EP X pins σ Q) X.xe s
def UnR (X:Cx) (f:Value->Sem Value) (r:V->Hp->VK->Prop):Prop:=
 ∀(pins:List (Addr×Obj)) (s:Shared) (σ:St) (H:Hp) (x:V) (v:Value) (Q:VK),Inv X pins σ H s->Ag x v->r x H Q ->
  wpAny (model X.prog X.w) X.A (f v) (EP X pins σ Q) X.xe s
def Cj (X:Cx) (f:Value) (r:List V->Hp->VK->Prop):Prop:=
 ∀(pins:List (Addr×Obj)) (s:Shared) (σ:St) (H:Hp) (xs:List V) (us:List Value) (Q:VK),Inv X pins σ H s->Vals xs us->r xs H Q ->
  wpAny (model X.prog X.w) X.A (call f us) (EP X pins σ Q) X.xe s
def TruR (X:Cx) (r:V->Hp->(Bool->Hp->Prop)->Prop):Prop:=
 ∀(pins:List (Addr×Obj)) (s:Shared) (σ:St) (H:Hp) (x:V) (v:Value) (Q:Bool->Hp->Prop),Inv X pins σ H s->Ag x v->r x H Q ->
  wpAny (model X.prog X.w) X.A (truthy v) (TP X pins σ Q) X.xe s
def tOp (r:R2) (ta tb:TE):TE:=fun σ H Q=>ta σ H λx H1=>tb σ H1 λy H2=>r x y H2 Q
def tUn (r:V->Hp->VK->Prop) (ta:TE):TE:=fun σ H Q=>ta σ H λx H1=>r x H1 Q
def rI (C:Int->Int->Prop) (g:Int->Int->V):R2:=λx y H Q=>∃i j,x = .int i/\y = .int j/\C i j/\Q (g i j) H
def rI0 (g:Int->Int->V):R2:=λx y H Q=>∃i j,x = .int i/\y = .int j/\Q (g i j) H
def rU (g:Int->V):V->Hp->VK->Prop:=λx H Q=>∃i,x = .int i/\Q (g i) H
section
variable {X:Cx}{a b c:Expr}{ta tb tc:TE}{pos:Pos}
theorem binT(ha:PE X a ta)(hb:PE X b tb){pins:List (Addr×Obj)}{s:Shared}{σ:St}{H:Hp}{R:V->V->Hp->Prop}(I:Inv X pins σ H s)
  (h:ta σ H λx H1=>tb σ H1 λy H2=>R x y H2) {Q:Value->Shared->Prop} {f:Value->Value->Sem Value}
  (hf:∀v u s2 x y H2,Inv X pins σ H2 s2->Ag x v->Ag y u->R x y H2->wpAny (model X.prog X.w) X.A (f v u) Q X.xe s2):
  wpAny (model X.prog X.w) X.A (eval a X.env) (λv s₁=>wpAny (model X.prog X.w) X.A (eval b X.env) (λu s₂=>wpAny (model X.prog X.w) X.A (f v u) Q X.xe s₂) X.xe s₁) X.xe s:=by
 refine thn (ha pins s σ H _ I h) λv s1 ⟨x,H1,I1,r1,q1⟩=>?_;refine thn (hb pins s1 σ H1 _ I1 q1) λu s2 ⟨y,H2,I2,r2,q2⟩=>?_;exact hf v u s2 x y H2 I2 r1 r2 q2
theorem An{op:Operator}{r:R2}(ho:OpR X (binaryOp op) r)(ha:PE X a ta)(hb:PE X b tb):PE X (.BinOp a op b pos) (tOp r ta tb):=by
 intro pins s σ H Q I h;exact wpAny_BinOp (binT ha hb I h λv u s2 x y H2 I2 rx ry q=>ho pins s2 σ H2 x y v u Q I2 rx ry q)
theorem Xf0{op:UnaryOp}{r:V->Hp->VK->Prop}(ho:UnR X (unaryOp op) r)(ha:PE X a ta):PE X (.UnaryOp op a pos) (tUn r ta):=by
 intro pins s σ H Q I h;exact UnaryOp_ (thn (ha pins s σ H _ I h) λv s1 ⟨x,H1,I1,r1,q1⟩=>ho pins s1 σ H1 x v Q I1 r1 q1)
theorem opI{f:Value->Value->Sem Value}{C:Int->Int->Prop}{g:Int->Int->Int}
  (rule:∀(i j:Int) (t u:Tok) (s:Shared) (Q:Value->Shared->Prop) (E:Value->Shared->Prop),C i j->Q (.int (g i j) s.toks) {s with toks:=s.toks+1}->wpAny (model X.prog X.w) X.A (f (.int i t) (.int j u)) Q E s):
  OpR X f (rI C λi j=>.int (g i j)):=by
 intro pins s σ H x y v u Q I rx ry h;obtain⟨i,j,rfl,rfl,hc,q⟩:=h;obtain⟨t,rfl⟩:=rx;obtain⟨t',rfl⟩:=ry;exact rule i j t t' s _ _ hc ⟨.int (g i j),H,I.tok _,⟨_,rfl⟩,q⟩
theorem Xaj{f:Value->Value->Sem Value}{g:Int->Int->Int}
  (rule:∀(i j:Int) (t u:Tok) (s:Shared) (Q:Value->Shared->Prop) (E:Value->Shared->Prop),Q (.int (g i j) s.toks) {s with toks:=s.toks+1}->wpAny (model X.prog X.w) X.A (f (.int i t) (.int j u)) Q E s):
  OpR X f (rI0 λi j=>.int (g i j)):=by
 intro pins s σ H x y v u Q I rx ry h;obtain⟨i,j,rfl,rfl,q⟩:=h;obtain⟨t,rfl⟩:=rx;obtain⟨t',rfl⟩:=ry;exact rule i j t t' s _ _ ⟨.int (g i j),H,I.tok _,⟨_,rfl⟩,q⟩
theorem Hz{f:Value->Value->Sem Value}{g:Int->Int->Bool}
  (rule:∀(i j:Int) (t u:Tok) (s:Shared) (Q:Value->Shared->Prop) (E:Value->Shared->Prop),Q (.bool (g i j)) s->wpAny (model X.prog X.w) X.A (f (.int i t) (.int j u)) Q E s):
  OpR X f (rI0 λi j=>.bl (g i j)):=by
 intro pins s σ H x y v u Q I rx ry h;obtain⟨i,j,rfl,rfl,q⟩:=h;obtain⟨t,rfl⟩:=rx;obtain⟨t',rfl⟩:=ry;exact rule i j t t' s _ _ ⟨.bl (g i j),H,I,rfl,q⟩
def CDiv (i j:Int):Prop:=0<j/\j<1073741824
def CPow (i j:Int):Prop:=0<=j/\j<=1000000/\i.natAbs<2 ^ 64
def CMul (i j:Int):Prop:=(-(2 ^ 64)<i/\i<2 ^ 64)\/(-(2 ^ 64)<j/\j<2 ^ 64)
theorem CMul.ok{i j:Int}(h:CMul i j):IntMulOk i j:=by
 rcases h with ⟨h1,h2⟩ | ⟨h1,h2⟩
 ·exact .of_left (intBits_le_64 h1 h2)
 ·exact .of_right (intBits_le_64 h1 h2)
theorem Bt:OpR X (binaryOp .Add) (rI0 λi j=>.int (i+j)):=Xaj λ_ _ _ _ _ _ _ q=>add_int q
theorem Xf1:OpR X (binaryOp .Sub) (rI0 λi j=>.int (i - j)):=Xaj λ_ _ _ _ _ _ _ q=>sub_int q
theorem Xak:OpR X (binaryOp .Mult) (rI CMul λi j=>.int (i * j)):=opI λ_ _ _ _ _ _ _ hc q=>mul_int q hc.ok
theorem Ia:OpR X (binaryOp .FloorDiv) (rI CDiv λi j=>.int (i / j)):=opI λi j _ _ _ _ _ hc q=>by
 have h1:(0:Int)<j:=hc.1;have h2:j<1073741824:=hc.2;exact floordiv_int (by omega) (by rw[Int.fdiv_eq_ediv_of_nonneg i (by omega)];exact q) (.inl (PyProof.noPylong_small (by omega)))
theorem D6:OpR X (binaryOp .Mod) (rI (λ_ j=>0<j) λi j=>.int (i % j)):=opI λi j _ _ _ _ _ hc q=>by
 have h1:(0:Int)<j:=hc;exact mod_int' (by omega) (by rw[Int.fmod_eq_emod_of_nonneg i (by omega)];exact q)
theorem Xal:OpR X (binaryOp .Pow) (rI CPow λi j=>.int (i ^ j.toNat)):=opI λ_ _ _ _ _ _ _ hc q=>pow_int_small hc.1 hc.2.1 hc.2.2 q
theorem unI{f:Value->Sem Value}{g:Int->Int}
  (rule:∀(i:Int) (t:Tok) (s:Shared) (Q:Value->Shared->Prop) (E:Value->Shared->Prop),Q (.int (g i) s.toks) {s with toks:=s.toks+1}->wpAny (model X.prog X.w) X.A (f (.int i t)) Q E s):
  UnR X f (rU λi=>.int (g i)):=by
 intro pins s σ H x v Q I rx h;obtain⟨i,rfl,q⟩:=h;obtain⟨t,rfl⟩:=rx;exact rule i t s _ _ ⟨.int (g i),H,I.tok _,⟨_,rfl⟩,q⟩
theorem Xf2:UnR X (unaryOp .USub) (rU λi=>.int (-i)):=unI λ_ _ _ _ _ q=>neg_int q
end
def scal:V->V->Bool
 | .non,.non=>true | .non,.int _=>true | .int _,.non=>true | .non,.bl _=>true | .bl _,.non=>true | .non,.str _=>true | .str _,.non=>true
 | .int _,.int _=>true | .bl _,.bl _=>true | .str _,.str _=>true | .byt _,.byt _=>true
 | .int _,.str _=>true | .str _,.int _=>true | .bl _,.str _=>true | .str _,.bl _=>true
 | _,_=>false
def rEq:R2:=λx y H Q=>scal x y=true/\Q (.bl (decide (x=y))) H
def rNe:R2:=λx y H Q=>scal x y=true/\Q (.bl (!decide (x=y))) H
theorem Xam{i j:Int}:decide (V.int i=V.int j)=(i==j):=by
 rw[Mx];simp
theorem Ib{i j:Bool}:decide (V.bl i=V.bl j)=(i==j):=by
 rw[Mx];simp
theorem Xan{i j:Str}:decide (V.str i=V.str j)=(i==j):=by
 rw[Mx];simp
theorem Xao{i j:Array UInt8}:decide (V.byt i=V.byt j)=(i.toList==j.toList):=by
 rw[Mx];cases i;cases j;simp
section
variable {X:Cx}{a b c:Expr}{ta tb tc:TE}{pos:Pos}
theorem A3{pins:List (Addr×Obj)}{σ:St}{H:Hp}{s:Shared}{Q:VK}{k k':Bool}(I:Inv X pins σ H s)(q:Q (.bl k) H)(e:k=k'):EP X pins σ Q (.bool k') s:=by
 subst e;exact⟨.bl k,H,I,rfl,q⟩
theorem Ck:OpR X (compareOp .Eq) rEq:=by
 intro pins s σ H x y v u Q I rx ry h;obtain⟨hs,q⟩:=h;cases x with
 | non=>
  cases rx;cases y with
  | non=>cases ry;exact PySem.EqNone.eq_none_none (A3 I q (by simp))
  | bl j=>cases ry;exact PySem.EqNone.eq_none_bool (A3 I q (by simp))
  | int j=>obtain⟨t',rfl⟩:=ry;exact PySem.EqNone.eq_none_int (A3 I q (by simp))
  | str j=>obtain⟨t',rfl⟩:=ry;exact PySem.EqNone.eq_none_str (A3 I q (by simp))
  | _=>exact absurd (show false=true from hs) Lq
 | bl i=>
  cases rx;cases y with
  | non=>cases ry;exact PySem.EqNone.eq_bool_none (A3 I q (by simp))
  | bl j=>cases ry;exact eq_bool (A3 I q Ib)
  | str j=>obtain⟨t',rfl⟩:=ry;exact PySem.EqMixed.eq_bool_str (A3 I q (by simp))
  | _=>exact absurd (show false=true from hs) Lq
 | int i=>
  obtain⟨t,rfl⟩:=rx;cases y with
  | non=>cases ry;exact PySem.EqNone.eq_int_none (A3 I q (by simp))
  | int j=>obtain⟨t',rfl⟩:=ry;exact eq_int (A3 I q Xam)
  | str j=>obtain⟨t',rfl⟩:=ry;exact PySem.EqMixed.eq_int_str (A3 I q (by simp))
  | _=>exact absurd (show false=true from hs) Lq
 | str i=>
  obtain⟨t,rfl⟩:=rx;cases y with
  | non=>cases ry;exact PySem.EqNone.eq_str_none (A3 I q (by simp))
  | bl j=>cases ry;exact PySem.EqMixed.eq_str_bool (A3 I q (by simp))
  | int j=>obtain⟨t',rfl⟩:=ry;exact PySem.EqMixed.eq_str_int (A3 I q (by simp))
  | str j=>obtain⟨t',rfl⟩:=ry;exact eq_str (A3 I q Xan)
  | _=>exact absurd (show false=true from hs) Lq
 | byt i=>
  obtain⟨t,rfl⟩:=rx;cases y with
  | byt j=>obtain⟨t',rfl⟩:=ry;exact PySem.W.eq_bytes (A3 I q Xao)
  | _=>exact absurd (show false=true from hs) Lq
 | _=>cases y<;>exact absurd (show false=true from hs) Lq
theorem Ic:OpR X (compareOp .NotEq) rNe:=by
 intro pins s σ H x y v u Q I rx ry h;obtain⟨hs,q⟩:=h;cases x with
 | non=>
  cases rx;cases y with
  | non=>cases ry;exact PySem.EqNone.ne_none_none (A3 I q (by simp))
  | bl j=>cases ry;exact PySem.EqNone.ne_none_bool (A3 I q (by simp))
  | int j=>obtain⟨t',rfl⟩:=ry;exact PySem.EqNone.ne_none_int (A3 I q (by simp))
  | str j=>obtain⟨t',rfl⟩:=ry;exact PySem.EqNone.ne_none_str (A3 I q (by simp))
  | _=>exact absurd (show false=true from hs) Lq
 | bl i=>
  cases rx;cases y with
  | non=>cases ry;exact PySem.EqNone.ne_bool_none (A3 I q (by simp))
  | bl j=>cases ry;exact ne_bool (A3 I q (congrArg not Ib))
  | str j=>obtain⟨t',rfl⟩:=ry;exact PySem.EqMixed.ne_bool_str (A3 I q (by simp))
  | _=>exact absurd (show false=true from hs) Lq
 | int i=>
  obtain⟨t,rfl⟩:=rx;cases y with
  | non=>cases ry;exact PySem.EqNone.ne_int_none (A3 I q (by simp))
  | int j=>obtain⟨t',rfl⟩:=ry;exact ne_int (A3 I q (congrArg not Xam))
  | str j=>obtain⟨t',rfl⟩:=ry;exact PySem.EqMixed.ne_int_str (A3 I q (by simp))
  | _=>exact absurd (show false=true from hs) Lq
 | str i=>
  obtain⟨t,rfl⟩:=rx;cases y with
  | non=>cases ry;exact PySem.EqNone.ne_str_none (A3 I q (by simp))
  | bl j=>cases ry;exact PySem.EqMixed.ne_str_bool (A3 I q (by simp))
  | int j=>obtain⟨t',rfl⟩:=ry;exact PySem.EqMixed.ne_str_int (A3 I q (by simp))
  | str j=>obtain⟨t',rfl⟩:=ry;exact ne_str (A3 I q (congrArg not Xan))
  | _=>exact absurd (show false=true from hs) Lq
 | byt i=>
  obtain⟨t,rfl⟩:=rx;cases y with
  | byt j=>obtain⟨t',rfl⟩:=ry;exact PySem.W.ne_bytes (A3 I q (congrArg not Xao))
  | _=>exact absurd (show false=true from hs) Lq
 | _=>cases y<;>exact absurd (show false=true from hs) Lq
theorem Cb:OpR X (compareOp .Lt) (rI0 λi j=>.bl (decide (i<j))):=Hz λ_ _ _ _ _ _ _ q=>lt_int q
theorem Xf3:OpR X (compareOp .Gt) (rI0 λi j=>.bl (decide (j<i))):=Hz λ_ _ _ _ _ _ _ q=>gt_int q
theorem Xap:OpR X (compareOp .GtE) (rI0 λi j=>.bl (decide (j<=i))):=Hz λ_ _ _ _ _ _ _ q=>ge_int q
theorem Xf4:OpR X (compareOp .Lt) (λx y H Q=>∃i j,x = .str i/\y = .str j/\Q (.bl (decide (i.cps.toList<j.cps.toList))) H):=by
 intro pins s σ H x y v u Q I rx ry h;obtain⟨i,j,rfl,rfl,q⟩:=h;obtain⟨t,rfl⟩:=rx;obtain⟨t',rfl⟩:=ry;exact lt_str (A3 I q rfl)
def isObj:HO->Bool
 | .lst _=>true
 | .ins _ _ _=>true
 | _=>false
theorem A8(b:Expr){op:CmpOp}(h:op ≠ .In:=by decide)(h2:op ≠ .NotIn:=by decide):behindInMarks op b=false:=by
 have e1:(op==CmpOp.In)=false:=by cases op<;>first | rfl | exact absurd rfl h
 have e2:(op==CmpOp.NotIn)=false:=by cases op<;>first | rfl | exact absurd rfl h2
 cases b<;>simp[behindInMarks,e1,e2]
theorem D7{op:CmpOp}{r:R2}(ho:OpR X (compareOp op) r)(ha:PE X a ta)(hb:PE X b tb)(hm:behindInMarks op b=false):PE X (.Compare a [op] [b] pos) (tOp r ta tb):=by
 intro pins s σ H Q I h;exact wpAny_Compare1 (binT ha hb I h λv u s2 x y H2 I2 rx ry q=>ho pins s2 σ H2 x y v u Q I2 rx ry q) hm
def Ie (t:TE):TT:=fun σ H Q=>t σ H λx H'=>∃k,x = .bl k/\Q k H'
theorem Bb{op:CmpOp}{r:R2}(ho:OpR X (compareOp op) r)(ha:PE X a ta)(hb:PE X b tb)(hm:behindInMarks op b=false):PT X (.Compare a [op] [b] pos) (Ie (tOp r ta tb)):=by
 intro pins s σ H Q I h;refine wpAny_isTrue_Compare1 (thn (ha pins s σ H _ I h) λv s1 ⟨x,H1,I1,r1,q1⟩=>thn (hb pins s1 σ H1 _ I1 q1) λu s2 ⟨y,H2,I2,r2,q2⟩=>
  thn (ho pins s2 σ H2 x y v u _ I2 r1 r2 q2) λc s3 ⟨z,H3,I3,r3,k,e,q3⟩=>?_) hm
 subst e;cases r3;exact wpAny_truthy_bool ⟨H3,I3,q3⟩
def Ig (r r':R2) (ta tb tc:TE):TE:=fun σ H Q=>ta σ H λx H1=>tb σ H1 λy H2=>r x y H2 λz H3=>∃k,z = .bl k /\
 (if k=true then tc σ H3 λw' H4=>r' y w' H4 Q else Q (.bl false) H3)
theorem Xaq{op op':CmpOp}{r r':R2}(ho:OpR X (compareOp op) r)(ho':OpR X (compareOp op') r')(ha:PE X a ta)(hb:PE X b tb)(hc:PE X c tc)
  (hm:lastMarks [op,op'] [b,c]=false:=by with_unfolding_all rfl):PE X (.Compare a [op,op'] [b,c] pos) (Ig r r' ta tb tc):=by
 intro pins s σ H Q I h;refine Compare_chain (thn (ha pins s σ H _ I h) λv s1 ⟨x,H1,I1,r1,q1⟩=>chain_link (thn (hb pins s1 σ H1 _ I1 q1) λu s2 ⟨y,H2,I2,r2,q2⟩=>
  thn (ho pins s2 σ H2 x y v u _ I2 r1 r2 q2) λd s3 ⟨z,H3,I3,r3,k,e,q3⟩=>?_)) hm
 subst e;cases r3;refine wpAny_truthy_bool ?_;cases k with
 | false=>exact ite_ff ⟨.bl false,H3,I3,rfl,q3⟩
 | true=>exact ite_tt (chain_last (thn (hc pins s3 σ H3 _ I3 q3) λw' s4 ⟨z',H4,I4,r4,q4⟩=>ho' pins s4 σ H4 y z' u w' Q I4 r2 r4 q4))
theorem Xf5{op op':CmpOp}{r r':R2}(ho:OpR X (compareOp op) r)(ho':OpR X (compareOp op') r')(ha:PE X a ta)(hb:PE X b tb)(hc:PE X c tc)
  (hm:lastMarks [op,op'] [b,c]=false:=by with_unfolding_all rfl):PT X (.Compare a [op,op'] [b,c] pos) (Ie (Ig r r' ta tb tc)):=by
 intro pins s σ H Q I h;refine isTrue_chain (thn (ha pins s σ H _ I h) λv s1 ⟨x,H1,I1,r1,q1⟩=>test_link (thn (hb pins s1 σ H1 _ I1 q1) λu s2 ⟨y,H2,I2,r2,q2⟩=>
  thn (ho pins s2 σ H2 x y v u _ I2 r1 r2 q2) λd s3 ⟨z,H3,I3,r3,k,e,q3⟩=>?_)) hm
 subst e;cases r3;refine wpAny_truthy_bool ?_;cases k with
 | false=>
  obtain⟨k',e',q'⟩:=q3;cases e';exact ite_ff ⟨H3,I3,q'⟩
 | true=>
  refine ite_tt (test_last (thn (hc pins s3 σ H3 _ I3 q3) λw' s4 ⟨z',H4,I4,r4,q4⟩=>thn (ho' pins s4 σ H4 y z' u w' _ I4 r2 r4 q4) λd' s5 ⟨z2,H5,I5,r5,k2,e2,q5⟩=>?_));subst e2;cases r5;exact wpAny_truthy_bool ⟨H5,I5,q5⟩
def TruV (K:PySem.W.Frag) (x:V) (H:Hp) (k:Bool):Prop:=
 match x with
 | .non=>k=false
 | .bl b=>k=b
 | .int i=>k=(i != 0)
 | .str y=>y.length<=sizeLine/\k=((y.length:Int) != 0)
 | .byt y=>y.size<=sizeLine/\k=((y.size:Int) != 0)
 | .ref p=>(∃xs,SqL K H p xs/\k = !xs.isEmpty)\/(∃xs,SqT K H p xs/\k = !xs.isEmpty) \/ ∃kvs,H p=some (.dK kvs)/\k = !kvs.isEmpty
 | _=>False
theorem line63:(sizeLine:Nat)<2 ^ 63:=by rw[Pa];decide
theorem Ih:OpR X (binaryOp .Add) (λx y H Q=>∃i j,x = .str i/\y = .str j/\i.length+j.length<=sizeLine/\Q (.str (i++j)) H):=by
 intro pins s σ H x y v u Q I rx ry h;obtain⟨i,j,rfl,rfl,hz,q⟩:=h;obtain⟨t,rfl⟩:=rx;obtain⟨t',rfl⟩:=ry;exact add_str (λt' tk=>⟨.str (i++j),H,I.tok _,⟨_,rfl⟩,q⟩) hz
theorem Ct{x:V}{us:List Value}(r:Vals [x] us):∃u,us=[u]/\Ag x u:=by
 cases r with
 | cons r1 r2=>cases r2;exact⟨_,rfl,r1⟩
theorem vals2{x y:V}{us:List Value}(r:Vals [x,y] us):∃u w',us=[u,w']/\Ag x u/\Ag y w':=by
 cases r with
 | cons r1 r2=>
  cases r2 with
  | cons r3 r4=>cases r4;exact⟨_,_,rfl,r1,r3⟩
theorem Xf6(hc:X.calm=true):Cj X (.builtin "min") (λxs H Q=>∃i j,xs=[.int i,.int j]/\Q (.int (if j<i then j else i)) H):=by
 intro pins s σ H xs us Q I r h;obtain⟨i,j,rfl,q⟩:=h;obtain⟨u,w',rfl,⟨t,rfl⟩,⟨t',rfl⟩⟩:=vals2 r;refine min_two_ints (I.ok.hd hc) λh' tk k=>⟨_,H,I.kept k,?_,q⟩;by_cases hj:j<i
 ·rw[Pc hj,Pc hj];exact⟨_,rfl⟩
 ·rw[Pb hj,Pb hj];exact⟨_,rfl⟩
def LenV (K:PySem.W.Frag) (x:V) (H:Hp) (n:Nat):Prop:=
 match x with
 | .str y=>y.length<=sizeLine/\n=y.length
 | .byt y=>y.size<=sizeLine/\n=y.size
 | .ref p=>(∃xs,SqL K H p xs/\n=xs.length) \/ ∃xs,SqT K H p xs/\n=xs.length
 | _=>False
end
structure ObjM (h:Heap) (x dx C:Addr) (mA:Str->Option Value):Prop where
 obj:h.get? x=some (PySem.W.instObj C dx)
 ns:h.Ns1 dx mA
 ne:dx≠x
section
variable {prog:Program}{w:World}{A:Around}{E:Value->Shared->Prop}{s:Shared}{K:PySem.W.Frag}{x dx C f:Addr}{mA:Str->Option Value}{name:Str}{v:Value}
end
def Ii (f:Str) (v:V):List (Str×V)->List (Str×V)
 | []=>[(f,v)]
 | (g,x)::r=>if g=f then (g,v)::r else (g,x)::Ii f v r
theorem B9.some_of{v:V}{o:Option Value}(r:B9 (some v) o):∃u,o=some u/\Ag v u:=by
 cases o with
 | none=>exact(show False from r).elim
 | some u=>exact⟨u,rfl,r⟩
section
variable {P:Program}{w:World}{H H':Hp}{h h':Heap}{a C dx:Addr}{fs fs':List (Str×V)}
end
structure Cls (K:PySem.W.Frag) (C:Addr):Prop where
 pg:PySem.W.plainGet K C Str.empty=true
 hd:PySem.W.hasDictIn K C=true
 po:PySem.W.plainOver K C=true
 sa:PySem.W.findIn K (.ref C) "__setattr__" = some (some (.builtin "object.__setattr__"))
def Ij (K:PySem.W.Frag) (C:Addr) (f:Str):Prop:=PySem.W.findIn K (.ref C) f=some none
structure Con (K:PySem.W.Frag) (C:Addr) (f:Str) (v:V) (u:Value):Prop where
 at_:PySem.W.findIn K (.ref C) f=some (some u)
 rel:Ag v u
 get:PySem.W.specialIn K u "__get__" = some none
 cp:PySem.W.copiedNames.contains f=false
structure Meth (K:PySem.W.Frag) (C:Addr) (m:Str) (f:Addr):Prop where
 at_:PySem.W.findIn K (.ref C) m=some (some (.ref f))
 fn:PySem.W.isFn K (.ref f)=true
 kp:PySem.W.keepIn K (.ref f)=true
section
variable {X:Cx}{pins:List (Addr×Obj)}{σ:St}{H:Hp}{s:Shared}{a C dx:Addr}{fs:List (Str×V)}{f:Str}{v:V}{A:Around}{E:Value->Shared->Prop}
end
def tFld (K:PySem.W.Frag) (ta:TE) (f:Str):TE:=fun σ H Q=>ta σ H λx H1=>∃a C dx fs v,x = .ref a/\H1 a=some (.ins C dx fs)/\Cls K C/\Ij K C f/\fs.lookup f=some v/\Q v H1
def tCon (K:PySem.W.Frag) (ta:TE) (f:Str):TE:=fun σ H Q=>ta σ H λx H1=>∃a C dx fs v u,x = .ref a/\H1 a=some (.ins C dx fs)/\Cls K C/\Con K C f v u/\fs.lookup f=none/\Q v H1
def sFld (K:PySem.W.Frag) (ta tv:TE) (f:Str):TS:=λD σ H=>tv σ H λy H1=>ta σ H1 λx H2=>∃a C dx fs,x = .ref a/\H2 a=some (.ins C dx fs)/\Cls K C/\Ij K C f/\fs.length<1000 /\
 D.nx σ (upd H2 a (.ins C dx (Ii f y fs)))
def InOp (X:Cx) (op:Operator) (rd:V->V->Hp->VK->Prop):Prop:=
 ∀(pins:List (Addr×Obj)) (s:Shared) (σ:St) (H:Hp) (x y:V) (u v:Value) (Q:VK),Inv X pins σ H s->Ag x u->Ag y v->rd x y H Q->wpAny (model X.prog X.w) X.A (inplaceOp op u v) (EP X pins σ Q) X.xe s
def Xoi (K:PySem.W.Frag) (ta tv:TE) (rd:V->V->Hp->VK->Prop) (f:Str):TS:=λD σ H=>ta σ H λx H1=>∃a C dx fs v,x = .ref a/\H1 a=some (.ins C dx fs)/\Cls K C/\Ij K C f/\fs.lookup f=some v /\
 tv σ H1 λy H2=>rd v y H2 λz H3=>∃dx' fs',H3 a=some (.ins C dx' fs')/\fs'.length<1000/\D.nx σ (upd H3 a (.ins C dx' (Ii f z fs')))
section
variable {X:Cx}{o e value:Expr}{f:Str}{pos pos' tpos:Pos}{ta tv:TE}
end
section
variable {X:Cx}{pins:List (Addr×Obj)}{σ:St}{H:Hp}{s:Shared}{A:Around}{E:Value->Shared->Prop}{Q:Value->Shared->Prop}{c:Value}{b:Bool}
inductive TyOf (K:PySem.W.Frag) (H:Hp):V->Value->Prop where
 | non:TyOf K H .non (.type "NoneType")
 | bl (x:Bool):TyOf K H (.bl x) (.type "bool")
 | int (i:Int):TyOf K H (.int i) (.type "int")
 | str (x:Str):TyOf K H (.str x) (.type "str")
 | flt (x:UInt64):TyOf K H (.flt x) (.type "float")
 | lst {a:Addr} {xs:List V} (e:H a=some (.lst xs)):TyOf K H (.ref a) (.type "list")
 | frz {a:Addr} {o:Obj} {xs:List V} (e:H a=some (.frz o (.lst xs))):TyOf K H (.ref a) (.type "list")
 | tup {a:Addr} {xs:List V} (e:H a=some (.tup xs)):TyOf K H (.ref a) (.type "tuple")
 | dK {a:Addr} {kvs:List (Key×V)} (e:H a=some (.dK kvs)):TyOf K H (.ref a) (.type "dict")
 | dT {a:Addr} {kvs:List (List Key×V)} (e:H a=some (.dT kvs)):TyOf K H (.ref a) (.type "dict")
 | ins {a C dx:Addr} {fs:List (Str×V)} (e:H a=some (.ins C dx fs)) (cl:Cls K C) (ha:PySem.W.findIn K (.ref C) "__class__" = some (some (.builtin "object.__class__")))
   (hn:PySem.W.specialIn K (.builtin "object.__class__") "__get__" = some (some (.builtin "getset_descriptor.__get__"))) (htk:PySem.W.takesIn K (.builtin "object.__class__")=some true)
   (hm:PySem.W.mroIn K C (.type "object")=some true):TyOf K H (.ref a) (.ref C)
end
structure Room (k:Nat) (A:Around):Prop where
 hd:A.handled=none
 dp:A.depth+3 * k+5<recursionLimit
 un:A.units+16 * k+200<cLine
 gd:A.guards=some []
theorem Room.mono{j k:Nat}{A:Around}(r:Room k A)(h:j<=k):Room j A:=⟨r.hd,by have:=r.dp;omega,by have:=r.un;omega,r.gd⟩
theorem Room.deeper{k:Nat}{A:Around}(r:Room (k+1) A)(env:Env):Room k (A.deeper env):=
 ⟨r.hd,by have:=r.dp;show A.depth+1+3 * k+5<_;omega,by have:=r.un;show A.units+3+16 * k+200<_;omega,r.gd⟩
theorem Room.in1{k:Nat}{A:Around}(r:Room (k+1) A):Room k A.in1:=
 ⟨r.hd,by have:=r.dp;show A.depth+3 * k+5<_;omega,by have:=r.un;show A.units+1+16 * k+200<_;omega,r.gd⟩
theorem Room.depth{k:Nat}{A:Around}(r:Room k A):A.depth<recursionLimit:=by have:=r.dp;omega
theorem Room.units{k:Nat}{A:Around}(r:Room k A):A.units+64<cLine:=by have:=r.un;omega
theorem Room.units0{k:Nat}{A:Around}(r:Room k A):A.units<cLine:=by have:=r.un;omega
def Gg:TA:=λ_ H Q=>Q [] H
def Xar (ta:TE) (tr:TA):TA:=fun σ H Q=>ta σ H λx H1=>tr σ H1 λxs H2=>Q (x::xs) H2
section
variable {X:Cx}{e:Expr}{es:List Expr}{te:TE}{t:TA}{pos:Pos}
theorem Ac:PA X [] Gg:=λ_ _ _ _ H Q I h=>Calls.spliced_nil ⟨[],H,I,.nil,h⟩
theorem Aa(ha:PE X e te)(hr:PA X es t)(hs:starEach (e::es) X.env=(false,eval e X.env)::starEach es X.env:=by rfl):PA X (e::es) (Xar te t):=by
 intro pos pins s σ H Q I h;rw[hs];show wpAny _ _ (spliced ((false,eval e X.env)::backTo pos (starEach es X.env))) _ _ s;refine Calls.spliced_cons (thn (ha pins s σ H _ I h) λu s1 ⟨x,H1,I1,r1,q1⟩=>?_);exact thn (hr pos pins s1 σ H1 _ I1 q1) λus s2 ⟨xs,H2,I2,r2,q2⟩=>⟨x::xs,H2,I2,.cons r1 r2,q2⟩
def tTup (t:TA):TE:=fun σ H Q=>t σ H λxs H1=>xs.length<=sizeLine/\∀p,H1 p=none->Q (.ref p) (upd H1 p (.tup xs))
def tLst (t:TA):TE:=fun σ H Q=>t σ H λxs H1=>xs.length<=sizeLine/\∀p,H1 p=none->Q (.ref p) (upd H1 p (.lst xs))
theorem Cd{x1}(h:PA X es t):PE X (.Tuple es x1 pos) (tTup t):=by
 intro pins s σ H Q I hq;refine wpAny_Tuple_spliced (thn (h pos pins s σ H _ I hq) λus s1 ⟨xs,H1,I1,r,z,q⟩=>⟨by rw[<-r.length];exact z,?_⟩);have hf:H1 s1.heap.objs.size=none:=I1.hok.fresh (K9 _);refine⟨.ref s1.heap.objs.size,upd H1 s1.heap.objs.size (.tup xs),I1.laid (t':=s1.toks) (λb u e=>Pi _ e) (K9 _) ?_,rfl,q _ hf⟩;exact⟨z,us,r,⟨_,Heap.get?_push_size _ rfl,rfl,_,rfl⟩⟩
theorem Bu(h:PA X es t):PE X (.List es pos) (tLst t):=by
 intro pins s σ H Q I hq;refine wpAny_List_spliced (thn (h pos pins s σ H _ I hq) λus s1 ⟨xs,H1,I1,r,z,q⟩=>⟨by rw[<-r.length];exact z,?_⟩);have hf:H1 s1.heap.objs.size=none:=I1.hok.fresh (K9 _);refine⟨.ref s1.heap.objs.size,upd H1 s1.heap.objs.size (.lst xs),I1.laid (t':=s1.toks) (λb u e=>Pi _ e) (K9 _) ?_,rfl,q _ hf⟩;exact⟨z,us,0,r,Heap.get?_push_size _ rfl⟩
end
abbrev Sp:=List V->Hp->VK->XK->Prop
abbrev CXT:=List Env->Hp->Shared->XK->Value->Shared->Prop
structure Env0 (P:Program) (w:World) (K:PySem.W.Frag) (mg:Str->Option Value) (base:Heap) (A:Around) (outer:List Env) (s:Shared) (H:Hp):Prop where
 frames:A.frames=some outer
 mod:Mod K mg base
 bs:∀b o,base.get? b=some o->s.heap.get? b=some o/\H b=none
 bsz:base.objs.size<=s.heap.objs.size
 funs:s.heap.FunFrames base outer
 frf:∀b∈frs outer,H b=none
 hok:HOk P w H s.heap
 bare:AllBare s.gens
def CE (outer:List Env) (P:Program) (w:World) (H:Hp) (s:Shared) (Q:VK) (u:Value) (s':Shared):Prop:=
 ∃v H',s'.os=s.os/\AllBare s'.gens/\Un (frs outer) [] H H' s.heap s'.heap/\HOk P w H' s'.heap/\Ag v u/\Q v H'
def CR (CX:CXT) (outer:List Env) (P:Program) (w:World) (H:Hp) (s:Shared) (Q:VK) (E:XK) (r:Result) (s':Shared):Prop:=
 match r with
 | .ok (.ret u)=>CE outer P w H s Q u s'
 | .ok _=>False
 | .error e=>CX outer H s E e s'
structure FnOk (P:Program) (w:World) (K:PySem.W.Frag) (mg:Str->Option Value) (base:Heap) (CX:CXT) (k:Nat) (f:Addr) (fd:FuncData) (ps:List Str) (sp:Sp):Prop where
 len:∀vs H Q E,sp vs H Q E->vs.length=ps.length
 run:∀(A:Around) (outer:List Env) (s:Shared) (H:Hp) (args:Args) (us:List Value) (vs:List V) (Q:VK) (E:XK),Room k A->Env0 P w K mg base A outer s H->BindsTo s fd args (ps.zip us)->Vals vs us->sp vs H Q E ->
  codeAny (model P w) A (.call (.ref f) args) (CR CX outer P w H s Q E) s
theorem Env0.in1{P:Program}{w:World}{K:PySem.W.Frag}{mg:Str->Option Value}{base:Heap}{A:Around}{outer:List Env}{s:Shared}{H:Hp}(e:Env0 P w K mg base A outer s H):
  Env0 P w K mg base A.in1 outer s H:=⟨e.frames,e.mod,e.bs,e.bsz,e.funs,e.frf,e.hok,e.bare⟩
section
variable {X:Cx}{pins:List (Addr×Obj)}{σ:St}{H:Hp}{s s':Shared}
theorem Inv.env0(I:Inv X pins σ H s):Env0 X.prog X.w X.K X.mg X.base X.A X.stack s H:=
 ⟨I.ok.frames,I.ok.mod,I.bs,L0 I.ok.bsz I.sz,I.stack,I.stkFree,I.hok,I.bare⟩
theorem Inv.after{Q:VK}{u:Value}(I:Inv X pins σ H s)(h:CE X.stack X.prog X.w H s Q u s'):EP X pins σ Q u s':=by
 obtain⟨v,H',os,bare,un,hok,r,q⟩:=h;obtain⟨hh,g,d,t,os'⟩:=s';obtain rfl:os'=s.os:=os;exact⟨v,H',I.call (h':=hh) (g':=g) (d':=d) (t':=t) (ch:=[]) un hok bare (λb z=>absurd z (by simp)),r,q⟩
end
def Xas (sp:Sp) (dvs:List V) (E:XK) (t:TA):TE:=fun σ H Q=>t σ H λvs H1=>sp (vs++dvs) H1 Q E
def tMeth (C:Addr) (m:Str) (sp:Sp) (dvs:List V) (E:XK) (ta:TE) (t:TA):TE:=fun σ H Q=>ta σ H λx H1=>∃a dx fs,x = .ref a/\H1 a=some (.ins C dx fs)/\fs.lookup m=none /\
 t σ H1 λvs H2=>sp (x::(vs++dvs)) H2 Q E
def tMake (C:Addr) (sp:Sp) (dvs:List V) (E:XK) (t:TA):TE:=fun σ H Q=>t σ H λvs H1=>∀x dx,H1 x=none->H1 dx=none->dx≠x ->
 sp (.ref x::(vs++dvs)) (upd (upd H1 dx (.own x)) x (.ins C dx [])) (λv H2=>v = .non/\Q (.ref x) H2) E
def Binds (K:PySem.W.Frag) (fd:FuncData) (ps:List Str) (ds:List Value):Prop:=
 ∀(s:Shared) (us:List Value),K.In s.heap->(us++ds).length=ps.length->BindsTo s fd ⟨us,[]⟩ (ps.zip (us++ds))
theorem Binds.all{K:PySem.W.Frag}{fd:FuncData}{ps:List Str}(h:∀us:List Value,us.length=ps.length->bindArgs fd ⟨us,[]⟩=pure (ps.zip us)):Binds K fd ps []:=λs us _ hl=>by
 rw[Mj] at hl ⊢;exact .of_eq (h us hl)
def Passes (CX:CXT) (X:Cx) (E:XK):Prop:=∀(pins:List (Addr×Obj)) (σ:St) (H:Hp) (s:Shared) (e:Value) (s':Shared),Inv X pins σ H s->CX X.stack H s E e s'->X.xe e s'
section
variable {X:Cx}{CX:CXT}{k:Nat}{f C:Addr}{fd:FuncData}{ps:List Str}{sp:Sp}{dvs:List V}{ds:List Value}{E:XK}{x m:Str}{p pos apos:Pos}{e o:Expr}{es:List Expr}{ta:TE}{t:TA}
theorem Xf7{pins:List (Addr×Obj)}{σ:St}{H:Hp}{s:Shared}{Q:VK}{us:List Value}{vs:List V}(F:FnOk X.prog X.w X.K X.mg X.base CX k f fd ps sp)(hr:Room k X.A)(hb:Binds X.K fd ps ds)(hd:Vals dvs ds)(hx:Passes CX X E)
  (I:Inv X pins σ H s) (r:Vals vs us) (h:sp (vs++dvs) H Q E):wpAny (model X.prog X.w) X.A (call (.ref f) us) (EP X pins σ Q) X.xe s:=by
 have r2:Vals (vs++dvs) (us++ds):=r.append hd;have hl:(us++ds).length=ps.length:=by rw[<-r2.length];exact F.len _ _ _ _ h
 refine wpAny_call (codeAny_mono (F.run X.A X.stack s H ⟨us,[]⟩ (us++ds) (vs++dvs) Q E hr I.env0 (hb s us I.kIn hl) r2 h) λr s' hq=>?_);cases r with
 | error e=>exact hx pins σ H s e s' I hq
 | ok fl=>
  cases fl with
  | ret u=>exact I.after hq
  | next=>exact False.elim hq
  | brk=>exact False.elim hq
  | cont=>exact False.elim hq
theorem Xf8(F:FnOk X.prog X.w X.K X.mg X.base CX k f fd ps sp)(hr:Room k X.A)(hg:Gl X x)(hm:X.mg x=some (.ref f))(hk:PySem.W.keepIn X.K (.ref f)=true)(hb:Binds X.K fd ps ds)(hd:Vals dvs ds)(hx:Passes CX X E)
  (ha:PA X (e::es) t) (hdb:(x==("__debug__" : Str))=false:=by decide) (he:starEach (e::es) X.env=(false,eval e X.env)::starEach es X.env:=by rfl) (hpl:(backTo pos (starEach es X.env)).any (·.1)=false:=by rfl):
  PE X (.Call (.Name x p) (e::es) [] pos) (Xas sp dvs E t):=by
 intro pins s σ H Q I h;refine wpAny_Call_Name_kw (Xae I hg hm ?_ hdb);refine PySem.W.callWith_K (h₀:=X.base) I.ok.mod.kin hk (thn (ha pos pins s σ H _ I h) λus s1 ⟨vs,H1,I1,r,q⟩=>⟨I1.kIn,?_⟩) he hpl;exact Xf7 F hr hb hd hx I1 r q
structure Mk (K:PySem.W.Frag) (C f:Addr):Prop where
 makes:PySem.W.makesIn K C=true
 init:PySem.W.findIn K (.ref C) "__init__" = some (some (.ref f))
 fn:PySem.W.isFn K (.ref f)=true
 kp:PySem.W.keepIn K (.ref C)=true
end
def PK (X:Cx) (kws:List Keyword) (t:TA):Prop:=
 ∀(pos:Pos) (pins:List (Addr×Obj)) (s:Shared) (σ:St) (H:Hp) (Q:List V->Hp->Prop),Inv X pins σ H s->t σ H Q->wpAny (model X.prog X.w) X.A (evalAll ((backToKw pos (keywordEach kws X.env)).map (·.2))) (AP X pins σ Q) X.xe s
section
variable {X:Cx}{CX:CXT}{k:Nat}{f C:Addr}{fd:FuncData}{ps ks:List Str}{sp:Sp}{E:XK}{x m:Str}{p pos apos kpos:Pos}{e o:Expr}{es:List Expr}{kws:List Keyword}{te ta:TE}{t tk:TA}{nm:Option Str}
theorem Xf9:PK X [] Gg:=λ_ _ _ _ H Q I h=>wpAny_evalAll_nil ⟨[],H,I,.nil,h⟩
theorem Xga(ha:PE X e te)(hr:PK X kws t):PK X (⟨nm,e,kpos⟩::kws) (Xar te t):=by
 intro pos pins s σ H Q I h
 show wpAny _ _ (evalAll ((do let v <-eval e X.env;standAt pos;pure v)::(backToKw pos (keywordEach kws X.env)).map (·.2))) _ _ s;refine wpAny_evalAll_cons (O8 (thn (ha pins s σ H _ I h) λu s1 ⟨x,H1,I1,r1,q1⟩=>O8 (wpAny_standAt (O9 ?_))));exact thn (hr pos pins s1 σ H1 _ I1 q1) λus s2 ⟨xs,H2,I2,r2,q2⟩=>⟨x::xs,H2,I2,.cons r1 r2,q2⟩
structure KBinds (K:PySem.W.Frag) (fd:FuncData) (ps ks:List Str) (g:List Value->List Value->List Value) (gV:List V->List V->List V):Prop where
 to:∀(s:Shared) (us ws:List Value),K.In s.heap->(g us ws).length=ps.length->BindsTo s fd ⟨us,ks.zip ws⟩ (ps.zip (g us ws))
 rel:∀{vs:List V} {us:List Value} {zs:List V} {ws:List Value},Vals vs us->Vals zs ws->Vals (gV vs zs) (g us ws)
variable {g:List Value->List Value->List Value}{gV:List V->List V->List V}
end
structure FnScope (N P:List Str) (sc:Scope):Prop where
 kind:sc.kind = .function
 co:sc.isCoroutine=false
 gen:sc.isGenerator=false
 nd:N.Nodup
 pre:N.take P.length=P
 par:∀x∈P,sc.names.lookup x=some .local\/sc.names.lookup x=some .cell
 nofree:∀y∈sc.names,y.2 ≠ .free
theorem Xat{kindOf:Str->Option NameKind}{x:Str}:∀{binds:List (Str×Value)} {m:Str->Option Value},(∀v,(x,v)∉binds)->bindL kindOf binds m x=m x
 | [],_,_=>rfl
 | (n,v)::r,m,h=>by
  unfold bindL;rw[Xat λw hw=>h w (Lb _ hw)];split
  ·have:x≠n:=by rintro rfl;exact h v Ld
   simp[this]
  ·rfl
theorem Xau{kindOf:Str->Option NameKind}{x:Str}:∀{binds:List (Str×Value)} {m:Str->Option Value},(∀v,(x,v)∉binds)->bindC kindOf binds m x=m x
 | [],_,_=>rfl
 | (n,v)::r,m,h=>by
  unfold bindC;rw[Xau λw hw=>h w (Lb _ hw)];split
  ·rfl
  ·have:x≠n:=by rintro rfl;exact h v Ld
   simp[this]
theorem Xav{kindOf:Str->Option NameKind}{x:Str}{v:Value}:∀{P:List Str} {vs:List Value} {i:Nat} {m:Str->Option Value},P.Nodup->P[i]? = some x->vs[i]? = some v->kindOf x=some .local ->
  bindL kindOf (P.zip vs) m x=some v
 | [],_,_,_,_,h,_,_=>by simp at h
 | _::_,[],_,_,_,_,h,_=>by simp at h
 | p::P,w::vs,0,m,nd,h1,h2,hk=>by
  simp at h1 h2;subst h1;subst h2;show bindL kindOf ((p,w)::P.zip vs) m p=_;unfold bindL;rw[Xat λv hv=>(Ma.mp nd).1 (Oo hv).1,Pc hk];simp
 | p::P,w::vs,i+1,m,nd,h1,h2,hk=>by
  show bindL kindOf ((p,w)::P.zip vs) m x=_;unfold bindL;exact Xav (i:=i) (Ma.mp nd).2 (by simpa using h1) (by simpa using h2) hk
theorem Xaw{kindOf:Str->Option NameKind}{x:Str}{v:Value}:∀{P:List Str} {vs:List Value} {i:Nat} {m:Str->Option Value},P.Nodup->P[i]? = some x->vs[i]? = some v->kindOf x≠some .local ->
  bindC kindOf (P.zip vs) m x=some v
 | [],_,_,_,_,h,_,_=>by simp at h
 | _::_,[],_,_,_,_,h,_=>by simp at h
 | p::P,w::vs,0,m,nd,h1,h2,hk=>by
  simp at h1 h2;subst h1;subst h2;show bindC kindOf ((p,w)::P.zip vs) m p=_;unfold bindC;rw[Xau λv hv=>(Ma.mp nd).1 (Oo hv).1,Pb hk];simp
 | p::P,w::vs,i+1,m,nd,h1,h2,hk=>by
  show bindC kindOf ((p,w)::P.zip vs) m x=_;unfold bindC;exact Xaw (i:=i) (Ma.mp nd).2 (by simpa using h1) (by simpa using h2) hk
def start (N:List Str) (vs:List V):St:=vs.map some++List.replicate (N.length - vs.length) none
def Bz (CX:CXT) (P:Program) (w:World) (K:PySem.W.Frag) (mg:Str->Option Value) (base:Heap) (N:List Str) (qual:Str) (scope:Scope) (f:Addr) (cd:Value) (A:Around) (outer:List Env) (s:Shared) (H:Hp) (E:XK):Cx where
 prog:=P
 w:=w
 K:=K
 mg:=mg
 base:=base
 A:=A.deeper (envOfC qual scope s.heap.objs.size f cd)
 N:=N
 s₀:=s
 H₀:=H
 env:=envOfC qual scope s.heap.objs.size f cd
 outer:=outer
 stack:=envOfC qual scope s.heap.objs.size f cd::outer
 ex:=[]
 calm:=true
 fn:=λ_=>true
 pn:=[]
 xe:=λe s'=>wpAny (model P w) (A.deeper (envOfC qual scope s.heap.objs.size f cd)) (leaving (envOfC qual scope s.heap.objs.size f cd) e) (λ_ s''=>CX outer H s E e s'') (λe' s''=>CX outer H s E e' s'') s'
theorem Xax{sc:Scope}{n:Nat}{x:Str}(h:sc.names.lookup x=some .cell):∃c,(cellsFrom n sc.names []).lookup x=some c:=by
 have q:=PySem.W.cellsFrom_some sc.names n [] (.inl h);exact M6.mp q
theorem Xay{CX:CXT}{P:Program}{w:World}{K:PySem.W.Frag}{mg:Str->Option Value}{base:Heap}{N ps:List Str}{qual:Str}{scope:Scope}{f:Addr}{cd:Value}{A:Around}{outer:List Env}{s s1:Shared}{H:Hp}{E:XK}{us:List Value}{vs:List V}
  (S:FnScope N ps scope) (hd:A.handled=none) (e0:Env0 P w K mg base A outer s H) (hl:vs.length=ps.length) (r:Vals vs us)
  (x:InCallC s s.heap.objs.size (bindL (envOfC qual scope s.heap.objs.size f cd).kindOf (ps.zip us) λ_=>none) (cellsFrom (s.heap.objs.size+1) scope.names []) (bindC (envOfC qual scope s.heap.objs.size f cd).kindOf (ps.zip us) λ_=>none) s1):
  Inv (Bz CX P w K mg base N qual scope f cd A outer s H E) [] (start N vs) H s1:=by
 have hpl:ps.length<=N.length:=by have:=congrArg List.length S.pre;rw[Mf] at this;omega
 obtain⟨h1,tk,rfl,hk⟩:=x.done;have noA:∀b:Addr,b∉(Bz CX P w K mg base N qual scope f cd A outer s H E).ex:=λb z=>absurd (show b∈([]:List Addr) from z) (by simp);refine⟨⟨e0.mod,S.kind,rfl,rfl,K9 _,λy z c h1 h2=>?_,λy hy=>?_,λy c _ h=>?_,λ_=>hd,Around.frames_deeper e0.frames,.inr ⟨rfl,rfl⟩,λb z=>absurd z (noA b),e0.bs,e0.bsz,λb _ _=>noA b,λb z=>absurd z (noA b),e0.funs,e0.frf⟩,
  rfl,e0.bare,Un.kept hk,⟨_,x.toInCall.ns,λi y v h1 h2 h3=>?_⟩,λy c h=>⟨_,x.cell y c h⟩,e0.hok.fresh (K9 _),λy c h=>?_,λp hp=>absurd (show p∈([]:List (Addr×Obj)) from hp) (by simp),e0.hok.kept hk,?_⟩
 ·exact name_of_addr x.apart (PySem.mem_of_lookup h1) (PySem.mem_of_lookup h2)
 ·have hy:scope.names.lookup y=some .cell\/scope.names.lookup y=some .free:=hy;rcases hy with hy | hy
  ·exact Xax hy
  ·exact absurd rfl (S.nofree _ (PySem.mem_of_lookup hy))
 ·exact Nx (x.above y c (PySem.mem_of_lookup h))
 ·have hi:i<vs.length:=by
   unfold start at h2;by_cases hi:i<vs.length
   ·exact hi
   ·rw[Mm (by simpa using hi)] at h2;rw[List.getElem?_replicate] at h2;split at h2<;>cases h2
  have ha:vs[i]? = some v:=by
   unfold start at h2;rw[Mu (by simpa using hi),Lx] at h2;cases e:vs[i]? with
   | none=>rw[e] at h2;cases h2
   | some a=>rw[e] at h2;cases h2;rfl
  obtain⟨u,hu,rv⟩:=r.get ha;have hp:ps[i]? = some y:=by
   rw[<-S.pre,List.getElem?_take_of_lt (by omega)];exact h1
  have ndP:ps.Nodup:=by rw[<-S.pre];exact S.nd.sublist (Nj _ _)
  refine⟨u,rv,?_⟩;rcases S.par y (N2 hp) with k | k
  ·exact .inl ⟨k,Xav ndP hp hu k⟩
  ·obtain⟨c,e⟩:=Xax (n:=s.heap.objs.size+1) k;refine .inr ⟨.inl k,c,e,?_⟩;have q:=x.cell y c e;rw[Xaw ndP hp hu (by show scope.names.lookup y≠_;rw[k];decide)] at q;exact q
 ·exact e0.hok.fresh (Nx (x.above y c (PySem.mem_of_lookup h)))
 ·unfold start;show _=N.length;rw[Lj,K8,List.length_replicate];omega
theorem Ik{CX:CXT}{P:Program}{w:World}{K:PySem.W.Frag}{mg:Str->Option Value}{base:Heap}{k:Nat}{f:Addr}{name qual:Str}{params:Arguments}{body:List Stmt}{scope:Scope}{dV kV doc pm cdv ct oc:Value}{an od:Option Addr}
  {osl:Array (Option Value)} {N ps:List Str} {sp:Sp} (lk:K.lookup f=some ⟨oc,od,.func (PySem.W.fnOf name qual params body scope dV kV doc pm an cdv ct),osl⟩) (hcd:PySem.W.codeIn K cdv qual=true) (S:FnScope N ps scope)
  (len:∀vs H Q E,sp vs H Q E->vs.length=ps.length)
  (hbody:∀(A:Around) (outer:List Env) (s:Shared) (H:Hp) (vs:List V) (Q:VK) (E:XK),Room k (A.deeper (envOfC qual scope s.heap.objs.size f cdv))->sp vs H Q E ->
   ∃t,PSs (Bz CX P w K mg base N qual scope f cdv A outer s H E) body t/\t {nx:=λ_ H'=>Q .non H',rt:=Q} (start N vs) H):
  FnOk P w K mg base CX (k+1) f (PySem.W.fnOf name qual params body scope dV kV doc pm an cdv ct) ps sp:=by
 refine⟨len,λA outer s H args us vs Q E hr e0 hb r hsp=>?_⟩;have hl:=len _ _ _ _ hsp;have KX:K.In s.heap:=e0.mod.kin.keeps λb o e=>(e0.bs b o e).1;have lim:s.heap.NoLimit:=e0.mod.nolimit.keeps λb o e=>(e0.bs b o e).1;have hkind:∀y∈ps.zip us,scope.names.lookup y.1=some .local\/(scope.names.lookup y.1=some .cell/\((cellsFrom (s.heap.objs.size+1) scope.names []).lookup y.1).isSome=true):=λ⟨n,v⟩ hy=>by
  rcases S.par n (Oo hy).1 with q | q
  ·exact .inl q
  ·exact .inr ⟨q,PySem.W.cellsFrom_some _ _ _ (.inl q)⟩
 refine codeAny_call_function hr.depth (KX _ _ lk) rfl S.co S.gen rfl (PySem.W.codeRec_of KX hcd) (hb _ _ _ _ ?_);refine wpAny_newFunctionEnv_cells S.kind hkind λenv he s1 x=>?_;subst he;refine⟨lim.keeps x.toInCall.keep,codeAny_func ?_⟩;obtain⟨t,ht,hq⟩:=hbody A outer s H vs Q E (hr.deeper _) hsp;have I:Inv (Bz CX P w K mg base N qual scope f cdv A outer s H E) [] (start N vs) H s1:=Xay S hr.hd e0 hl r x;refine wpAny_mono (ht [] s1 (start N vs) H _ I hq) (λfl s' hs=>?_) λe s' hs=>hs;have fin:∀{σ':St} {H':Hp} {v:V} {u:Value},Inv (Bz CX P w K mg base N qual scope f cdv A outer s H E) [] σ' H' s'->Ag v u->Q v H'->CE outer P w H s Q u s':=
  λ{σ' H' v u} J rv q=>⟨v,H',J.os,J.bare,J.base,J.hok,rv,q⟩
 cases fl with
 | ret u=>
  obtain⟨v, σ',H',J,rv,q⟩:=hs;exact fin J rv q
 | next=>
  obtain⟨σ',H',J,q⟩:=hs;exact fin (v:=V.non) (u:=Value.none) J rfl q
 | brk=>
  obtain⟨_,_,_,q⟩:=hs;exact False.elim q
 | cont=>
  obtain⟨_,_,_,q⟩:=hs;exact False.elim q
section
variable {X:Cx}{x:Str}{p pos:Pos}{e:Expr}{es:List Expr}{t:TA}{id T:String}{r:List V->Hp->VK->Prop}
def tCB (r:List V->Hp->VK->Prop) (t:TA):TE:=fun σ H Q=>t σ H λvs H1=>r vs H1 Q
theorem Be(hc:Cj X (.builtin id) r)(hg:Gl X x)(hm:X.mg x=none)(hv:bootBuiltins x=some (.builtin id))(ha:PA X (e::es) t)(hn:x ≠ "__name__" := by decide)(hdb:(x==("__debug__" : Str))=false:=by decide)
  (he:starEach (e::es) X.env=(false,eval e X.env)::starEach es X.env:=by rfl) (hpl:(backTo pos (starEach es X.env)).any (·.1)=false:=by rfl):PE X (.Call (.Name x p) (e::es) [] pos) (tCB r t):=by
 intro pins s σ H Q I h;refine wpAny_Call_Name_kw (E9 I hg hm hv ?_ hn hdb);exact PyProof.Rows.callWith_builtin1 (thn (ha pos pins s σ H _ I h) λus s1 ⟨vs,H1,I1,r1,q1⟩=>hc pins s1 σ H1 vs us Q I1 r1 q1) he hpl
theorem C3(hc:Cj X (.type T) r)(hg:Gl X x)(hm:X.mg x=none)(hv:bootBuiltins x=some (.type T))(ha:PA X (e::es) t)(hn:x ≠ "__name__" := by decide)(hdb:(x==("__debug__" : Str))=false:=by decide)
  (he:starEach (e::es) X.env=(false,eval e X.env)::starEach es X.env:=by rfl) (hpl:(backTo pos (starEach es X.env)).any (·.1)=false:=by rfl):PE X (.Call (.Name x p) (e::es) [] pos) (tCB r t):=by
 intro pins s σ H Q I h;refine wpAny_Call_Name_kw (E9 I hg hm hv ?_ hn hdb);exact PyProof.Rows.callWith_type1 (thn (ha pos pins s σ H _ I h) λus s1 ⟨vs,H1,I1,r1,q1⟩=>hc pins s1 σ H1 vs us Q I1 r1 q1) he hpl
end
end L2
namespace HT
open PySem PyProof.Rows
def Xgb:List Int->List Int->Bool
 | [],[]=>false
 | [],_::_=>true
 | _::_,[]=>false
 | x::xs,y::ys=>if x=y then Xgb xs ys else decide (x<y)
section
open PySem.SeqAt
open PySem.AutoSeq1 (wpAny_loadPart')
open PySem.MeetsSeq PySem.MeetsSeq2 PySem.MeetsSeq3
end
section
variable {prog:Program}{w:World}{A:Around}{E:Value->Shared->Prop}{s:Shared}
def sIx (n d:Nat):Option Int->Nat
 | none=>d
 | some v=>if v<0 then (v+(n:Int)).toNat else min v.toNat n
theorem sIx_none(n d:Nat):sIx n d none=d:=rfl
theorem sIx_nat(n d k:Nat):sIx n d (some (k:Int))=min k n:=by
 show (if (k:Int)<0 then ((k:Int)+(n:Int)).toNat else min (k:Int).toNat n)=min k n;rw[Pb (by omega),Nk]
end
end HT
namespace L2
open PySem PySem.Spec PyProof.Rows
abbrev TO:=St->Hp->(Option Int->Hp->Prop)->Prop
def PO (X:Cx) (e:Option Expr) (t:TO):Prop:=
 ∀(pins:List (Addr×Obj)) (s:Shared) (σ:St) (H:Hp) (Q:Option Int->Hp->Prop),Inv X pins σ H s->t σ H Q ->
  wpAny (model X.prog X.w) X.A (evalPart e X.env) (λu s'=>∃o H',Inv X pins σ H' s'/\IsPart u o/\Q o H') X.xe s
def Xgc:TO:=λ_ H Q=>Q none H
def Xgd (t:TE):TO:=fun σ H Q=>t σ H λx H1=>∃i,x = .int i/\Q (some i) H1
section
variable {X:Cx}{e:Expr}{te:TE}{lo hi:Option Expr}{tl th:TO}{pos p2:Pos}
theorem Dg:PO X none Xgc:=by
 intro pins s σ H Q I h;rw[evalPart_none];exact O9 ⟨none,H,I,.none,h⟩
theorem Cu(h:PE X e te):PO X (some e) (Xgd te):=by
 intro pins s σ H Q I hw;rw[evalPart_some];refine thn (h pins s σ H _ I hw) λu s1 ⟨x,H1,I1,r1,q1⟩=>?_;obtain⟨i,rfl,q⟩:=q1;obtain⟨t,rfl⟩:=r1;exact⟨some i,H1,I1,.int i t,q⟩
def SlR (X:Cx) (r:V->Option Int->Option Int->Hp->VK->Prop):Prop:=
 ∀(pins:List (Addr×Obj)) (s:Shared) (σ:St) (H:Hp) (x:V) (v vl vu:Value) (lo hi:Option Int) (sl:Addr) (Q:VK),Inv X pins σ H s->Ag x v->s.heap.IsSliceOf sl vl vu .none->IsPart vl lo->IsPart vu hi->r x lo hi H Q ->
  ∃T id,typeLookup (.type T) "__getitem__" = pure (some (.builtin id))/\s.TypeIs v T/\wpAny (model X.prog X.w) X.A (getItem v (.ref sl)) (EP X pins σ Q) X.xe s
def tSl (r:V->Option Int->Option Int->Hp->VK->Prop) (te:TE) (tl th:TO):TE:=fun σ H Q=>te σ H λx H1=>tl σ H1 λl H2=>th σ H2 λu H3=>r x l u H3 Q
theorem C4{r:V->Option Int->Option Int->Hp->VK->Prop}(hr:SlR X r)(he:PE X e te)(hl:PO X lo tl)(hu:PO X hi th):PE X (.Subscript e (.Slice lo hi none p2) pos) (tSl r te tl th):=by
 intro pins s σ H Q I h;refine Subscript_ (thn (he pins s σ H _ I h) λv s1 ⟨x,H1,I1,r1,q1⟩=>?_);refine wpAny_Slice (thn (hl pins s1 σ H1 _ I1 q1) λvl s2 ⟨l,H2,I2,pl,q2⟩=>thn (hu pins s2 σ H2 _ I2 q2) λvu s3 ⟨u,H3,I3,pu,q3⟩=>?_);rw[evalPart_none];refine O9 ?_;have I4:Inv X pins σ H3 {s3 with heap:=s3.heap.push {cls:=.type "slice",data:=.fields #[vl,vu,.none]} }:=I3.kept (t':=s3.toks) λb ob q=>Pi _ q;obtain⟨T,id,hT,ht,hg⟩:=hr pins {s3 with heap:=s3.heap.push {cls:=.type "slice",data:=.fields #[vl,vu,.none]} } σ H3 x v vl vu l u s3.heap.objs.size Q I4 r1 (Heap.IsSliceOf.new ..) pl pu q3;show wpAny (model X.prog X.w) X.A (subscriptTail e (.Slice lo hi none p2) v (.ref s3.heap.objs.size)) (EP X pins σ Q) X.xe {s3 with heap:=s3.heap.push {cls:=.type "slice",data:=.fields #[vl,vu,.none]} };exact tail_any (ops:=[.ref s3.heap.objs.size,v]) ht hT hg (by with_unfolding_all rfl)
def B3 (xs:List V) (lo hi:Option Int):List V:=(xs.drop (HT.sIx xs.length 0 lo)).take (HT.sIx xs.length xs.length hi - HT.sIx xs.length 0 lo)
theorem Xge(xs:List V)(lo hi:Option Int):(B3 xs lo hi).length<=xs.length:=by
 unfold B3;rw[Mf,List.length_drop];omega
def rSlT (K:PySem.W.Frag):V->Option Int->Option Int->Hp->VK->Prop:=λx lo hi H Q=>∃a xs,x = .ref a/\SqT K H a xs /\
 ¬(HT.sIx xs.length 0 lo=0/\HT.sIx xs.length xs.length hi=xs.length)/\∀p,H p=none->Q (.ref p) (upd H p (.tup (B3 xs lo hi)))
def rCatT (K:PySem.W.Frag):R2:=λx y H Q=>∃a b xs ys,x = .ref a/\y = .ref b/\SqT K H a xs/\SqT K H b ys/\xs≠[]/\xs.length+ys.length<=sizeLine /\
 (ys=[]->Q (.ref a) H)/\(ys≠[]->∀p,H p=none->Q (.ref p) (upd H p (.tup (xs++ys))))
end
def ixN (n:Nat) (i:Int):Option Nat:=if 0<=i then (if i<n then some i.toNat else none) else if -(n:Int)<=i then some (i+n).toNat else none
def atI {α : Type} (xs:List α) (i:Int):Option α:=(ixN xs.length i).bind λj=>xs[j]?
theorem Xaz{n:Nat}{i:Int}{j:Nat}(h:ixN n i=some j):seqIndex? i n=some j/\j<n /\ -(n:Int)<=i/\i<n:=by
 unfold ixN at h;by_cases h0:0<=i
 ·rw[Pc h0] at h;by_cases h1:i<n
  ·rw[Pc h1] at h;have e:i.toNat=j:=Ly h;exact⟨by rw[seqIndex_of h0 h1,e],by omega,by omega,h1⟩
  ·rw[Pb h1] at h;cases h
 ·rw[Pb h0] at h;by_cases h1 : -(n:Int)<=i
  ·rw[Pc h1] at h;have e:(i+n).toNat=j:=Ly h;exact⟨by rw[seqIndex_neg (by omega) h1,e],by omega,h1,by omega⟩
  ·rw[Pb h1] at h;cases h
theorem Il{α : Type}{xs:List α}{i:Int}{v : α}(h:atI xs i=some v):∃j,seqIndex? i xs.length=some j/\xs[j]? = some v/\j<xs.length /\ -(xs.length:Int)<=i/\i<xs.length:=by
 unfold atI at h;cases e:ixN xs.length i with
 | none=>rw[e] at h;cases h
 | some j=>
  rw[e] at h;obtain⟨h1,h2,h3,h4⟩:=Xaz e;exact⟨j,h1,h,h2,h3,h4⟩
theorem En{α : Type}{xs:List α}{j:Nat}{v : α}(h:xs[j]? = some v):atI xs (j:Int)=some v:=by
 have hj:j<xs.length:=(L3.mp h).1;have e:ixN xs.length (j:Int)=some j:=by
  unfold ixN;rw[Pc (by omega),Pc (by omega)];simp
 unfold atI;rw[e];exact h
def Xgf (b:Expr):Prop:=∀o i,subscripted b false o i=operate [o,i] (getItem o i)
def IxR (X:Cx) (r:R2):Prop:=
 ∀(value slice:Expr) (pins:List (Addr×Obj)) (s:Shared) (σ:St) (H:Hp) (x y:V) (v u:Value) (Q:VK),Inv X pins σ H s->Ag x v->Ag y u->r x y H Q ->
  subscripted slice false v u=operate [v,u] (getItem v u)->wpAny (model X.prog X.w) X.A (subscriptTail value slice v u) (EP X pins σ Q) X.xe s
def MtR (X:Cx) (id:String) (r:V->List V->Hp->VK->Prop):Prop:=
 ∀(pins:List (Addr×Obj)) (s:Shared) (σ:St) (H:Hp) (x:V) (xs:List V) (v:Value) (us:List Value) (Q:VK),Inv X pins σ H s->Ag x v->Vals xs us->r x xs H Q ->
  wpAny (model X.prog X.w) X.A (call (.builtin id) (v::us)) (EP X pins σ Q) X.xe s
section
variable {X:Cx}{a b:Expr}{ta tb:TE}{pos:Pos}
theorem Ay{r:R2}(hr:IxR X r)(ha:PE X a ta)(hb:PE X b tb)(hs:Xgf b):PE X (.Subscript a b pos) (tOp r ta tb):=by
 intro pins s σ H Q I h;exact Subscript_ (binT ha hb I h λv u s2 x y H2 I2 rx ry q=>hr a b pins s2 σ H2 x y v u Q I2 rx ry q (hs _ _))
def Xa0 (K:PySem.W.Frag):R2:=λx y H Q=>∃p xs i v,x = .ref p/\y = .int i/\SqL K H p xs/\atI xs i=some v/\Q v H
def Im (K:PySem.W.Frag):R2:=λx y H Q=>∃p xs i v,x = .ref p/\y = .int i/\SqT K H p xs/\atI xs i=some v/\Q v H
def Xa1:R2:=λx y H Q=>∃z i c,x = .str z/\y = .int i/\z.length<=sizeLine/\atI z.cps.toList i=some c/\Q (.str ⟨#[c]⟩) H
theorem Bg:IxR X (Xa0 X.K):=by
 intro value slice pins s σ H x y v u Q I rx ry h hs;obtain⟨p,xs,i,z,rfl,rfl,hq,he,q⟩:=h;cases rx;obtain⟨t,rfl⟩:=ry;obtain⟨its,r,pl,hz⟩:=I.list hq;obtain⟨j,h1,h2,h3,h4,h5⟩:=Il he;obtain⟨w,ew,rw'⟩:=r.get h2;have hl:=r.length;have hn:=line63;have fin:EP X pins σ Q w s:=⟨z,H,I,rw',q⟩;by_cases h0:0<=i
 ·have hj:i.toNat=j:=by
   rw[seqIndex_of h0 h5] at h1;exact Ly h1
  exact item_listR pl.isList h0 (by omega) (by rw[hj];simpa using ew) fin hs
 ·have hj:(i+(its.toArray.size:Int)).toNat=j:=by
   rw[seqIndex_neg (by omega) h4] at h1;rw[Lm,<-hl];exact Ly h1
  exact subscriptTail_builtinR (x:=w) pl.isList.typeIs slot_list_getitem.lookup
   (wpAny_getItem_list_neg (Q:=λr s'=>r=w/\EP X pins σ Q r s') pl.isList (by omega) (by rw[Lm]<;>omega) (by omega) (by rw[hj];simpa using ew) ⟨rfl,fin⟩) hs
theorem Io:IxR X (Im X.K):=by
 intro value slice pins s σ H x y v u Q I rx ry h hs;obtain⟨p,xs,i,z,rfl,rfl,hq,he,q⟩:=h;cases rx;obtain⟨t,rfl⟩:=ry;obtain⟨its,r,pl,hz⟩:=I.tuple hq;obtain⟨j,h1,h2,h3,h4,h5⟩:=Il he;obtain⟨w,ew,rw'⟩:=r.get h2;have hl:=r.length;have hn:=line63;have fin:EP X pins σ Q w s:=⟨z,H,I,rw',q⟩;exact subscriptTail_builtinR (x:=w) pl.typeIs slot_tuple_getitem.lookup
  (getItem_tuple (j:=j) (Q:=λr s'=>r=w/\EP X pins σ Q r s') pl (by omega) (by omega) (by rw[Lm,<-hl];exact h1) (by simpa using ew) ⟨rfl,fin⟩) hs
theorem Xgg:IxR X Xa1:=by
 intro value slice pins s σ H x y v u Q I rx ry h hs;obtain⟨z,i,c,rfl,rfl,hz,he,q⟩:=h;obtain⟨t,rfl⟩:=rx;obtain⟨t',rfl⟩:=ry;obtain⟨j,h1,h2,h3,h4,h5⟩:=Il he;have hl:z.cps.toList.length=z.length:=by simp[Str.length]
 rw[hl] at h1 h4 h5;have hn:=line63;exact tail_any (typeIs_str s z t) slot_str_getitem.lookup (getItem_str (c:=c) (by
  have e1:decide (i < -(2 ^ 63:Int))=false:=Pe (by omega);have e2:decide (i ≥ 2 ^ 63)=false:=Pe (by omega);rw[e1,e2,Bool.or_false]) (by rw[h1];simpa using h2) ⟨.str ⟨#[c]⟩,H,I.tok _,⟨_,rfl⟩,q⟩) hs
def rIx (K:PySem.W.Frag):R2:=λx y H Q=>Xa0 K x y H Q\/Im K x y H Q\/Xa1 x y H Q
theorem Xgh(its:List Value)(n j:Nat)(u:Value):Obj.mapSeq (·.setIfInBounds j u) {cls:=.type "list",data:=.seq its.toArray n} = {cls:=.type "list",data:=.seq (its.set j u).toArray n}:=by
 simp[Obj.mapSeq]
theorem Inv.lst{pins:List (Addr×Obj)}{σ:St}{H:Hp}{s:Shared}{p:Addr}{xs:List V}(I:Inv X pins σ H s)(h:H p=some (.lst xs)):
  ∃(its:List Value) (n:Nat),Vals xs its/\s.heap.get? p=some {cls:=.type "list",data:=.seq its.toArray n}/\xs.length<=sizeLine:=by
 obtain⟨z,its,n,r,e⟩:=I.hok p _ h;exact⟨its,n,r,e,z⟩
theorem Inv.lstUpd{pins:List (Addr×Obj)}{σ:St}{H:Hp}{s:Shared}{p:Addr}{xs ys:List V}{its its':List Value}{n n':Nat}{f:Obj->Obj}(I:Inv X pins σ H s)(h:H p=some (.lst xs))
  (ho:s.heap.get? p=some {cls:=.type "list",data:=.seq its.toArray n}) (hf:f {cls:=.type "list",data:=.seq its.toArray n} = {cls:=.type "list",data:=.seq its'.toArray n'}) (r:Vals ys its') (hz:ys.length<=sizeLine) (t:Nat):
  Inv X pins σ (upd H p (.lst ys)) {s with heap:=s.heap.update p f,toks:=t}:=by
 have e:(s.heap.update p f).get? p=some {cls:=.type "list",data:=.seq its'.toArray n'}:=by
  rw[Heap.get?_update_self f ho (by rw[hf]<;>rfl),hf]
 refine I.write (x:=p) (e:=p) (by rw[h];trivial) (.inl rfl) (λb u hb q=>(Heap.get?_update_other _ _ (Ne.symm hb)).trans q) ⟨_,e⟩ ?_;exact⟨hz,its',n',r,e⟩
def Xgi:V->V->V->Hp->(Hp->Prop)->Prop:=λo i v H Q=>∃p xs k j,o = .ref p/\i = .int k/\H p=some (.lst xs)/\ixN xs.length k=some j/\Q (upd H p (.lst (xs.set j v)))
theorem D8:PSet X Xgi:=by
 intro pins s σ H o i v ov iv u Q I ro ri rv h;obtain⟨p,xs,k,j,rfl,rfl,hp,hj,q⟩:=h;cases ro;obtain⟨t,rfl⟩:=ri;obtain⟨its,n,r,ho,hz⟩:=I.lst hp;obtain⟨h1,h2,h3,h4⟩:=Xaz hj;have hl:=r.length;have hn:=line63;have I':Inv X pins σ (upd H p (.lst (xs.set j v))) {s with heap:=s.heap.update p (Obj.mapSeq (·.setIfInBounds j u))}:=
  I.lstUpd hp ho (Xgh its n j u) (r.set rv j) (by rw[List.length_set];exact hz) s.toks
 by_cases h0:0<=k
 ·have hk:k.toNat=j:=by
   rw[seqIndex_of h0 h4] at h1;exact Ly h1
  exact PySem.W.ki_setAt ho h0 (by omega) (by rw[Lm,<-hl];exact h4) (by rw[hk];exact⟨_,I',q⟩)
 ·have hk:(k+(its.toArray.size:Int)).toNat=j:=by
   rw[seqIndex_neg (by omega) h3] at h1;rw[Lm,<-hl];exact Ly h1
  exact PySem.W.ki_setBack ho (by omega) (by rw[Lm,<-hl];exact h3) (by omega) (by rw[hk];exact⟨_,I',q⟩)
theorem Xgj(lo hi:Option Int)(n:Nat):(sliceBounds lo hi none n).1=((HT.sIx n 0 lo:Nat):Int)/\(sliceBounds lo hi none n).2.1=((HT.sIx n n hi:Nat):Int)/\(sliceBounds lo hi none n).2.2=1:=by
 refine⟨?_,?_,rfl⟩
 ·cases lo with
  | none=>simp[sliceBounds,HT.sIx]
  | some i=>
   simp only[sliceBounds,HT.sIx,Option.getD_none,show (1:Int) > 0 by decide,if_true];by_cases h:i<0
   ·simp only[h,if_true]<;>omega
   ·simp only[h,if_false]<;>omega
 ·cases hi with
  | none=>simp[sliceBounds,HT.sIx]
  | some i=>
   simp only[sliceBounds,HT.sIx,Option.getD_none,show (1:Int) > 0 by decide,if_true];by_cases h:i<0
   ·simp only[h,if_true]<;>omega
   ·simp only[h,if_false]<;>omega
theorem Xgk(its:List Value)(lo hi:Option Int):slicePick its.toArray lo hi none=((its.drop (HT.sIx its.length 0 lo)).take (HT.sIx its.length its.length hi - HT.sIx its.length 0 lo)).toArray:=by
 obtain⟨h1,h2,h3⟩:=Xgj lo hi its.toArray.size;unfold slicePick;rw[h1,h2,h3];simp only[sliceRange_one,pick_run,Lm]<;>rfl
def rSlL (K:PySem.W.Frag):V->Option Int->Option Int->Hp->VK->Prop:=λx lo hi H Q=>∃a xs,x = .ref a/\SqL K H a xs/\∀p,H p=none->Q (.ref p) (upd H p (.lst (B3 xs lo hi)))
theorem C5:SlR X (rSlL X.K):=by
 intro pins s σ H x v vl vu lo hi sl Q I rx hs pl pu h;obtain⟨a,xs,rfl,hx,q⟩:=h;cases rx;obtain⟨its,r,ht,hz⟩:=I.list hx;have hlen:=r.length;refine⟨"list",_,slot_list_getitem.lookup,ht.isList.typeIs,?_⟩;refine wpAny_getItem_list_slice ht.isList hs pl pu .none (by simp) ?_ (by rw[Lm]<;>omega);rw[Xgk,<-hlen];refine⟨.ref s.heap.objs.size,_,I.laid (t':=s.toks) (o:=.lst (B3 xs lo hi)) (λb ob q=>Pi _ q) (K9 _) ?_,rfl,q _ (I.hok.fresh (K9 _))⟩;exact⟨L0 (Xge xs lo hi) hz,_,0,(r.drop (HT.sIx xs.length 0 lo)).take (HT.sIx xs.length xs.length hi - HT.sIx xs.length 0 lo),Heap.get?_push_size _ rfl⟩
def Ce:V->Bool
 | .non=>true
 | .bl _=>true
 | .int _=>true
 | .str _=>true
 | _=>false
def eqV:V->V->Bool
 | .non,.non=>true
 | .bl a,.bl b=>a==b
 | .bl a,.int b=>(if a then 1 else 0)==b
 | .int a,.bl b=>a==(if b then 1 else 0)
 | .int a,.int b=>a==b
 | .str a,.str b=>a==b
 | _,_=>false
theorem Xgl{A:Around}{s:Shared}{y x:V}{u v:Value}(ry:Ag y u)(rx:Ag x v)(fy:Ce y=true)(fx:Ce x=true):SeqAt.EqAt A s u v (eqV y x):=by
 cases y with
 | non=>
  cases ry;cases x with
  | non=>cases rx;exact SeqAt.EqAt.same _
  | bl b=>cases rx;exact SeqAt.EqAt.none_bool b
  | int b=>obtain⟨t,rfl⟩:=rx;exact SeqAt.EqAt.none_int b t
  | str b=>obtain⟨t,rfl⟩:=rx;exact SeqAt.EqAt.none_str b t
  | _=>exact absurd (show false=true from fx) Lq
 | bl a=>
  cases ry;cases x with
  | non=>cases rx;exact SeqAt.EqAt.bool_none a
  | bl b=>cases rx;exact SeqAt.EqAt.bool_bool a b
  | int b=>obtain⟨t,rfl⟩:=rx;exact SeqAt.EqAt.bool_int a b t
  | str b=>obtain⟨t,rfl⟩:=rx;exact SeqAt.EqAt.bool_str a b t
  | _=>exact absurd (show false=true from fx) Lq
 | int a=>
  obtain⟨t',rfl⟩:=ry;cases x with
  | non=>cases rx;exact SeqAt.EqAt.int_none a t'
  | bl b=>cases rx;exact SeqAt.EqAt.int_bool a t' b
  | int b=>obtain⟨t,rfl⟩:=rx;exact SeqAt.EqAt.int_int a t' b t
  | str b=>obtain⟨t,rfl⟩:=rx;exact SeqAt.EqAt.int_str a t' b t
  | _=>exact absurd (show false=true from fx) Lq
 | str a=>
  obtain⟨t',rfl⟩:=ry;cases x with
  | non=>cases rx;exact SeqAt.EqAt.str_none a t'
  | bl b=>cases rx;exact SeqAt.EqAt.str_bool a t' b
  | int b=>obtain⟨t,rfl⟩:=rx;exact SeqAt.EqAt.str_int a t' b t
  | str b=>obtain⟨t,rfl⟩:=rx;exact SeqAt.EqAt.str_str a t' b t
  | _=>exact absurd (show false=true from fx) Lq
 | _=>exact absurd (show false=true from fy) Lq
def eqU (x:V) (u:Value):Bool:=match u with
 | .none=>eqV .non x
 | .bool b=>eqV (.bl b) x
 | .int i _=>eqV (.int i) x
 | .str z _=>eqV (.str z) x
 | _=>false
theorem Ip{x y:V}{u:Value}(r:Ag y u)(f:Ce y=true):eqU x u=eqV y x:=by
 cases y with
 | non=>cases r;rfl
 | bl b=>cases r;rfl
 | int i=>obtain⟨t,rfl⟩:=r;rfl
 | str z=>obtain⟨t,rfl⟩:=r;rfl
 | _=>exact absurd (show false=true from f) Lq
theorem Fd{x:V}:∀{xs:List V} {us:List Value},Vals xs us->xs.all Ce=true->us.any (eqU x)=xs.any λy=>eqV y x
 | _,_,.nil,_=>rfl
 | y::xs,u::us,.cons r t,f=>by
  rw[O5,Ln] at f;rw[Ol,Ol,Ip r f.1,Fd t f.2]
theorem Eo{A:Around}{s:Shared}{x:V}{v:Value}(rx:Ag x v)(fx:Ce x=true):∀{xs:List V} {us:List Value},Vals xs us->xs.all Ce=true->∀u∈us,SeqAt.EqAt A s u v (eqU x u)
 | _,_,.nil,_=>λu hu=>by cases hu
 | y::xs,u::us,.cons r t,f=>λu' hu=>by
  rw[O5,Ln] at f;rcases Lk.mp hu with rfl | hu
  ·rw[Ip r f.1];exact Xgl r rx f.1 fx
  ·exact Eo rx fx t f.2 u' hu
def inV (x:V) (xs:List V):Bool:=xs.any λy=>eqV y x
def rIn (K:PySem.W.Frag) (neg:Bool):R2:=λx y H Q=>∃p xs,y = .ref p/\(SqL K H p xs\/SqT K H p xs)/\Ce x=true/\xs.all Ce=true/\Q (.bl (if neg then !inV x xs else inV x xs)) H
theorem Xgm:OpR X (compareOp .In) (rIn X.K false):=by
 intro pins s σ H x y v u Q I rx ry h;obtain⟨p,xs,rfl,hq,fx,fs,q⟩:=h;cases ry;rcases hq with hq | hq
 ·obtain⟨its,r,pl,hz⟩:=I.list hq;refine SeqAt.in_listAt (eqU x) pl.isList (λw hw=>Eo rx fx r fs w (by simpa using hw)) ⟨.bl _,H,I,rfl,?_⟩;rw[show its.toArray.any (eqU x)=its.any (eqU x) by simp,Fd r fs];exact q
 ·obtain⟨its,r,pl,hz⟩:=I.tuple hq;refine SeqAt.in_tupleAt (eqU x) pl (λw hw=>Eo rx fx r fs w (by simpa using hw)) ⟨.bl _,H,I,rfl,?_⟩;rw[show its.toArray.any (eqU x)=its.any (eqU x) by simp,Fd r fs];exact q
theorem Xgn:OpR X (compareOp .NotIn) (rIn X.K true):=by
 intro pins s σ H x y v u Q I rx ry h;obtain⟨p,xs,rfl,hq,fx,fs,q⟩:=h;cases ry;rcases hq with hq | hq
 ·obtain⟨its,r,pl,hz⟩:=I.list hq;refine SeqAt.notIn_listAt (eqU x) pl.isList (λw hw=>Eo rx fx r fs w (by simpa using hw)) ⟨.bl _,H,I,rfl,?_⟩;rw[show its.toArray.any (eqU x)=its.any (eqU x) by simp,Fd r fs];exact q
 ·obtain⟨its,r,pl,hz⟩:=I.tuple hq;refine SeqAt.notIn_tupleAt (eqU x) pl (λw hw=>Eo rx fx r fs w (by simpa using hw)) ⟨.bl _,H,I,rfl,?_⟩;rw[show its.toArray.any (eqU x)=its.any (eqU x) by simp,Fd r fs];exact q
theorem Bv:Cj X (.builtin "len") (λxs H Q=>∃p ys,xs=[.ref p]/\(SqL X.K H p ys\/SqT X.K H p ys)/\Q (.int ys.length) H):=by
 intro pins s σ H xs us Q I r h;obtain⟨p,ys,rfl,hq,q⟩:=h;obtain⟨u,rfl,rx⟩:=Ct r;cases rx;have hn:=line63;rcases hq with hq | hq
 ·obtain⟨its,r',pl,hz⟩:=I.list hq;have hlen:=r'.length;exact Calls.call_len_list pl.isList (by simp only[Lm]<;>omega) ⟨.int ys.length,H,I.tok _,⟨s.toks+1,by rw[Lm,hlen]⟩,q⟩
 ·obtain⟨its,r',pl,hz⟩:=I.tuple hq;have hlen:=r'.length;exact len_tuple pl (by simp only[Lm]<;>omega) ⟨.int ys.length,H,I.tok _,⟨s.toks+1,by rw[Lm,hlen]⟩,q⟩
theorem Xgo:Cj X (.type "list") (λxs H Q=>∃p ys,xs=[.ref p]/\(SqL X.K H p ys\/SqT X.K H p ys)/\∀l,H l=none->Q (.ref l) (upd H l (.lst ys))):=by
 intro pins s σ H xs us Q I r h;obtain⟨p,ys,rfl,hq,q⟩:=h;obtain⟨u,rfl,rx⟩:=Ct r;cases rx;have fin:∀(its:List Value),Vals ys its->ys.length<=sizeLine->∀(h':Heap) (c':Nat),(∀b o',s.heap.get? b=some o'->h'.get? b=some o') ->
   h'.get? s.heap.objs.size=some {cls:=.type "list",dict:=none,data:=.seq its.toArray c',slots := #[]}->EP X pins σ Q (.ref s.heap.objs.size) {s with heap:=h'}:=λits r' hz h' c' kp e=>
  ⟨.ref s.heap.objs.size,_,I.laid (t':=s.toks) kp (K9 _) (show A5 X.prog X.w _ h' _ (.lst ys) from ⟨hz,its,c',r',e⟩),rfl,q _ (I.hok.fresh (K9 _))⟩
 rcases hq with hq | hq
 ·obtain⟨its,r',pl,hz⟩:=I.list hq;have hlen:=r'.length;obtain⟨o,ho,hc,n,hd⟩:=pl.isList;exact call_list_seq p (.inl rfl) ho hc hd (λh' c' kp e=>fin its r' hz h' c' kp e) (by simp only[Lm]<;>omega)
 ·obtain⟨its,r',pl,hz⟩:=I.tuple hq;have hlen:=r'.length;obtain⟨o,ho,hc,n,hd⟩:=pl;exact call_list_seq p (.inr rfl) ho hc hd (λh' c' kp e=>fin its r' hz h' c' kp e) (by simp only[Lm]<;>omega)
theorem Xa2:Cj X (.type "tuple") (λxs H Q=>∃p ys,xs=[.ref p]/\((SqL X.K H p ys/\∀l,H l=none->Q (.ref l) (upd H l (.tup ys)))\/(SqT X.K H p ys/\Q (.ref p) H))):=by
 intro pins s σ H xs us Q I r h;obtain⟨p,ys,rfl,h⟩:=h;obtain⟨u,rfl,rx⟩:=Ct r;cases rx;rcases h with ⟨hq,q⟩ | ⟨hq,q⟩
 ·obtain⟨its,r',pl,hz⟩:=I.list hq;have hlen:=r'.length;refine call_tuple_list pl.isList (λh' kp=>?_) (by simp only[Lm]<;>omega);have I1:Inv X pins σ H {s with heap:=h'}:=I.kept (t':=s.toks) kp;have I2:Inv X pins σ (upd H h'.objs.size (.tup ys)) {s with heap:=h'.push {cls:=.type "tuple",data:=.seq its.toArray} }:=
   I1.laid (t':=s.toks) (λb o e=>Pi _ e) (K9 _) (show A5 X.prog X.w _ _ _ (.tup ys) from ⟨hz,its,r',IsTup.new _ _⟩)
  exact⟨.ref h'.objs.size,_,I2,rfl,q _ (I1.hok.fresh (K9 _))⟩
 ·obtain⟨its,r',pl,hz⟩:=I.tuple hq;exact call_tuple_same pl ⟨.ref p,H,I,rfl,q⟩
def tyV (K:PySem.W.Frag) (T:String) (x:V) (H:Hp):Prop:=match x with
 | .str _=>T = "str"
 | .int _=>T = "int"
 | .ref p=>(T = "list" /\ ∃xs,SqL K H p xs)\/(T = "tuple" /\ ∃o,K.lookup p=some o/\o.cls = .type "tuple" /\ o.dict=none) \/
   (T = "dict" /\ ((∃kvs,H p=some (.dK kvs)) \/ ∃kvs,H p=some (.dT kvs)))\/(T = "set" /\ ∃S n,H p=some (.set S n))
 | _=>False
theorem Xgp{pins:List (Addr×Obj)}{σ:St}{H:Hp}{s:Shared}{T:String}{x:V}{v:Value}(I:Inv X pins σ H s)(r:Ag x v)(ty:tyV X.K T x H):
  s.TypeIs v T/\∀a,v = .ref a->∃ob,s.heap.get? a=some ob/\ob.dict=none:=by
 cases x with
 | str z=>
  obtain⟨t,rfl⟩:=r;cases (show T = "str" from ty);exact⟨typeIs_str s z t,λ_ e=>nomatch e⟩
 | int i=>
  obtain⟨t,rfl⟩:=r;cases (show T = "int" from ty);exact⟨typeIs_int s i t,λ_ e=>nomatch e⟩
 | ref p=>
  cases r;rcases ty with ⟨rfl,xs,hq⟩ | ⟨rfl,o,hk,hc,hd⟩ | ⟨rfl,hk⟩ | ⟨rfl,S,n,hk⟩
  ·obtain⟨its,_,pl,_⟩:=I.list hq;refine⟨pl.isList.typeIs,λa e=>?_⟩;cases e;obtain⟨o,n,e,c,hd,_⟩:=pl;exact⟨o,e,hd⟩
  ·refine⟨⟨o,I.kIn p o hk,hc⟩,λa e=>?_⟩;cases e;exact⟨o,I.kIn _ o hk,hd⟩
  ·have z:∃o,s.heap.get? p=some o/\o.ExactDict:=by
    rcases hk with ⟨kvs,hk⟩ | ⟨kvs,hk⟩
    ·obtain⟨_,_,_,_,o,_,_,e,ex,_⟩:=I.hok p _ hk;exact⟨o,e,ex⟩
    ·obtain⟨_,_,_,_,o,_,_,e,ex,_⟩:=I.hok p _ hk;exact⟨o,e,ex⟩
   obtain⟨o,e,ex⟩:=z;refine⟨⟨o,e,ex.1⟩,λa e2=>?_⟩;cases e2;exact⟨o,e,ex.2.1⟩
  ·obtain⟨o,_,_,_,e,ex,_⟩:=I.hok p _ hk;refine⟨⟨o,e,ex.1⟩,λa e2=>?_⟩;cases e2;exact⟨o,e,ex.2.1⟩
 | _=>exact False.elim ty
def tBM (K:PySem.W.Frag) (T:String) (r:V->List V->Hp->VK->Prop) (to:TE) (t:TA):TE:=fun σ H Q=>to σ H λx H1=>tyV K T x H1/\t σ H1 λxs H2=>r x xs H2 Q
variable {o e:Expr}{es:List Expr}{to:TE}{t:TA}{name:Str}{apos cpos:Pos}{T id:String}{r:V->List V->Hp->VK->Prop}
theorem Fe(pa:PlainAttrs T)(slot:Slot T name id)(hty:typeOf (.builtin id)=pure (.type "method_descriptor"))(hm:MtR X id r)(ho:PE X o to)(ha:PA X (e::es) t)
  (hbase:attributeBase o name X.env (eval o X.env)=eval o X.env:=by rfl)
  (hfew:((backTo cpos (starEach (e::es) X.env)).all (λx => !x.1)&&(backToKw cpos (keywordEach [] X.env)).all (λx=>x.1.isSome)
   && decide ((e::es).length+([]:List Keyword).length+(if ([]:List Keyword).isEmpty then 0 else 1)<30))=true:=by rfl)
  (hline:(apos.endLine==cpos.line)=true:=by rfl) (hs:starEach (e::es) X.env=(false,eval e X.env)::starEach es X.env:=by rfl) (hplain:(backTo cpos (starEach es X.env)).any (·.1)=false:=by rfl):
  PE X (.Call (.Attribute o name apos) (e::es) [] cpos) (tBM X.K T r to t):=by
 intro pins s σ H Q I h;refine wpAny_Call_method_late hbase hfew hline rfl (thn (ho pins s σ H _ I h) λv s1 ⟨x,H1,I1,r1,ty,q1⟩=>?_);obtain⟨h1,h2⟩:=Xgp I1 r1 ty;refine⟨T,id,pa,slot,hty,h1,h2,?_⟩;have hA:=ha cpos pins s1 σ H1 _ I1 q1;rw[hs] at hA ⊢;refine Calls.callWith_builtin (by show (false||(backTo cpos (starEach es X.env)).any (·.1))=false;rw[hplain]<;>rfl) (Calls.evalArgs_plain ?_);exact thn hA λus s2 ⟨vs,H2,I2,r2,q2⟩=>hm pins s2 σ H2 x vs v us Q I2 r1 r2 q2
end
def MtM (X:Cx) (id:String) (r:V->List V->Hp->VK->Prop):Prop:=
 ∀(pins:List (Addr×Obj)) (s:Shared) (σ:St) (H:Hp) (x:V) (xs:List V) (v:Value) (us:List Value) (Q:VK),Inv X pins σ H s->Ag x v->Vals xs us->r x xs H Q ->
  wpAny (model X.prog X.w) X.A (call (.builtin id) (v::us)) (EP X pins σ Q) X.xe s
theorem Vals.one:∀{x:V} {us:List Value},Vals [x] us->∃u,us=[u]/\Ag x u
 | _,_,.cons r .nil=>⟨_,rfl,r⟩
theorem Vals.two{x y:V}{us:List Value}(h:Vals [x,y] us):∃u v,us=[u,v]/\Ag x u/\Ag y v:=by
 cases h with
 | cons r t=>
  cases t with
  | cons q z=>cases z;exact⟨_,_,rfl,r,q⟩
theorem Vals.reverse{xs:List V}{us:List Value}(h:Vals xs us):Vals xs.reverse us.reverse:=by
 induction h with
 | nil=>exact .nil
 | cons r t ih=>rw[List.reverse_cons,List.reverse_cons];exact Vals.append ih (.cons r .nil)
section
variable {X:Cx}{pins:List (Addr×Obj)}{σ:St}{H:Hp}{s:Shared}{l b:Addr}{xs ys zs:List V}
theorem Inv.lset{its its':List Value}{n:Nat}{f:Array Value->Array Value}{t':Nat}(I:Inv X pins σ H s)(hH:H l=some (.lst xs))
  (e:s.heap.get? l=some {cls:=.type "list",data:=.seq its.toArray n}) (hf:f its.toArray=its'.toArray) (hv:Vals ys its') (hz:ys.length<=sizeLine):
  Inv X pins σ (upd H l (.lst ys)) {s with heap:=s.heap.update l (Obj.mapSeq f),toks:=t'}:=by
 have q:=PySem.IsL.update e f;rw[hf] at q;refine I.write (x:=l) (e:=l) (by rw[hH];exact trivial) (.inl rfl) (λb' u hb hu=>(Heap.get?_update_other s.heap (Obj.mapSeq f) (Ne.symm hb)).trans hu) ⟨_,q⟩ ?_;exact⟨hz,its',_,hv,q⟩
theorem Inv.lnew{its:List Value}{t':Nat}(I:Inv X pins σ H s)(hv:Vals ys its)(hz:ys.length<=sizeLine):
  Inv X pins σ (upd H s.heap.objs.size (.lst ys)) {s with heap:=s.heap.push {cls:=.type "list",data:=.seq its.toArray},toks:=t'}:=
 I.laid (λ_ _ q=>Pi _ q) (K9 _) ⟨hz,its,0,hv,Heap.get?_push_size _ rfl⟩
theorem Inv.fresh(I:Inv X pins σ H s):H s.heap.objs.size=none:=I.hok.fresh (K9 _)
theorem Inv.lstM(I:Inv X pins σ H s)(hH:H l=some (.lst xs)):xs.length<=sizeLine/\∃(its:List Value) (n:Nat),Vals xs its/\xs.length=its.length/\s.heap.get? l=some {cls:=.type "list",data:=.seq its.toArray n}:=by
 obtain⟨z,its,n,r,e⟩:=I.hok l _ hH;exact⟨z,its,n,r,r.length,e⟩
end
section
variable {X:Cx}
def Xa3:V->List V->Hp->VK->Prop:=λx vs H Q=>∃l xs y,x = .ref l/\vs=[y]/\H l=some (.lst xs)/\xs.length<sizeLine/\Q .non (upd H l (.lst (xs++[y])))
theorem Ff:MtM X "list.append" Xa3:=by
 intro pins s σ H x vs v us Q I rx rv h;obtain⟨l,xs,y,rfl,rfl,hH,hz,q⟩:=h;cases rx;obtain⟨u,rfl,ru⟩:=rv.one;obtain⟨z,its,n,r,hl,e⟩:=I.lstM hH;refine call_meets F.slot_list_append ⟨_,e,rfl⟩ F.entry_list_append (F.args_list_append_2 _ _) (PySem.list_append l its.toArray n u (by rw[Lm];omega)) ⟨e,?_⟩;refine⟨.non,_,I.lset (its':=its++[u]) hH e (by simp) (r.append (.cons ru .nil)) ?_,rfl,q⟩;rw[Lj,Ml];omega
def rCat:R2:=λx y H Q=>∃l b xs zs,x = .ref l/\y = .ref b/\H l=some (.lst xs)/\H b=some (.lst zs)/\xs.length+zs.length<=sizeLine/\∀p,H p=none->Q (.ref p) (upd H p (.lst (xs++zs)))
theorem Cf:OpR X (binaryOp .Add) rCat:=by
 intro pins s σ H x y v u Q I rx ry h;obtain⟨l,b,xs,zs,rfl,rfl,hH,hB,hz,q⟩:=h;cases rx;cases ry;obtain⟨z,its,n,r,hl,e⟩:=I.lstM hH;obtain⟨z2,its2,n2,r2,hl2,e2⟩:=I.lstM hB;refine PySem.P.add_list e e2 ?_ (by rw[Lm,Lm];omega);have ea:its.toArray++its2.toArray=(its++its2).toArray:=by simp
 rw[ea];exact⟨.ref _,_,I.lnew (t':=s.toks) (r.append r2) (by rw[Lj];omega),rfl,q _ I.fresh⟩
def rRep:R2:=λx y H Q=>∃l k xs,x = .ref l/\y = .int k/\H l=some (.lst xs) /\ -(2 ^ 63)<=k/\k<2 ^ 63/\xs.length * k.toNat<=sizeLine /\
 ∀p,H p=none->Q (.ref p) (upd H p (.lst (List.replicate k.toNat xs).flatten))
end
section
variable {prog:Program}{w:World}{A:Around}{E:Value->Shared->Prop}{s:Shared}
end
section
variable {X:Cx}
end
section
variable {κ : Type} [DecidableEq κ]
def Ao (kvs:List (κ × V)) (k : κ):Option V:=(kvs.find? λkv=>decide (kv.1=k)).map (·.2)
def A9 (kvs:List (κ × V)) (k : κ) (v:V):List (κ × V):=
 if (kvs.any λkv=>decide (kv.1=k))=true then kvs.map (λkv=>if kv.1=k then (kv.1,v) else kv) else kvs++[(k,v)]
def Xa4 (kvs:List (κ × V)) (k : κ):List (κ × V):=kvs.filter λkv=>decide (kv.1≠k)
theorem Cl{p : κ × V}{r:List (κ × V)}{k : κ}(e:p.1=k):Ao (p::r) k=some p.2:=by simp[Ao,Nl,e]
theorem Cn{p : κ × V}{r:List (κ × V)}{k : κ}(e:¬p.1=k):Ao (p::r) k=Ao r k:=by simp[Ao,Nl,e]
theorem Dh(k : κ):∀kvs:List (κ × V),(kvs.any λkv=>decide (kv.1=k))=(Ao kvs k).isSome
 | []=>rfl
 | p::r=>by
  rw[Ol];by_cases e:p.1=k
  ·simp only[Cl e,Pd e,Bool.true_or,Ox]
  ·rw[Cn e,Pe e,Bool.false_or];exact Dh k r
theorem Xa5(k j : κ)(y:V):∀kvs:List (κ × V),Ao (kvs.map λkv=>if kv.1=k then (kv.1,y) else kv) j=(Ao kvs j).map λx=>if j=k then y else x
 | []=>rfl
 | p::r=>by
  have ih:=Xa5 k j y r;rw[L5];by_cases h:p.1=k
  ·rw[Pc h];by_cases e:p.1=j
   ·rw[Cl (p:=(p.1,y)) e,Cl e,Nm,Pc (e.symm.trans h)]
   ·rw[Cn (p:=(p.1,y)) e,Cn e,ih]
  ·rw[Pb h];by_cases e:p.1=j
   ·rw[Cl (p:=p) e,Cl e,Nm,Pb (λz=>h (e.trans z))]
   ·rw[Cn (p:=p) e,Cn e,ih]
theorem Xa6(k j : κ)(y:V):∀kvs:List (κ × V),Ao kvs k=none->Ao (kvs++[(k,y)]) j=if j=k then some y else Ao kvs j
 | [],_=>by
  by_cases e:k=j
  ·rw[Pc e.symm];exact Cl (p:=(k,y)) e
  ·rw[Pb (λz=>e z.symm)];exact Cn (p:=(k,y)) e
 | p::r,hn=>by
  rw[List.cons_append];have hk:¬p.1=k:=λz=>by rw[Cl z] at hn;cases hn
  rw[Cn hk] at hn;have ih:=Xa6 k j y r hn;by_cases e:p.1=j
  ·rw[Cl e,Cl e,Pb (λz=>hk (e.trans z))]
  ·rw[Cn e,Cn e,ih]
theorem Gh(kvs:List (κ × V))(k j : κ)(y:V):Ao (A9 kvs k y) j=if j=k then some y else Ao kvs j:=by
 unfold A9;by_cases a:(kvs.any λkv=>decide (kv.1=k))=true
 ·rw[Pc a,Xa5];rw[Dh] at a;by_cases e:j=k
  ·obtain⟨x,hx⟩:=M6.mp a;rw[Pc e,e,hx,Nm,Pc rfl]
  ·rw[Pb e];cases Ao kvs j with
   | none=>rfl
   | some x=>rw[Nm,Pb e]
 ·rw[Pb a];refine Xa6 k j y kvs ?_;rw[Dh] at a;cases q:Ao kvs k with
  | none=>rfl
  | some x=>rw[q] at a;exact(a rfl).elim
theorem Fg(kvs:List (κ × V))(k : κ)(v:V):(A9 kvs k v).length<=kvs.length+1:=by
 unfold A9;split
 ·rw[K8];omega
 ·rw[Lj,Lp,M9];omega
theorem Fh{kvs:List (κ × V)}{k : κ}(v:V)(h:Ao kvs k=none):A9 kvs k v=kvs++[(k,v)]:=by
 unfold A9;rw[Dh,h];exact Pb (by decide)
theorem B9.isSome_eq{o:Option V}{u:Option Value}(r:B9 o u):o.isSome=u.isSome:=by
 cases o with
 | none=>cases u with
  | none=>rfl
  | some _=>exact(show False from r).elim
 | some _=>cases u with
  | none=>exact(show False from r).elim
  | some _=>rfl
theorem B9.getD{o:Option V}{u:Option Value}{d:V}{d':Value}(r:B9 o u)(rd:Ag d d'):Ag (o.getD d) (u.getD d'):=by
 cases o with
 | none=>cases u with
  | none=>exact rd
  | some _=>exact(show False from r).elim
 | some _=>cases u with
  | none=>exact(show False from r).elim
  | some _=>exact r
theorem KV.val{kvs:List (κ × V)}{vs:List (κ × Value)}(r:KV kvs vs)(k : κ):B9 (Ao kvs k) (valueAt vs k):=by
 unfold KV at r
 induction r with
 | nil=>exact True.intro
 | @cons p q ps qs h t ih=>
  obtain⟨h1,h2⟩:=h;by_cases e:p.1=k
  ·have e':q.1=k:=h1.symm.trans e;have b:valueAt (q::qs) k=some q.2:=by simp[valueAt,Nl,e']
   rw[Cl e,b];exact h2
  ·have e':¬q.1=k:=λz=>e (h1.trans z);have b:valueAt (q::qs) k=valueAt qs k:=by simp[valueAt,Nl,e']
   rw[Cn e,b];exact ih
theorem KV.any{kvs:List (κ × V)}{vs:List (κ × Value)}(r:KV kvs vs)(k : κ):(kvs.any λkv=>decide (kv.1=k))=vs.any λkv=>decide (kv.1=k):=by
 unfold KV at r
 induction r with
 | nil=>rfl
 | cons h t ih=>rw[Ol,Ol,ih,h.1]
theorem KV.repl{kvs:List (κ × V)}{vs:List (κ × Value)}(r:KV kvs vs)(k : κ){y:V}{u:Value}(ry:Ag y u):
  KV (kvs.map λkv=>if kv.1=k then (kv.1,y) else kv) (vs.map λkv=>if kv.1=k then (kv.1,u) else kv):=by
 unfold KV at r ⊢
 induction r with
 | nil=>exact .nil
 | @cons p q ps qs h t ih=>
  rw[L5,L5];refine .cons ?_ ih;obtain⟨h1,h2⟩:=h;by_cases e:p.1=k
  ·rw[Pc e,Pc (h1.symm.trans e)];exact⟨h1,ry⟩
  ·rw[Pb e,Pb (λz=>e (h1.trans z))];exact⟨h1,h2⟩
theorem KV.put{kvs:List (κ × V)}{vs:List (κ × Value)}(r:KV kvs vs)(k : κ){y:V}{u:Value}(ry:Ag y u):KV (A9 kvs k y) (stored vs k u):=by
 unfold A9 stored;rw[r.any k];by_cases e:(vs.any λkv=>decide (kv.1=k))=true
 ·rw[Pc e,Pc e];exact r.repl k ry
 ·rw[Pb e,Pb e];exact Paired.snoc r ⟨rfl,ry⟩
theorem KV.length{kvs:List (κ × V)}{vs:List (κ × Value)}(r:KV kvs vs):kvs.length=vs.length:=Paired.length r
end
theorem Ep{P:Program}{w:World}{k:Key}{u:Value}(r:Ag (kV k) u):(A0 P w).is k u=true:=by
 cases k with
 | inl i=>obtain⟨t,e⟩:=(show ∃t,u=Value.int i t from r);subst e;exact Xff P w i t
 | inr x=>obtain⟨t,e⟩:=(show ∃t,u=Value.str x t from r);subst e;exact Xfg P w x t
theorem Xa7{P:Program}{w:World}:∀{ks:List Key} {us:List Value},Vals (ks.map kV) us->ItemsAre (A0 P w) ks us
 | [],_,r=>by rw[Oy] at r;cases r;exact .nil
 | k::ks,_,r=>by
  rw[L5] at r;cases r with
  | cons h t=>exact .cons (Ep h) (Xa7 t)
abbrev KT (H:Hp):List (List Key×V)->List (List Key×Addr×Value)->Prop:=Paired λp q=>p.1=q.1/\H q.2.1=some (.tup (p.1.map kV))/\Ag p.2 q.2.2
theorem KT.val{H:Hp}{kvs:List (List Key×V)}{xs:List (List Key×Addr×Value)}(r:KT H kvs xs)(k:List Key):B9 (Ao kvs k) ((atKey xs k).map (·.2)):=by
 induction r with
 | nil=>exact True.intro
 | @cons p q ps qs h t ih=>
  obtain⟨h1,_,h2⟩:=h;by_cases e:p.1=k
  ·have e':q.1=k:=h1.symm.trans e;have b:atKey (q::qs) k=some q.2:=by simp[atKey,Nl,e']
   rw[Cl e,b];exact h2
  ·have e':¬q.1=k:=λz=>e (h1.trans z);have b:atKey (q::qs) k=atKey qs k:=by simp[atKey,Nl,e']
   rw[Cn e,b];exact ih
theorem KT.repl{H:Hp}{kvs:List (List Key×V)}{xs:List (List Key×Addr×Value)}(r:KT H kvs xs)(k:List Key){y:V}{u:Value}(ry:Ag y u):
  KT H (kvs.map λkv=>if kv.1=k then (kv.1,y) else kv) (xs.map (putAt k u)):=by
 induction r with
 | nil=>exact .nil
 | @cons p q ps qs h t ih=>
  rw[L5,L5];refine .cons ?_ ih;obtain⟨h1,h2,h3⟩:=h;unfold putAt;by_cases e:p.1=k
  ·rw[Pc e,Pc (h1.symm.trans e)];exact⟨h1,h2,ry⟩
  ·rw[Pb e,Pb (λz=>e (h1.trans z))];exact⟨h1,h2,h3⟩
theorem KT.put{H:Hp}{kvs:List (List Key×V)}{xs:List (List Key×Addr×Value)}(r:KT H kvs xs)(k:List Key){b:Addr}{y:V}{u:Value}(hb:H b=some (.tup (k.map kV)))(ry:Ag y u):
  KT H (A9 kvs k y) (storedH xs k b u):=by
 have e:(kvs.any λkv=>decide (kv.1=k))=(atKey xs k).isSome:=by
  rw[Dh,(r.val k).isSome_eq,Option.isSome_map]
 unfold A9 storedH;rw[e];by_cases q:(atKey xs k).isSome=true
 ·rw[Pc q,Pc q];exact r.repl k ry
 ·rw[Pb q,Pb q];exact Paired.snoc r ⟨rfl,hb,ry⟩
theorem KT.keeps{H H':Hp}{kvs:List (List Key×V)}{xs:List (List Key×Addr×Value)}(r:KT H kvs xs)(ht:∀b ys,H b=some (.tup ys)->H' b=some (.tup ys)):KT H' kvs xs:=
 Paired.mapP r λ_ _ z=>⟨z.1,ht _ _ z.2.1,z.2.2⟩
section
variable {P:Program}{w:World}{H:Hp}{h:Heap}{a:Addr}
theorem Xa8{u:HO}(ok:HOk P w H h)(e:Rd H a u):A5 P w H h a u:=e.ok ok
theorem Er{kvs:List (Key×V)}(ok:HOk P w H h)(e:Rd H a (.dK kvs)):kvs.length<=sizeLine/\(a==sysModules)=false/\∃vs,KV kvs vs/\h.DictOf (A0 P w) a vs:=
 show A5 P w H h a (.dK kvs) from Xa8 ok e
theorem Xa9{kvs:List (Key×V)}(ok:HOk P w H h)(e:H a=some (.dK kvs)):kvs.length<=sizeLine/\(a==sysModules)=false/\∃vs,KV kvs vs/\h.DictOf (A0 P w) a vs:=Er ok (.inl e)
theorem Et{ks:List Key}(ok:HOk P w H h)(e:H a=some (.tup (ks.map kV))):(tupleKind (A0 P w)).is h ks a:=by
 obtain⟨_,its,r,o,h1,h2,n,h3⟩:=(show A5 P w H h a (.tup (ks.map kV)) from ok a _ e);exact⟨o,its.toArray,n,h1,h2,h3,by simpa using Xa7 r⟩
theorem Eu{kvs:List (List Key×V)}(ok:HOk P w H h)(e:Rd H a (.dT kvs)):kvs.length<=sizeLine/\(a==sysModules)=false /\
  ∃xs,KT H kvs xs/\h.DictOfH (tupleKind (A0 P w)) a xs:=by
 obtain⟨z,y,xs,r,o,es,ep,h1,h2,h3,h4,h5⟩:=(show A5 P w H h a (.dT kvs) from Xa8 ok e);refine⟨z,y,xs,r,o,es,ep,h1,h2,h3,h4,λx hx=>?_,h5⟩;have all:∀{l:List (List Key×V)} {m:List (List Key×Addr×Value)},KT H l m->∀x∈m,(tupleKind (A0 P w)).is h x.1 x.2.1:=by
  intro l m q
  induction q with
  | nil=>intro x hx;exact nomatch hx
  | @cons p q ps qs hq t ih=>
   intro x hx;rcases Lk.mp hx with e | hx
   ·subst e;exact Et ok (by rw[<-hq.1];exact hq.2.1)
   ·exact ih x hx
 exact all r x hx
theorem Xgq{kvs:List (List Key×V)}(ok:HOk P w H h)(e:H a=some (.dT kvs)):kvs.length<=sizeLine/\(a==sysModules)=false /\
  ∃xs,KT H kvs xs/\h.DictOfH (tupleKind (A0 P w)) a xs:=Eu ok (.inl e)
end
def DGet (H:Hp) (a:Addr) (y:V) (r:Option V):Prop:=
 (∃kvs k,Rd H a (.dK kvs)/\y=kV k/\r=Ao kvs k) \/ ∃kvs k b,Rd H a (.dT kvs)/\y = .ref b/\H b=some (.tup (k.map kV))/\r=Ao kvs k
def DPut (H:Hp) (a:Addr) (y v:V) (H':Hp):Prop:=
 (∃kvs k,H a=some (.dK kvs)/\y=kV k/\kvs.length<sizeLine/\H'=upd H a (.dK (A9 kvs k v))) \/
 ∃kvs k b,H a=some (.dT kvs)/\y = .ref b/\H b=some (.tup (k.map kV))/\kvs.length<sizeLine/\H'=upd H a (.dT (A9 kvs k v))
theorem DGet.k{H:Hp}{a:Addr}{kvs:List (Key×V)}{k:Key}(e:H a=some (.dK kvs)):DGet H a (kV k) (Ao kvs k):=.inl ⟨kvs,k,.inl e,rfl,rfl⟩
theorem DPut.k{H:Hp}{a:Addr}{kvs:List (Key×V)}{k:Key}{v:V}(e:H a=some (.dK kvs))(hl:kvs.length<sizeLine):DPut H a (kV k) v (upd H a (.dK (A9 kvs k v))):=.inl ⟨kvs,k,e,rfl,hl,rfl⟩
section
variable {X:Cx}{pins:List (Addr×Obj)}{σ:St}{H:Hp}{s:Shared}{a:Addr}{y v:V}{u r:Value}{o:Option V}{A:Around}{E:Value->Shared->Prop}
theorem Inv.big(I:Inv X pins σ H s):sysModules<s.heap.objs.size:=by
 have h:mainGlobals<s.heap.objs.size:=(I.mod.glob.keeps I.bk).lt;exact Np (by decide) h
theorem d_getItem{Q:Value->Shared->Prop}(hu:A.units+1<cLine)(I:Inv X pins σ H s)(g:DGet H a y (some v))(ry:Ag y u)(h:∀w' s',Inv X pins σ H s'->Ag v w'->Q w' s'):
  wpAny (model X.prog X.w) A (getItem (.ref a) u) Q E s:=by
 rcases g with ⟨kvs,k,e,ey,l⟩ | ⟨kvs,k,b,e,ey,eb,l⟩
 ·subst ey;obtain⟨z,hd,vs,rel,dd⟩:=Er I.hok e;obtain⟨w',hw,rw'⟩:=B9.some_of (v:=v) (o:=valueAt vs k) (by rw[l];exact rel.val k);exact wpAny_getItem_of (Ep ry) dd.mapOf hw (h w' _ (I.tok _) rw')
 ·subst ey;cases (show u=Value.ref b from ry);obtain⟨z,hd,xs,rel,dd⟩:=Eu I.hok e;obtain⟨w',hw,rw'⟩:=B9.some_of (v:=v) (o:=(atKey xs k).map (·.2)) (by rw[l];exact rel.val k);obtain⟨p,hp,hp2⟩:=Option.map_eq_some_iff.mp hw;refine wpAny_getItem_heap (tupleKind_room_in1 hu) (Et I.hok eb) dd hp ?_;rw[hp2];exact h w' _ (I.tok _) rw'
theorem Xgr{Q:Value->Shared->Prop}(hu:A.units+1<cLine)(I:Inv X pins σ H s)(g:DGet H a y o)(ry:Ag y u)(h:∀s',Inv X pins σ H s'->Q (.bool (!o.isSome)) s'):
  wpAny (model X.prog X.w) A (compareOp .NotIn u (.ref a)) Q E s:=by
 rcases g with ⟨kvs,k,e,ey,l⟩ | ⟨kvs,k,b,e,ey,eb,l⟩
 ·subst ey;obtain⟨z,hd,vs,rel,dd⟩:=Er I.hok e;refine wpAny_notIn_of (Ep ry) hd dd.mapOf ?_;rw[<-(rel.val k).isSome_eq,<-l];exact h _ (I.tok _)
 ·subst ey;cases (show u=Value.ref b from ry);obtain⟨z,hd,xs,rel,dd⟩:=Eu I.hok e;refine wpAny_notIn_heap (tupleKind_room_in1 hu) (Et I.hok eb) hd dd ?_;have q:=(rel.val k).isSome_eq;rw[Option.isSome_map] at q;rw[<-q,<-l];exact h _ (I.tok _)
theorem Iq{h':Heap}{t':Nat}{ob:HO}(I:Inv X pins σ H s)(mu:Mut (H a))(hs:Heap.SameBut a s.heap h')(he:∃q,h'.get? a=some q)(new:A5 X.prog X.w (upd H a ob) h' a ob):
  Inv X pins σ (upd H a ob) {s with heap:=h',toks:=t'}:=
 I.write (x:=a) (e:=a) mu (.inl rfl) (λb q hb z=>(hs.2 b hb).trans z) he new
theorem Xba{P:Program}{w:World}{H':Hp}{h':Heap}{kvs:List (Key×V)}{vs:List (Key×Value)}(z:kvs.length<=sizeLine)(hd:(a==sysModules)=false)(rel:KV kvs vs)(dd:h'.DictOf (A0 P w) a vs):
  A5 P w H' h' a (.dK kvs):=⟨z,hd,vs,rel,dd⟩
theorem Xgs{H':Hp}{Q:Unit->Shared->Prop}(hu:A.units+1<cLine)(I:Inv X pins σ H s)(g:DPut H a y v H')(ry:Ag y u)(rv:Ag v r)(h:∀s',Inv X pins σ H' s'->Q () s'):
  wpAny (model X.prog X.w) A (setItem (.ref a) u r) Q E s:=by
 rcases g with ⟨kvs,k,e,ey,l,eH⟩ | ⟨kvs,k,b,e,ey,eb,l,eH⟩
 ·subst ey eH;obtain⟨z,hd,vs,rel,dd⟩:=Xa9 I.hok e;have hz:vs.length<=sizeLine:=by rw[<-rel.length];exact z
  have hl:(A9 kvs k v).length<=sizeLine:=by have:=Fg kvs k v;omega
  refine wpAny_setItem_pairs (hsz:=hz) (Ep ry) dd λh' dd' hs=>h _ ?_;have he:∃q,h'.get? a=some q:=let ⟨q,_,_,hq,_⟩:=dd'; ⟨q,hq⟩;exact Iq I (by rw[e];exact True.intro) hs he (Xba hl hd (rel.put k rv) dd')
 ·subst ey eH;cases (show u=Value.ref b from ry);obtain⟨z,hd,xs,rel,dd⟩:=Xgq I.hok e;have hz:xs.length<=sizeLine:=by rw[<-Paired.length rel];exact z
  have hl:(A9 kvs k v).length<=sizeLine:=by have:=Fg kvs k v;omega
  refine wpAny_setItem_heap (hsz:=hz) (tupleKind_room_in1 hu) (Et I.hok eb) dd λh' dd' hs=>h _ ?_;obtain⟨q,es,ep,hq,h2,h3,h4,_,h5⟩:=dd';refine Iq I (by rw[e];exact True.intro) hs ⟨q,hq⟩ ⟨hl,hd,_,(rel.put k eb rv).keeps λc ys ec=>?_,q,es,ep,hq,h2,h3,h4,h5⟩;rw[Ad (Xaa ec e (λz=>nomatch z))];exact ec
end
section
variable {X:Cx}{pins:List (Addr×Obj)}{σ:St}{H:Hp}{s:Shared}{a:Addr}{kvs:List (Key×V)}{k:Key}{u:Value}{A:Around}{E:Value->Shared->Prop}
end
def Xbb (i:Expr):Prop:=∀ov iv,subscripted i false ov iv=operate [ov,iv] (getItem ov iv)
theorem Xgt{prog:Program}{w:World}{A:Around}{E:Value->Shared->Prop}{s:Shared}{env:Env}{value slice:Expr}{pos:Pos}{T id:String}{Q:Value->Shared->Prop}
  (hl:typeLookup (.type T) "__getitem__" = pure (some (.builtin id))) (hs:Xbb slice)
  (h:wpAny (model prog w) A (eval value env) (λo s₁=>wpAny (model prog w) A (eval slice env) (λi s₂=>s₂.TypeIs o T/\wpAny (model prog w) A (getItem o i) Q E s₂) E s₁) E s):
  wpAny (model prog w) A (eval (.Subscript value slice pos) env) Q E s:=by
 refine Subscript_ (wpAny_mono h (λo s₁ h₁=>wpAny_mono h₁ (λi s₂ h₂=>?_) λ_ _ x=>x) λ_ _ x=>x);obtain⟨hT,h₂⟩:=h₂;unfold subscriptTail;refine O8 ?_;rw[getitemInPython_of_ne hT.not_modules];refine O8 (wpAny_specialOf hT hl ?_);have fin:wpAny (model prog w) A (subscripted slice false o i) (λr s₃=>wpAny (model prog w) A (letTemporaryGo value o r >>= λ_=>pure r) Q E s₃) E s₂:=by
  rw[hs o i];exact wpAny_operating (wpAny_mono h₂ (λr s₃ h₃=>O8 (wpAny_letTemporaryGo (O9 h₃))) λ_ _ x=>x)
 first
  | exact O9 (O8 fin)
  | exact O8 (O9 (O8 fin))
  | exact O8 fin
theorem Xgu{X:Cx}{pins:List (Addr×Obj)}{σ:St}{H:Hp}{s:Shared}{a:Addr}{y:V}{o:Option V}(I:Inv X pins σ H s)(g:DGet H a y o):s.TypeIs (.ref a) "dict" := by
 rcases g with ⟨kvs,k,e,_,_⟩ | ⟨kvs,k,b,e,_,_,_⟩
 ·obtain⟨_,_,vs,_,dd⟩:=Er I.hok e;exact dd.typeIs
 ·obtain⟨_,_,xs,_,dd⟩:=Eu I.hok e;exact dd.typeIs
def Xgv (td ty:TE):TE:=fun σ H Q=>td σ H λx H1=>ty σ H1 λy H2=>∃a v,x = .ref a/\DGet H2 a y (some v)/\Q v H2
def tDIn (ty td:TE):TE:=fun σ H Q=>ty σ H λy H1=>td σ H1 λx H2=>∃a o,x = .ref a/\DGet H2 a y o/\Q (.bl o.isSome) H2
def Xgw (ty td:TE):TE:=fun σ H Q=>ty σ H λy H1=>td σ H1 λx H2=>∃a o,x = .ref a/\DGet H2 a y o/\Q (.bl (!o.isSome)) H2
def Xgx (td ty tv:TE):TS:=λD σ H=>tv σ H λv H1=>td σ H1 λx H2=>ty σ H2 λy H3=>∃a H4,x = .ref a/\DPut H3 a y v H4/\D.nx σ H4
def sDAug (td ty tv:TE) (rd:V->V->Hp->VK->Prop):TS:=λD σ H=>td σ H λx H1=>ty σ H1 λy H2=>∃a v,x = .ref a/\DGet H2 a y (some v) /\
 tv σ H2 λy2 H3=>rd v y2 H3 λz H4=>∃H5,DPut H4 a y z H5/\D.nx σ H5
def sDDel (td ty:TE):TS:=λD σ H=>td σ H λx H1=>ty σ H1 λy H2=>∃a kvs k,x = .ref a/\H2 a=some (.dK kvs)/\y=kV k/\(Ao kvs k).isSome=true/\D.nx σ (upd H2 a (.dK (Xa4 kvs k)))
section
variable {X:Cx}{o i e value:Expr}{pos pos' tpos:Pos}{td ty tv:TE}
theorem B1(hu:X.A.units+1<cLine)(ho:PE X o td)(hi:PE X i ty)(hs:Xbb i):PE X (.Subscript o i pos) (Xgv td ty):=by
 intro pins s σ H Q I h;refine Xgt PySem.F.slot_dict_getitem.lookup hs (thn (ho pins s σ H _ I h) λu s1 ⟨x,H1,I1,rx,q1⟩=>thn (hi pins s1 σ H1 _ I1 q1) λiv s2 ⟨y,H2,I2,ry,a,v,ex,g,q2⟩=>?_);subst ex;obtain rfl:u=Value.ref a:=rx;exact⟨Xgu I2 g,d_getItem hu I2 g ry λw' s3 I3 rw'=>⟨v,H2,I3,rw',q2⟩⟩
theorem Xgy(hu:X.A.units+1<cLine)(hi:PE X i ty)(ho:PE X o td):PC X .NotIn i o (Xgw ty td):=by
 intro pins s σ H Q I h;refine thn (hi pins s σ H _ I h) λiv s1 ⟨y,H1,I1,ry,q1⟩=>thn (ho pins s1 σ H1 _ I1 q1) λu s2 ⟨x,H2,I2,rx,a,ov,ex,g,q2⟩=>?_;subst ex;obtain rfl:u=Value.ref a:=rx;exact Xgr hu I2 g ry λs3 I3=>⟨.bl (!ov.isSome),H2,I3,rfl,q2⟩
theorem Xgz(hu:X.A.units+1<cLine)(ho:PE X o td)(hi:PE X i ty)(hv:PE X value tv)(hs:swapsWith value (some (.Subscript o i pos')) pos.line X.env=pure false):
  PS X (.Assign [.Subscript o i pos'] value pos) (Xgx td ty tv):=by
 intro pins s σ H D I h;refine wpAny_Assign_Subscript (thn (hv pins s σ H _ I h) λr s1 ⟨v,H1,I1,rv,q1⟩=>thn (ho pins s1 σ H1 _ I1 q1) λu s2 ⟨x,H2,I2,rx,q2⟩=>thn (hi pins s2 σ H2 _ I2 q2) λiv s3 ⟨y,H3,I3,ry,a,H4,ex,g,q3⟩=>?_) hs;subst ex;obtain rfl:u=Value.ref a:=rx;exact Xgs hu I3 g ry rv λs4 I4=>⟨σ,H4,I4,q3⟩
end
theorem Xbc{P:Program}{w:World}{H:Hp}(h:Heap)(hb:sysModules<h.objs.size):A5 P w H (h.push {cls:=.type "dict",data:=.dict #[]}) h.objs.size (.dK []):=
 ⟨L6 _,beq_eq_false_iff_ne.mpr (Ne.symm (Lg hb)),[],.nil,Heap.DictOf.new h⟩
def Xg0:TE:=λ_ H Q=>∀p,H p=none->Q (.ref p) (upd H p (.dK []))
section
variable {X:Cx}{pos:Pos}
theorem Xg1:PE X (.Dict [] [] pos) Xg0:=λpins s σ H Q I h=>
 wpAny_Dict_empty ⟨.ref s.heap.objs.size,_,I.laid (a:=s.heap.objs.size) (o:=.dK []) (t':=s.toks) (λ_ _ q=>Pi _ q) (K9 _) (Xbc s.heap I.big),rfl,h _ (I.hok.fresh (K9 _))⟩
end
def Xbd:List (TE×TE)->St->Hp->(List (V×V)->Hp->Prop)->Prop
 | [],_,H,Q=>Q [] H
 | (tk,tv)::r, σ,H,Q=>tk σ H λx H1=>tv σ H1 λy H2=>Xbd r σ H2 λps H3=>Q ((x,y)::ps) H3
def Xg2 (kvs more:List (Key×V)):List (Key×V):=more.foldl (λacc kv=>A9 acc kv.1 kv.2) kvs
def tDisp (trs:List (TE×TE)):TE:=fun σ H Q=>∀p,H p=none->Xbd trs σ (upd H p (.dK [])) λps H2=>H2 p=some (.dK [])/\∃kvs:List (Key×V),ps=kvs.map (λkv=>(kV kv.1,kv.2))/\kvs.length<=15/\Q (.ref p) (upd H2 p (.dK (Xg2 [] kvs)))
structure M1 (X:Cx) (o:Expr) (m:Str) (apos:Pos) (e:Expr) (cpos:Pos):Prop where
 base:attributeBase o m X.env (eval o X.env)=eval o X.env
 few:((backTo cpos (starEach [e] X.env)).all (λx => !x.1)&&(backToKw cpos (keywordEach [] X.env)).all (λx=>x.1.isSome)
  && decide (([e]:List Expr).length+([]:List Keyword).length+(if ([]:List Keyword).isEmpty then 0 else 1)<30))=true
 line:(apos.endLine==cpos.line)=true
 trees:backTo cpos (starEach [e] X.env)=[(false,eval e X.env)]
structure M2 (X:Cx) (o:Expr) (m:Str) (apos:Pos) (e f:Expr) (cpos:Pos):Prop where
 base:attributeBase o m X.env (eval o X.env)=eval o X.env
 few:((backTo cpos (starEach [e,f] X.env)).all (λx => !x.1)&&(backToKw cpos (keywordEach [] X.env)).all (λx=>x.1.isSome)
  && decide (([e,f]:List Expr).length+([]:List Keyword).length+(if ([]:List Keyword).isEmpty then 0 else 1)<30))=true
 line:(apos.endLine==cpos.line)=true
 trees:backTo cpos (starEach [e,f] X.env)=[(false,eval e X.env),(false,eval f X.env)]
def IsD (H:Hp) (a:Addr):Prop:=(∃kvs,Rd H a (.dK kvs)) \/ ∃kvs,Rd H a (.dT kvs)
theorem Xg3{X:Cx}{pins:List (Addr×Obj)}{σ:St}{H:Hp}{s:Shared}{a:Addr}(I:Inv X pins σ H s)(d:IsD H a):
  s.TypeIs (.ref a) "dict" /\ (∀b,Value.ref a = .ref b->∃ob,s.heap.get? b=some ob/\ob.dict=none)/\(a==sysModules)=false:=by
 rcases d with ⟨kvs,e⟩ | ⟨kvs,e⟩
 ·obtain⟨_,hd,vs,_,dd⟩:=Er I.hok e;refine⟨dd.typeIs,λb q=>?_,hd⟩;cases q;obtain⟨ob,_,_,h1,h2,_⟩:=dd;exact⟨ob,h1,h2.2.1⟩
 ·obtain⟨_,hd,xs,_,dd⟩:=Eu I.hok e;refine⟨dd.typeIs,λb q=>?_,hd⟩;cases q;obtain⟨ob,_,_,h1,h2,_⟩:=dd;exact⟨ob,h1,h2.2.1⟩
section
variable {X:Cx}{pins:List (Addr×Obj)}{σ:St}{H:Hp}{s:Shared}{a:Addr}{y d:V}{u r:Value}{o:Option V}{A:Around}{E:Value->Shared->Prop}
theorem Xg4{Q:Value->Shared->Prop}(hu:A.units+1<cLine)(I:Inv X pins σ H s)(g:DGet H a y o)(ry:Ag y u)(rd:Ag d r)(h:∀w' s',Inv X pins σ H s'->Ag (o.getD d) w'->Q w' s'):
  wpAny (model X.prog X.w) A (call (.builtin "dict.get") [.ref a,u,r]) Q E s:=by
 rcases g with ⟨kvs,k,e,ey,l⟩ | ⟨kvs,k,b,e,ey,eb,l⟩
 ·subst ey;obtain⟨z,hd,vs,rel,dd⟩:=Er I.hok e;refine call_meetsIn PySem.F.slot_dict_get dd.typeIs PySem.F.entry_dict_get (PySem.F.args_dict_get_3 _ _ _) (meets_dict_get_default (A0 X.prog X.w) a (Ep ry) hd r) ⟨_,dd.mapOf,h _ _ (I.tok _) ?_⟩;rw[l];exact(rel.val k).getD rd
 ·subst ey;cases (show u=Value.ref b from ry);obtain⟨z,hd,xs,rel,dd⟩:=Eu I.hok e;refine call_meetsIn PySem.F.slot_dict_get dd.typeIs PySem.F.entry_dict_get (PySem.F.args_dict_get_3 _ _ _) (meetsH_dict_get_default (tupleKind (A0 X.prog X.w)) a b hd r) ⟨tupleKind_room_in1 hu,k,xs,Et I.hok eb,dd,h _ _ (I.tok _) ?_⟩;rw[l];exact(rel.val k).getD rd
end
def Xg5 (td ty tx:TE):TE:=fun σ H Q=>td σ H λx H1=>∃a,x = .ref a/\IsD H1 a/\ty σ H1 λy H2=>tx σ H2 λz H3=>∃o,DGet H3 a y o/\Q (o.getD z) H3
def Xoj (td ty:TE):TE:=fun σ H Q=>td σ H λx H1=>∃a,x = .ref a/\IsD H1 a/\ty σ H1 λy H2=>∃kvs k v,H2 a=some (.dK kvs)/\y=kV k/\Ao kvs k=some v/\Q v (upd H2 a (.dK (Xa4 kvs k)))
section
variable {X:Cx}{o e f:Expr}{apos cpos:Pos}{td ty tx:TE}
theorem Xg6(hu:X.A.units+1<cLine)(ho:PE X o td)(he:PE X e ty)(hf:PE X f tx)(m:M2 X o "get" apos e f cpos):PE X (.Call (.Attribute o "get" apos) [e,f] [] cpos) (Xg5 td ty tx):=by
 intro pins s σ H Q I h;refine wpAny_Call_method m.base m.few m.line PySem.F.plainAttrs_dict PySem.F.slot_dict_get PySem.F.type_dict_get (thn (ho pins s σ H _ I h) λu s1 ⟨x,H1,I1,rx,a,ex,d,q1⟩=>?_);subst ex;obtain rfl:u=Value.ref a:=rx;obtain⟨t1,t2,_⟩:=Xg3 I1 d;refine⟨t1,t2,?_⟩;rw[m.trees];refine Calls.callWith_builtin rfl (Calls.evalArgs_plain (Calls.spliced_cons (thn (he pins s1 σ H1 _ I1 q1) λiv s2 ⟨y,H2,I2,ry,q2⟩=>
  Calls.spliced_cons (thn (hf pins s2 σ H2 _ I2 q2) λfv s3 ⟨z,H3,I3,rz,ov,g,q3⟩=>Calls.spliced_nil ?_))))
 exact Xg4 hu I3 g ry rz λw' s4 I4 rw'=>⟨_,H3,I4,rw',q3⟩
end
section
variable {X:Cx}{pins:List (Addr×Obj)}{σ:St}{H:Hp}{s:Shared}{a:Addr}{kvs:List (Key×V)}{A:Around}{E:Value->Shared->Prop}
end
section
variable {X:Cx}{pins:List (Addr×Obj)}{σ:St}{H:Hp}{s:Shared}{a:Addr}{y:V}{u:Value}{A:Around}{E:Value->Shared->Prop}
end
end L2
namespace Att
open PySem PySem.W PySem.Calls PyProof.Rows
theorem Xg7{P:Params}{h:Heap}:∀(ns:List Int) (vs:List Value),WellAll P h vs (ns.map WData.int)->IntsAre vs ns:=by
 intro ns
 induction ns with
 | nil=>
  intro vs w;rw[Oy] at w;cases w;exact .nil
 | cons n ns ih=>
  intro vs w;rw[L5] at w;cases w with
  | cons a b=>
   cases a;exact .cons _ _ (ih _ b)
theorem Xg8{l:OpenLaw}{n:Nat}(hn:l.most=some n){P:Params}{h:Heap}{args:List WData}{vals:List Value}
  (hpre:l.row.toRowW.claim.pre args=true) (hwl:WellAll P h vals args):
  ∃a vs ns,vals=[Value.ref a]/\args=[WData.list (ns.map WData.int)]/\h.get? a=some {cls:=.type "list",data:=.seq vs.toArray}/\IntsAre vs ns/\ns.length<=n:=by
 have hsh:WShape.hasAll [] args [.list .int]=true:=(pre_splitW hpre).1;have hc:l.pre.holds [] {args:=args}=true:=(pre_splitW hpre).2;obtain⟨d,r,rfl,h1,h2⟩:=hasAllW_cons hsh;obtain rfl:=hasAllW_nil h2;obtain⟨xs,rfl,h3⟩:=hasW_list h1;obtain⟨ns,rfl⟩:=items_int h3;have hlen:ns.length<=n:=by
  unfold OpenLaw.pre at hc;have h4:(WTm.not (.lt (.lit (.int (n:Int))) (.len (.arg 0)))).holds [] {args:=[.list (ns.map .int)]}=true:=by
   have h4:=(holds_andW hc).1;rw[hn] at h4;exact h4
  have h5:=condW_of h4 (w_not (w_lt w_lit (w_len_list (w_arg rfl))));rw[K8] at h5;refine Nat.le_of_not_lt λq=>?_;have q':(n:Int)<((ns.length:Nat):Int):=by omega
  first
   | (rw[Pd q'] at h5;exact absurd h5 (by decide))
   | (simp at h5;omega)
 cases hwl with
 | cons w1 w2=>
  cases w2;cases w1 with
  | list ho hall=>exact⟨_,_,ns,rfl,rfl,ho,Xg7 ns _ hall,hlen⟩
theorem Xg9(l:OpenLaw)(args:List WData):l.row.toRowW.claim.post args (.bool true) args=true:=
 postW_of (r:=l.row.toRowW) (X:=(true==true))
  (show WShape.has [] (.bool true) .bool=true by first | rfl | decide | simp[WShape.has,WShape.arms,WShape.armsAll])
  (show (WTm.eq .res (.lit (.bool true))).value [] {args:=args,res:=some (.bool true),after:=args}=some (.bool (true==true)) from w_eq_bool (w_res rfl) w_lit) rfl
theorem attach_call{l:OpenLaw}{n:Nat}{q:Program}{loose:List Str}{XP:(Str->Option Value)->Heap->Prop}{YP:World->Heap->Prop}{d:DefRec}
  (hn:l.most=some n) (hdf:d.params.defaults=[])
  (call:∀(w:World) (s₀ s₁ : Shared) (mg mb:Str->Option Value) (fa:Addr) (o:Obj) (pm cd doc:Value) (a:Addr) (vs:List Value) (ns:List Int),
   Ground q loose [] XP w s₀ mg mb s₁.heap->YP w s₁.heap ->
   s₁.heap.get? fa=some o->o.data = .func (docDef d.name d.params d.body d.scope pm cd doc)->s₁.heap.CodeRec cd d.name->mg d.name=some (.ref fa) ->
   s₁.heap.get? a=some {cls:=.type "list",data:=.seq vs.toArray}->IntsAre vs ns->ns.length<=n->s₁.gens = #[] ->
   codeAny (model l.prog w) callerA (.call (.ref fa) ⟨[.ref a],[]⟩) (λr s'=>r = .ok (.ret (.bool true))/\OldK s₁.heap s'.heap/\s'.os=s₁.os/\AllBare s'.gens) s₁):
  WalkO q loose XP YP l.row.toRowW d [] (λf vs=>PySem.call f vs):=by
 intro w s₀ s₁ mg mb G Y fa o pm cd doc dV kV ho hd hcd hD hmg hg args vals as hpre hlay hrd hwl hlo;obtain rfl:dV = .none:=Dflts.none hD hdf;obtain rfl:kV = .none:=Dflts.noKw hD;obtain⟨a,vs,ns,rfl,rfl,hobj,hints,hlen⟩:=Xg8 hn hpre hwl;refine enter_call (codeAny_mono (call w s₀ s₁ mg mb fa o pm cd doc a vs ns G Y ho (fd_plain hd) hcd hmg hobj hints hlen hg) λr s' hq=>?_);obtain⟨rfl,h2,h3,h4⟩:=hq;exact⟨.inl ⟨.bool true,.bool true,[],rfl,λ_=>rfl,.bool true,Xg9 l _,λ_=>⟨List.Pairwise.nil,λ_ hm=>(nomatch hm)⟩⟩,h2,h3,h4⟩
section
variable {prog:Program}{w:World}{A:Around}{E:Value->Shared->Prop}{s:Shared}{K:Frag}
def ledger (h:Heap) (L d:Addr):List (Addr×Obj):=(List.range h.objs.size).filterMap λa=>if a=L\/a=d then none else (h.get? a).map λo=>(a,o)
end
end Att
namespace L2
open PySem PySem.Spec PyProof.Rows
theorem Xbe:∀{vs:List Value} {ns:List Int},IntsAre vs ns->Vals (ns.map V.int) vs
 | _,_,.nil=>.nil
 | _,_,.cons n t h=>.cons ⟨t,rfl⟩ (Xbe h)
def Only (H:Hp):Prop:=∀b,H b=none \/ ∃o xs,H b=some (.frz o (.lst xs))
abbrev KOf {K:PySem.W.Frag} {h:Heap} (_:K.In h):PySem.W.Frag:=K
def Xok (s:Stmt) (j:Nat):Stmt:=match s with
 | .ClassDef _ _ _ body _ _ _ _ _ _ _=>body.getD j (.Pass ⟨0,0,0,0⟩)
 | _=>.Pass ⟨0,0,0,0⟩
def C6 (s:Stmt):Arguments:=match s with
 | .FunctionDef _ a _ _ _ _ _ _ _ _=>a
 | _=>{posonlyargs:=[],args:=[],vararg:=none,kwonlyargs:=[],kw_defaults:=[],kwarg:=none,defaults:=[]}
def B4 (s:Stmt):List Stmt:=match s with
 | .FunctionDef _ _ b _ _ _ _ _ _ _=>b
 | _=>[]
def Aj (s:Stmt):Scope:=match s with
 | .FunctionDef _ _ _ _ _ _ sc _ _ _=>sc
 | _=>{kind:=.function,names:=[],isGenerator:=false,isCoroutine:=false}
abbrev CX0:CXT:=λ_ _ _ _ _ _=>False
abbrev E0:XK:=λ_ _ _=>False
theorem Ap{X:Cx}:Passes CX0 X E0:=λ_ _ _ _ _ _ _ h=>h.elim
structure Fun (K:PySem.W.Frag) (x qual:Str) (st:Stmt) (f:Addr) (fd:FuncData):Prop where
 ex:∃(oc:Value) (od:Option Addr) (kV doc pm:Value) (an:Option Addr) (cdv ct:Value) (osl:Array (Option Value)),
  fd=PySem.W.fnOf x qual (C6 st) (B4 st) (Aj st) .none kV doc pm an cdv ct/\K.lookup f=some ⟨oc,od,.func fd,osl⟩/\PySem.W.codeIn K cdv qual=true
 kp:PySem.W.keepIn K (.ref f)=true
section
variable {P:Program}{w:World}{K:PySem.W.Frag}{mg:Str->Option Value}{base:Heap}
theorem Fun.ok{x qual:Str}{st:Stmt}{f:Addr}{fd:FuncData}{N ps:List Str}{k:Nat}{sp:Sp}(F:Fun K x qual st f fd)(S:FnScope N ps (Aj st))(len:∀vs H Q E,sp vs H Q E->vs.length=ps.length)
  (hbody:∀(cdv:Value) (A:Around) (outer:List Env) (s:Shared) (H:Hp) (vs:List V) (Q:VK) (E:XK),Room k (A.deeper (envOfC qual (Aj st) s.heap.objs.size f cdv))->sp vs H Q E ->
   ∃t,PSs (Bz CX0 P w K mg base N qual (Aj st) f cdv A outer s H E).nox (B4 st) t/\t {nx:=λ_ H'=>Q .non H',rt:=Q} (start N vs) H):FnOk P w K mg base CX0 (k+1) f fd ps sp:=by
 obtain⟨oc,od,kV,doc,pm,an,cdv,ct,osl,rfl,lk,hcd⟩:=F.ex;refine Ik lk hcd S len λA outer s H vs Q E hr hsp=>?_;obtain⟨t,h,q⟩:=hbody cdv A outer s H vs Q E hr hsp;exact⟨t,h.nox,q⟩
theorem Fun.binds{x qual:Str}{st:Stmt}{f:Addr}{fd:FuncData}{ps:List Str}(F:Fun K x qual st f fd)
  (h:∀(kV doc pm:Value) (an:Option Addr) (cdv ct:Value) (us:List Value),us.length=ps.length->bindArgs (PySem.W.fnOf x qual (C6 st) (B4 st) (Aj st) .none kV doc pm an cdv ct) ⟨us,[]⟩=pure (ps.zip us)):Binds K fd ps []:=by
 obtain⟨oc,od,kV,doc,pm,an,cdv,ct,osl,rfl,lk,hcd⟩:=F.ex;exact .all (h kV doc pm an cdv ct)
theorem Xbf{x qual:Str}{st:Stmt}{f:Addr}{oc:Value}{od an:Option Addr}{osl:Array (Option Value)}{kV doc pm cdv ct:Value}(l:K.lookup f=some ⟨oc,od,.func (PySem.W.fnOf x qual (C6 st) (B4 st) (Aj st) .none kV doc pm an cdv ct),osl⟩)
  (c:PySem.W.codeIn K cdv qual=true) (k:PySem.W.keepIn K (.ref f)=true):Fun K x qual st f (PySem.W.fnOf x qual (C6 st) (B4 st) (Aj st) .none kV doc pm an cdv ct):=⟨⟨oc,od,kV,doc,pm,an,cdv,ct,osl,rfl,l,c⟩,k⟩
end
theorem D9{A:Around}{k:Nat}(hr:Room k A):A.units+1<cLine:=Nat.lt_of_le_of_lt (Nat.add_le_add_left (by decide:1<=64) _) hr.units
section
variable {X:Cx}
theorem pv(i:Nat){x:Str}{pos:Pos}(hN:X.N[i]? = some x:=by rfl)(hv:Vis X.env.scope x:=by first | exact Or.inl rfl | exact Or.inr (Or.inl rfl) | exact Or.inr (Or.inr rfl))(hd:(x==("__debug__" : Str))=false:=by decide)
  (hcd:(x==("__classdict__" : Str))=false:=by decide):PE X (.Name x pos) (Hq i):=Xfl hN hv hd hcd
end
theorem B5{A B:Prop}(h:B):if false=true then A else B:=by
 rw[Pb Lq];exact h
theorem Di{A B:Prop}(h:A):if true=true then A else B:=by
 rw[Pc rfl];exact h
theorem Xha{c A B:Prop}[Decidable c](hc:c)(h:B):if (!decide c)=true then A else B:=by
 rw[Pd hc];exact B5 h
def Same (H H':Hp):Prop:=∀b o,H b=some o->H' b=some o
theorem Same.refl(H:Hp):Same H H:=λ_ _ h=>h
theorem Same.trans{H H1 H2:Hp}(a:Same H H1)(b:Same H1 H2):Same H H2:=λc o h=>b c o (a c o h)
theorem Same.free{H H':Hp}(e:Same H H'){l:Addr}(h:H' l=Option.none):H l=Option.none:=by
 cases q:H l with
 | none=>rfl
 | some o=>
  rw[e l o q] at h;cases h
theorem Same.seq{K:PySem.W.Frag}{H H':Hp}{a:Addr}{xs:List V}(e:Same H H')(h:SqL K H a xs):SqL K H' a xs:=by
 rcases h with (h | ⟨o,h⟩) | h
 ·exact .inl (.inl (e _ _ h))
 ·exact .inl (.inr ⟨o,e _ _ h⟩)
 ·exact .inr h
section
variable {X:Cx}
end
section
variable {κ : Type} [DecidableEq κ]
theorem Xhb{kvs:List (κ × V)}{k : κ}(h:Ao kvs k=none):¬k∈kvs.map (·.1):=by
 intro m;obtain⟨p,hp,e⟩:=Lw.mp m;have q:(kvs.any λkv=>decide (kv.1=k))=true:=Nr.mpr ⟨p,hp,Pd e⟩;rw[Dh,h] at q;exact absurd q (by simp)
theorem Gi{kvs:List (κ × V)}{k : κ}{v:V}(h:Ao kvs k=some v):k∈kvs.map (·.1):=by
 have q:(kvs.any λkv=>decide (kv.1=k))=true:=by
  rw[Dh,h]
  all_goals rfl
 obtain⟨p,hp,e⟩:=Nr.mp q;exact Lw.mpr ⟨p,hp,Pf e⟩
theorem nd_snoc:∀{l:List κ} {k : κ},l.Nodup->¬k∈l->(l++[k]).Nodup
 | [],k,_,_=>by simp
 | a::r,k,h,hk=>by
  obtain⟨h1,h2⟩:=Ma.mp h;show (a::(r++[k])).Nodup;refine Ma.mpr ⟨λm=>?_,nd_snoc h2 λm=>hk (Lk.mpr (Or.inr m))⟩;rcases Ll.mp m with q | q
  ·exact h1 q
  ·exact hk (Lk.mpr (Or.inl (Lf.mp q).symm))
theorem Xhc{kvs:List (κ × V)}{k : κ}(v:V)(hn:(kvs.map (·.1)).Nodup)(h:Ao kvs k=none):((A9 kvs k v).map (·.1)).Nodup:=by
 rw[Fh v h,Lo];exact nd_snoc hn (Xhb h)
end
def Bw (env:Env):List (Str×NameKind)->List (Str×Addr)->List (Str×Addr)
 | [],cs=>cs
 | (n,k)::r,cs=>if k == .free then Bw env r ((n,(env.cells.lookup n).getD 0)::cs) else Bw env r cs
theorem Ir{env:Env}:∀(names:List (Str×NameKind)) (cs:List (Str×Addr)),(∀x∈names,x.2 = .free->∃c,env.cells.lookup x.1=some c) ->
  (forIn names cs fun (x : Str × NameKind) r => (if (x.2 == .free) = true then do let c <- cellOf env x.1; pure (ForInStep.yield ((x.1, c) :: r)) else pure (ForInStep.yield r) : Sem (ForInStep (List (Str × Addr))))) = pure (Bw env names cs)
 | [],cs,_=>rfl
 | (n,k)::r,cs,h=>by
  rw[Op];cases hk:(k==NameKind.free) with
  | true=>
   have hk':k = .free:=by simpa using hk
   obtain⟨c,hc⟩:=h (n,k) Ld hk';have e1:cellOf env n=pure c:=by unfold cellOf;rw[hc]
   simp only[hk,if_true,e1,pure_bind];rw[Ir r _ λx hx=>h x (Lb _ hx)];show _=pure (if (k==NameKind.free)=true then _ else _);rw[hk,Pc rfl,hc];rfl
  | false=>
   simp only[hk,L4,if_false,pure_bind];rw[Ir r _ λx hx=>h x (Lb _ hx)];show _=pure (if (k==NameKind.free)=true then _ else _);rw[hk,Pb Lq]
theorem Xbg{scope:Scope}{env:Env}(h:∀x∈scope.names,x.2 = .free->∃c,env.cells.lookup x.1=some c):closureFor scope env=pure (Bw env scope.names []):=by
 have e:=Ir scope.names [] h
 have q : closureFor scope env = (forIn scope.names [] fun (x : Str × NameKind) r => (if (x.2 == .free) = true then do let c <- cellOf env x.1; pure (ForInStep.yield ((x.1, c) :: r)) else pure (ForInStep.yield r) : Sem (ForInStep (List (Str × Addr))))) >>= fun cs => pure cs := rfl
 rw[q,e];rfl
theorem Iu{env:Env}{x:Str}{c:Addr}:∀(names:List (Str×NameKind)) (cs:List (Str×Addr)),(∀x∈names,x.2 = .free->∃c,env.cells.lookup x.1=some c) ->
  (Bw env names cs).lookup x=some c->cs.lookup x=some c\/env.cells.lookup x=some c
 | [],cs,_,h=>.inl h
 | (n,k)::r,cs,hf,h=>by
  unfold Bw at h;split at h
  ·rename_i hk;rcases Iu r _ (λx hx=>hf x (Lb _ hx)) h with q | q
   ·rw[Mg] at q;split at q
    ·rename_i e;have e':x=n:=by simpa using e
     subst e';obtain⟨c',hc⟩:=hf (x,k) Ld (by simpa using hk);have hc':env.cells.lookup x=some c':=hc;rw[hc'] at q ⊢;exact .inr q
    ·exact .inl q
   ·exact .inr q
  ·exact Iu r _ (λx hx=>hf x (Lb _ hx)) h
theorem Iv{env:Env}{x:Str}:∀(names:List (Str×NameKind)) (cs:List (Str×Addr)),((cs.lookup x).isSome=true\/(x,NameKind.free)∈names)->((Bw env names cs).lookup x).isSome=true
 | [],cs,h=>by
  rcases h with h | h
  ·exact h
  ·cases h
 | (n,k)::r,cs,h=>by
  unfold Bw;split
  ·refine Iv r _ ?_;rw[Mg];rcases h with h | h
   ·left;split
    ·rfl
    ·exact h
   ·rcases Lk.mp h with e | h
    ·left;cases e;simp
    ·exact .inr h
  ·rename_i hk;refine Iv r _ ?_;rcases h with h | h
   ·exact .inl h
   ·rcases Lk.mp h with e | h
    ·cases e;exact absurd rfl hk
    ·exact .inr h
theorem Xbh{env:Env}{x:Str}{k':NameKind}:∀{names:List (Str×NameKind)},
  (names.map λ(n,k)=>if (k==NameKind.free&&env.scope.kind == .function&&env.kindOf n==some .cell) then (n,NameKind.cell) else (n,k)).lookup x=some k'->∃k,names.lookup x=some k/\(k'=k\/k = .free)
 | [],h=>by simp at h
 | (n,k)::r,h=>by
  have ih := @Xbh env x k' r;have h':List.lookup x ((if (k==NameKind.free&&env.scope.kind == .function&&env.kindOf n==some .cell)=true then (n,NameKind.cell) else (n,k))::_)=_:=h;rw[Mg];by_cases hc:(k==NameKind.free&&env.scope.kind == .function&&env.kindOf n==some .cell)=true
  ·rw[Pc hc,Mg] at h';cases hx:x==n with
   | true=>
    have hk:k = .free:=by
     simp only[Ln,beq_iff_eq] at hc;exact hc.1.1
    exact⟨k,rfl,.inr hk⟩
   | false=>
    rw[hx] at h';exact ih h'
  ·rw[Pb hc,Mg] at h';cases hx:x==n with
   | true=>
    rw[hx] at h';exact⟨k,rfl,.inl (Ly h').symm⟩
   | false=>
    rw[hx] at h';exact ih h'
theorem Iw:∀(names:List (Str×NameKind)) (h:Heap) (acc:List (Str×Addr)) (x:Str) (c:Addr),(cellsFrom h.objs.size names acc).lookup x=some c ->
  (h.objs.size<=c/\(x,NameKind.cell)∈names/\(pushCells h names).IsCell c none)\/acc.lookup x=some c
 | [],_,_,_,_,e=>.inr e
 | (name,kind)::r,h,acc,x,c,e=>by
  unfold cellsFrom at e;unfold pushCells;by_cases hk:(kind==NameKind.cell)=true
  ·rw[Pc hk] at e ⊢;have hk':kind = .cell:=by simpa using hk
   have sz:(h.push {cls:=.type "cell",data:=.cell none}).objs.size=h.objs.size+1:=Heap.size_push ..;rw[<-sz] at e;rcases Iw r _ _ x c e with ⟨a1,a2,a3⟩ | a
   ·exact .inl ⟨by omega,Lb _ a2,a3⟩
   ·rw[Mg] at a;cases hx:x==name with
    | true=>
     rw[hx] at a;cases a;have:x=name:=by simpa using hx
     subst this;refine .inl ⟨K9 _,by rw[hk'];exact Ld,?_⟩;exact⟨_,pushCells_keeps r _ _ _ (Heap.get?_push_size _ rfl),rfl⟩
    | false=>rw[hx] at a;exact .inr a
  ·rw[Pb hk] at e ⊢;rcases Iw r h acc x c e with ⟨a1,a2,a3⟩ | a
   ·exact .inl ⟨a1,Lb _ a2,a3⟩
   ·exact .inr a
theorem Ix:∀(names:List (Str×NameKind)) (n:Nat) (acc:List (Str×Addr)),(∀x y c,acc.lookup x=some c->acc.lookup y=some c->x=y)->(∀x c,acc.lookup x=some c->c<n) ->
  ∀x y c,(cellsFrom n names acc).lookup x=some c->(cellsFrom n names acc).lookup y=some c->x=y
 | [],_,_,h,_=>h
 | (name,kind)::r,n,acc,h,hb=>by
  unfold cellsFrom;by_cases hk:(kind==NameKind.cell)=true
  ·rw[Pc hk];refine Ix r (n+1) _ (λx y c e1 e2=>?_) (λx c e=>?_)
   ·rw[Mg] at e1 e2;cases hx:x==name with
    | true=>
     cases hy:y==name with
     | true=>rw[beq_iff_eq.mp hx,beq_iff_eq.mp hy]
     | false=>
      rw[hx] at e1;rw[hy] at e2;cases e1;exact absurd (hb y _ e2) (Mb _)
    | false=>
     cases hy:y==name with
     | true=>
      rw[hx] at e1;rw[hy] at e2;cases e2;exact absurd (hb x _ e1) (Mb _)
     | false=>rw[hx] at e1;rw[hy] at e2;exact h x y c e1 e2
   ·rw[Mg] at e;cases hx:x==name with
    | true=>rw[hx] at e;cases e;exact Nat.lt_succ_self _
    | false=>rw[hx] at e;exact M3 (hb x c e)
  ·rw[Pb hk];exact Ix r n acc h hb
theorem Iy{env:Env}{x:Str}{c:Addr}:∀(names:List (Str×NameKind)) (cs:List (Str×Addr)),(Bw env names cs).lookup x=some c->cs.lookup x=some c\/(x,NameKind.free)∈names
 | [],cs,h=>.inl h
 | (n,k)::r,cs,h=>by
  unfold Bw at h;split at h
  ·rename_i hk;have hk':k = .free:=by simpa using hk
   rcases Iy r _ h with q | q
   ·rw[Mg] at q;cases hx:x==n with
    | true=>
     have:x=n:=by simpa using hx
     subst this;exact .inr (by rw[hk'];exact Ld)
    | false=>rw[hx] at q;exact .inl q
   ·exact .inr (Lb _ q)
  ·rcases Iy r _ h with q | q
   ·exact .inl q
   ·exact .inr (Lb _ q)
theorem Xhd{M:Model}{A:Around}{E:Value->Shared->Prop}{s:Shared}{scope:Scope}{globals:Addr}{closure:List (Str×Addr)}{qual:Str}{outer:Env}{Q:Env->Shared->Prop}
  (h:Q (newEnv scope s.heap.objs.size globals (cellsFrom (s.heap.objs.size+1) scope.names closure) qual none .none (some outer) builtinsNs) {s with heap:=pushCells (s.heap.push {cls:=.type "dict",data:=.dict #[]}) scope.names}):
  wpAny M A (newFunctionEnv scope globals closure [] qual none .none (some outer)) Q E s:=by
 simp only[newFunctionEnv,Ox,if_true];refine O8 (wpAny_alloc ?_);refine O8 (wpAny_layCells _ (λname kind cells=>by cases hkc:kind==NameKind.cell<;>simp[hkc]) _ _ _ _ ?_);rw[show ({s with heap:=s.heap.push {cls:=.type "dict",data:=.dict #[]} }:Shared).heap.objs.size=s.heap.objs.size+1 from Heap.size_push ..];refine O8 ?_;rw[O1];exact O9 (O9 h)
def Fi (X:Cx) (scope:Scope) (s0:Shared):List (Str×Addr):=cellsFrom (s0.heap.objs.size+1) scope.names (Bw X.env scope.names [])
def Cx.comp (X:Cx) (N:List Str) (scope:Scope) (s0:Shared) (H0:Hp) (ex:List Addr):Cx where
 prog:=X.prog
 w:=X.w
 K:=X.K
 mg:=X.mg
 base:=X.base
 A:=X.A
 N:=N
 s₀:=s0
 H₀:=H0
 env:=compEnvC scope (Fi X scope s0) s0.heap.objs.size X.env
 outer:=X.stack
 stack:=X.stack
 ex:=ex
 fn:=λx=>decide (scope.names.lookup x=some .cell)
 calm:=X.calm
 pn:=[]
 xe:=λ_ _=>False
def Bk (cap:List (Option Nat)) (σ:St):St:=cap.map λo=>o.bind λj=>(σ[j]?).join
structure CompScope (X:Cx) (N:List Str) (cap:List (Option Nat)) (scope:Scope):Prop where
 kind:scope.kind = .function
 uniq:∀y∈scope.names,scope.names.lookup y.1=some y.2
 free:∀y∈scope.names,y.2 = .free->X.env.kindOf y.1=some .cell\/X.env.kindOf y.1=some .free
 len:cap.length=N.length
 cap:∀(i:Nat) (x:Str) (j:Nat),N[i]? = some x->cap[i]? = some (some j)->X.N[j]? = some x/\scope.names.lookup x=some .free
def PIfs (X:Cx) (ifs:List Expr) (t:TT):Prop:=
 ∀(pins:List (Addr×Obj)) (s:Shared) (σ:St) (H:Hp) (Q:Bool->Hp->Prop),Inv X pins σ H s->t σ H Q ->
  wpAny (model X.prog X.w) X.A (forIn ifs true fun c r => if r = true then do let ok <- isTrue c X.env (eval c X.env); pure (ForInStep.yield ok) else pure (ForInStep.yield r)) (TP X pins σ Q) X.xe s
def C7:TT:=λ_ H Q=>Q true H
theorem Cg{X:Cx}:PIfs X [] C7:=λ_ _ _ H _ I h=>wpAny_tests_nil ⟨H,I,h⟩
theorem Ev{X:Cx}{c:Expr}{t:TT}(h:PT X c t):PIfs X [c] t:=λpins s σ H Q I hw=>wpAny_tests_one (h pins s σ H Q I hw)
def Dj (cap:List (Option Nat)) (g:TG) (tt:TT) (te:TE) (J:It) (σ:St) (H1:Hp) (F:Addr->Hp->Prop):Prop:=
 ∀D,H1 D=none->∃W:Nat->Nat->St->Hp->Prop,(∃m,W 0 m (Bk cap σ) (upd H1 D (.lst [])))/\∀i m σ1 H2,W i m σ1 H2 ->
  (J.stop i H2/\F D H2)\/(J.go i H2/\∀x H3,J.yld i H2 x H3->g x σ1 H3 fun σ2 H4=>tt σ2 H4 λb H5=>
   if b=true then te σ2 H5 λy H6=>∃ys,H6 D=some (.lst ys)/\ys.length<sizeLine/\∃m',m'<m/\W (i+1) m' σ2 (upd H6 D (.lst (ys++[y])))
   else ∃m',m'<m/\W (i+1) m' σ2 H5)
theorem Xbi{env:Env}{x:Str}:∀{names:List (Str×NameKind)} {k:NameKind},names.lookup x=some k ->
  (names.map λ(n,k)=>if (k==NameKind.free&&env.scope.kind == .function&&env.kindOf n==some .cell) then (n,NameKind.cell) else (n,k)).lookup x=some (if (k==NameKind.free&&env.scope.kind == .function&&env.kindOf x==some .cell) then NameKind.cell else k)
 | [],_,h=>by simp at h
 | (n,q)::r,k,h=>by
  have ih := @Xbi env x r k;show List.lookup x ((if (q==NameKind.free&&env.scope.kind == .function&&env.kindOf n==some .cell)=true then (n,NameKind.cell) else (n,q))::_)=_;rw[Mg] at h;cases hx:x==n with
  | true=>
   rw[hx] at h;cases h;have:x=n:=by simpa using hx
   subst this;by_cases hc:(q==NameKind.free&&env.scope.kind == .function&&env.kindOf x==some .cell)=true
   ·rw[Pc hc,Pc hc,Mg,hx]
   ·rw[Pb hc,Pb hc,Mg,hx]
  | false=>
   rw[hx] at h;by_cases hc:(q==NameKind.free&&env.scope.kind == .function&&env.kindOf n==some .cell)=true
   ·rw[Pc hc,Mg,hx];exact ih h
   ·rw[Pb hc,Mg,hx];exact ih h
section
variable {X:Cx}{N:List Str}{cap:List (Option Nat)}{scope:Scope}{pins:List (Addr×Obj)}{σ:St}{H H':Hp}{s s':Shared}{fp:List Addr}
theorem Iz(C:CompScope X N cap scope)(ok:X.Ok):∀x∈scope.names,x.2 = .free->∃c,X.env.cells.lookup x.1=some c:=λx hx hf=>ok.has x.1 (C.free x hx hf)
theorem Gj(C:CompScope X N cap scope)(ok:X.Ok){x:Str}{c:Addr}(h:(Bw X.env scope.names []).lookup x=some c):X.env.cells.lookup x=some c:=by
 rcases Iu scope.names [] (Iz C ok) h with q | q
 ·simp at q
 ·exact q
theorem Xbj(C:CompScope X N cap scope)(ok:X.Ok){x:Str}(h:scope.names.lookup x=some .free):∃c,(Bw X.env scope.names []).lookup x=some c:=
 M6.mp (Iv scope.names [] (.inr (PySem.mem_of_lookup h)))
theorem Xbk(C:CompScope X N cap scope)(ok:X.Ok){h:Heap}(hz:h.objs.size=s.heap.objs.size+1){x:Str}{c:Addr}(e:(Fi X scope s).lookup x=some c):
  (s.heap.objs.size<c/\scope.names.lookup x=some .cell/\(pushCells h scope.names).IsCell c none)\/(scope.names.lookup x=some .free/\X.env.cells.lookup x=some c):=by
 unfold Fi at e;rw[<-hz] at e;rcases Iw scope.names h _ x c e with ⟨a1,a2,a3⟩ | a
 ·exact .inl ⟨by omega,C.uniq _ a2,a3⟩
 ·refine .inr ⟨?_,Gj C ok a⟩;rcases Iy scope.names [] a with q | q
  ·simp at q
  ·exact C.uniq _ q
theorem Xhe(C:CompScope X N cap scope)(I:Inv X pins σ H s)(hf:∀b∈fp,FpOk X pins H b)(hfl:∀b∈fp,b<s.heap.objs.size){tk:Nat}:
  Inv (X.comp N scope s H fp) [] (Bk cap σ) H {s with heap:=pushCells (s.heap.push {cls:=.type "dict",data:=.dict #[]}) scope.names,toks:=tk}:=by
 have hC:H s.heap.objs.size=none:=I.hok.fresh (K9 _);have hz:(s.heap.push {cls:=.type "dict",data:=.dict #[]}).objs.size=s.heap.objs.size+1:=Heap.size_push ..;have hns:(pushCells (s.heap.push {cls:=.type "dict",data:=.dict #[]}) scope.names).Ns s.heap.objs.size λ_=>none:=(Heap.Ns.new s.heap (.type "dict")).keeps (pushCells_keeps _ _);have hk:∀b o,s.heap.get? b=some o->(pushCells (s.heap.push {cls:=.type "dict",data:=.dict #[]}) scope.names).get? b=some o:=λb o e=>pushCells_keeps _ _ b o (Pi _ e);have look:∀{x c},(X.comp N scope s H fp).env.cells.lookup x=some c->_:=λ{x c} h=>Xbk (s:=s) C I.ok hz h;have clt:∀x c,X.env.cells.lookup x=some c->c<s.heap.objs.size:=λx c h=>by
  obtain⟨v,q⟩:=I.cell x c h;exact q.lt
 have kind:∀x k,(relabel scope X.env).names.lookup x=some k->k = .cell\/k = .free->scope.names.lookup x=some .cell\/scope.names.lookup x=some .free:=λx k e hk=>by
  obtain⟨k0,e0,z⟩:=Xbh e;rcases z with z | z
  ·rw[<-z] at e0;rcases hk with q | q
   ·rw[q] at e0;exact .inl e0
   ·rw[q] at e0;exact .inr e0
  ·rw[z] at e0;exact .inr e0
 refine⟨⟨I.ok.mod,C.kind,I.ok.glob,I.ok.blt,K9 _,?inj,λx hx=>?has,λx c h e=>?cab,I.ok.hd,I.ok.frames,.inl rfl,λb hb=>⟨Lg (hfl b hb),λx c h=>?exf⟩,
   I.bs,L0 I.ok.bsz I.sz,λb o e hb=>?noex,λb hb hs=>?exfs,I.stack,I.stkFree⟩,
  rfl,I.bare,Un.kept hk,⟨_,hns,λi x v h1' h2 h3=>?loc⟩,λx c h=>?cell,hC,λx c h=>?freeC,λp hp=>absurd (show p∈([]:List (Addr×Obj)) from hp) (by simp),I.hok.kept hk,?len⟩
 case inj=>
  refine Ix scope.names _ _ (λx y c e1 e2=>I.ok.inj x y c (Gj C I.ok e1) (Gj C I.ok e2)) λx c e=>M3 (clt x c (Gj C I.ok e))
 case has=>
  have hx':(relabel scope X.env).names.lookup x=some .cell\/(relabel scope X.env).names.lookup x=some .free:=hx;refine M6.mp (PySem.W.cellsFrom_some scope.names _ _ ?_);rcases (hx'.elim (λq=>kind x _ q (.inl rfl)) λq=>kind x _ q (.inr rfl)) with q | q
  ·exact .inl q
  ·obtain⟨c,hc⟩:=Xbj C I.ok q;exact .inr (by rw[hc];rfl)
 case cab=>
  have h:scope.names.lookup x=some .cell:=Pf h;rcases look e with ⟨a,_⟩ | ⟨a,_⟩
  ·exact Nx a
  ·rw[h] at a;cases a
 case exf=>
  rcases look h with ⟨a,_⟩ | ⟨_,a⟩
  ·exact λz=>Mb _ (Np a (by rw[z];exact hfl b hb))
  ·exact(hf b hb).2.2.2.2.1 x c a
 case noex=>
  obtain⟨_,_,_,z,_⟩:=hf b hb;rcases z with z | z
  ·exact I.ok.noex b o e z
  ·exact absurd (Lr (Ph e) (L0 I.ok.bsz z)) (Mb _)
 case exfs=>
  obtain⟨_,f1,f2,_⟩:=hf b hb;rcases Lk.mp (I.stkSub b hs) with e | e
  ·exact f1 e
  ·exact f2 e
 case loc=>
  have h2':(cap.map λo=>o.bind λj=>(σ[j]?).join)[i]? = some (some v):=h2;rw[Lx] at h2';cases hc:cap[i]? with
  | none=>rw[hc] at h2';cases h2'
  | some o=>
   rw[hc] at h2';cases o with
   | none=>cases h2'
   | some j=>
    have h2'':(σ[j]?).join=some v:=Ly h2';have hσ : σ[j]? = some (some v):=by
     cases hj : σ[j]? with
     | none=>rw[hj] at h2'';cases h2''
     | some o=>rw[hj] at h2'';exact congrArg some h2''
    obtain⟨hN,hfr⟩:=C.cap i x j h1' hc;obtain⟨m,hn,hl⟩:=I.loc;have hkind:X.env.kindOf x=some .cell\/X.env.kindOf x=some .free:=C.free (x,.free) (PySem.mem_of_lookup hfr) rfl;obtain⟨u,r,l⟩:=hl j x v hN hσ (by rcases hkind with q | q;exact .inr (.inl q);exact .inr (.inr q));refine⟨u,r,.inr ⟨?_,?_⟩⟩
    ·show (relabel scope X.env).names.lookup x=some .cell\/(relabel scope X.env).names.lookup x=some .free;have:=Xbi (env:=X.env) hfr;have e:(relabel scope X.env).names.lookup x=_:=this;rw[e];split
     ·exact .inl rfl
     ·exact .inr rfl
    ·obtain⟨c,hcl⟩:=Xbj C I.ok hfr;obtain⟨c2,hc2⟩:=M6.mp (PySem.W.cellsFrom_some scope.names (s.heap.objs.size+1) (Bw X.env scope.names []) (x:=x) (.inr (by rw[hcl];rfl)));rcases look (x:=x) (c:=c2) hc2 with ⟨_,a,_⟩ | ⟨_,a⟩
     ·rw[hfr] at a;cases a
     ·rcases l with ⟨k,_⟩ | ⟨_,c',e,z⟩
      ·rcases hkind with q | q
       ·rw[k] at q;cases q
       ·rw[k] at q;cases q
      ·rw[a] at e;cases e;obtain⟨o,ho,hd⟩:=z;exact⟨c2,hc2,o,hk c2 o ho,hd⟩
 case cell=>
  rcases look h with ⟨_,_,a⟩ | ⟨_,a⟩
  ·exact⟨none,a⟩
  ·obtain⟨v,o,ho,hd⟩:=I.cell x c a;exact⟨v,o,hk c o ho,hd⟩
 case freeC=>
  rcases look h with ⟨a,_⟩ | ⟨_,a⟩
  ·exact I.hok.fresh (Nx a)
  ·exact I.freeC x c a
 case len=>
  show (cap.map _).length=N.length;rw[K8,C.len]
end
def Xhf (cap:List (Option Nat)) (wi:TI) (g:TG) (tt:TT) (te:TE):TE:=fun σ H Q=>wi σ H λJ H1=>Dj cap g tt te J σ H1 λD H2=>Q (.ref D) H2
def Xhg (i:Nat) (cap:List (Option Nat)) (wi:TI) (g:TG) (tt:TT) (te:TE):TS:=λD σ H=>wi σ H λJ H1=>Dj cap g tt te J σ H1 λl H2=>D.nx (σ.set i (some (.ref l))) H2
theorem A5.there{P:Program}{w:World}{H:Hp}{h:Heap}{a:Addr}{o:HO}(x:A5 P w H h a o):∃u,h.get? a=some u:=by
 cases o with
 | lst xs=>obtain⟨_,_,_,_,e⟩:=x;exact⟨_,e⟩
 | tup xs=>obtain⟨_,_,_,o,e,_⟩:=x;exact⟨_,e⟩
 | dK kvs=>obtain⟨_,_,_,_,o,_,_,e,_⟩:=x;exact⟨_,e⟩
 | dT kvs=>obtain⟨_,_,_,_,o,_,_,e,_⟩:=x;exact⟨_,e⟩
 | set S n=>obtain⟨o,_,_,_,e,_⟩:=x;exact⟨_,e⟩
 | ins C dx fs=>obtain⟨_,_,_,e,_⟩:=x;exact⟨_,e⟩
 | own y=>exact x
 | xd fs=>obtain⟨_,⟨_,_,_,e,_⟩,_⟩:=x;exact⟨_,e⟩
 | rng lo hi=>obtain⟨_,_,_,e⟩:=x;exact⟨_,e⟩
 | frz ob u=>obtain⟨e,_⟩:=x;exact⟨_,e⟩
 | tbl ps=>exact⟨_,(show h.get? a=some _ from x)⟩
 | met f y=>exact⟨_,(show h.get? a=some _ from x)⟩
 | ext φ=>obtain⟨_,e,_⟩:=x;exact e
structure Flown (P:Program) (w:World) (outer:List Env) (H:Hp) (hc:Heap) (H':Hp) (ex C:Addr) (B:Heap) (a0:Value) (h:Heap):Prop where
 un:Un (frs outer) [] H H' hc h
 hok:HOk P w H' h
 fly:Heap.FlyingW B outer ex (.ref C) a0 h
 inB:∀b o,h.get? b=some o->b∉frs outer->((∃o',hc.get? b=some o')\/H' b≠none)->B.get? b=some o
 frf:∀b∈frs outer,H' b=none
theorem Flown.move{P:Program}{w:World}{outer:List Env}{H H':Hp}{hc B h h':Heap}{ex C:Addr}{a0:Value}(F:Flown P w outer H hc H' ex C B a0 h)(st:B.StaysIn h')(up:h.UpToSlots h'):
  Un (frs outer) [] H H' hc h'/\HOk P w H' h'/\∀b o,h'.get? b=some o->b∉frs outer->((∃o',hc.get? b=some o')\/H' b≠none)->B.get? b=some o:=by
 have nf:∀b∈frs outer,∀o,h.get? b=some o->∀vs,o.data ≠ .fields vs:=λb hb o e=>by
  obtain⟨_,o',e',d⟩:=F.fly.2.2.1.mem hb;rw[e] at e';cases e';exact d
 have tr:∀b o,H' b=some o->b∉frs outer:=λb o e hb=>by rw[F.frf b hb] at e;cases e
 have old:∀b,(∃o',hc.get? b=some o')\/H' b≠none->∃o,h.get? b=some o:=λb hb=>by
  rcases hb with ⟨o',e⟩ | hb
  ·obtain⟨o,e'⟩:=F.un.there b o' e (by simp);exact⟨o,e'⟩
  ·cases q:H' b with
   | none=>exact absurd q hb
   | some u=>exact(F.hok b u q).there
 refine⟨⟨λb o e n hb hx=>?_,λb o e n hb hx=>?_,F.un.free,λb o e hx=>?_,F.un.tups,F.un.frzs,F.un.tbls⟩,λa o e=>?_,λb o e hb hw=>?_⟩
 ·exact st b o (F.inB b o (F.un.keep b o e n hb hx) hb (.inl ⟨o,e⟩))
 ·obtain⟨sl,e1⟩:=F.un.slot b o e n hb hx;obtain⟨sl',e2⟩:=up b _ e1 (nf b hb _ e1);exact⟨sl',e2⟩
 ·obtain⟨o1,e1⟩:=F.un.there b o e hx;by_cases hb:b∈frs outer
  ·obtain⟨sl',e2⟩:=up b _ e1 (nf b hb _ e1);exact⟨_,e2⟩
  ·exact⟨o1,st b o1 (F.inB b o1 e1 hb (.inl ⟨o,e⟩))⟩
 ·refine(F.hok a o e).stay (λb u hb q=>?_) (λ_ q=>q) λ_ _ q=>q;have hn:H' b≠none:=by
   rcases hb with z | z
   ·rw[z,e];simp
   ·rw[z];simp
  have hb':b∉frs outer:=λz=>hn (F.frf b z);exact st b u (F.inB b u q hb' (.inr hn))
 ·obtain⟨o1,e1⟩:=old b hw;have e2:=F.inB b o1 e1 hb hw;have e3:=st b o1 e2;rw[e] at e3;cases e3;exact e2
def CX1 (P:Program) (w:World):CXT:=λouter H s E e s'=>
 ∃ex C H' B a0,e = .ref ex/\s'.os=s.os/\AllBare s'.gens/\Flown P w outer H s.heap H' ex C B a0 s'.heap/\E (.ref C) none H'
section
variable {P:Program}{w:World}{K:PySem.W.Frag}{mg:Str->Option Value}{base:Heap}{N:List Str}{qual:Str}{scope:Scope}{f:Addr}{cd:Value}{A:Around}{outer:List Env}{s:Shared}{H:Hp}{E:XK}
def Leaves (X:Cx) (E:XK):Prop:=∀(pins:List (Addr×Obj)) (σ:St) (H:Hp) (s:Shared) (h':Heap) (ex C:Addr) (args:List Value),
 Inv X pins σ H s->Heap.MadeExcOf s.heap h' ex (.ref C) args->E (.ref C) none H->X.xe (.ref ex) {s with heap:=h'}
theorem leaves1:Leaves (Bz (CX1 P w) P w K mg base N qual scope f cd A outer s H E) E:=by
 intro pins σ H1 s1 h' ex C args I hm hE;show wpAny (model P w) (A.deeper (envOfC qual scope s.heap.objs.size f cd)) (leaving (envOfC qual scope s.heap.objs.size f cd) (.ref ex)) _ _ {s1 with heap:=h'};have hst:(Bz (CX1 P w) P w K mg base N qual scope f cd A outer s H E).stack=envOfC qual scope s.heap.objs.size f cd::outer:=rfl;have hin:∀env∈(envOfC qual scope s.heap.objs.size f cd::outer),∀b,env.frame=some b->b∈frs (envOfC qual scope s.heap.objs.size f cd::outer):=λenv he b hb=>Ow.mpr ⟨env,he,hb⟩;have hFun:s1.heap.FunFrames base (envOfC qual scope s.heap.objs.size f cd::outer):=I.stack;have hB:(PySem.W.hideAll s1.heap (frs (envOfC qual scope s.heap.objs.size f cd::outer))).StaysIn s1.heap:=λb o q=>PySem.W.of_hideAll _ q;have getB:∀b o,s1.heap.get? b=some o->b∉frs (envOfC qual scope s.heap.objs.size f cd::outer)->(PySem.W.hideAll s1.heap (frs (envOfC qual scope s.heap.objs.size f cd::outer))).get? b=some o:=λb o e n=>PySem.W.hideAll_get _ e n;have sub:∀b,b∈frs (envOfC qual scope s.heap.objs.size f cd::outer)->b=s.heap.objs.size\/b∈frs outer:=λb hb=>Lk.mp (I.stkSub b hb);have sup:∀b,b∈frs outer->b∈frs (envOfC qual scope s.heap.objs.size f cd::outer):=λb hb=>by
  unfold frs at hb ⊢;rw[M0];split
  ·exact hb
  ·exact Lb _ hb
 have frFree:∀b,b∈frs (envOfC qual scope s.heap.objs.size f cd::outer)->H1 b=none:=λb hb=>I.stkFree b hb;refine wpAny_leaves_madeW (A:=A.deeper (envOfC qual scope s.heap.objs.size f cd)) (L:=s.heap.objs.size) I.ok.frames rfl hB (PySem.W.funFrames_hide hFun hin) hm λh'' t f1 _ _ up=>?_;have old:∀b o,s.heap.get? b=some o->b∉frs outer->b∉frs (envOfC qual scope s.heap.objs.size f cd::outer):=λb o e nb hb=>by
  rcases sub b hb with z | z
  ·exact absurd (Ph e) (by rw[z];exact Mb _)
  ·exact nb z
 have nf:∀b∈frs (envOfC qual scope s.heap.objs.size f cd::outer),∀o,s1.heap.get? b=some o->∀vs,o.data ≠ .fields vs:=λb hb o e=>by
  obtain⟨_,o',e',d⟩:=hFun.mem hb;rw[e] at e';cases e';exact d
 refine⟨ex,C,H1,_,_,rfl,I.os,I.bare,⟨⟨λb o e n hb hx=>?_,λb o e n hb hx=>?_,I.base.free,λb o e hx=>?_,I.base.tups,I.base.frzs,I.base.tbls⟩,λa o e=>?_,f1,λb o e hb hw=>?_,λb hb=>frFree b (sup b hb)⟩,hE⟩
 ·exact f1.1 b o (getB b o (I.base.keep b o e n hb hx) (old b o e hb))
 ·obtain⟨sl,e1⟩:=I.base.slot b o e n hb hx;obtain⟨sl',e2⟩:=up b _ (hm.keeps _ _ e1) (nf b (sup b hb) _ e1);exact⟨sl',e2⟩
 ·obtain⟨o1,e1⟩:=I.base.there b o e hx;by_cases hb:b∈frs (envOfC qual scope s.heap.objs.size f cd::outer)
  ·obtain⟨sl',e2⟩:=up b _ (hm.keeps _ _ e1) (nf b hb _ e1);exact⟨_,e2⟩
  ·exact⟨o1,f1.1 b o1 (getB b o1 e1 hb)⟩
 ·refine(I.hok a o e).stay (λb u hb q=>?_) (λ_ q=>q) λ_ _ q=>q;have hn:H1 b≠none:=by
   rcases hb with z | z
   ·rw[z,e];simp
   ·rw[z];simp
  exact f1.1 b u (getB b u q λz=>hn (frFree b z))
 ·have:∃o1,s1.heap.get? b=some o1/\b∉frs (envOfC qual scope s.heap.objs.size f cd::outer):=by
   rcases hw with ⟨o',e'⟩ | hw
   ·obtain⟨o1,e1⟩:=I.base.there b o' e' (λz=>absurd (show b∈([]:List Addr) from z) (by simp));exact⟨o1,e1,old b o' e' hb⟩
   ·cases q:H1 b with
    | none=>exact absurd q hw
    | some u=>
     obtain⟨o1,e1⟩:=(I.hok b u q).there;exact⟨o1,e1,λz=>hw (frFree b z)⟩
  obtain⟨o1,e1,nb⟩:=this;have e2:=getB b o1 e1 nb;have e3:=f1.1 b o1 e2;rw[e] at e3;cases e3;exact e2
theorem pass1:Passes (CX1 P w) (Bz (CX1 P w) P w K mg base N qual scope f cd A outer s H E) E:=by
 intro pins σ H1 s1 e s' I h;obtain⟨ex,C,H',B,a0,rfl,hos,hbare,F,hE⟩:=h;show wpAny (model P w) (A.deeper (envOfC qual scope s.heap.objs.size f cd)) (leaving (envOfC qual scope s.heap.objs.size f cd) (.ref ex)) _ _ s';have sub:∀b,b∈frs (envOfC qual scope s.heap.objs.size f cd::outer)->b=s.heap.objs.size\/b∈frs outer:=λb hb=>Lk.mp (I.stkSub b hb);have sup:∀b,b∈frs outer->b∈frs (envOfC qual scope s.heap.objs.size f cd::outer):=λb hb=>by
  unfold frs at hb ⊢;rw[M0];split
  ·exact hb
  ·exact Lb _ hb
 have old:∀b o,s.heap.get? b=some o->b∉frs outer->b∉frs (envOfC qual scope s.heap.objs.size f cd::outer):=λb o e nb hb=>by
  rcases sub b hb with z | z
  ·exact absurd (Ph e) (by rw[z];exact Mb _)
  ·exact nb z
 have F':Flown P w (envOfC qual scope s.heap.objs.size f cd::outer) H1 s1.heap H' ex C B a0 s'.heap:=F;refine wpAny_leaves_onW (A:=A.deeper (envOfC qual scope s.heap.objs.size f cd)) (L:=s.heap.objs.size) I.ok.frames rfl F'.fly λh'' f1 up=>?_;obtain⟨un,hok,inB⟩:=F'.move f1.1 up;refine⟨ex,C,H',B,a0,rfl,hos.trans I.os,hbare,⟨?_,hok,f1,λb o e hb hw=>?_,λb hb=>F'.frf b (sup b hb)⟩,hE⟩
 ·have un0:Un (frs outer) [] H H1 s.heap s1.heap:=I.base;refine⟨λb o e n hb hx=>?_,λb o e n hb hx=>?_,λb o e n hx=>?_,λb o e hx=>?_,λb xs e=>un.tups b xs (un0.tups b xs e),λb ob u e=>un.frzs b ob u (un0.frzs b ob u e),λb ps e=>?_⟩
  ·exact un.keep b o (un0.keep b o e n hb hx) (un0.free b o e n hx) (old b o e hb) hx
  ·obtain⟨sl,e1⟩:=un0.slot b o e n hb hx;obtain⟨sl',e2⟩:=un.slot b _ e1 (un0.free b o e n hx) (sup b hb) hx;exact⟨sl',e2⟩
  ·obtain⟨o1,e1⟩:=un0.there b o e hx;exact un.free b o1 e1 (un0.free b o e n hx) hx
  ·obtain⟨o1,e1⟩:=un0.there b o e hx;exact un.there b o1 e1 hx
  ·obtain⟨m1,e1⟩:=un0.tbls b ps e;obtain⟨m2,e2⟩:=un.tbls b _ e1;exact⟨m1++m2,by rw[e2,Array.append_assoc]⟩
 ·refine inB b o e ?_ ?_
  ·rcases hw with ⟨o',e'⟩ | hw
   ·exact old b o' e' hb
   ·intro z;exact hw (F'.frf b z)
  ·rcases hw with ⟨o',e'⟩ | hw
   ·obtain⟨o1,e1⟩:=(show Un (frs outer) [] H H1 s.heap s1.heap from I.base).there b o' e' (by simp);exact .inl ⟨o1,e1⟩
   ·exact .inr hw
end
abbrev bmV:List Value:=[.type "ValueError",.type "Exception",.type "BaseException",.type "object"]
theorem Xhh{K:PySem.W.Frag}{h:Heap}{C:Addr}{bmB:List Value}{newId:String}(X:K.In h)(q:PySem.W.excIn K C bmB newId=true):
  ∃bm N nm q bs hdct sn sub ab col dd k0 k1 k2 k3 k5 mN,h.get? C=some (excClassObj nm q C N bs bm hdct sn sub ab col dd k0 k1 k2 k3 k5 newId)/\h.Ns N mN/\mN "__init__" = none/\OwnTail h bmB bm:=by
 unfold PySem.W.excIn at q;split at q
 ·rename_i dd cd sl ho;split at q
  ·rename_i C' bm k0 k1 k2 k3 n k5 hm hs;simp only[Ln,beq_iff_eq,O3] at q;obtain⟨⟨⟨⟨⟨rfl,rfl⟩,hdel⟩,ht⟩,hok⟩,hni⟩:=q;obtain⟨nm,bs,mro,ns,qn,hd,sn,sub,ab,col,del⟩:=cd;dsimp only at hm hdel hok hni;subst hm hdel;have hsl:sl = #[k0,k1,k2,k3,some (.builtin n),k5]:=by
    obtain⟨l⟩:=sl;simp only at hs;rw[hs]
   subst hsl;exact⟨bm,ns,nm,qn,bs,hd,sn,sub,ab,col,dd,k0,k1,k2,k3,k5,_,X _ _ ho,.of_isNs (PySem.W.isNs_of_in X hok),PySem.W.nsMap_none_of_in X hok hni,PySem.W.tail_of_in X ht⟩
  ·cases q
 ·cases q
def Xhi (C:Addr) (E:XK) (t:TA):TS:=λ_ σ H=>t σ H λvs H1=>vs.length<=sizeLine/\E (.ref C) none H1
theorem Xbl{X:Cx}{C:Addr}{E:XK}{x:Str}{np cpos pos:Pos}{e:Expr}{es:List Expr}{t:TA}(hc:PySem.W.excIn X.K C bmV "ValueError.__new__" = true)(hcalm:X.calm=true)(hx:Leaves X E)(hg:Gl X x)(hm:X.mg x=some (.ref C))
  (ha:PA X (e::es) t) (hdb:(x==("__debug__" : Str))=false:=by decide) (he:starEach (e::es) X.env=(false,eval e X.env)::starEach es X.env:=by rfl) (hpl:(backTo cpos (starEach es X.env)).any (·.1)=false:=by rfl):
  PS X (.Raise (some (.Call (.Name x np) (e::es) [] cpos)) none pos) (Xhi C E t):=by
 intro pins s σ H D I h;obtain⟨tl,N,nm,q,bs,hdct,sn,sub,ab,col,dd,k0,k1,k2,k3,k5,mN,hC,hN,hni,T⟩:=Xhh I.mod.kin hc;refine wpAny_Raise_call_subT (C:=C) (nm:=nm) (q:=q) (N:=N) (bs:=bs) (bm:=tl) (hdct:=hdct) (sn:=sn) (sub:=sub) (ab:=ab) (col:=col) (dd:=dd) (k0:=k0) (k1:=k1) (k2:=k2) (k3:=k3) (k5:=k5)
  PySem.F.excBase_ValueError (mN:=mN) (T.hasType PySem.F.excBase_ValueError.hasBase) (I.ok.hd hcalm) (by rw[he];show (false||(backTo cpos (starEach es X.env)).any (·.1))=false;rw[hpl];rfl) hni (Xae I hg hm ⟨rfl,?_⟩ hdb)
 have hh:=thn (ha cpos pins s σ H _ I h) (Q':=λvs s₂=>vs.length<=sizeLine/\(∀b o,X.base.get? b=some o->s₂.heap.get? b=some o)/\∀h' e,Heap.MadeExcOf s₂.heap h' e (.ref C) vs->X.xe (.ref e) {s₂ with heap:=h'})
  (λus s2 ⟨vs,H2,I2,r2,hl,hE⟩=>⟨by rw[<-r2.length];exact hl,I2.bk,λh' ex hmk=>hx pins σ H2 s2 h' ex C us I2 hmk hE⟩)
 rw[he] at hh ⊢;exact Calls.evalArgs_plain (wpAny_mono hh (λvs s₂ h₂=>⟨rfl,h₂.1,h₂.2.1 _ _ hC,hN.keeps h₂.2.1,T.keeps h₂.2.1,h₂.2.2⟩) λ_ _ y=>y)
theorem Fun.ok1{P:Program}{w:World}{K:PySem.W.Frag}{mg:Str->Option Value}{base:Heap}{x qual:Str}{st:Stmt}{f:Addr}{fd:FuncData}{N ps:List Str}{k:Nat}{sp:Sp}(F:Fun K x qual st f fd)(S:FnScope N ps (Aj st))(len:∀vs H Q E,sp vs H Q E->vs.length=ps.length)
  (hbody:∀(cdv:Value) (A:Around) (outer:List Env) (s:Shared) (H:Hp) (vs:List V) (Q:VK) (E:XK),Room k (A.deeper (envOfC qual (Aj st) s.heap.objs.size f cdv))->sp vs H Q E ->
   ∃t,PSs (Bz (CX1 P w) P w K mg base N qual (Aj st) f cdv A outer s H E) (B4 st) t/\t {nx:=λ_ H'=>Q .non H',rt:=Q} (start N vs) H):FnOk P w K mg base (CX1 P w) (k+1) f fd ps sp:=by
 obtain⟨oc,od,kV,doc,pm,an,cdv,ct,osl,rfl,lk,hcd⟩:=F.ex;exact Ik lk hcd S len λA outer s H vs Q E hr hsp=>hbody cdv A outer s H vs Q E hr hsp
abbrev Cx.re (X:Cx) (pn:List (Addr×Obj)) (A:Around) (c:Bool) (E:Value->Shared->Prop):Cx:={X with pn:=pn,A:=A,calm:=c,xe:=E}
section
variable {X:Cx}{pins pins' pn:List (Addr×Obj)}{σ:St}{H:Hp}{s:Shared}{A:Around}{c:Bool}{E:Value->Shared->Prop}
end
def excP (ex C:Addr) (h:Heap):Prop:=∃o vs,h.get? ex=some o/\o.cls = .ref C/\o.data = .fields vs
def ExcO (ex C:Addr):HO:=.ext (excP ex C)
def Cx.tryC (X:Cx) (pn:List (Addr×Obj)) (R:Addr->St->Hp->Prop):Cx:=X.re pn X.A X.calm λe s1=>
 ∃σ Hc sc,Inv (X.re pn X.A X.calm λ_ _=>True) [] σ Hc sc/\CX1 X.prog X.w X.stack Hc sc (λc _ H1=>∃C,c = .ref C/\R C σ H1) e s1
def Cx.suite (X:Cx) (pn:List (Addr×Obj)) (ex:Addr):Cx:=X.re pn (X.A.mark (some (.ref ex))) false λ_ _=>False
section
variable {X:Cx}{pn:List (Addr×Obj)}{R:Addr->St->Hp->Prop}{k:Nat}{f:Addr}{fd:FuncData}{ps:List Str}{sp:Sp}{dvs:List V}{ds:List Value}{x:Str}{p pos:Pos}{e:Expr}{es:List Expr}{t:TA}
end
section
variable {X:Cx}{pos np hpos:Pos}{body:List Stmt}{b0:Stmt}{suite:List Stmt}{n x:Str}{i:Nat}{Cc:Addr}{tb:(Addr->St->Hp->Prop)->TS}{th:TS}
def tTry (K:PySem.W.Frag) (i:Nat) (Cc:Addr) (tb:(Addr->St->Hp->Prop)->TS) (th:TS):TS:=λD σ H=>∃R:Addr->St->Hp->Prop,tb R D σ H/\∀C σ1 H1,R C σ1 H1->PySem.W.exmOne K (.ref C) (.ref Cc)=some true /\
 ∀ex,H1 ex=none->th {nx:=fun σ2 H2=>D.nx (σ2.set i none) H2,rt:=D.rt,bk:=fun σ2 H2=>D.bk (σ2.set i none) H2,ct:=fun σ2 H2=>D.ct (σ2.set i none) H2} (σ1.set i (some (.ref ex))) (upd H1 ex (ExcO ex C))
end
section
variable {X:Cx}{pos p2:Pos}{e:Expr}{te:TE}
def tRev (K:PySem.W.Frag) (te:TE):TE:=fun σ H Q=>te σ H λx H1=>∃a xs,x = .ref a/\SqL K H1 a xs/\∀p,H1 p=none->Q (.ref p) (upd H1 p (.lst xs.reverse))
theorem Xbm{k:Nat}{p3 p4:Pos}(he:PE X e te):PE X (.Subscript e (.Slice none none (some (.UnaryOp .USub (.Constant (.int 1) k p3) p4)) p2) pos) (tRev X.K te):=by
 intro pins s σ H Q I h;refine Subscript_ (thn (he pins s σ H _ I h) λv s1 ⟨x,H1,I1,r1,q1⟩=>?_);have hstep:PE X (.UnaryOp .USub (.Constant (.int 1) k p3) p4) (tUn (rU λi=>.int (-i)) (tC (.int 1))):=Xf0 Xf2 Ah;refine wpAny_Slice ?_;rw[evalPart_none];refine O9 (O9 ?_);rw[evalPart_some];refine thn (hstep pins s1 σ H1 (λy H2=>y = .int (-1)/\H2=H1) I1 ⟨1,rfl,rfl,rfl⟩) λu s2 ⟨y,H2,I2,r2,ey,eH⟩=>?_;subst ey eH;obtain⟨t,rfl⟩:=r2;obtain⟨a,xs,ex,hx,q⟩:=q1;subst ex;cases r1;obtain⟨its,r,ht,hz⟩:=I2.list hx;have I4:Inv X pins σ H2 {s2 with heap:=s2.heap.push {cls:=.type "slice",data:=.fields #[.none,.none,.int (-1) t]} }:=I2.kept (t':=s2.toks) λb ob q=>Pi _ q;obtain⟨its4,r4,ht4,hz4⟩:=I4.list hx;have hlen:=r4.length;refine tail_any (ops:=[.ref a,.ref s2.heap.objs.size]) ht4.isList.typeIs slot_list_getitem.lookup (wpAny_getItem_list_slice ht4.isList (Heap.IsSliceOf.new ..) .none .none (.int (-1) t) (by simp) ?_ (by rw[Lm]<;>omega)) (by with_unfolding_all rfl);rw[PySem.W.krv_pick];refine⟨.ref _,_,I4.laid (t':=s2.toks) (o:=.lst xs.reverse) (λb ob q=>Pi _ q) (K9 _) ?_,rfl,q _ (I4.hok.fresh (K9 _))⟩;exact⟨by rw[List.length_reverse];exact hz4,_,0,Vals.reverse r4,Heap.get?_push_size _ rfl⟩
def Xhj (K:PySem.W.Frag) (n:Nat) (t:TGs):TG:=λv σ H Q=>∃a xs,v = .ref a/\SqL K H a xs/\xs.length=n/\t xs σ H Q
theorem Xhk{es:List Expr}{k:Nat}{t:TGs}{n:Nat}(hc:X.calm=true)(h:PGs X es t)
  (hn:(assignEach es X.env).length=n:=by rfl) (hst:(assignEach es X.env).findIdx? (·.1)=none:=by rfl):PG X (.Tuple es k pos) (Xhj X.K n t):=by
 intro pins s σ H v u Q I r hw;obtain⟨a,xs,e1,hq,hl,hw⟩:=hw;subst e1;cases r;obtain⟨its,rv,ht,hz⟩:=I.list hq;rw[assign_Tuple];refine O8 (wpAny_standAt ?_);unfold unpack;have hlen:(assignEach es X.env).length=its.toArray.size:=by rw[hn,<-hl,Lm];exact rv.length
 rw[hlen,hst];refine O8 (wpAny_holding (PySem.W.kun_itemsOf (I.ok.hd hc) ht.isList λh' hx=>?_));have I1:Inv X pins σ H {s with heap:=h'}:=I.kept (t':=s.toks) λb o e=>hx b o (Lg (Ph e)) e;exact h pins _ σ H xs _ Q I1 (by simpa using rv) hw
def repS (z:Str) (n:Nat):Str:=⟨(List.replicate n z.cps).foldl (· ++ ·) #[]⟩
theorem Xhl(z:Str):repS z 1=z:=by
 obtain⟨c⟩:=z;show (⟨(#[]:Array Nat)++c⟩:Str)=⟨c⟩;rw[Array.empty_append]
theorem Xbn(z:Array Nat):∀(n:Nat) (a:Array Nat),((List.replicate n z).foldl (· ++ ·) a).size=a.size+n * z.size
 | 0,a=>by simp
 | n+1,a=>by
  rw[List.replicate_succ,Oq,Xbn z n,Array.size_append,Nat.succ_mul];omega
theorem I0(z:Str)(n:Nat):(repS z n).length=n * z.length:=by
 have e:=Xbn z.cps n #[];show ((List.replicate n z.cps).foldl (· ++ ·) #[]).size=n * z.cps.size;simpa using e
theorem Xhm{z:Str}(h:z.length=0)(n:Nat):repS z n=z:=by
 have e:=I0 z n;rw[h,Nat.mul_zero] at e;generalize repS z n=y at e;obtain⟨c⟩:=z;obtain⟨d⟩:=y;have h':c.size=0:=h;have e':d.size=0:=e;rw[Array.size_eq_zero_iff] at h' e';rw[h',e']
theorem Xhn:OpR X (binaryOp .Mult) (λx y H Q=>∃z n,x = .str z/\y = .int n/\0<=n/\n<=1000/\z.length<=1000/\Q (.str (repS z n.toNat)) H):=by
 intro pins s σ H x y v u Q I rx ry h;obtain⟨z,n,rfl,rfl,h0,h1,hz,q⟩:=h;obtain⟨t,rfl⟩:=rx;obtain⟨t',rfl⟩:=ry;have hle:z.length * n.toNat<=1000 * 1000:=Nat.mul_le_mul hz (by omega);refine PySem.P.mul_str ?_ (λhn hz1=>?_) (λhn hz1=>?_) ?_
 ·have h2:¬n < -(2 ^ 63:Int):=by omega
  have h3:¬n ≥ 2 ^ 63:=by omega
  rw[Pe h2,Pe h3];rfl
 ·have h4:(1000:Int)<=(2 ^ 63 - 1) / n:=by
   refine(Int.le_ediv_iff_mul_le (by omega)).mpr ?_;have:(1000:Int) * n<=1000 * 1000:=by omega
   omega
  omega
 ·show Builtin.Str.tooLong _=false;unfold Builtin.Str.tooLong
  first
   | (refine Pe ?_;have:=hle;rw[Pa];omega)
   | (simp;omega)
 ·by_cases hn:n<1
  ·rw[Pc hn];have:n=0:=by omega
   subst this;exact⟨by decide,.str Str.empty,H,I.tok _,⟨_,rfl⟩,q⟩
  ·rw[Pb hn];by_cases hc:(n==1||z.length==0)=true
   ·rw[Pc hc];have e:repS z n.toNat=z:=by
     rcases Os.mp hc with e | e
     ·have e':n=1:=by simpa using e
      subst e';exact Xhl z
     ·exact Xhm (by simpa using e) _
    rw[e] at q;exact⟨.str z,H,I,⟨_,rfl⟩,q⟩
   ·rw[Pb hc];refine⟨?_,.str (repS z n.toNat),H,I.tok _,⟨_,rfl⟩,q⟩;show (repS z n.toNat).length<=sizeLine;rw[I0,Nat.mul_comm,Pa];omega
theorem Ja:X.calm=true->Cj X (.builtin "all") (λxs H Q=>∃(a:Addr) (bs:List Bool),xs=[.ref a]/\H a=some (.lst (bs.map V.bl))/\Q (.bl (bs.all id)) H):=by
 intro hc pins s σ H xs us Q I r h;obtain⟨a,bs,rfl,ha,q⟩:=h;obtain⟨u,rfl,ru⟩:=Ct r;cases ru;obtain⟨its,rv,p,hz⟩:=I.list (SqL.of ha);have hl:=rv.length;rw[K8] at hl;refine call_all_walk (wpAny_pyIter_list p.isList ?_);have hlt:a≠s.heap.objs.size:=by
  obtain⟨o,ho,_⟩:=p.isList;exact Lg (Ph ho)
 refine⟨s.heap.objs.size,_,_,_,_,_,λj=>bs.getD j false,rfl,Walks.list (A:=X.A.in1) (show X.A.in1.handled=none from I.ok.hd hc) s.heap.objs.size a hlt its.toArray,⟨⟨_,Heap.get?_push_size _ rfl,rfl,rfl⟩,p.isList.push _⟩,λi v s' Q' E' hP hQ=>?_,λh' tk k=>?_⟩
 ·have hv:its[i]? = some v:=by simpa using hP
  have hi:i<its.length:=(L3.mp hv).1;have g:(bs.map V.bl)[i]? = some (.bl (bs[i]'(by omega))):=by
   rw[Lx,Li (by omega)];rfl
  obtain⟨u,hu,ru⟩:=rv.get g;rw[hv] at hu;cases hu;cases ru;have e:bs.getD i false=bs[i]'(by omega):=by simp[List.getD,(by omega:i<bs.length)]
  have hQ':Q' (bs.getD i false) s':=hQ;rw[e] at hQ';exact wpAny_truthy_bool hQ'
 ·refine⟨.bl (bs.all id),H,I.kept (t':=tk) λb o e=>k b o (λz=>?_) (Pi _ e),?_,q⟩
  ·have z':b=s.heap.objs.size:=by simpa using z
   exact absurd (Ph e) (by rw[z'];exact Mb _)
  ·show Value.bool _=Value.bool _;congr 1;rw[Lm,<-hl];rw[Mx,Lz,Lz];constructor
   ·intro hx b hb;obtain⟨j,hj,rfl⟩:=Mt.mp hb;have:=hx j (Mp.mpr hj);simpa [List.getD,hj] using this
   ·intro hx j hj;have hj':=Mp.mp hj;have:=hx _ (L8 hj');simpa [List.getD,hj'] using this
end
def Itd (d:Addr) (o:Obj) (kvs:List (Key×V)):It:=
 ⟨λi H=>H d=some (.frz o (.dK kvs))/\i<kvs.length,λi H x H'=>H'=H/\∃p,kvs[i]? = some p/\x=kV p.1,λi H=>H d=some (.frz o (.dK kvs))/\kvs.length<=i⟩
theorem Xho{P:Program}{w:World}{k:Key}{u:Value}(h:(A0 P w).is k u=true):Ag (kV k) u:=by
 rcases Cq (show C1 k u=true from h) with ⟨i,t,rfl,rfl⟩ | ⟨x,t,rfl,rfl⟩
 ·exact⟨t,rfl⟩
 ·exact⟨t,rfl⟩
theorem Xbo:∀{kvs:List (Key×V)} {vs:List (Key×Value)} {i:Nat} {p:Key×V},KV kvs vs->kvs[i]? = some p->∃u,vs[i]? = some (p.1,u)
 | _,_,_,_,.nil,e=>by simp at e
 | _,_,0,p,.cons (b:=b) r _,e=>by
  simp at e;subst e;obtain⟨k,u⟩:=b;obtain⟨r1,r2⟩:=r;exact⟨u,by simp only[List.getElem?_cons_zero,Option.some.injEq,Prod.mk.injEq];exact⟨r1.symm,trivial⟩⟩
 | _,_,i+1,p,.cons _ t,e=>by
  obtain⟨u,h⟩:=Xbo (i:=i) t (by simpa using e);exact⟨u,by simpa using h⟩
theorem Jb{P:Program}{w:World}{K:PySem.W.Frag}{tg:Expr}(d it:Addr)(o:Obj)(es:Array DictEntry)(ep:Nat)(hd:o.data = .dict es ep)(kvs:List (Key×V))(hne:d≠it):
  Turn P w K tg (Itd d o kvs) [it] it (λi h=>h.IsKeyIter it d i kvs.length ep) where
 mem:=by simp
 obj:=λi h st b hb=>by
  have e:b=it:=by simpa using hb
  subst e;obtain⟨o,e,c,d⟩:=st;exact⟨o,e,λv z=>by rw[d] at z;cases z⟩
 keep:=λi h h' st k=>by
  obtain⟨o,e,r⟩:=st;exact⟨o,k it (by simp) o e,r⟩
 item:=by
  intro X hP hw hK hc i pins s σ H E I hf st hg;subst hP hw hK;obtain⟨hH,hi⟩:=hg;obtain⟨ho,hz,hm,vs,rv,o',es',ep',ho',hex,hd',r'⟩:=I.hok d _ hH;rw[ho] at ho';cases ho';rw[hd] at hd';cases hd';have hlen:kvs.length=vs.length:=Paired.length rv;obtain⟨f0,f1,f2,f3,f4,f5⟩:=hf it (by simp);have hp:kvs[i]? = some (kvs[i]'hi):=Li hi;obtain⟨u,hu⟩:=Xbo rv hp;rw[hlen] at st;refine wpAny_pyNext_dict_item (knd:=A0 X.prog X.w) st ⟨o,es,ho,hex,hd,r'⟩ hu λkey h' hk st' sb=>?_;have I1:Inv X pins σ H {s with heap:=h'}:=I.turned (t':=s.toks) (λb o hb e=>(sb.2 b hb).trans e) f0 f1 f3 f4 f5;obtain⟨o2,e2,c2,d2⟩:=id st';refine⟨key,rfl,Gc (s:={s with heap:=h'}) e2 c2 d2 (by decide) ⟨_,H,I1,Xho hk,⟨rfl,_,hp,rfl⟩,?_,λb hb=>(hf b hb).1⟩⟩;rw[hlen];exact st'
 done:=by
  intro X hP hw hK hc i pins s σ H E I hf st hg;subst hP hw hK;obtain⟨hH,hi⟩:=hg;obtain⟨ho,hz,hm,vs,rv,o',es',ep',ho',hex,hd',r'⟩:=I.hok d _ hH;rw[ho] at ho';cases ho';rw[hd] at hd';cases hd';have hlen:kvs.length=vs.length:=Paired.length rv;obtain⟨f0,f1,f2,f3,f4,f5⟩:=hf it (by simp);rw[hlen] at st;exact wpAny_pyNext_dict_end (knd:=A0 X.prog X.w) (I.ok.hd hc) st ⟨o,es,ho,hex,hd,r'⟩ (Ny (by omega)) λh' eb=>⟨rfl,I.turned (t':=s.toks) (λb o hb e=>eb b o hb e) f0 f1 f3 f4 f5⟩
 self:=λA i s Q E st h=>by
  refine wpAny_pyIter_slot st.typeIs PySem.F.slot_dict_keyiterator_iter (wpAny_call_entry PySem.F.slot_dict_keyiterator_iter st.typeIs PySem.F.entry_dict_keyiterator_iter ?_ (PySem.F.args_dict_keyiterator_iter_1 _));show wpAny _ _ (ret (.ref it)) _ _ s;exact O9 ⟨_,rfl, "dict_keyiterator",_,st.typeIs,PySem.F.slot_dict_keyiterator_next.lookup,h⟩
section
variable {X:Cx}{tg:Expr}
theorem Inv.freeze{pins:List (Addr×Obj)}{σ:St}{H:Hp}{s:Shared}{d:Addr}{kvs:List (Key×V)}{o:Obj}(I:Inv X pins σ H s)(hH:H d=some (.dK kvs))(ho:s.heap.get? d=some o):Inv X pins σ (upd H d (.frz o (.dK kvs))) s:=by
 have ne:∀{b:Addr} {u:HO},H b=some u->(HO.dK kvs≠u)->b≠d:=λ{b u} e n=>Xaa e hH (λz=>n z.symm);refine⟨I.ok,I.os,I.bare,⟨I.base.keep,I.base.slot,λb ob e n hx=>?_,I.base.there,λb xs e=>?_,λb ob u e=>?_,λb ps e=>?_⟩,I.loc,I.cell,?_,λx c e=>?_,λp hp'=>?_,λb ob e=>?_,I.len⟩
 ·have q:=I.base.free b ob e n hx;rw[Ad (λz=>by rw[z,hH] at q;cases q)];exact q
 ·have q:=I.base.tups b xs e;rw[Ad (ne q (by simp))];exact q
 ·have q:=I.base.frzs b ob u e;rw[Ad (ne q (by simp))];exact q
 ·obtain⟨more,q⟩:=I.base.tbls b ps e;exact⟨more,by rw[Ad (ne q (by simp))];exact q⟩
 ·rw[Ad (λz=>by have:=I.free;rw[z,hH] at this;cases this)];exact I.free
 ·have q:=I.freeC x c e;rw[Ad (λz=>by rw[z,hH] at q;cases q)];exact q
 ·obtain⟨e,n,r⟩:=I.pin p hp';exact⟨e,by rw[Ad (λz=>by rw[z,hH] at n;cases n)];exact n,r⟩
 ·by_cases hb:b=d
  ·subst hb;rw[Ab] at e;cases e;exact⟨ho,(I.hok b _ hH).stay (λ_ _ _ q=>q) (λc q=>by rw[Ad (ne q (by simp))];exact q) λc xs q=>by rw[Ad (ne q (by simp))];exact q⟩
  ·rw[Ad hb] at e;exact(I.hok b ob e).stay (λ_ _ _ q=>q) (λc q=>by rw[Ad (ne q (by simp))];exact q) λc xs q=>by rw[Ad (ne q (by simp))];exact q
def Xhp (tl:TE):TI:=fun σ H R=>tl σ H λx H1=>∃d kvs,x = .ref d/\H1 d=some (.dK kvs)/\∀o,R (Itd d o kvs) (upd H1 d (.frz o (.dK kvs)))
theorem Xhq{l:Expr}{tl:TE}(hl:PE X l tl):PI X tg l (Xhp tl):=by
 intro pins s σ H R I h;refine thn (hl pins s σ H _ I h) λv s1 ⟨x,H1,I1,r1,q1⟩=>?_;obtain⟨d,kvs,e,hH,q⟩:=q1;subst e;cases r1;obtain⟨hz,hm,vs,rv,o,es,ep,ho,hex,hd,r⟩:=I1.hok d _ hH;have hlen:kvs.length=vs.length:=Paired.length rv;refine wpAny_pyIter_dict (knd:=A0 X.prog X.w) hm ⟨o,es,ho,hex,hd,r⟩ ?_;have I2:=I1.freeze hH ho;refine⟨s1.heap.objs.size,[s1.heap.objs.size],_,_,_,rfl,I2.kept (t':=s1.toks) λb o e=>Pi _ e,Jb d _ o es ep hd kvs (Lg (Ph ho)),⟨_,Heap.get?_push_size _ rfl,rfl,by rw[hlen];rfl⟩,λb hb=>?_,q o⟩;have e:b=s1.heap.objs.size:=by simpa using hb
 subst e;exact I2.fpOk (K9 _) (I2.hok.fresh (K9 _))
end
def PJ (X:Cx) (es:List Expr) (t:St->Hp->(Hp->Prop)->Prop):Prop:=
 ∀(out:Str) (pins:List (Addr×Obj)) (s:Shared) (σ:St) (H:Hp) (Q:Hp->Prop),Inv X pins σ H s->t σ H Q->out.length+5000 * es.length<=sizeLine ->
  wpAny (model X.prog X.w) X.A (joinParts out (evalEach es X.env)) (λu s'=>∃z tk H',u = .str z tk/\Inv X pins σ H' s'/\Q H') X.xe s
def Xhr:St->Hp->(Hp->Prop)->Prop:=λ_ H Q=>Q H
def Xhs (t:St->Hp->(Hp->Prop)->Prop):St->Hp->(Hp->Prop)->Prop:=t
section
variable {X:Cx}{es:List Expr}{t:St->Hp->(Hp->Prop)->Prop}{e:Expr}{te:TE}{pos:Pos}
theorem Xbp:PJ X [] Xhr:=λout pins s σ H Q I h hz=>joinParts_nil ⟨out,_,H,rfl,I.tok _,h⟩ (by simpa using hz)
theorem Ea(a b:Str):(a++b).length=a.length+b.length:=strLen_append a b
theorem Gk{z:Str}{k:Nat}{p:Pos}(hz:z.length<=5000)(h:PJ X es t)(he:evalEach (.Constant (.str z) k p::es) X.env=eval (.Constant (.str z) k p) X.env::evalEach es X.env:=by rfl):PJ X (.Constant (.str z) k p::es) (Xhs t):=by
 intro out pins s σ H Q I hw hl;rw[he];rw[Lp] at hl;refine joinParts_cons (Calls.Constant_str ⟨by rw[Ea];omega,?_⟩);exact h (out++z) pins _ σ H Q (I.tok _) hw (by rw[Ea];omega)
def Xht (t:St->Hp->(Hp->Prop)->Prop):TE:=fun σ H Q=>t σ H λH1=>∀z,Q (.str z) H1
theorem Xbq{a b:Expr}(h:PJ X (a::b::es) t)(hz:5000 * (a::b::es).length<=sizeLine:=by decide)(he:evalEach (a::b::es) X.env=eval a X.env::eval b X.env::evalEach es X.env:=by rfl):PE X (.JoinedStr (a::b::es) pos) (Xht t):=by
 intro pins s σ H Q I hw;refine JoinedStr_many ?_;rw[<-he];refine thn (h Str.empty pins s σ H _ I hw (by rw[show Str.empty.length=0 from rfl];omega)) λu s' ⟨z,tk,H',e,I',q⟩=>?_;subst e;exact⟨.str z,H',I',⟨tk,rfl⟩,q z⟩
end
end L2
namespace L2
open PySem PySem.Spec PyProof.Rows PySem.Calls Builtin Builtin.ObjectAttr Builtin.Getset_descriptor
structure ExcF (K:PySem.W.Frag) (C:Addr):Prop where
 ga:PySem.W.findIn K (.ref C) "__getattribute__" = some (some (.builtin "BaseException.__getattribute__"))
 gn:PySem.W.findIn K (.ref C) "__getattr__" = some none
 cl:PySem.W.findIn K (.ref C) "__class__" = some (some (.builtin "object.__class__"))
 sb:PySem.W.subIn K (.ref C) (.type "BaseException")=some true
 so:PySem.W.subIn K (.ref C) (.type "object")=some true
 ic:(PySem.W.clsIn K C).isSome=true
section
variable {prog:Program}{w:World}{A:Around}{E:Value->Shared->Prop}{K:PySem.W.Frag}{C a:Addr}{h:Heap}{g:Array GenState}{d:Drawn}{t:Nat}{os:OsState}
end
end L2
namespace L2
open PySem PySem.Spec PyProof.Rows
def clsV:V->Option Value
 | .ty n=>some (.type n)
 | .ref a=>some (.ref a)
 | _=>none
section
variable {X:Cx}
end
def wN (n:Nat) (Pv:Nat->St->Hp->Prop):Nat->Nat->St->Hp->Prop:=λi m σ H=>m=n - i/\i<=n/\Pv i σ H
theorem wput{n i:Nat}{Pv:Nat->St->Hp->Prop}{σ:St}{H:Hp}{D:Addr}{y:V}{ys:List V}(hi:i<n)(hD:H D=some (.lst ys))(hl:ys.length<sizeLine)(p:Pv (i+1) σ (upd H D (.lst (ys++[y])))):
  ∃ys,H D=some (.lst ys)/\ys.length<sizeLine/\∃m',m'<n - i/\wN n Pv (i+1) m' σ (upd H D (.lst (ys++[y]))):=⟨ys,hD,hl,n - (i+1),by omega,rfl,hi,p⟩
theorem wskip{n i:Nat}{Pv:Nat->St->Hp->Prop}{σ:St}{H:Hp}(hi:i<n)(p:Pv (i+1) σ H):∃m',m'<n - i/\wN n Pv (i+1) m' σ H:=⟨n - (i+1),by omega,rfl,hi,p⟩
theorem Fj{cap:List (Option Nat)}{g:TG}{tt:TT}{te:TE}{J:It}{σ:St}{H1:Hp}{F:Addr->Hp->Prop}(n:Nat)(vs:Nat->V)(Pv:Addr->Nat->St->Hp->Prop)
  (h0:∀D,H1 D=none->Pv D 0 (Bk cap σ) (upd H1 D (.lst [])))
  (hgo:∀D i σ2 H2,H1 D=none->i<n->Pv D i σ2 H2->J.go i H2/\∀x H3,J.yld i H2 x H3->H3=H2/\x=vs i)
  (hst:∀D σ2 H2,H1 D=none->Pv D n σ2 H2->J.stop n H2)
  (step:∀D i σ1 H2,H1 D=none->i<n->Pv D i σ1 H2->g (vs i) σ1 H2 fun σ2 H4=>tt σ2 H4 λb H5=>
   if b=true then te σ2 H5 λy H6=>∃ys,H6 D=some (.lst ys)/\ys.length<sizeLine/\∃m',m'<n - i/\wN n (Pv D) (i+1) m' σ2 (upd H6 D (.lst (ys++[y])))
   else ∃m',m'<n - i/\wN n (Pv D) (i+1) m' σ2 H5)
  (hd:∀D σ2 H2,H1 D=none->Pv D n σ2 H2->F D H2):Dj cap g tt te J σ H1 F:=by
 intro D hD;refine⟨wN n (Pv D),⟨n,by simp,L6 _,h0 D hD⟩,?_⟩;rintro i m σ1 H2 ⟨rfl,hi,p⟩;by_cases hlt:i<n
 ·obtain⟨h1,h2⟩:=hgo D i σ1 H2 hD hlt p;refine .inr ⟨h1,λx H3 y=>?_⟩;obtain⟨e1,e2⟩:=h2 x H3 y;subst e1 e2;exact step D i σ1 _ hD hlt p
 ·have e:i=n:=by omega
  subst e;exact .inl ⟨hst D σ1 H2 hD p,hd D σ1 H2 hD p⟩
theorem Dk{K:PySem.W.Frag}{a:Addr}{xs:List V}{H:Hp}{i:Nat}(h:SqL K H a xs)(hi:i<xs.length):(Itl K a).go i H/\∀x H3,(Itl K a).yld i H x H3->H3=H/\x=xs.getD i .non:=
 ⟨⟨xs,xs[i],h,by simp[hi]⟩,λx H3 ⟨e,y⟩=>⟨e,by have:=y xs h;simp[List.getD,this]⟩⟩
theorem Dl{K:PySem.W.Frag}{a:Addr}{xs:List V}{H:Hp}(h:SqL K H a xs):(Itl K a).stop xs.length H:=⟨xs,h,K9 _⟩
theorem Xbr{K:PySem.W.Frag}{a:Addr}{xs:List V}{H:Hp}{i:Nat}(h:SqT K H a xs)(hi:i<xs.length):(Itt K a).go i H/\∀x H3,(Itt K a).yld i H x H3->H3=H/\x=xs.getD i .non:=
 ⟨⟨xs,xs[i],h,by simp[hi]⟩,λx H3 ⟨e,y⟩=>⟨e,by have:=y xs h;simp[List.getD,this]⟩⟩
theorem Xbs{K:PySem.W.Frag}{a:Addr}{xs:List V}{H:Hp}(h:SqT K H a xs):(Itt K a).stop xs.length H:=⟨xs,h,K9 _⟩
theorem Fk{d:Addr}{o:Obj}{kvs:List (Key×V)}{H:Hp}{i:Nat}(h:H d=some (.frz o (.dK kvs)))(hi:i<kvs.length):(Itd d o kvs).go i H/\∀x H3,(Itd d o kvs).yld i H x H3->H3=H/\x=(kvs.map λp=>kV p.1).getD i .non:=
 ⟨⟨h,hi⟩,λx H3 ⟨e,p,hp,y⟩=>⟨e,by rw[y];simp[List.getD,hp]⟩⟩
theorem Fl{d:Addr}{o:Obj}{kvs:List (Key×V)}{H:Hp}(h:H d=some (.frz o (.dK kvs))):(Itd d o kvs).stop kvs.length H:=⟨h,K9 _⟩
end L2
namespace L2
open PySem PySem.Spec PyProof.Rows PySem.Calls
theorem Xhu(t:SetTable)(n:Nat):(t.orStandIn n).led=t.led:=by
 unfold SetTable.orStandIn;split
 ·rfl
 ·rfl
theorem Xhv(t:SetTable)(es:Array (Int×Value))(k:Int)(x:Value):(layNew t es k x).2.1.led=t.led:=by
 unfold layNew;split
 ·exact Xhu _ _
 ·rfl
theorem Xhw{mask finger moves:Nat}{led plain:Bool}{hs:Array Int}{t:SetTable}{o:Array Nat}(h:SetTable.laid mask finger moves led plain hs=some (t,o)):t.led=led/\t.plain=plain:=by
 unfold SetTable.laid at h;cases q:SetTable.layClean mask hs with
 | none=>rw[q] at h;cases h
 | some ow=>
  rw[q] at h;cases h;exact⟨rfl,rfl⟩
theorem Xhx(t:SetTable)(es:Array (Int×Value))(n:Nat)(hp:t.plain=false):(relayAll t es n).2.1.led=t.led/\(relayAll t es n).2.1.plain=false:=by
 unfold relayAll;split
 ·rename_i t' o e;obtain⟨e1,e2⟩:=Xhw e;dsimp only;split
  ·exact⟨e1,e2.trans hp⟩
  ·exact⟨rfl,rfl⟩
 ·exact⟨rfl,rfl⟩
def A2 (w:World):Bool:=w.params.followText "set-order"
def SSet (P:Program) (w:World) (h:Heap) (a:Addr) (ks:List Str):Prop:=
 ∃o es ep t ls,h.get? a=some o/\o.ExactSet/\o.data = .set es ep t/\ElemsOf (PySem.strKind P w) es.toList/\StrsAre (es.toList.map (·.2)) ls/\ls.Perm ks/\es.size<scanBound/\t.fits es.size=true/\t.led = !A2 w/\(t.plain=true->es.size=0)
theorem Gm{l1 l2:List (Int×Value)}{ls:List Str}(p:l1.Perm l2)(h:StrsAre (l2.map (·.2)) ls):∃ls',StrsAre (l1.map (·.2)) ls'/\ls'.Perm ls:=by
 refine⟨(l1.map (·.2)).map strOf,strsAre_map _ (λv hv=>?_),?_⟩
 ·exact h.all v ((p.map (·.2)).mem_iff.mp hv)
 ·rw[<-h.strs];exact(p.map (·.2)).map strOf
theorem Xhy{vs:List Value}{ls:List Str}{x:Str}{t:Tok}(h:StrsAre vs ls):StrsAre (vs++[.str x t]) (ls++[x]):=by
 induction h with
 | nil=>exact .cons x t .nil
 | cons y u _ ih=>exact .cons y u ih
section
variable {P:Program}{w:World}{A:Around}{E:Value->Shared->Prop}{s:Shared}{a:Addr}{ks:List Str}
theorem SSet.stay{h h':Heap}(S:SSet P w h a ks)(k:∀o,h.get? a=some o->h'.get? a=some o):SSet P w h' a ks:=by
 obtain⟨o,es,ep,t,ls,ho,r⟩:=S;exact⟨o,es,ep,t,ls,k o ho,r⟩
theorem Xbt{vs:List (Int×Value)}{ls:List Str}(h:StrsAre (vs.map (·.2)) ls){x:Str}:x∈ls ↔ ∃e∈vs,(PySem.strKind P w).is x e.2=true:=by
 rw[<-h.strs];constructor
 ·intro hx;obtain⟨v,hv,rfl⟩:=Lw.mp hx;obtain⟨e,he,rfl⟩:=Lw.mp hv;obtain⟨y,t,q⟩:=h.all e.2 hv;refine⟨e,he,?_⟩;rw[q];exact strKind_is P w y t
 ·rintro ⟨e,he,q⟩;obtain⟨t,e2⟩:=Value.isStrOf_shape q;exact Lw.mpr ⟨e.2,Lw.mpr ⟨e,he,rfl⟩,by rw[e2];rfl⟩
theorem Xbu{o:Obj}{es:Array (Int×Value)}{ep:Nat}{t:SetTable}{h:Heap}(ho:h.get? a=some o)(hex:o.ExactSet)(hd:o.data = .set es ep t){es':Array (Int×Value)}{t':SetTable}{ls:List Str}
  (hel:ElemsOf (PySem.strKind P w) es'.toList) (hs:StrsAre (es'.toList.map (·.2)) ls) (hp:ls.Perm ks) (hb:es'.size<scanBound) (hf:t'.fits es'.size=true) (hl:t'.led = !A2 w) (hpl:t'.plain=false):
  (h.update a (Obj.putSet es' t')).get? a=some {o with data:=.set es' (ep+1) t'}/\SSet P w (h.update a (Obj.putSet es' t')) a ks:=by
 have g:=Heap.get?_update_self (Obj.putSet es' t') ho (by rw[putSet_of es' t' hd];rfl);rw[putSet_of es' t' hd] at g;exact⟨g,_,es',ep+1,t',ls,g,hex,rfl,hel,hs,hp,hb,hf,hl,λz=>by rw[hpl] at z;cases z⟩
theorem Xbv{g:Bool->Sem Unit}(hg:∀(b:Bool) (s1:Shared) (Q':Unit->Shared->Prop),Q' () s1->wpAny (model P w) A (g b) Q' E s1)
    {o:Obj} {es:Array (Int×Value)} {ep:Nat} {t:SetTable} (ho:s.heap.get? a=some o) (hex:o.ExactSet) (hd:o.data = .set es ep t) {es1:Array (Int×Value)} {t2:SetTable} {ls:List Str}
    (hel:ElemsOf (PySem.strKind P w) es1.toList) (hs:StrsAre (es1.toList.map (·.2)) ls) (hp:ls.Perm ks) (hb:es1.size<scanBound) (hf:t2.fits es1.size=true) (hl:t2.led = !A2 w) (hpl:t2.plain=false) {wd:Bool} {R:Option Bool->Shared->Prop}
    (h:∀h',Heap.SameBut a s.heap h'->SSet P w h' a ks->R (some true) {s with heap:=h'}):
    wpAny (model P w) A (do
        storeSet a es1 t2
        if (!wd && t2.tooFull) = true then do g (relayAll t2 es1 (SetTable.grown es1.size)).2.2
                                              storeSet a (relayAll t2 es1 (SetTable.grown es1.size)).1 (relayAll t2 es1 (SetTable.grown es1.size)).2.1
                                              pure (some true)
        else pure (some true)) R E s:=by
  refine O8 (wpAny_storeSet_of ho hd ?_ (fits_of_scanBound hb));obtain⟨g1,S1⟩:=Xbu (P:=P) (w:=w) ho hex hd hel hs hp hb hf hl hpl;have sb:=Pj s.heap a (Obj.putSet es1 t2);split
  . have pp:=relayAll_perm t2 es1 (SetTable.grown es1.size);have ff:=relayAll_fits t2 es1 (SetTable.grown es1.size);obtain⟨fl1,fl2⟩:=Xhx t2 es1 (SetTable.grown es1.size) hpl;generalize relayAll t2 es1 (SetTable.grown es1.size)=R3 at pp ff fl1 fl2 ⊢;obtain⟨es3,t3,gv⟩:=R3;dsimp only at pp ff fl1 fl2 ⊢;obtain⟨ls3,s3,p3⟩:=Gm pp hs;have z:es3.size=es1.size:=by rw[<-Lh,pp.length_eq,Lh]
    refine O8 (hg _ _ _ ?_);refine O8 (wpAny_storeSet_of g1 rfl ?_ (fits_of_scanBound (by rw[z];exact hb)));obtain⟨_,S3⟩:=Xbu (P:=P) (w:=w) (ks:=ks) g1 hex rfl (hel.perm pp) s3 (p3.trans hp) (by rw[z];exact hb) ff (fl1.trans hl) fl2;exact O9 (h _ (sb.trans (Pj _ a _)) S3)
  . exact O9 (h _ sb S1)
theorem sset_add{x:Str}{tk:Tok}{Q:Bool->Shared->Prop}(S:SSet P w s.heap a ks)(hr:ks.length+1<scanBound)
  (h:∀b h',Heap.SameBut a s.heap h'->SSet P w h' a (if x∈ks then ks else ks++[x])->Q b {s with heap:=h'}):
  wpAny (model P w) A (setAddHashed a (.str x tk) ((PySem.strKind P w).hash x)) Q E s:=by
 obtain⟨o,es,ep,t,ls,ho,hex,hd,hel,hs,hp,hb,hf,hl,hpl⟩:=S;have hlen:es.size=ks.length:=by
  have:=hs.length;rw[K8,Lh] at this;rw[this,hp.length_eq]
 have hkey:(PySem.strKind P w).is x (.str x tk)=true:=strKind_is P w x tk;have hin:x∈ks ↔ ∃e∈es.toList,(PySem.strKind P w).is x e.2=true:=hp.mem_iff.symm.trans (Xbt hs);unfold setAddHashed setAddHashedIn;refine wpAny_holding (O8 (wpAny_setState_of ho hd hf ?_));dsimp only;rw[byScan_of (knd:=PySem.strKind P w) rfl hb hel];simp only[↓reduceIte];unfold setAddByScan;refine O8 (O8 (wpAny_rule (O8 (wpAny_setScan_of hkey ho hd hf hel ?_))));cases hf1:List.findIdx? (λe=>(PySem.strKind P w).is x e.2) es.toList with
 | some j=>
  dsimp only;obtain⟨hj,hpj,_⟩:=N6.mp hf1;have hx:x∈ks:=hin.mpr ⟨es.toList[j],L8 hj,hpj⟩;refine O9 (O9 ?_);have:=h false s.heap (Heap.SameBut.refl a s.heap) (by rw[Pc hx];exact⟨o,es,ep,t,ls,ho,hex,hd,hel,hs,hp,hb,hf,hl,hpl⟩);exact this
 | none=>
  dsimp only;have hx:x∉ks:=λz=>by
   obtain⟨e,he,q⟩:=hin.mp z;have:=List.findIdx?_eq_none_iff.mp hf1 e he;rw[q] at this;cases this
  have gw:∀(b:Bool) (s1:Shared) (Q':Unit->Shared->Prop),Q' () s1->wpAny (model P w) A (match b with | true=>rule "set.scan.the-table-gave-way" | false=>pure ()) Q' E s1:=λb s1 Q' q=>by
   cases b with
   | true=>exact wpAny_rule q
   | false=>exact O9 q
  have pp:=layNew_perm t es ((PySem.strKind P w).hash x) (.str x tk);have ff:=layNew_fits t es ((PySem.strKind P w).hash x) (.str x tk);have fl:=Xhv t es ((PySem.strKind P w).hash x) (.str x tk);generalize layNew t es ((PySem.strKind P w).hash x) (.str x tk)=R at pp ff fl ⊢;obtain⟨es1,t1,wd,gv⟩:=R;dsimp only at pp ff fl ⊢;rw[Array.toList_push] at pp;have el1:=(hel.push hkey rfl).perm pp;have st0:StrsAre ((es.toList++[((PySem.strKind P w).hash x,Value.str x tk)]).map (·.2)) (ls++[x]):=by
   rw[Lo];exact Xhy hs
  obtain⟨ls1,st1,p1⟩:=Gm pp st0;have z1:es1.size=ks.length+1:=by
   rw[<-Lh,pp.length_eq,Lj,Lh,hlen];rfl
  have p2:ls1.Perm (ks++[x]):=p1.trans (hp.append_right _);rw[Pb hx] at h;refine O8 (gw _ _ _ ?_);split
  ·refine O8 ?_;rw[hashByValue_scannable 8 (x:=Value.str x tk) rfl];refine O9 ?_;refine Xbv (ks:=ks++[x]) gw ho hex hd el1 st1 p2 (by rw[z1];exact hr) (SetTable.fits_plain_off ff) (fl.trans hl) rfl (λh' sb S'=>?_);dsimp only;exact O9 (h true h' sb S')
  ·rename_i np;refine O8 (O9 ?_);simp only[↓reduceIte];refine Xbv (ks:=ks++[x]) gw ho hex hd el1 st1 p2 (by rw[z1];exact hr) ff (fl.trans hl) (by cases q:t1.plain with | false=>rfl | true=>exact absurd q np) (λh' sb S'=>?_);dsimp only;exact O9 (h true h' sb S')
end
def dd1 (acc:List Str) (x:Str):List Str:=if x∈acc then acc else acc++[x]
def ddup (ss:List Str):List Str:=ss.foldl dd1 []
theorem Xbw(ss:List Str)(x:Str):ddup (ss++[x])=dd1 (ddup ss) x:=by
 unfold ddup;rw[List.foldl_append];rfl
theorem Jc{p:List Str->List Str->Prop}(h0:p [] [])(h1:∀ss x,p ss (ddup ss)->p (ss++[x]) (dd1 (ddup ss) x))(ss:List Str):p ss (ddup ss):=by
 have go:∀n ss,ss.length=n->p ss (ddup ss):=by
  intro n
  induction n with
  | zero=>
   intro ss e;rw[Mc.mp e];exact h0
  | succ n ih=>
   intro ss e;have hne:ss≠[]:=λz=>by rw[z] at e;cases e
   have e2:=Nv hne;rw[<-e2,Xbw];exact h1 _ _ (ih _ (by rw[List.length_dropLast,e];rfl))
 exact go _ ss rfl
theorem Xbx(ss:List Str):∀x,x∈ddup ss↔x∈ss:=by
 refine Jc (p:=λss d=>∀x,x∈d↔x∈ss) (λx=>Iff.rfl) (λss y ih x=>?_) ss;unfold dd1;split
 ·rename_i hy;rw[ih,Ll,Lf];constructor
  ·exact .inl
  ·rintro (z | z)
   ·exact z
   ·rw[z];exact(ih y).mp hy
 ·rw[Ll,Ll,ih]
theorem Gn(ss:List Str):(ddup ss).Nodup:=by
 refine Jc (p:=λ_ d=>d.Nodup) List.nodup_nil (λss y ih=>?_) ss;unfold dd1;split
 ·exact ih
 ·rename_i hy;exact Mr.mpr ⟨ih,by simp,λa ha b hb=>by rw[Lf.mp hb];exact λz=>hy (z ▸ ha)⟩
theorem Fm(ss:List Str):(ddup ss).length<=ss.length:=by
 refine Jc (p:=λss d=>d.length<=ss.length) (K9 _) (λss y ih=>?_) ss;unfold dd1;rw[Lj,Ml];split
 ·omega
 ·rw[Lj,Ml];omega
section
variable {P:Program}{w:World}{A:Around}{E:Value->Shared->Prop}{s:Shared}
theorem Xby{R:Result->Shared->Prop}{I:Addr}{fp wr:List Addr}{G:Array GenState->Array GenState->Prop}{Pv:Nat->Value->Prop}{St:Nat->Shared->Prop}(ss:List Str)(W:WalksS P w A.in1 I fp wr G ss.length Pv St)(S:Addr)(nS:S∉fp)
  (hval:∀i v,Pv i v->∃t,v = .str (ss.getD i "") t) (hb:ss.length+1<scanBound):
  ∀(k i:Nat) (s:Shared),ss.length - i=k->i<=ss.length->St i s->SSet P w s.heap S (ddup (ss.take i))->(∀s',Moved (S::wr) G s s'->SSet P w s'.heap S (ddup ss)->R (.ok (.ret .none)) s') ->
   codeAny (model P w) A (.builtin "set.update.loop" ⟨[.ref S,.ref I],[]⟩) R s:=by
 have nw:S∉wr:=λz=>nS (W.sub _ z);have up:∀b∈wr,b∈S::wr:=λb z=>Lb _ z;intro k
 induction k with
 | zero=>
  intro i s e hi st hS hR;have:i=ss.length:=by omega
  subst this;rw[Mq] at hS;refine codeAny_builtin F.entry_set_update_loop ?_;rw[Around.under_plainId F.plain_set_update_loop _];show wpAny _ A.in1 (pyNext (.ref I) >>= λ_=>_) _ _ s;refine O8 (W.done s _ _ st λs' mv=>?_);show wpAny _ A.in1 (ret Value.none) _ _ s';exact O9 (hR s' (mv.mono up) (hS.stay λo z=>mv.heap S o nw z))
 | succ k ih=>
  intro i s e hi st hS hR;have lt:i<ss.length:=by omega
  refine codeAny_builtin F.entry_set_update_loop ?_;rw[Around.under_plainId F.plain_set_update_loop _];show wpAny _ A.in1 (pyNext (.ref I) >>= λ_=>_) _ _ s;refine O8 (W.item i s _ _ lt st λv s' hP st' mv=>?_);obtain⟨t,rfl⟩:=hval i v hP;have hS':=hS.stay λo z=>mv.heap S o nw z;show wpAny _ A.in1 (holding [Value.str (ss.getD i "") t] (setAdd S (.str (ss.getD i "") t)) >>= λ_=>_) _ _ s';refine O8 (wpAny_holding ?_);unfold setAdd;refine wpAny_holding (O8 ((PySem.strKind P w).pyHash (k:=ss.getD i "") (strKind_is P w _ t) ?_));have hl1:(ddup (ss.take i)).length<=i:=L0 (Fm _) (by rw[Mf];omega);refine sset_add (s:={s' with toks:=s'.toks+1}) hS' (by omega) λb h' sb S2=>?_;have e3:ddup (ss.take (i+1))=dd1 (ddup (ss.take i)) (ss.getD i ""):=by
   rw[Lu lt,Xbw];congr 1;simp[List.getD,lt]
  have S3:SSet P w h' S (ddup (ss.take (i+1))):=by rw[e3];exact S2
  refine O9 ⟨plainId_quiet F.plain_set_update_loop _,ih (i+1) _ (by omega) lt (W.frame _ s' _ _ st' (Ni _) λb hb o q=>?_) S3 λs'' mv2 S4=>?_⟩
  ·rw[sb.2 b (λz=>nS (z ▸ hb))];exact q
  ·refine hR s'' (Moved.trans W.gtrans ((mv.mono up).then_heap (Ni _) λb o hb q=>?_) mv2) S4;rw[sb.2 b (λz=>hb (z ▸ Ld))];exact q
inductive Src (h:Heap) (l:Addr) (items:Array Value):Prop
 | lst:h.IsList l items->Src h l items
 | tup:h.IsTuple l items->Src h l items
theorem Xhz(a:Value){Q:Value->Shared->Prop}(h:Q (.ref s.heap.objs.size) {s with heap:=s.heap.push {cls:=.type "set",dict:=none,data:=.set #[] 0 (.fresh 0 0 (!A2 w))} }):
    codeAny (model P w) A (.call (.builtin "set.__new__") ⟨[.type "set",a],[]⟩) (wants Q E) s:=by
  refine codeAny_of_tree ?_
  show wpAny _ A.in1 (do checkBuiltinCall "set.__new__" ⟨[.type "set",a],[]⟩
                         again (.builtin "set.__new__" ⟨[.type "set",a],[]⟩)) _ _ s
  refine O8 (wpAny_of_eq (PySem.F.newCall_set_1 a) (O9 ⟨plainId_quiet PySem.F.plain_set_new _,codeAny_builtin PySem.F.entry_set_new ?_⟩));rw[Around.under_plainId PySem.F.plain_set_new _];unfold Builtin.«set.__new__» Builtin.Frozenset.newClass;have q:=sub_set_self;obtain⟨hp,g,d,tk,os⟩:=s;dsimp only
  wp_walk
  refine wpAny_askSetting (O9 ?_);dsimp only;simp only[newObj];exact O8 (wpAny_alloc (O9 (O9 h)))
end
end L2
set_option maxHeartbeats 3200000
namespace L2
open PySem PySem.Spec PyProof.Rows PySem.Calls
section
variable {P:Program}{w:World}{A:Around}{E:Value->Shared->Prop}{s:Shared}
abbrev Dm (w:World):Obj:={cls:=.type "set",dict:=none,data:=.set #[] 0 (.fresh 0 0 (!A2 w))}
theorem Xh0{h:Heap}{a:Addr}(g:h.get? a=some (Dm w)):SSet P w h a []:=
 ⟨_, #[],0,_,[],g,⟨rfl,rfl,rfl⟩,rfl,λe he=>by simp at he,.nil,.nil,by decide,rfl,rfl,λ_=>rfl⟩
theorem Xh1{l S:Addr}{items:Array Value}{ss:List Str}{R:Unit->Shared->Prop}(hh:A.handled=none)(src:Src s.heap l items)(hs:StrsAre items.toList ss)(hb:ss.length+1<scanBound)(hS:SSet P w s.heap S [])(hlS:l≠S)
  (hTS:∀(Q:Bool->Shared->Prop),Q false s->wpAny (model P w) A (Builtin.Frozenset.isAnySet (.ref l)) Q E s)
  (h:∀(h':Heap) (tk:Nat),SSet P w h' S (ddup ss)->(∀b o,b≠S->s.heap.get? b=some o->h'.get? b=some o)->R () {s with heap:=h',toks:=tk}):
  wpAny (model P w) A (Builtin.Frozenset.updateFrom "set.__init__" S (.ref l)) R E s:=by
 have hlen:items.size=ss.length:=by
  have:=hs.length
  rwa [Lh] at this
 have hval:∀(i:Nat) (v:Value),items[i]? = some v->∃t,v = .str (ss.getD i "") t:=λi v q=>by
  have q':items.toList[i]? = some v:=by rw[Array.getElem?_toList];exact q
  obtain⟨x,t,rfl⟩:=hs.all v (N2 q');refine⟨t,?_⟩;congr 1;rw[<-hs.strs];simp[List.getD,Lx,q,strOf]
 obtain⟨oS,_,_,_,_,gS,_⟩:=id hS;have ltS:=Ph gS;unfold Builtin.Frozenset.updateFrom;refine O8 (hTS _ ?_);simp only[L4,if_false];cases src with
 | lst hl=>
  have hll:l<s.heap.objs.size:=by obtain⟨o,g,_⟩:=hl;exact Ph g
  refine O8 (wpAny_typeOf (T := "list") hl.typeIs ?_);have ne:(Value.type "list" == Value.type "dict")=false:=by decide
  simp only[ne,L4,if_false];refine O8 (wpAny_pyIter_list hl ?_);refine O8 (wpAny_runValue ?_);have nI:S∉[s.heap.objs.size,l]:=by simp only[Lk,Oh,or_false,not_or];exact⟨Lg ltS,hlS.symm⟩
  have W:=(Walks.list (prog:=P) (w:=w) (A:=A.in1) (by simp[hh]) s.heap.objs.size l (Lg hll) items).toS;rw[hlen] at W;refine Xby ss W S nI hval hb _ 0 _ rfl (L6 _) ⟨⟨_,Heap.get?_push_size _ rfl,rfl,rfl⟩,hl.push _⟩ (hS.stay λo q=>Pi _ q) λs' mv S'=>?_;rw[Moved.eq_with mv];refine O9 (h s'.heap s'.toks S' λb o nb q=>mv.heap b o (λz=>?_) (Pi _ q));rcases Lk.mp z with z | z
  ·exact nb z
  ·exact absurd (Ph q) (by rw[Lf.mp z];exact Mb _)
 | tup hl=>
  have hll:l<s.heap.objs.size:=by obtain⟨o,g,_⟩:=hl;exact Ph g
  refine O8 (wpAny_typeOf (T := "tuple") hl.typeIs ?_);have ne:(Value.type "tuple" == Value.type "dict")=false:=by decide
  simp only[ne,L4,if_false];refine O8 (wpAny_pyIter_tuple hl ?_);refine O8 (wpAny_runValue ?_);have nI:S∉[s.heap.objs.size,l]:=by simp only[Lk,Oh,or_false,not_or];exact⟨Lg ltS,hlS.symm⟩
  have W:=(Walks.tuple (prog:=P) (w:=w) (A:=A.in1) (by simp[hh]) s.heap.objs.size l (Lg hll) items).toS;rw[hlen] at W;refine Xby ss W S nI hval hb _ 0 _ rfl (L6 _) ⟨⟨_,Heap.get?_push_size _ rfl,rfl,rfl⟩,hl.push _⟩ (hS.stay λo q=>Pi _ q) λs' mv S'=>?_;rw[Moved.eq_with mv];refine O9 (h s'.heap s'.toks S' λb o nb q=>mv.heap b o (λz=>?_) (Pi _ q));rcases Lk.mp z with z | z
  ·exact nb z
  ·exact absurd (Ph q) (by rw[Lf.mp z];exact Mb _)
theorem Src.push{h:Heap}{l:Addr}{items:Array Value}(x:Src h l items)(o:Obj):Src (h.push o) l items:=by
 cases x with
 | lst y=>exact .lst (y.push o)
 | tup y=>exact .tup (y.push o)
theorem Src.any{l:Addr}{items:Array Value}(x:Src s.heap l items){Q:Bool->Shared->Prop}(q:Q false s):wpAny (model P w) A (Builtin.Frozenset.isAnySet (.ref l)) Q E s:=by
 cases x with
 | lst y=>
  obtain⟨o,g,c,n,d⟩:=y;obtain⟨oc,od,odt,os⟩:=o;simp only at c d;subst c d;have h1:=PySem.F.sub_list_set;have h2:=PySem.F.sub_list_frozenset;unfold Builtin.Frozenset.isAnySet
  wp_walk
  exact q
 | tup y=>
  obtain⟨o,g,c,n,d⟩:=y;obtain⟨oc,od,odt,os⟩:=o;simp only at c d;subst c d;have h1:isSubtype (.type "tuple") (.type "set")=pure false:=by rw[isSubtype_type];kernel_rfl
  have h2:isSubtype (.type "tuple") (.type "frozenset")=pure false:=by rw[isSubtype_type];kernel_rfl
  unfold Builtin.Frozenset.isAnySet
  wp_walk
  exact q
theorem Src.lt{h:Heap}{l:Addr}{items:Array Value}(x:Src h l items):l<h.objs.size:=by
 cases x with
 | lst y=>obtain⟨o,g,_⟩:=y;exact Ph g
 | tup y=>obtain⟨o,g,_⟩:=y;exact Ph g
theorem Xh2{l:Addr}{items:Array Value}{ss:List Str}{Q:Value->Shared->Prop}(hh:A.handled=none)(src:Src s.heap l items)(hs:StrsAre items.toList ss)(hb:ss.length+1<scanBound)
  (h:∀(h':Heap) (tk:Nat),SSet P w h' s.heap.objs.size (ddup ss)->(∀b o,s.heap.get? b=some o->h'.get? b=some o)->Q (.ref s.heap.objs.size) {s with heap:=h',toks:=tk}):
  wpAny (model P w) A (call (.type "set") [.ref l]) Q E s:=by
 obtain⟨c,tl,hmro⟩:=PySem.F.called_set.mro;have hmade:=PySem.F.called_set.made;have hsub:=PySem.F.called_set.sub;refine wpAny_call (codeAny_of_tree ?_);show wpAny _ _ (callAny (.type "set") _) _ _ s;refine O9 ⟨Code.quiet_builtin _ (by decide +kernel),codeAny_builtin PySem.F.entry_type_call ?_⟩;rw[Around.under_plain (weight_type_call_type "set" [.ref l] []) rfl];have f1:=PySem.F.called_set.notType;have f2:=PySem.F.called_set.canCreate;have f3:=PySem.F.typeCall_set_1 (.ref l)
 repeat (any_goals (first | assumption | wp_step))
 refine codeAny_mono (Xhz (.ref l) (E:=E) (Q:=λobj s1=>obj = .ref s.heap.objs.size/\s1 = {s with heap:=s.heap.push (Dm w)}) ⟨rfl,rfl⟩) λr s1 hr=>?_;cases r with
 | error e=>exact hr
 | ok fl=>
  cases fl with
  | ret obj=>
   obtain⟨rfl,rfl⟩:=hr;have gS:(s.heap.push (Dm w)).get? s.heap.objs.size=some (Dm w):=Heap.get?_push_size _ rfl;have hT:Shared.TypeIs {s with heap:=s.heap.push (Dm w)} (.ref s.heap.objs.size) "set" := ⟨_,gS,rfl⟩;have f4:=PySem.F.called_set.init.lookup;have f5:=PySem.F.called_set.init.bind (.ref s.heap.objs.size)
   repeat (any_goals (first | assumption | wp_step))
   refine codeAny_mono (codeAny_call_builtin (R:=wants (λr s2=>r = .none/\∃h' tk,s2 = {s with heap:=h',toks:=tk}/\SSet P w h' s.heap.objs.size (ddup ss)/\∀b o,s.heap.get? b=some o->h'.get? b=some o) E)
    PySem.F.called_set.init.plain PySem.F.entry_set_init (check_set_init_1 hT ?_)) λr2 s2 hr2=>?_
   ·have src':=src.push (Dm w);have lt:=src.lt;unfold Builtin.«set.__init__» noKeywords;generalize hU:Builtin.Frozenset.updateFrom=U
    wp_walk
    subst hU;refine Xh1 (s:={s with heap:=s.heap.push (Dm w)}) (by simp[hh]) src' hs hb (Xh0 gS) (Lg lt) (λQ q=>Src.any (s:={s with heap:=s.heap.push (Dm w)}) src' q) λh' tk S' kk=>?_;exact O9 ⟨rfl,h',tk,rfl,S',λb o q=>kk b o (Lg (Ph q)) (Pi _ q)⟩
   ·cases r2 with
    | error e=>exact hr2
    | ok fl2=>
     cases fl2 with
     | ret r=>
      obtain⟨rfl,h',tk,rfl,S',kk⟩:=hr2
      repeat (any_goals (first | assumption | wp_step))
      exact h _ _ S' kk
     | _=>exact hr2.elim
  | _=>exact hr.elim
end
namespace SF
theorem sIter:Slot "set" "__iter__" "set.__iter__" := PySem.F.slot_set_iter
theorem eIter:entryFor table "set.__iter__" = some Builtin.«frozenset.__iter__»:=entryFor_alias (id' := "frozenset.__iter__") (by kernel_rfl) rfl (by decide +kernel) (by kernel_rfl)
theorem sNext:Slot "set_iterator" "__next__" "set_iterator.__next__" := .of (owner := "set_iterator") (n := "__next__") (by rw[typeLookup_type,builtinLookup_eq_fast];kernel_rfl) (by decide +kernel) (by decide +kernel) (by decide +kernel) (by first | exact .inl (by decide +kernel) | exact .inr (by decide +kernel)) (by rw[isSubtype_type];kernel_rfl)
theorem eNext:entryFor table "set_iterator.__next__" = some Builtin.«set_iterator.__next__»:=entryFor_of_tree (by kernel_rfl)
theorem aNext(a:Value):argsOk "set_iterator.__next__" ⟨[a],[]⟩:=by unfold argsOk;kernel_rfl
end SF
theorem Jd{α : Type}:∀(xs:List α) (i:Nat) (hi:i<xs.length),(xs[i]::xs.eraseIdx i).Perm xs
 | x::xs,0,_=>M5 _
 | x::xs,i+1,hi=>by
  have ih:=Jd xs i (by simpa using hi);rw[List.eraseIdx_cons_succ,List.getElem_cons_succ];exact(List.Perm.swap x _ _).trans (ih.cons x)
theorem Xh3{α : Type}(next:Nat->Nat):∀(n k:Nat) (left:List α) (out:Array α),left.length=n->(pickOrder.go next n k left out).toList.Perm (out.toList++left):=by
 intro n
 induction n with
 | zero=>
  intro k left out e;rw[Mc.mp e,Mj];exact M5 _
 | succ n ih=>
  intro k left out e;have hlt:next k % left.length<left.length:=O4 _ (by omega);unfold pickOrder.go;rw[Li hlt];dsimp only;refine(ih _ _ _ (by rw[Nf hlt,e];rfl)).trans ?_;rw[Array.toList_push,Nn];exact(Jd left _ hlt).append_left _
theorem Xbz{α : Type}(next:Nat->Nat)(xs:Array α):(pickOrder next xs).toList.Perm xs.toList:=by
 have:=Xh3 next xs.size 0 xs.toList #[] (by simp);simpa [pickOrder] using this
section
variable {P:Program}{w:World}{A:Around}{E:Value->Shared->Prop}{s:Shared}
theorem Xh4{src:Source}{n:Nat}{Q:Nat->Shared->Prop}(hn:n≠0)(h:∀i d,i<n->Q i {s with drawn:=d}):wpAny (model P w) A (choose src n) Q E s:=by
 intro Γ p hΓ;exact⟨hn,h _ _ (O4 _ (Nat.pos_of_ne_zero hn))⟩
theorem Xb0{α : Type}:∀(n:Nat) (xs:List α) (s:Shared) (Q:List α->Shared->Prop),xs.length=n->(∀os d,os.Perm xs->Q os {s with drawn:=d})->wpAny (model P w) A (drawOrder n xs) Q E s:=by
 intro n
 induction n with
 | zero=>
  intro xs s Q e h;rw[Mc.mp e] at h ⊢;unfold drawOrder;exact O9 (h [] s.drawn (M5 _))
 | succ n ih=>
  intro xs s Q e h;cases xs with
  | nil=>cases e
  | cons y ys=>
   unfold drawOrder;refine O8 (Xh4 (by simp) λi d hi=>?_);rw[Li hi];dsimp only;refine O8 (ih _ _ _ (by rw[Nf hi,e];rfl) λos d' hp=>?_);exact O9 (h _ d' ((hp.cons _).trans (Jd _ i hi)))
def SAt (h:Heap) (a:Addr) (es:Array (Int×Value)) (ep:Nat) (t:SetTable):Prop:=∃o,h.get? a=some o/\o.ExactSet/\o.data = .set es ep t/\t.fits es.size=true
theorem Xh5{a:Addr}{es:Array (Int×Value)}{ep:Nat}{t:SetTable}{Q:Bool->Shared->Prop}(hs:SAt s.heap a es ep t)(h:Q (!A2 w&&(!t.plain&&decide (es.size > 1))) s):wpAny (model P w) A (setDrawn a) Q E s:=by
 obtain⟨o,ho,hex,hd,hf⟩:=hs;unfold setDrawn setsByText;refine O8 (wpAny_setState_of ho hd hf ?_);dsimp only;refine O8 (O8 (wpAny_askSetting (O9 ?_)));exact O9 h
abbrev itO (f0:Value) (i:Nat) (a:Addr) (n ep:Nat):Obj:={cls:=.type "set_iterator",data:=.fields #[f0,.int i 0,.ref a,.int n 0,.int ep 0]}
inductive Ord (w:World) (h:Heap) (a:Addr) (es:Array (Int×Value)) (ep:Nat) (t:SetTable) (f0:Value) (i:Nat):List Value->Prop
 | txt:A2 w=true->f0 = .int 0 0->Ord w h a es ep t f0 i ((pickOrder (w.params.setOrder a ep) es).toList.map (·.2))
 | drw (p:Addr) (os:List Nat):A2 w=false->os.Perm (List.range es.size)->f0 = .ref p->(∃n,h.get? p=some ⟨.type "tuple",none,.seq (os.map λj=>Value.int (j:Nat) 0).toArray n, #[]⟩)->Ord w h a es ep t f0 i (os.map λj=>((es[j]?).map (·.2)).getD .none)
 | one (sl:Nat):A2 w=false->t.led=true->es.size<=1->f0 = .int sl 0->(i=0->sl=0)->(∀j,i=1->t.place[0]? = some j->sl=j+1)->Ord w h a es ep t f0 i (es.toList.map (·.2))
theorem Xh6{a:Addr}{es:Array (Int×Value)}{ep:Nat}{t:SetTable}{Q:Value->Shared->Prop}(hs:SAt s.heap a es ep t)(hb:es.size<scanBound)(hl:t.led = !A2 w)(hp:t.plain=true->es.size=0)
    (h:∀(f0:Value) (vs:List Value) (h1:Heap) (d:Drawn),(∀b o,s.heap.get? b=some o->h1.get? b=some o)->h1.objs.size<=s.heap.objs.size+1->s.heap.objs.size<=h1.objs.size->(∀p,f0 = .ref p->p<h1.objs.size)->Ord w (h1.push (itO f0 0 a es.size ep)) a es ep t f0 0 vs ->
      vs.Perm (es.toList.map (·.2))->Q (.ref h1.objs.size) {s with heap:=h1.push (itO f0 0 a es.size ep),drawn:=d}):
    wpAny (model P w) A (pyIter (.ref a)) Q E s:=by
  obtain⟨o,ho,hex,hd,hf⟩:=id hs;have hT:s.TypeIs (.ref a) "set" := ⟨o,ho,hex.1⟩;refine wpAny_pyIter_slot hT SF.sIter (wpAny_call_entry SF.sIter hT SF.eIter ?_ (PySem.F.args_set_iter_1 _));unfold Builtin.«frozenset.__iter__» Builtin.Frozenset.slot0 slotArgs;simp only[List.isEmpty_nil,N7,L4, ↓reduceIte,bind_assoc,M9,bne_self_eq_false];unfold Builtin.Frozenset.addrOf Builtin.Frozenset.sizeOf;refine O8 (O9 ?_);dsimp only;refine O8 (O9 ?_);refine O8 (O8 (wpAny_setEntries_of ho hd hf (O9 ?_)));refine O8 (Xh5 hs ?_);have fin:∀(f0:Value) (vs:List Value) (h1:Heap) (d:Drawn),(∀b o,s.heap.get? b=some o->h1.get? b=some o)->h1.objs.size<=s.heap.objs.size+1->s.heap.objs.size<=h1.objs.size->(∀p,f0 = .ref p->p<h1.objs.size)->Ord w (h1.push (itO f0 0 a es.size ep)) a es ep t f0 0 vs->vs.Perm (es.toList.map (·.2)) ->
      wpAny (model P w) A.in1 (do let r <-newFields "set_iterator" [f0,rawInt 0,.ref a,rawInt es.size,rawInt ep]
                                  ret r) (λfin s'=>∃r,fin = .done (.ret r)/\∃T v,s'.TypeIs r T/\typeLookup (.type T) (Str.ofString "__next__")=pure (some v)/\Q r s') E {s with heap:=h1,drawn:=d}:=λf0 vs h1 d k1 k2 k3 k4 k5 k6=>
    O8 (wpAny_newObj_type (O9 ⟨_,rfl, "set_iterator",_,⟨_,Heap.get?_push_size _ rfl,rfl⟩,SF.sNext.lookup,h f0 vs h1 d k1 k2 k3 k4 k5 k6⟩))
  by_cases hc:(!A2 w&&(!t.plain&&decide (es.size > 1)))=true
  . rw[Pc hc];simp only[Ln,O3,decide_eq_true_eq] at hc;obtain⟨c1,c2,c3⟩:=hc;refine O8 (Xb0 _ _ _ _ Ms λos d po=>?_);have hol:os.length=es.size:=by rw[po.length_eq,Ms]
    refine O8 (wpAny_newTuple ?_ (by rw[K8,hol];exact fits_of_scanBound hb));refine O8 (wpAny_setEpoch_of (Pi _ ho) hd hf ?_);refine fin _ _ _ d (λb o q=>Pi _ q) (by rw[size_push'];exact K9 _) (by rw[size_push'];exact Ni _) (λp e=>by cases e;rw[size_push'];exact Nat.lt_succ_self _) (.drw s.heap.objs.size os c1 po rfl ⟨0,Pi _ (Heap.get?_push_size _ rfl)⟩) ?_;have e:(os.map λj=>((es[j]?).map (·.2)).getD Value.none).Perm ((List.range es.size).map λj=>((es[j]?).map (·.2)).getD Value.none):=po.map _;refine e.trans ?_;have e2:((List.range es.size).map λj=>((es[j]?).map (·.2)).getD Value.none)=es.toList.map (·.2):=by
      apply List.ext_getElem?;intro i;have q:es.toList[i]? = es[i]?:=Array.getElem?_toList;rw[Lx,Lx,q];by_cases hi:i<es.size
      . rw[Ot hi,Nm,getElem?_pos es i hi];rfl
      . rw[Ny (by simpa using hi),getElem?_neg es i hi];rfl
    rw[e2]
  . rw[Pb hc];refine O8 (O9 ?_);refine O8 (wpAny_setEpoch_of ho hd hf ?_);cases hw:A2 w with
    | true=>exact fin _ _ _ s.drawn (λb o q=>q) (Ni _) (K9 _) (λp e=>by cases e) (.txt hw rfl) ((Xbz _ es).map _)
    | false=>
      have h1:es.size<=1:=by
        cases hpl:t.plain with
        | true=>rw[hp hpl];exact L6 _
        | false=>
          simp only[hw,hpl,Bool.not_false,M7,decide_eq_true_eq] at hc;omega
      exact fin _ _ _ s.drawn (λb o q=>q) (Ni _) (K9 _) (λp e=>by cases e) (.one 0 hw (by rw[hl,hw];rfl) h1 rfl (λ_=>rfl) (λj e=>by cases e)) (M5 _)
end
end L2
namespace L2
open PySem PySem.Spec PyProof.Rows PySem.Calls
section
variable {P:Program}{w:World}{A:Around}{E:Value->Shared->Prop}{s:Shared}{I a:Addr}{es:Array (Int×Value)}{ep:Nat}{t:SetTable}
def ItS (w:World) (I a:Addr) (es:Array (Int×Value)) (ep:Nat) (t:SetTable) (vs:List Value) (fp:Option Addr) (i:Nat) (h:Heap):Prop:=
 ∃f0,h.get? I=some (itO f0 i a es.size ep)/\Ord w h a es ep t f0 i vs/\SAt h a es ep t/\(∀p,f0 = .ref p->fp=some p)
theorem Xb1{i:Nat}{f0:Value}{Q:Fin->Shared->Prop}(hI:s.heap.get? I=some (itO f0 i a es.size ep))(hS:SAt s.heap a es ep t)
  (h1:∀sl,f0 = .int sl 0->wpAny (model P w) A (do
   match <-setNext a sl.toNat i ep with
   | some (x,next)=>setField (.ref I) 0 (rawInt next);setField (.ref I) 1 (rawInt ((i:Int)+1));ret x
   | none=>setField (.ref I) 2 .none;raiseNew (<-newExc (.type "StopIteration") [])) Q E s)
  (h2:∀p,f0 = .ref p->wpAny (model P w) A (do
   let some places <-seqItems? (.ref p) | unsupported "internal:set_iterator"
   match places[i]? with
   | some (.int place _)=>let x <-setNextDrawn a place.toNat ep;setField (.ref I) 1 (rawInt ((i:Int)+1));ret x
   | some _=>unsupported "internal:set_iterator"
   | none=>setField (.ref I) 0 (rawInt 0);setField (.ref I) 2 .none;raiseNew (<-newExc (.type "StopIteration") [])) Q E s)
  (hf:(∃sl,f0 = .int sl 0) \/ ∃p,f0 = .ref p):wpAny (model P w) A (Builtin.«set_iterator.__next__» ⟨[.ref I],[]⟩) Q E s:=by
 obtain⟨o,ho,hex,hd,hft⟩:=id hS;unfold Builtin.«set_iterator.__next__» slotArgs;simp only[List.isEmpty_nil,N7,L4, ↓reduceIte,bind_assoc,M9,bne_self_eq_false];refine O8 (O9 ?_);dsimp only;refine O8 (wpAny_fieldsOf hI rfl ?_);dsimp only;refine O8 (wpAny_setEntries_of ho hd hft ?_);rw[Pb (by simp)];rcases hf with ⟨sl,rfl⟩ | ⟨p,rfl⟩
 ·exact h1 sl rfl
 ·exact h2 p rfl
theorem Gp{h:Heap}{f0 x:Value}{i j n:Nat}(hI:h.get? I=some (itO f0 i a n ep))(k:Nat)(v:Value):
  (h.update I (Obj.mapFields (·.setIfInBounds k v))).get? I=some {cls:=.type "set_iterator",data:=.fields ((#[f0,.int i 0,.ref a,.int n 0,.int ep 0]:Array Value).setIfInBounds k v)}:=
 Heap.get?_update_self _ hI rfl
theorem SAt.at{h h':Heap}(x:SAt h a es ep t)(k:∀o,h.get? a=some o->h'.get? a=some o):SAt h' a es ep t:=by
 obtain⟨o,ho,r⟩:=x;exact⟨o,k o ho,r⟩
theorem Xb2{sl i:Nat}{Q:Option (Value×Nat)->Shared->Prop}(hw:A2 w=true)(hS:SAt s.heap a es ep t)(h:Q (((pickOrder (w.params.setOrder a ep) es)[i]?).map λe=>(e.2,sl)) s):wpAny (model P w) A (setNext a sl i ep) Q E s:=by
 obtain⟨o,ho,hex,hd,hf⟩:=id hS;unfold setNext setsByText;refine O8 (wpAny_setState_of ho hd hf ?_);dsimp only;refine O8 (O8 (wpAny_askSetting (O9 ?_)));rw[Pc (show (model P w).w.params.followText "set-order" = true from hw),Pb (by simp)];unfold setWalk setsByText;refine O8 (O8 (wpAny_setState_of ho hd hf ?_));dsimp only;refine O8 (O8 (wpAny_askSetting (O9 ?_)));rw[Pc (show (model P w).w.params.followText "set-order" = true from hw)];exact O8 (wpAny_askSetting (O9 (O9 h)))
theorem Xb3{sl i:Nat}{Q:Option (Value×Nat)->Shared->Prop}(hw:A2 w=false)(hl:t.led=true)(h1:es.size<=1)(hS:SAt s.heap a es ep t)
  (h:Q (match es[SetTable.below t.place sl]?,t.place[SetTable.below t.place sl]? with | some (_,x),some j=>some (x,j+1) | _,_=>none) s):wpAny (model P w) A (setNext a sl i ep) Q E s:=by
 obtain⟨o,ho,hex,hd,hf⟩:=id hS;unfold setNext setsByText;refine O8 (wpAny_setState_of ho hd hf ?_);dsimp only;refine O8 (O8 (wpAny_askSetting (O9 ?_)));rw[Pb (show ¬(model P w).w.params.followText "set-order" = true from by show ¬A2 w=true;rw[hw];decide)];have d1:(!t.plain&&decide (es.size > 1))=false:=by rw[Pe (by omega),Bool.and_false]
 refine wpAny_ite_split (λz=>?_) (λ_=>?_)
 ·have z':(!t.plain&&decide (es.size > 1))=true:=z;rw[d1] at z';cases z'
 refine O8 ?_;have m1:(!t.led && !es.isEmpty)=false:=by rw[hl];rfl
 refine wpAny_ite_split (λz=>?_) (λ_=>O9 (O9 h));have z':(!t.led && !es.isEmpty)=true:=z;rw[m1] at z';cases z'
theorem Xh7{t:SetTable}(h:t.place.size<=1):SetTable.below t.place 0=0:=by
 generalize t.place=pl at *;obtain⟨l⟩:=pl
 match l,h with
 | [],_=>rfl
 | [x],_=>simp[SetTable.below,SetTable.below.go]
theorem Xh8{t:SetTable}{j:Nat}(h:t.place.size<=1)(hj:t.place[0]? = some j):SetTable.below t.place (j+1)=1:=by
 generalize t.place=pl at *;obtain⟨l⟩:=pl
 match l,h,hj with
 | [x],_,hj=>
  have:x=j:=by simpa using hj
  subst this;simp[SetTable.below,SetTable.below.go]
theorem Xb4{n:Nat}(h:t.fits n=true):t.place.size=n:=by
 unfold SetTable.fits at h;simp only[Ln,beq_iff_eq] at h;exact h.1
end
section
variable {P:Program}{w:World}{A:Around}{E:Value->Shared->Prop}{s:Shared}{I a:Addr}{es:Array (Int×Value)}{ep:Nat}{t:SetTable}{vs:List Value}{fp:Option Addr}
theorem Ord.cases0{h:Heap}{f0:Value}{i:Nat}(x:Ord w h a es ep t f0 i vs):(∃sl:Int,f0 = .int sl 0) \/ ∃p,f0 = .ref p:=by
 cases x with
 | txt _ e=>exact .inl ⟨0,e⟩
 | drw p os _ _ e _=>exact .inr ⟨p,e⟩
 | one sl _ _ _ e _ _=>exact .inl ⟨sl,e⟩
theorem Xh9{i:Nat}{Q:Option Value->Shared->Prop}(st:ItS w I a es ep t vs fp i s.heap)(hi:i<vs.length)(hl:vs.length=es.size)(nIa:a≠I)(nIp:∀p,fp=some p->p≠I)
  (hQ:∀h',ItS w I a es ep t vs fp (i+1) h'->Heap.SameBut I s.heap h'->Q (some vs[i]) {s with heap:=h'}):wpAny (model P w) A (pyNext (.ref I)) Q E s:=by
 obtain⟨f0,hI,hO,hS,hp⟩:=st;have hT:s.TypeIs (.ref I) "set_iterator" := ⟨_,hI,rfl⟩;unfold pyNext;refine O8 (wpAny_attempt (wpAny_callSpecial?_slot (name:=Str.ofString "__next__") hT SF.sNext (wpAny_call_entry SF.sNext hT SF.eNext ?_ (SF.aNext _))));have e1:((i:Int)+1)=((i+1:Nat):Int):=by omega
 have fin:∀(E':Value->Shared->Prop) (nx:Nat),Ord w ((s.heap.update I (Obj.mapFields (·.setIfInBounds 0 (rawInt nx)))).update I (Obj.mapFields (·.setIfInBounds 1 (rawInt ((i:Int)+1))))) a es ep t (.int nx 0) (i+1) vs ->
   wpAny (model P w) A.in1 (do
    setField (.ref I) 0 (rawInt nx)
    setField (.ref I) 1 (rawInt ((i:Int)+1))
    ret vs[i]) (λfin s'=>∃r,fin = .done (.ret r)/\wpAny (model P w) A (pure (some r)) Q E s') E' s:=λE' nx O=>by
  refine O8 (wpAny_setField hI rfl (by simp) ?_);refine O8 (wpAny_setField (Gp (x:=.none) (j:=0) hI 0 (rawInt nx)) rfl (by simp) ?_);have g:=Heap.get?_update_self (Obj.mapFields (·.setIfInBounds 1 (rawInt ((i:Int)+1)))) (Gp (x:=.none) (j:=0) hI 0 (rawInt nx)) rfl;refine O9 ⟨_,rfl,O9 (hQ _ ⟨_,g.trans ?_,O,hS.at λo q=>?_,λp z=>by cases z⟩ ((Pj ..).trans (Pj ..)))⟩
  ·rw[e1];rfl
  ·rw[((Pj s.heap I _).trans (Pj _ I _)).2 a nIa];exact q
 refine Xb1 hI hS (λsl e=>?_) (λp e=>?_) hO.cases0
 ·subst e;cases hO with
  | txt hw e=>
   cases e;have hi2:i<(pickOrder (w.params.setOrder a ep) es).size:=by simpa using hi
   refine O8 (Xb2 hw hS ?_);rw[getElem?_pos _ i hi2];have ev:((pickOrder (w.params.setOrder a ep) es).toList.map (·.2))[i]=((pickOrder (w.params.setOrder a ep) es)[i]).2:=by simp
   have f:=λE'=>fin E' 0 (.txt hw rfl);rw[ev] at f;exact f _
  | drw p os _ _ e _=>cases e
  | one sl' hw hld h1 e hz ho=>
   cases e;obtain⟨_,_,_,_,hft⟩:=id hS;have hps:=Xb4 hft;have i0:i=0:=by
    have:i<es.size:=by rw[<-hl];exact hi
    omega
   subst i0;have z0:=hz rfl;subst z0;have he:0<es.size:=by rw[<-hl];exact hi
   have hpl:0<t.place.size:=by rw[hps];exact he
   refine O8 (Xb3 hw hld h1 hS ?_);have b0:SetTable.below t.place ((0:Nat):Int).toNat=0:=Xh7 (by rw[hps];exact h1);rw[b0,getElem?_pos es 0 he,getElem?_pos t.place 0 hpl];have ev:(es.toList.map (·.2))[0]=(es[0]).2:=by simp
   have f:=λE'=>fin E' (t.place[0]+1) (.one (t.place[0]+1) hw hld h1 rfl (λz=>by cases z) (λj _ q=>by rw[getElem?_pos t.place 0 hpl] at q;cases q;rfl));rw[ev] at f;exact f _
 ·subst e;cases hO with
  | txt hw e=>cases e
  | one sl' hw hld h1 e hz ho=>cases e
  | drw p' os hw hp2 e htp=>
   cases e;obtain⟨n,htp⟩:=htp;have hil:i<os.length:=by simpa using hi
   have hos:os[i]<es.size:=Mp.mp (hp2.mem_iff.mp (L8 hil));refine O8 (wpAny_seqItems htp rfl ?_);have g:((os.map λj=>Value.int (j:Nat) 0).toArray)[i]? = some (.int ((os[i]:Nat):Int) 0):=by simp[hil]
   dsimp only;rw[g];dsimp only;obtain⟨o,ho,hex,hd,hft⟩:=id hS;unfold setNextDrawn;refine O8 (O8 (wpAny_setState_of ho hd hft ?_));dsimp only;rw[Pb (by simp),show ((os[i]:Nat):Int).toNat=os[i] from Nk _,getElem?_pos es _ hos];refine O9 ?_;refine O8 (wpAny_setField hI rfl (by simp) ?_);have ev:(os.map λj=>((es[j]?).map (·.2)).getD Value.none)[i]=(es[os[i]]).2:=by simp[hos]
   have g2:=Gp (x:=.none) (j:=0) hI 1 (rawInt ((i:Int)+1));have nI2:p≠I:=nIp p (hp p rfl);have q:=hQ (s.heap.update I (Obj.mapFields (·.setIfInBounds 1 (rawInt ((i:Int)+1))))) ⟨_,g2.trans (by rw[e1];rfl),.drw p os hw hp2 rfl ⟨n,?_⟩,hS.at λo q=>?_,λp' z=>hp p' z⟩ (Pj ..)
   ·rw[ev] at q;exact O9 ⟨_,rfl,O9 q⟩
   ·rw[(Pj s.heap I _).2 p nI2];exact htp
   ·rw[(Pj s.heap I _).2 a nIa];exact q
end
section
variable {P:Program}{w:World}{A:Around}{E:Value->Shared->Prop}{s:Shared}{I a:Addr}{es:Array (Int×Value)}{ep:Nat}{t:SetTable}{vs:List Value}{fp:Option Addr}
theorem Xb5{α : Type}{h0:Heap}{Q : α->Shared->Prop}{E':Value->Shared->Prop}(hh:A.handled=none)
  (k:∀e h',(∀b o,s.heap.get? b=some o->h'.get? b=some o)->Shared.TypeIs {s with heap:=h'} e "StopIteration" -> E' e {s with heap:=h'}):
  wpAny (model P w) A (do raiseNew (<-newExc (.type "StopIteration") []):Sem α) Q E' s:=by
 refine O8 ?_;simp only[newExc,newTuple];refine O8 (wpAny_newObj_type ?_ (by size_fits));refine O8 (m:=firstArgMember _ _) (wpAny_of_eq (a:=Value.none) (by first | rfl | (simp only[firstArgMember];rfl)) ?_);refine wpAny_newObj_type ?_ (by size_fits);simp only[raiseNew];refine O8 (wpAny_handled ?_);rw[hh];refine O8 (O9 (wpAny_throw ?_));exact k _ _ (λb o q=>Pi _ (Pi _ q)) ⟨_,Heap.get?_push_size _ rfl,rfl⟩
theorem Xia{Q:Option Value->Shared->Prop}(hh:A.handled=none)(st:ItS w I a es ep t vs fp vs.length s.heap)(hl:vs.length=es.size)
    (hQ:∀h',(∀b o,b≠I->s.heap.get? b=some o->h'.get? b=some o)->Q none {s with heap:=h'}):wpAny (model P w) A (pyNext (.ref I)) Q E s:=by
  obtain⟨f0,hI,hO,hS,hp⟩:=st;have hT:s.TypeIs (.ref I) "set_iterator" := ⟨_,hI,rfl⟩;unfold pyNext;refine O8 (wpAny_attempt (wpAny_callSpecial?_slot (name:=Str.ofString "__next__") hT SF.sNext (wpAny_call_entry SF.sNext hT SF.eNext ?_ (SF.aNext _))));have hh1:A.in1.handled=none:=hh;have stp:∀(e:Value) (h':Heap),(∀b o,b≠I->s.heap.get? b=some o->h'.get? b=some o)->Shared.TypeIs {s with heap:=h'} e "StopIteration" ->
      wpAny (model P w) A (do if <-isInstance e (.type "StopIteration") then pure none else throw e) Q E {s with heap:=h'}:=λe h' k ty=>
    O8 (wpAny_isInstance (T := "StopIteration") (b:=true) ty isSubtype_stop (O9 (hQ h' k)))
  have keep1:∀(f:Obj->Obj) b o,b≠I->s.heap.get? b=some o->(s.heap.update I f).get? b=some o:=λf b o nb q=>by
    rw[(Pj s.heap I f).2 b nb];exact q
  have fin:∀(Q':PySem.Fin->Shared->Prop),wpAny (model P w) A.in1 (do
        setField (.ref I) 2 .none
        raiseNew (<-newExc (.type "StopIteration") [])) Q' (λe s'=>wpAny (model P w) A (do if <-isInstance e (.type "StopIteration") then pure none else throw e) Q E s') s:=λQ'=>by
    refine O8 (wpAny_setField hI rfl (by simp) ?_);refine Xb5 (h0:=s.heap) (s:={s with heap:=s.heap.update I (Obj.mapFields (·.setIfInBounds 2 Value.none))}) hh1 λe h' k ty=>?_;exact stp e h' (λb o nb q=>k b o (keep1 _ b o nb q)) ty
  refine Xb1 hI hS (λsl e=>?_) (λp e=>?_) hO.cases0
  . subst e;cases hO with
    | txt hw e=>
      cases e;refine O8 (Xb2 hw hS ?_);rw[getElem?_neg _ _ (by simp)];exact fin _
    | drw p os _ _ e _=>cases e
    | one sl' hw hld h1 e hz ho=>
      cases e;obtain⟨_,_,_,_,hft⟩:=id hS;have hps:=Xb4 hft;refine O8 (Xb3 hw hld h1 hS ?_);have hn:es[SetTable.below t.place ((sl':Nat):Int).toNat]? = none:=by
        rw[Nk];by_cases h0:es.size=0
        . exact getElem?_neg _ _ (by omega)
        . have e1:es.size=1:=by omega
          have hpl:0<t.place.size:=by rw[hps,e1];decide
          have:=ho t.place[0] (by rw[hl,e1]) (getElem?_pos t.place 0 hpl);rw[this,Xh8 (by rw[hps];exact h1) (getElem?_pos t.place 0 hpl)];exact getElem?_neg _ _ (by omega)
      rw[hn];exact fin _
  . subst e;cases hO with
    | txt hw e=>cases e
    | one sl' hw hld h1 e hz ho=>cases e
    | drw p' os hw hp2 e htp=>
      cases e;obtain⟨n,htp⟩:=htp;refine O8 (wpAny_seqItems htp rfl ?_);dsimp only;rw[getElem?_neg _ _ (by simp)];dsimp only;refine O8 (wpAny_setField hI rfl (by simp) ?_);refine O8 (wpAny_setField (Gp (x:=.none) (j:=0) hI 0 (rawInt 0)) rfl (by simp) ?_);refine Xb5 (h0:=s.heap) (s:={s with heap:=(s.heap.update I (Obj.mapFields (·.setIfInBounds 0 (rawInt 0)))).update I (Obj.mapFields (·.setIfInBounds 2 Value.none))}) hh1 λe h' k ty=>?_;refine stp e h' (λb o nb q=>k b o ?_) ty;show ((s.heap.update I _).update I _).get? b=some o;rw[(Pj _ I _).2 b nb];exact keep1 _ b o nb q
end
namespace SF
theorem sSelf:Slot "set_iterator" "__iter__" "set_iterator.__iter__" := .of (owner := "set_iterator") (n := "__iter__") (by rw[typeLookup_type,builtinLookup_eq_fast];kernel_rfl) (by decide +kernel) (by decide +kernel) (by decide +kernel) (by first | exact .inl (by decide +kernel) | exact .inr (by decide +kernel)) (by rw[isSubtype_type];kernel_rfl)
theorem eSelf:entryFor table "set_iterator.__iter__" = some Builtin.«dict_keyiterator.__iter__»:=entryFor_alias (id' := "dict_keyiterator.__iter__") (by kernel_rfl) rfl (by decide +kernel) (by kernel_rfl)
theorem aSelf(a:Value):argsOk "set_iterator.__iter__" ⟨[a],[]⟩:=by unfold argsOk;kernel_rfl
end SF
section
variable {P:Program}{w:World}{A:Around}{E:Value->Shared->Prop}{s:Shared}{I a:Addr}{es:Array (Int×Value)}{ep:Nat}{t:SetTable}{vs:List Value}{fp:Option Addr}{ks:List Str}
theorem ItS.at{i:Nat}{h h':Heap}(x:ItS w I a es ep t vs fp i h)(k:∀b∈I::a::fp.toList,∀o,h.get? b=some o->h'.get? b=some o):ItS w I a es ep t vs fp i h':=by
 obtain⟨f0,h1,h2,h3,h4⟩:=x;refine⟨f0,k I (by simp) _ h1,?_,h3.at λo q=>k a (by simp) o q,h4⟩;cases h2 with
 | txt e1 e2=>exact .txt e1 e2
 | drw p os e1 e2 e3 e4=>
  obtain⟨n,e4⟩:=e4;exact .drw p os e1 e2 e3 ⟨n,k p (by rw[h4 p e3];simp) _ e4⟩
 | one sl e1 e2 e3 e4 e5 e6=>exact .one sl e1 e2 e3 e4 e5 e6
theorem Xib(hh:A.handled=none)(hl:vs.length=es.size)(nIa:a≠I)(nIp:∀p,fp=some p->p≠I):Walks P w A I (I::a::fp.toList) [I] vs.length (λi v=>vs[i]? = some v) (ItS w I a es ep t vs fp) where
 sub:=λb hb=>by simp at hb;simp[hb]
 frame:=λ_ _ _ st hk=>st.at hk
 item:=λi s Q E hi st hQ=>by
  refine Xh9 st hi hl nIa nIp λh' st' sb=>?_;exact hQ vs[i] h' s.toks (by simp[hi]) st' λb o hb e=>by rw[sb.2 b (λz=>hb (by simp[z]))];exact e
 done:=λs Q E st hQ=>Xia hh st hl λh' k=>hQ h' s.toks λb o hb e=>k b o (λz=>hb (by simp[z])) e
 self:=λi s Q E st hQ=>by
  obtain⟨f0,h1,_⟩:=st;have hT:s.TypeIs (.ref I) "set_iterator" := ⟨_,h1,rfl⟩;refine wpAny_pyIter_slot hT SF.sSelf (wpAny_call_entry SF.sSelf hT SF.eSelf ?_ (SF.aSelf _));show wpAny _ _ (ret (.ref I)) _ _ s;exact O9 ⟨_,rfl, "set_iterator",_,hT,SF.sNext.lookup,hQ⟩
theorem Xic{r:Addr}{Q:Bool->Shared->Prop}(hT:s.TypeIs (.ref r) "set")(h:Q false s):wpAny (model P w) A (Builtin.List.listLengthHint (.ref r)) Q E s:=by
 unfold Builtin.List.listLengthHint;refine O8 (wpAny_specialOf hT PySem.F.slot_set_len.lookup ?_);generalize hid:("set.__len__" : String)=id0
 wp_delta
 rw[show splitId id0=some ("set", "__len__") from by subst hid;decide +kernel];subst hid;refine O8 (wpAny_isInstance (T := "set") (b:=true) hT (by rw[isSubtype_type];kernel_rfl) ?_);refine wpAny_ite_split (λz=>absurd z (by decide)) (λ_=>?_);refine wpAny_ite_split (λ_=>?_) (λz=>absurd (by decide +kernel) z);exact O8 (wpAny_typeOf hT (O9 h))
end
end L2
namespace L2
open PySem PySem.Spec PyProof.Rows PySem.Calls
section
variable {P:Program}{w:World}{A:Around}{E:Value->Shared->Prop}{s:Shared}{a:Addr}{ks:List Str}
theorem Xid{R:Result->Shared->Prop}{S:Addr}{res:Value}{c0:Nat}(hh:A.handled=none)(hs:SSet P w s.heap a ks)(nS:S≠a)(gS:s.heap.get? S=some {cls:=.type "list",data:=.seq #[] c0})
  (hR:∀s' acc c vs ls,(∀b o,b≠S->s.heap.get? b=some o->s'.heap.get? b=some o)->s'.os=s.os->s'.gens=s.gens->s'.heap.get? S=some {cls:=.type "list",dict:=none,data:=.seq acc c,slots := #[]}->acc.toList=vs->StrsAre vs ls->ls.Perm ks->R (.ok (.ret res)) s'):
  wpAny (model P w) A.in1 (Builtin.List.listExtendWith (.ref S) (.ref a) res)
   (λfin s'=>match fin with | .done f=>R (.ok f) s' | .again c'=>c'.quiet=true/\codeAny (model P w) A c' R s') (λe s'=>R (.error e) s') s:=by
 obtain⟨o,es,ep,t,ls0,ho,hex,hd,hel,hst,hpm,hb,hf,hl,hpl⟩:=id hs;have hT:s.TypeIs (.ref a) "set" := ⟨o,ho,hex.1⟩;have la:=Ph ho;have lS:=Ph gS;unfold Builtin.List.listExtendWith;refine O8 (wpAny_typeOf (T := "set") hT ?_);have n1:Builtin.List.listSameRef (.ref S) (.ref a)=false:=by simp[Builtin.List.listSameRef,nS]
 have n2:(Value.type "set" == Value.type "list")=false:=by decide
 have n3:(Value.type "set" == Value.type "tuple")=false:=by decide
 simp only[n1,n2,n3,Bool.or_false,L4,if_false];refine O8 (Xh6 ⟨o,ho,hex,hd,hf⟩ hb hl hpl λf0 vs h1 d k1 z1 z2 kp O pv=>?_);have hvl:vs.length=es.size:=by rw[pv.length_eq,K8,Lh]
 have nI:∀b,b<h1.objs.size->b≠h1.objs.size:=λb q=>Lg q;have kI:∀b o,s.heap.get? b=some o->(h1.push (itO f0 0 a es.size ep)).get? b=some o:=λb o q=>Pi _ (k1 b o q);obtain⟨fp,hfp⟩:∃fp:Option Addr,(∀p,f0 = .ref p->fp=some p)/\∀p,fp=some p->p≠h1.objs.size/\p≠S:=by
  cases f0 with
  | ref p=>
   refine⟨some p,⟨λq e=>(by cases e;rfl),λq e=>?_⟩⟩;cases e;refine⟨Lg (kp p rfl),λz=>?_⟩;subst z;cases O with
   | drw p' os _ _ e ht=>
    cases e;obtain⟨n,ht⟩:=ht;rw[kI _ _ gS] at ht;have hc:=congrArg Obj.cls (Ly ht);exact absurd hc (by simp)
   | txt _ e=>cases e
   | one _ _ _ _ e _ _=>cases e
  | _=>exact⟨none,⟨λq e=>(by cases e),λq e=>(by cases e)⟩⟩
 have st0:ItS w h1.objs.size a es ep t vs fp 0 (h1.push (itO f0 0 a es.size ep)):=⟨f0,Heap.get?_push_size _ rfl,O,⟨o,kI _ _ ho,hex,hd,hf⟩,hfp.1⟩;have W:=Xib (P:=P) (w:=w) (A:=A.in1) (I:=h1.objs.size) (a:=a) (es:=es) (ep:=ep) (t:=t) (vs:=vs) (fp:=fp) hh hvl (Lg (Lr la z2)) (λp e=>(hfp.2 p e).1);have nSf:S∉h1.objs.size::a::fp.toList:=by
  simp only[Lk,not_or];refine⟨Lg (Lr lS z2),nS,λz=>?_⟩;cases hfq:fp with
  | none=>rw[hfq] at z;simp at z
  | some p=>
   rw[hfq] at z;have:S=p:=by simpa using z
   exact(hfp.2 p hfq).2 this.symm
 have key:∀(h:Heap) (c1:Nat),ItS w h1.objs.size a es ep t vs fp 0 h->(∀b o,b≠S->s.heap.get? b=some o->h.get? b=some o)->h.get? S=some {cls:=.type "list",data:=.seq #[] c1} ->
   codeAny (model P w) A (.builtin "list.extend.loop" ⟨[.ref S,.ref h1.objs.size,res],[]⟩) R {s with heap:=h,drawn:=d}:=by
  intro h c1 hst1 hk gS1;refine codeAny_extend_loopS W.toS (by rw[hvl];exact fits_of_scanBound hb) S nSf res vs.length 0 _ #[] c1 rfl (L6 _) hst1 gS1 (ItemsOf.nil _) λs' acc c hm gS' hacc=>?_;have hav:acc.toList=vs:=by
   apply List.ext_getElem?;intro i;by_cases hi:i<vs.length
   ·have hi2:i<acc.size:=by rw[hacc.1];exact hi
    have:=hacc.2 i acc[i] (getElem?_pos acc i hi2);rw[this];simp[hi2]
   ·rw[Ny (by rw[Lh,hacc.1];omega),Ny (by omega)]
  have hls:StrsAre vs (vs.map strOf):=strsAre_map vs λv hv=>hst.all v (pv.mem_iff.mp hv);refine hR s' acc c vs (vs.map strOf) (λb o nb q=>hm.heap b o (λz=>?_) (hk b o nb q)) hm.os hm.gens gS' hav hls ?_
  ·rcases Lk.mp z with z | z
   ·exact nb z
   ·exact absurd (Lr (Ph q) z2) (by rw[Lf.mp z];exact Mb _)
  ·have:=pv.map strOf;rw[hst.strs] at this;exact this.trans hpm
 have gS1:=kI _ _ gS;have hT1:Shared.TypeIs {s with heap:=h1.push (itO f0 0 a es.size ep),drawn:=d} (.ref a) "set" := ⟨o,kI _ _ ho,hex.1⟩;refine O8 (wpAny_holding (Xic hT1 ?_));refine wpAny_ite_split (λ_=>?_) (λ_=>O9 ⟨plainId_quiet PySem.F.plain_extend_loop _,key _ c0 st0 (λb o _ q=>kI b o q) gS1⟩);refine O8 (wpAny_rule (O8 ?_));show wpAny _ _ (updateSeq S (·.push .none) >>= λ_=>updateSeq S (·.pop)) _ _ _;refine O8 (wpAny_updateSeq gS1 rfl ?_);have gS2:=Heap.get?_update_self (Obj.mapSeq (·.push Value.none)) gS1 rfl;refine wpAny_updateSeq (hz:=by seq_fits) gS2 rfl ?_;have gS3:=Heap.get?_update_self (Obj.mapSeq (·.pop)) gS2 rfl;have other:∀b,b≠S->(((h1.push (itO f0 0 a es.size ep)).update S (Obj.mapSeq (·.push Value.none))).update S (Obj.mapSeq (·.pop))).get? b=(h1.push (itO f0 0 a es.size ep)).get? b:=λb nb=>
  (Heap.get?_update_other _ _ (Ne.symm nb)).trans (Heap.get?_update_other _ _ (Ne.symm nb))
 refine O9 ⟨plainId_quiet PySem.F.plain_extend_loop _,key _ _ (st0.at λb hb2 o q=>?_) (λb o nb q=>?_) gS3⟩
 ·rw[other b (λz=>nSf (z ▸ hb2))];exact q
 ·rw[other b nb];exact kI b o q
theorem Xie{R:List Value->Shared->Prop}(hh:A.handled=none)(hs:SSet P w s.heap a ks)
    (h:∀s' vs ls,(∀b o,s.heap.get? b=some o->s'.heap.get? b=some o)->s'.os=s.os->s'.gens=s.gens->StrsAre vs ls->ls.Perm ks->R vs s'):wpAny (model P w) A (collect (.ref a)) R E s:=by
  have la:a<s.heap.objs.size:=by obtain⟨o,_,_,_,_,g,_⟩:=hs;exact Ph g
  unfold collect;refine O8 (wpAny_runValue (codeAny_builtin entry_proto_collect' ?_));rw[Around.under_plainId PySem.F.plain_proto_collect _];show wpAny _ A.in1 (newList [] >>= λl=>again (.builtin "list.__iadd__" ⟨[l,Value.ref a],[]⟩)) _ _ s;refine O8 (wpAny_newObj_type ?_);refine O9 ⟨plainId_quiet PySem.F.plain_list_iadd _,codeAny_builtin entry_list_iadd' ?_⟩;rw[Around.under_plainId PySem.F.plain_list_iadd _];have gS:(s.heap.push {cls:=.type "list",data:=.seq ([]:List Value).toArray}).get? s.heap.objs.size=some {cls:=.type "list",data:=.seq #[] 0}:=Heap.get?_push_size _ rfl;show wpAny _ A.in1 (Builtin.List.listExtendWith (.ref s.heap.objs.size) (.ref a) (.ref s.heap.objs.size)) _ _ _;have key:=Xid (A:=A) (s:={s with heap:=s.heap.push {cls:=.type "list",data:=.seq ([]:List Value).toArray} }) (S:=s.heap.objs.size) (res:=.ref s.heap.objs.size)
    (R:=λq s'=>∃acc c vs ls,q = .ok (.ret (.ref s.heap.objs.size))/\(∀b o,s.heap.get? b=some o->s'.heap.get? b=some o)/\s'.os=s.os/\s'.gens=s.gens/\s'.heap.get? s.heap.objs.size=some {cls:=.type "list",dict:=none,data:=.seq acc c,slots := #[]}/\acc.toList=vs/\StrsAre vs ls/\ls.Perm ks)
    hh (hs.stay λo q=>Pi _ q) (Ov la) gS (λs' acc c vs ls k e1 e2 g e3 e4 e5=>⟨acc,c,vs,ls,rfl,λb o q=>k b o (Lg (Ph q)) (Pi _ q),e1,e2,g,e3,e4,e5⟩)
  have done:∀(q:Result) (s':Shared),(∃acc c vs ls,q = .ok (.ret (.ref s.heap.objs.size))/\(∀b o,s.heap.get? b=some o->s'.heap.get? b=some o)/\s'.os=s.os/\s'.gens=s.gens/\s'.heap.get? s.heap.objs.size=some {cls:=.type "list",dict:=none,data:=.seq acc c,slots := #[]}/\acc.toList=vs/\StrsAre vs ls/\ls.Perm ks) ->
      wants (λv s2=>wpAny (model P w) A (match v with
        | .ref l=>(do match (<-load l).data with
                        | .seq xs _=>pure xs.toList
                        | _=>unsupported "internal:collect")
        | _=>unsupported "internal:collect") R E s2) E q s':=λq s' ⟨acc,c,vs,ls,e0,k,e1,e2,g,e3,e4,e5⟩=>by
    subst e0;show wpAny _ A (load s.heap.objs.size >>= _) _ _ s';refine O8 (wpAny_load g ?_);refine O9 ?_;rw[e3];exact h s' vs ls k e1 e2 e4 e5
  refine wpAny_mono key (λfin s' x=>?_) λe s' x=>?_
  . cases fin with
    | done f=>exact done _ _ x
    | again c1=>exact⟨x.1,codeAny_mono x.2 λq s2 y=>done q s2 y⟩
  . obtain⟨_,_,_,_,e',_⟩:=x;cases e'
end
section
variable {X:Cx}{pins:List (Addr×Obj)}{σ:St}{H:Hp}{s s':Shared}
theorem Inv.moved(I:Inv X pins σ H s)(k:∀b u,s.heap.get? b=some u->s'.heap.get? b=some u)(ho:s'.os=s.os)(hg:s'.gens=s.gens):Inv X pins σ H s':=by
 have J:=I.kept (h':=s'.heap) (t':=s'.toks) k;exact⟨J.ok,ho.trans I.os,by rw[hg];exact I.bare,J.base,J.loc,J.cell,J.free,J.freeC,J.pin,J.hok,J.len⟩
theorem Inv.laidM{a:Addr}{o:HO}(I:Inv X pins σ H s)(k:∀b u,s.heap.get? b=some u->s'.heap.get? b=some u)(ho:s'.os=s.os)(hg:s'.gens=s.gens)(hp:s.heap.objs.size<=a)(new:A5 X.prog X.w (upd H a o) s'.heap a o):Inv X pins σ (upd H a o) s':=by
 have J:=I.laid (h':=s'.heap) (t':=s'.toks) k hp new;exact⟨J.ok,ho.trans I.os,by rw[hg];exact I.bare,J.base,J.loc,J.cell,J.free,J.freeC,J.pin,J.hok,J.len⟩
end
section
variable {P:Program}{w:World}{A:Around}{E:Value->Shared->Prop}{s:Shared}{ks:List Str}
theorem Xif{r:Addr}{Q:Value->Shared->Prop}(h64:ks.length<64)
  (hc:∀(R:List Value->Shared->Prop),(∀s' vs ls,(∀b o,s.heap.get? b=some o->s'.heap.get? b=some o)->s'.os=s.os->s'.gens=s.gens->StrsAre vs ls->ls.Perm ks->R vs s')->wpAny (model P w) A.in1 (collect (.ref r)) R E s)
  (h:∀(s1 s':Shared) (vs:List Value) (ls:List Str) (e:Nat),(∀b o,s.heap.get? b=some o->s1.heap.get? b=some o)->s1.os=s.os->s1.gens=s.gens->(∀b o,s1.heap.get? b=some o->s'.heap.get? b=some o)->s'.os=s1.os->s'.gens=s1.gens->s'.heap.get? s1.heap.objs.size=some (seqObj "list" vs.toArray e)->StrsAre vs ls->ls.Perm ks->sortedS ls=true->Q (.ref s1.heap.objs.size) s'):
  wpAny (model P w) A (call (.builtin "sorted") [.ref r]) Q E s:=by
 refine Calls.call_function_entry kind_sorted plain_sorted entry_sorted (args_sorted1 _) ?_;unfold Builtin.«sorted»;refine O8 (m:=checkCount "sorted" 1 1 _) (O9 ?_);refine O8 (hc _ λs1 vs ls k1 o1 g1 st p=>?_);have hl:vs.length<64:=by rw[st.length,p.length_eq];exact h64
 refine O8 (wpAny_newList ?_ (by rw[Pa];omega));have gL:(s1.heap.push (seqObj "list" vs.toArray 0)).get? s1.heap.objs.size=some (seqObj "list" vs.toArray 0):=Heap.get?_push_size _ rfl;refine O8 (wpAny_holding (wpAny_call_entry (s:={s1 with heap:=s1.heap.push (seqObj "list" vs.toArray 0)}) slot_list_sort ⟨_,gL,rfl⟩ entry_list_sort (list_sort_treeK strKind_oneLt gL st.keysOf (λa b rest e=>keyKind_strs (by rw[<-e];exact st)) hl λst' pp so=>⟨_,rfl,?_⟩) (args_list_sort _)));obtain⟨ls',a1,a2,a3⟩:=sorted_out_str st pp so;obtain⟨e,he⟩:=sortedHeap_at (out:=(arrOf st').map (·.2)) gL;refine O9 ⟨_,rfl,h s1 _ ((arrOf st').map (·.2)).toList ls' e k1 o1 g1 (λb o q=>?_) rfl rfl he a1 (a2.trans p) a3⟩;have lt:=Ph q;show (sortedHeap (s1.heap.push (seqObj "list" vs.toArray 0)) s1.heap.objs.size vs ((arrOf st').map (·.2))).get? b=some o;rw[sortedHeap_old (Lg lt) (by rw[size_push'];exact M3 lt)];exact Pi _ q
end
def Dn (P:Program) (w:World) (a:Addr) (ks:List Str):HO:=.ext λh=>SSet P w h a ks
theorem Xig{ss:List Str}{vs:List Value}(h:StrsAre vs ss):Vals (ss.map V.str) vs:=by
 induction h with
 | nil=>exact .nil
 | cons x t _ ih=>exact .cons ⟨t,rfl⟩ ih
theorem Je:∀{ss:List Str} {vs:List Value},Vals (ss.map V.str) vs->StrsAre vs ss
 | [],_,r=>by cases r;exact .nil
 | x::ss,_,r=>by
  cases r with
  | cons r1 r2=>
   obtain⟨t,rfl⟩:=r1;exact .cons x t (Je r2)
section
variable {X:Cx}
theorem Fo:X.calm=true->Cj X (.type "set") (λxs H Q=>∃p ss,xs=[.ref p]/\(SqL X.K H p (ss.map V.str)\/SqT X.K H p (ss.map V.str))/\ss.length+1<scanBound/\∀a,H a=none->Q (.ref a) (upd H a (Dn X.prog X.w a (ddup ss)))):=by
 intro hcalm pins s σ H xs us Q I r h;obtain⟨p,ss,rfl,hq,hb,q⟩:=h;obtain⟨u,rfl,rx⟩:=Ct r;cases rx;obtain⟨its,r',src⟩:∃its:List Value,Vals (ss.map V.str) its/\Src s.heap p its.toArray:=by
  rcases hq with hq | hq
  ·obtain⟨its,r',pl,_⟩:=I.list hq;exact⟨its,r',.lst pl.isList⟩
  ·obtain⟨its,r',pl,_⟩:=I.tuple hq;exact⟨its,r',.tup pl⟩
 refine Xh2 (I.ok.hd hcalm) src (Je r') hb λh' tk S k=>?_;refine⟨.ref s.heap.objs.size,_,I.laidM (s':={s with heap:=h',toks:=tk}) k rfl rfl (K9 _) ?_,rfl,q _ (I.hok.fresh (K9 _))⟩;exact⟨S,by obtain⟨o,_,_,_,_,g,_⟩:=S;exact⟨o,g⟩,λh1 h2 S1 kk=>S1.stay kk⟩
theorem Xih{pins:List (Addr×Obj)}{σ:St}{H:Hp}{s s1 s':Shared}{Q:VK}{vs:List Value}{ls ks:List Str}{e:Nat}(I:Inv X pins σ H s)(h64:ks.length<64)(k1:∀b o,s.heap.get? b=some o->s1.heap.get? b=some o)(o1:s1.os=s.os)(g1:s1.gens=s.gens)
  (k2:∀b o,s1.heap.get? b=some o->s'.heap.get? b=some o) (o2:s'.os=s1.os) (g2:s'.gens=s1.gens) (he:s'.heap.get? s1.heap.objs.size=some (seqObj "list" vs.toArray e)) (st:StrsAre vs ls) (p:ls.Perm ks)
  (q:∀l,H l=none->Q (.ref l) (upd H l (.lst (ls.map V.str)))):EP X pins σ Q (.ref s1.heap.objs.size) s':=by
 have I1:=I.moved k1 o1 g1;refine⟨.ref s1.heap.objs.size,_,I1.laidM k2 o2 g2 (K9 _) (show A5 X.prog X.w _ s'.heap _ (.lst (ls.map V.str)) from ⟨?_,vs,e,Xig st,he⟩),rfl,q _ (I1.hok.fresh (K9 _))⟩;rw[K8,p.length_eq,Pa];omega
theorem Gq:X.calm=true->Cj X (.builtin "sorted") (λxs H Q=>∃a ks,xs=[.ref a]/\H a=some (Dn X.prog X.w a ks)/\ks.length<64/\∀l ls,H l=none->ls.Perm ks->sortedS ls=true->Q (.ref l) (upd H l (.lst (ls.map V.str)))):=by
 intro hcalm pins s σ H xs us Q I r h;obtain⟨a,ks,rfl,ha,h64,q⟩:=h;obtain⟨u,rfl,rx⟩:=Ct r;cases rx;obtain⟨S,_⟩:=(show A5 X.prog X.w H s.heap a (.ext λh=>SSet X.prog X.w h a ks) from I.hok a _ ha);refine Xif h64 (λR k=>Xie (by show X.A.in1.handled=none;simp[I.ok.hd hcalm]) S k) λs1 s' vs ls e k1 o1 g1 k2 o2 g2 he st p so=>?_;exact Xih I h64 k1 o1 g1 k2 o2 g2 he st p λl hl=>q l ls hl p so
end
theorem Inv.turned2{X:Cx}{pins:List (Addr×Obj)}{σ:St}{H:Hp}{s:Shared}{h':Heap}{t':Nat}{e1 e2:Addr}(I:Inv X pins σ H s)(k:∀b o,b≠e1->b≠e2->s.heap.get? b=some o->h'.get? b=some o)(f1:FpOk X pins H e1)(f2:FpOk X pins H e2):Inv X pins σ H {s with heap:=h',toks:=t'}:=by
 have no:∀b u,H b=some u->b≠e1/\b≠e2:=λb u q=>⟨λz=>(by rw[z,f1.1] at q;cases q),λz=>(by rw[z,f2.1] at q;cases q)⟩;have nn:∀b,b∉[e1,e2]->b≠e1/\b≠e2:=λb hb=>by simpa using hb
 refine I.step (g':=s.gens) (d':=s.drawn) (ch:=[e1,e2]) (λb hb=>?_) (λb o _ _ hc q _=>k b o (nn b hc).1 (nn b hc).2 q) (λb o _ _ hc q _=>⟨o.slots,k b o (nn b hc).1 (nn b hc).2 q⟩) (λ_ _ _ _ n=>n) (λb o hc q=>⟨o,k b o (nn b hc).1 (nn b hc).2 q⟩) (λ_ _ q=>q) (λ_ _ _ q=>q) (λb ps q=>⟨#[],by rw[q];simp⟩) (λm hm=>?_) (λb u q=>?_) I.bare
 ·have hb':b=e1\/b=e2:=by simpa using hb
  rcases hb' with z | z
  ·subst z;exact⟨f1.2.2.2.1,f1.2.1,f1.2.2.2.2.1,f1.2.2.2.2.2⟩
  ·subst z;exact⟨f2.2.2.2.1,f2.2.1,f2.2.2.2.2.1,f2.2.2.2.2.2⟩
 ·obtain⟨o,es,ep,ho,r⟩:=hm;exact⟨o,es,ep,k _ o (Ne.symm f1.2.1) (Ne.symm f2.2.1) ho,r⟩
 ·refine(I.hok b u q).stay (λc v hc z=>k c v ?_ ?_ z) (λ_ z=>z) λ_ _ z=>z
  ·rcases hc with y | y
   ·rw[y];exact(no b u q).1
   ·exact(no c _ y).1
  ·rcases hc with y | y
   ·rw[y];exact(no b u q).2
   ·exact(no c _ y).2
def Ite (K:PySem.W.Frag) (a:Addr):It:=
 ⟨λi H=>∃xs x,SqL K H a xs/\xs[i]? = some x,λi H x H'=>∃tp,x = .ref tp/\H tp=none/\∀xs,SqL K H a xs->∃y,xs[i]? = some y/\H'=upd H tp (.tup [.int i,y]),λi H=>∃xs,SqL K H a xs/\xs.length<=i⟩
theorem Xii{P:Program}{w:World}{K:PySem.W.Frag}{es:List Expr}{k:Nat}{p:Pos}(a e it:Addr)(ne:e≠it):Turn P w K (.Tuple es k p) (Ite K a) [e,it] e (λi h=>(∃old,IsEnum h e it i old)/\h.IsListIter it a i) where
 mem:=by simp
 obj:=λi h st b hb=>by
  have hb':b=e\/b=it:=by simpa using hb
  rcases hb' with z | z
  ·subst z;obtain⟨⟨old,q⟩,_⟩:=st;exact⟨_,q,λv z=>by
    have z':Data.fields _=Data.cell v:=z;cases z'⟩
  ·subst z;obtain⟨o,q,c,d⟩:=st.2;exact⟨o,q,λv z=>by rw[d] at z;cases z⟩
 keep:=λi h h' st k=>by
  obtain⟨⟨old,q⟩,l⟩:=st;exact⟨⟨old,k e (by simp) _ q⟩,l.at λo z=>k it (by simp) o z⟩
 item:=by
  intro X hP hw hK hc i pins s σ H E I hf st hg;subst hP hw hK;obtain⟨xs,x,hq,hx⟩:=hg;obtain⟨its,rv,pl,hz⟩:=I.list hq;obtain⟨u,hu,ru⟩:=rv.get hx;have f1:=hf e (by simp);have f2:=hf it (by simp);obtain⟨⟨old,q⟩,l⟩:=st;refine wpAny_pyNext_enum_item q l pl.isList (x:=u) (by simpa using hu) ne λh' qo l' tp sz kk=>?_;have I1:Inv X pins σ H {s with heap:=h',toks:=s.toks+1}:=I.turned2 kk f1 f2;refine⟨_,rfl,?_⟩;have le:e<s.heap.objs.size:=Ph q;obtain⟨ol,hol,_⟩:=id l;have lit:it<s.heap.objs.size:=Ph hol;unfold letOwnedTupleGo;refine O8 (wpAny_load qo ?_);dsimp only;rw[Pc (by simp[rawInt])];refine O8 (wpAny_rule ?_);show wpAny _ _ (setField (.ref e) 0 .none) _ _ _;refine wpAny_setField qo rfl (by simp) ?_;have g:=Heap.get?_update_self (Obj.mapFields (·.setIfInBounds 0 Value.none)) qo rfl;have sb:=Pj h' e (Obj.mapFields (·.setIfInBounds 0 Value.none));have I2:Inv X pins σ (upd H s.heap.objs.size (.tup [.int i,x])) {s with heap:=h'.update e (Obj.mapFields (·.setIfInBounds 0 Value.none)),toks:=s.toks+1}:=by
   have J:=I.laid (a:=s.heap.objs.size) (o:=.tup [.int i,x]) (h':=s.heap.push {cls:=.type "tuple",data:=.seq #[.int i s.toks,u]}) (t':=s.toks+1) (λb o z=>Pi _ z) (K9 _) (show A5 X.prog X.w _ _ _ (.tup [.int i,x]) from ⟨by show 2<=sizeLine;decide,[.int i s.toks,u],.cons ⟨_,rfl⟩ (.cons ru .nil),IsTup.new _ _⟩);have g1:FpOk X pins (upd H s.heap.objs.size (.tup [.int i,x])) e:=⟨by rw[Ad (Lg le)];exact f1.1,f1.2⟩;have g2:FpOk X pins (upd H s.heap.objs.size (.tup [.int i,x])) it:=⟨by rw[Ad (Lg lit)];exact f2.1,f2.2⟩;refine J.turned2 (λb o n1 n2 z=>?_) g1 g2;show (h'.update e _).get? b=some o;rw[sb.2 b n1];by_cases hb:b=s.heap.objs.size
   ·subst hb;have z':(s.heap.push {cls:=.type "tuple",data:=.seq #[.int i s.toks,u]}).get? s.heap.objs.size=some o:=z;rw[Heap.get?_push_size _ rfl] at z';cases z';exact tp
   ·have z':(s.heap.push {cls:=.type "tuple",data:=.seq #[.int i s.toks,u]}).get? b=some o:=z;rw[Heap.get?_push_ne _ _ _ hb] at z';exact kk b o n1 n2 z'
  refine⟨.ref s.heap.objs.size,_,I2,rfl,⟨_,rfl,I.hok.fresh (K9 _),λys hy=>⟨x,by rw[I.list_inj hy hq];exact hx,rfl⟩⟩,⟨⟨u,g.trans ?_⟩,l'.at λo z=>?_⟩,λb hb=>?_⟩
  ·rfl
  ·rw[sb.2 it (Ne.symm ne)];exact z
  ·have hb':b=e\/b=it:=by simpa using hb
   rcases hb' with z | z
   ·subst z;rw[Ad (Lg le)];exact f1.1
   ·subst z;rw[Ad (Lg lit)];exact f2.1
 done:=by
  intro X hP hw hK hc i pins s σ H E I hf st hg;subst hP hw hK;obtain⟨xs,hq,hx⟩:=hg;obtain⟨its,rv,pl,hz⟩:=I.list hq;have hl:=rv.length;have f2:=hf it (by simp);obtain⟨⟨old,q⟩,l⟩:=st;exact wpAny_pyNext_enum_end (I.ok.hd hc) q l pl.isList (by simp;omega) λh' eb=>⟨rfl,I.turned (t':=s.toks) (λb o hb z=>eb b o hb z) f2.1 f2.2.1 f2.2.2.2.1 f2.2.2.2.2.1 f2.2.2.2.2.2⟩
 self:=λ_ _ _ _ _ st h=>by
  obtain⟨⟨old,q⟩,_⟩:=st;exact wpAny_pyIter_enum q h
def Xij (K:PySem.W.Frag) (ta:TA):TI:=fun σ H R=>ta σ H λvs H1=>∃a,vs=[.ref a]/\(∃xs,SqL K H1 a xs)/\R (Ite K a) H1
theorem Xik{X:Cx}{es:List Expr}{k:Nat}{p2:Pos}{l:Expr}{ta:TA}{p pos:Pos}(hg:Gl X "enumerate")(hm:X.mg "enumerate" = none)(ha:PA X [l] ta)(hs:starEach [l] X.env=[(false,eval l X.env)]:=by rfl):PI X (.Tuple es k p2) (.Call (.Name "enumerate" p) [l] [] pos) (Xij X.K ta):=by
 intro pins s σ H R I h;refine Call_ (E9 I hg hm (show bootBuiltins "enumerate" = some (.type "enumerate") by decide +kernel) (PyProof.Rows.callWith_type1 (thn (ha pos pins s σ H _ I h) λus s1 ⟨vs,H1,I1,r1,q1⟩=>?_) hs rfl));obtain⟨a,e,⟨xs,hq⟩,q⟩:=q1;subst e;cases r1 with
 | cons r rr=>
  cases rr;cases r;obtain⟨its,rv,pl,hz⟩:=I1.list hq;refine call_enumerate_list pl.isList λh' qe ql sz kk=>?_;refine wpAny_pyIter_enum qe ?_;have I2:Inv X pins σ H1 {s1 with heap:=h'}:=I1.kept (t':=s1.toks) kk;refine⟨_,[s1.heap.objs.size+1,s1.heap.objs.size],_,_,H1,rfl,I2,Xii a _ _ (Nat.succ_ne_self _),⟨⟨_,qe⟩,ql⟩,λb hb=>?_,q⟩;have hb':b=s1.heap.objs.size+1\/b=s1.heap.objs.size:=by simpa using hb
  rcases hb' with z | z
  ·subst z;exact I1.fpOk (Ni _) (I1.hok.fresh (Ni _))
  ·subst z;exact I1.fpOk (K9 _) (I1.hok.fresh (K9 _))
section
variable {X:Cx}{es:List Expr}{t:St->Hp->(Hp->Prop)->Prop}{e:Expr}{te:TE}{pos:Pos}
def Xil (te:TE) (t:St->Hp->(Hp->Prop)->Prop):St->Hp->(Hp->Prop)->Prop:=fun σ H Q=>te σ H λx H1=>∃z,x = .str z/\z.length<=400/\(∀c∈z.cps.toList,c<16 ^ 8)/\t σ H1 Q
theorem Xim{p:Pos}(ha:PE X e te)(h:PJ X es t)(he:evalEach (.FormattedValue e 114 none p::es) X.env=eval (.FormattedValue e 114 none p) X.env::evalEach es X.env:=by rfl):PJ X (.FormattedValue e 114 none p::es) (Xil te t):=by
 intro out pins s σ H Q I hw hl;rw[he];rw[Lp] at hl;refine joinParts_cons (wpAny_FormattedValue_repr (thn (ha pins s σ H _ I hw) λv s1 ⟨x,H1,I1,r1,q1⟩=>?_));obtain⟨z,ez,h1,h2,q⟩:=q1;subst ez;obtain⟨tk,rfl⟩:=r1;have hz:=StrLaws.reprText_len z h2;have hz2:(reprText z).length<=sizeLine:=by rw[Pa];omega
 refine wpAny_pyReprObj_str ?_ hz2;refine formatField_str (λt' k=>⟨by rw[Ea];omega,?_⟩) hz2;exact h _ pins _ σ H1 Q ((I1.tok _).tok _) q (by rw[Ea];omega)
def rSlS:V->Option Int->Option Int->Hp->VK->Prop:=λx lo hi H Q=>∃z,x = .str z/\lo=none/\(∃j,hi=some j)/\z.length<=1000/\Q (.str (Txt.slice z lo hi)) H
end
end L2
set_option maxHeartbeats 4000000
namespace L2
open PySem PySem.Spec PyProof.Rows
def leS (x y:Str):Prop:=x.cps.toList<=y.cps.toList
theorem Xin{x y:Str}(h:x.cps.toList=y.cps.toList):x=y:=by
 obtain⟨⟨a⟩⟩:=x;obtain⟨⟨b⟩⟩:=y;have:a=b:=h;rw[this]
theorem Xb6{x y:Str}(h:leS x y)(g:leS y x):x=y:=Xin (List.le_antisymm h g)
theorem Xb7{x y z:Str}(h:leS x y)(g:leS y z):leS x z:=List.le_trans h g
theorem Jf(x y:Str):leS x y\/leS y x:=List.le_total _ _
def ltS (x y:Str):Prop:=x.cps.toList<y.cps.toList
instance (x y:Str):Decidable (ltS x y):=inferInstanceAs (Decidable (x.cps.toList<y.cps.toList))
instance (x y:Str):Decidable (leS x y):=inferInstanceAs (Decidable (x.cps.toList<=y.cps.toList))
theorem Gr(x:Str):¬ltS x x:=List.lt_irrefl _
theorem Gs{x y z:Str}(h:ltS x y)(g:ltS y z):ltS x z:=List.lt_trans h g
theorem Jg{x y:Str}:¬ltS x y↔leS y x:=List.not_lt
theorem ltS_of{x y:Str}(h:leS x y)(n:x≠y):ltS x y:=by
 by_cases q:ltS x y
 ·exact q
 ·exact absurd (Xb6 h (Jg.mp q)) n
theorem Xio{x y:Str}(h:ltS x y):leS x y:=List.le_of_lt h
theorem Fp{x y:Str}(h:ltS x y):x≠y:=λe=>Gr y (e ▸ h)
theorem Xb8:∀(l:List Str) (p:Str),risingS p l=true->(p::l).Pairwise leS
 | [],p,_=>by simp
 | x::r,p,h=>by
  have h':(!ltCps x.cps.toList p.cps.toList&&risingS x r)=true:=h;rw[Ln,ltCps_eq] at h';have ih:=Xb8 r x h'.2;have hpx:leS p x:=by
   have:=h'.1;simp only[O3,decide_eq_false_iff_not] at this;exact this
  refine Ng.mpr ⟨λy hy=>?_,ih⟩;rcases Lk.mp hy with e | e
  ·rw[e];exact hpx
  ·exact Xb7 hpx ((Ng.mp ih).1 y e)
theorem Xip:∀(l:List Str),sortedS l=true->l.Pairwise leS
 | [],_=>by simp
 | x::r,h=>Xb8 r x h
theorem Fq:∀{a b:List Str},a.Perm b->a.Pairwise leS->b.Pairwise leS->a=b
 | [],b,p,_,_=>by rw[List.nil_perm.mp p]
 | x::a,[],p,_,_=>by have:=p.length_eq;simp at this
 | x::a,y::b,p,ha,hb=>by
  obtain⟨a1,a2⟩:=Ng.mp ha;obtain⟨b1,b2⟩:=Ng.mp hb;have e:x=y:=by
   have hx:x∈y::b:=p.mem_iff.mp Ld;have hy:y∈x::a:=p.mem_iff.mpr Ld;rcases Lk.mp hx with e | hx
   ·exact e
   ·rcases Lk.mp hy with e | hy
    ·exact e.symm
    ·exact Xb6 (a1 y hy) (b1 x hx)
  subst e;rw[Fq (List.Perm.cons_inv p) a2 b2]
def srt (l:List Str):List Str:=l.mergeSort λx y=>decide (leS x y)
theorem Dp(l:List Str):(srt l).Perm l:=List.mergeSort_perm ..
theorem Ew(l:List Str):(srt l).Pairwise leS:=by
 have h:=List.pairwise_mergeSort (le:=λx y=>decide (leS x y)) (λa b c h1 h2=>Pd (Xb7 (Pf h1) (Pf h2)))
  (λa b=>by rcases Jf a b with h | h<;>simp[h]) l
 exact h.imp λh=>Pf h
theorem Gu{ls ks:List Str}(p:ls.Perm ks)(h:sortedS ls=true):ls=srt ks:=Fq (p.trans (Dp ks).symm) (Xip _ h) (Ew _)
theorem Xiq{a b:List Str}(p:a.Perm b):srt a=srt b:=Fq ((Dp a).trans (p.trans (Dp b).symm)) (Ew _) (Ew _)
theorem Jh{l:List Str}{x:Str}:x∈srt l↔x∈l:=(Dp l).mem_iff
def dit (row:List Str):List Str:=srt (ddup row)
theorem Ak{row:List Str}{x:Str}:x∈dit row↔x∈row:=Jh.trans (Xbx row x)
theorem Eb(row:List Str):(dit row).Nodup:=(Dp _).nodup_iff.mpr (Gn row)
theorem Cv(row:List Str):(dit row).Pairwise ltS:=by
 have h1:=Ew (ddup row);have h2:(dit row).Pairwise (· ≠ ·):=Eb row;exact(h1.and h2).imp λh=>ltS_of h.1 h.2
theorem Gv(row:List Str):(dit row).length<=row.length:=by
 have:=(Dp (ddup row)).length_eq;have h:=Fm row;unfold dit;omega
theorem Gw{a b:List Str}(ha:a.Nodup)(hb:b.Nodup)(h:∀x,x∈a↔x∈b):a.Perm b:=(List.perm_ext_iff_of_nodup ha hb).mpr h
structure Fn (P:Program) (w:World) (K:PySem.W.Frag) (mg:Str->Option Value) (base:Heap) (CX:CXT) (k:Nat) (x:Str) (ps:List Str) (sp:Sp):Prop where
 ex:∃f fd,mg x=some (.ref f)/\PySem.W.keepIn K (.ref f)=true/\Binds K fd ps []/\FnOk P w K mg base CX k f fd ps sp
section
variable {X:Cx}{CX:CXT}{k:Nat}{ps:List Str}{sp:Sp}{E:XK}{x:Str}{p pos:Pos}{e:Expr}{es:List Expr}{t:TA}
theorem Am(F:Fn X.prog X.w X.K X.mg X.base CX k x ps sp)(hr:Room k X.A)(hg:Gl X x)(hx:Passes CX X E)
  (ha:PA X (e::es) t) (hdb:(x==("__debug__" : Str))=false:=by decide) (he:starEach (e::es) X.env=(false,eval e X.env)::starEach es X.env:=by rfl) (hpl:(backTo pos (starEach es X.env)).any (·.1)=false:=by rfl):
  PE X (.Call (.Name x p) (e::es) [] pos) (Xas sp [] E t):=by
 obtain⟨f,fd,hm,hk,hb,hF⟩:=F.ex;exact Xf8 hF hr hg hm hk hb .nil hx ha hdb he hpl
theorem Xir{st:Stmt}{rest:List Stmt}{D:Ends}{σ:St}{H:Hp}(P:St->Hp->Prop)(h2:∃u,PSs X rest u/\∀σ' H',P σ' H'->u D σ' H')
  (h1:∀nx,(∀σ' H',P σ' H'->nx σ' H')->∃t,PS X st t/\t {D with nx:=nx} σ H):∃t,PSs X (st::rest) t/\t D σ H:=by
 obtain⟨u,hu,ru⟩:=h2;obtain⟨t,ht,rt⟩:=h1 (u D) ru;exact⟨Hv t u,Af ht hu,rt⟩
end
theorem Bc{c:Bool}{A B:Prop}(h1:c=true->A)(h2:c=false->B):if c=true then A else B:=by
 cases c with
 | true=>exact Di (h1 rfl)
 | false=>exact B5 (h2 rfl)
theorem Same.upd{H H':Hp}{a:Addr}{o:HO}(s:Same H H')(h:H a=none):Same H (upd H' a o):=λb u e=>by
 rw[Ad (Aq e h)];exact s b u e
theorem Same.upd0{H:Hp}{a:Addr}{o:HO}(h:H a=none):Same H (L2.upd H a o):=(Same.refl H).upd h
theorem ku{H:Hp}{b p:Addr}{o u:HO}(h:H b=some o)(hp:H p=none):upd H p u b=some o:=by
 rw[Ad (Aq h hp)];exact h
theorem Same.step{H H1:Hp}{p:Addr}{o:HO}(s:Same H H1)(hp:H1 p=none):Same H (L2.upd H1 p o):=s.upd (s.free hp)
theorem Same.go{H H1:Hp}{p q:Addr}{o:HO}(s:Same H H1)(hp:H1 p=none)(hq:L2.upd H1 p o q=none):Same H (L2.upd H1 p o):=s.step hp
theorem Ji{α : Type}(f : α->V)(xs:List α)(b:Nat)(hb:b<=xs.length):B3 (xs.map f) none (some (b:Int))=(xs.take b).map f:=by
 unfold B3;rw[HT.sIx_none,List.drop_zero,HT.sIx_nat,K8,List.map_take,Nat.sub_zero,Nz hb]
theorem Gx{α : Type}(f : α->V)(xs:List α)(a:Nat)(ha:a<=xs.length):B3 (xs.map f) (some (a:Int)) none=(xs.drop a).map f:=by
 unfold B3;rw[HT.sIx_none,HT.sIx_nat,K8,Nz ha,List.map_drop];exact Oc (by rw[List.length_drop,K8];omega)
theorem Xis{α : Type}(f : α->V)(xs:List α)(a b:Nat)(hab:a<=b)(hb:b<=xs.length):B3 (xs.map f) (some (a:Int)) (some (b:Int))=((xs.drop a).take (b - a)).map f:=by
 unfold B3;rw[HT.sIx_nat,HT.sIx_nat,K8,Nz hb,Nz (L0 hab hb),List.map_take,List.map_drop]
def Xb9 (fsc:Scope) (fN N:List Str) (cap:List (Option Nat)) (scope:Scope):Bool:=
 (scope.names.all λy=>decide (scope.names.lookup y.1=some y.2)) &&
 (scope.names.all λy=>decide (y.2 ≠ .free)||decide (fsc.names.lookup y.1=some .cell)||decide (fsc.names.lookup y.1=some .free))&&decide (cap.length=N.length) &&
 ((List.range N.length).all λi=>match cap[i]?,N[i]? with
  | some (some j),some x=>decide (fN[j]? = some x)&&decide (scope.names.lookup x=some .free)
  | _,_=>true)
theorem CompScope.of{X:Cx}{N:List Str}{cap:List (Option Nat)}{scope:Scope}(fsc:Scope)(fN:List Str)(h1:X.env.scope=fsc)(h2:X.N=fN)(hk:scope.kind = .function)(h:Xb9 fsc fN N cap scope=true):CompScope X N cap scope:=by
 unfold Xb9 at h;simp only[Ln,Lz,Na,decide_eq_true_eq] at h;obtain⟨⟨⟨a1,a3⟩,a4⟩,a5⟩:=h;refine⟨hk,a1,λy hy e=>?_,a4,λi x j hN hc=>?_⟩
 ·show X.env.scope.names.lookup y.1=some .cell\/X.env.scope.names.lookup y.1=some .free;rw[h1];rcases a3 y hy with (z | z) | z
  ·exact absurd e z
  ·exact .inl z
  ·exact .inr z
 ·have hi:i<N.length:=(L3.mp hN).1;have q:=a5 i (Mp.mpr hi);rw[hc,hN] at q;simp only[Ln,decide_eq_true_eq] at q;rw[h2];exact q
section
variable {X:Cx}
theorem C8(K:PySem.W.Frag)(h:X.K=K):IxR X (Im K):=by subst h;exact Io
theorem Jj(K:PySem.W.Frag)(h:X.K=K):OpR X (compareOp .In) (rIn K false):=by subst h;exact Xgm
end
theorem Xca{cap:List (Option Nat)}{tt:TT}{te:TE}{J:It}{σ:St}{H1:Hp}{F:Addr->Hp->Prop}{j:Nat}(n:Nat)(hn:n<sizeLine)(vs:Nat->V)(ok:Nat->Bool)(ys:Nat->V)
  (hgo:∀i H2,i<n->Same H1 H2->J.go i H2/\∀x H3,J.yld i H2 x H3->H3=H2/\x=vs i)
  (hst:∀H2,Same H1 H2->J.stop n H2)
  (tst:∀i H2 Q,i<n->Same H1 H2->(∀H',Same H2 H'->Q (ok i) H')->tt ((Bk cap σ).set j (some (vs i))) H2 Q)
  (step:∀i H2 Q,i<n->ok i=true->Same H1 H2->(∀H',Same H2 H'->Q (ys i) H')->te ((Bk cap σ).set j (some (vs i))) H2 Q)
  (hd:∀D H2,H1 D=none->Same H1 H2->H2 D=some (.lst (((List.range n).filter ok).map ys))->F D H2):Dj cap (Ba j) tt te J σ H1 F:=by
 refine Fj n vs (λD i σ2 H2=>(∀v, σ2.set j v=(Bk cap σ).set j v)/\Same H1 H2/\H2 D=some (.lst (((List.range i).filter ok).map ys))) ?_ ?_ ?_ ?_ ?_
 ·intro D hD;exact⟨λ_=>rfl,(Same.refl H1).step hD,Ab⟩
 ·rintro D i σ2 H2 hD hi ⟨_,s2,_⟩;exact hgo i H2 hi s2
 ·rintro D σ2 H2 hD ⟨_,s2,_⟩;exact hst H2 s2
 ·rintro D i σ2 H2 hD hi ⟨e,s2,hb⟩;show tt (σ2.set j (some (vs i))) H2 _;rw[e];refine tst i H2 _ hi s2 λH3 s3=>?_;have s13:=s2.trans s3;have hb3:=s3 _ _ hb;have hss:∀v,((Bk cap σ).set j (some (vs i))).set j v=(Bk cap σ).set j v:=λv=>by rw[O6]
  have hl:(((List.range i).filter ok).map ys).length<=i:=by
   rw[K8];exact L0 (Mw ..) (by rw[Ms];omega)
  refine Bc (λhk=>?_) (λhk=>?_)
  ·refine step i H3 _ hi hk s13 λH4 s4=>?_;refine wput hi (s4 _ _ hb3) (by omega) ⟨hss,λb u e'=>?_,?_⟩
   ·rw[Ad (Aq e' hD)];exact s4 _ _ (s13 b u e')
   ·rw[Ab,Md,Ls,Lo];simp[hk]
  ·refine wskip hi ⟨hss,s13,?_⟩;rw[hb3,Md,Ls,Lo];simp[hk]
 ·rintro D σ2 H2 hD ⟨_,s2,hb⟩;exact hd D H2 hD s2 hb
theorem Jk{cap:List (Option Nat)}{te:TE}{J:It}{σ:St}{H1:Hp}{F:Addr->Hp->Prop}{j:Nat}(n:Nat)(hn:n<sizeLine)(vs:Nat->V)(ys:Nat->V)
  (hgo:∀i H2,i<n->Same H1 H2->J.go i H2/\∀x H3,J.yld i H2 x H3->H3=H2/\x=vs i)
  (hst:∀H2,Same H1 H2->J.stop n H2)
  (step:∀i H2 Q,i<n->Same H1 H2->(∀H',Same H2 H'->Q (ys i) H')->te ((Bk cap σ).set j (some (vs i))) H2 Q)
  (hd:∀D H2,H1 D=none->Same H1 H2->H2 D=some (.lst ((List.range n).map ys))->F D H2):Dj cap (Ba j) C7 te J σ H1 F:=
 Xca n hn vs (λ_=>true) ys hgo hst (λi H2 Q _ _ k=>k H2 (Same.refl _)) (λi H2 Q hi _ s k=>step i H2 Q hi s k) λD H2 hD s e=>hd D H2 hD s (by rw[e,Lv.mpr (λ_ _=>rfl)])
theorem Fs{X:Cx}:Passes (CX1 X.prog X.w) X E0:=λ_ _ _ _ _ _ _ h=>by
 obtain⟨_,_,_,_,_,_,_,_,_,h⟩:=h;exact h.elim
structure DefAt (K:PySem.W.Frag) (x:Str) (st:Stmt):Prop where
 ex:∃f fd,PySem.W.nsIn K mainGlobals x=some (some (.ref f))/\PySem.W.keepIn K (.ref f)=true/\Fun K x x st f fd
theorem DefAt.of{K:PySem.W.Frag}{x:Str}{st:Stmt}{f:Addr}{oc:Value}{od an:Option Addr}{osl:Array (Option Value)}{kV doc pm cdv ct:Value}(a:PySem.W.nsIn K mainGlobals x=some (some (.ref f)))
  (l:K.lookup f=some ⟨oc,od,.func (PySem.W.fnOf x x (C6 st) (B4 st) (Aj st) .none kV doc pm an cdv ct),osl⟩) (c:PySem.W.codeIn K cdv x=true) (k:PySem.W.keepIn K (.ref f)=true):DefAt K x st:=
 ⟨⟨f,_,a,k,Xbf l c k⟩⟩
theorem Fn.of{P:Program}{w:World}{K:PySem.W.Frag}{h:Heap}{mg:Str->Option Value}{base:Heap}{CX:CXT}{k:Nat}{x:Str}{st:Stmt}{ps:List Str}{sp:Sp}(X:K.In h)(G:h.Ns mainGlobals mg)(D:DefAt K x st)
  (hb:∀(kV doc pm:Value) (an:Option Addr) (cdv ct:Value) (us:List Value),us.length=ps.length->bindArgs (PySem.W.fnOf x x (C6 st) (B4 st) (Aj st) .none kV doc pm an cdv ct) ⟨us,[]⟩=pure (ps.zip us))
  (ok:∀f fd,Fun K x x st f fd->FnOk P w K mg base CX k f fd ps sp):Fn P w K mg base CX k x ps sp:=by
 obtain⟨f,fd,a,hk,F⟩:=D.ex;exact⟨⟨f,fd,PySem.W.mg_of X G a,hk,F.binds hb,ok f fd F⟩⟩
structure ExcAt (K:PySem.W.Frag) (x:Str) (C:Addr):Prop where
 a:PySem.W.nsIn K mainGlobals x=some (some (.ref C))
 e:PySem.W.excIn K C bmV "ValueError.__new__" = true
 ga:PySem.W.findIn K (.ref C) "__getattribute__" = some (some (.builtin "BaseException.__getattribute__"))
 gn:PySem.W.findIn K (.ref C) "__getattr__" = some none
 cl:PySem.W.findIn K (.ref C) "__class__" = some (some (.builtin "object.__class__"))
 sb:PySem.W.subIn K (.ref C) (.type "BaseException")=some true
 so:PySem.W.subIn K (.ref C) (.type "object")=some true
 sv:PySem.W.subIn K (.ref C) (.type "ValueError")=some true
 ss:PySem.W.subIn K (.ref C) (.ref C)=some true
 ic:PySem.W.isClsIn K C=true
 ty:PySem.W.typeIn K (.ref C)=some (.type "type")
section
variable {K:PySem.W.Frag}{x:Str}{C:Addr}
end
structure ClsAt (K:PySem.W.Frag) (x:Str) (C:Addr):Prop where
 a:PySem.W.nsIn K mainGlobals x=some (some (.ref C))
 ic:PySem.W.isClsIn K C=true
 ty:PySem.W.typeIn K (.ref C)=some (.type "type")
theorem Ft(x:Str)(row:List Str):inV (.str x) (row.map V.str)=decide (x∈row):=by
 unfold inV;rw[Mx,Nr,decide_eq_true_eq];constructor
 ·rintro ⟨y,hy,e⟩;obtain⟨z,hz,rfl⟩:=Lw.mp hy;have:z=x:=by simpa [eqV] using e
  rw[<-this];exact hz
 ·intro hx;exact⟨.str x,Lw.mpr ⟨x,hx,rfl⟩,by simp[eqV]⟩
theorem Ex(row:List Str):(row.map V.str).all Ce=true:=by
 rw[Lz];intro v h;obtain⟨x,_,rfl⟩:=Lw.mp h;rfl
theorem Xit{K:PySem.W.Frag}{cap:List (Option Nat)}{tt:TT}{te:TE}{a:Addr}{xs:List V}{σ:St}{H1:Hp}{F:Addr->Hp->Prop}{p q:Nat}(hpq:p≠q)(hS:SqL K H1 a xs)(hn:xs.length<sizeLine)(ok:Nat->Bool)(ys:Nat->V)
  (tst:∀(i:Nat) x H2 Q,xs[i]? = some x->Same H1 H2->(∀H',Same H2 H'->Q (ok i) H')->tt (((Bk cap σ).set p (some (.int i))).set q (some x)) H2 Q)
  (step:∀(i:Nat) x H2 Q,xs[i]? = some x->ok i=true->Same H1 H2->(∀H',Same H2 H'->Q (ys i) H')->te (((Bk cap σ).set p (some (.int i))).set q (some x)) H2 Q)
  (hd:∀D H2,H1 D=none->Same H1 H2->H2 D=some (.lst (((List.range xs.length).filter ok).map ys))->F D H2):Dj cap (Hx K 2 (Hw (Ba p) (Hw (Ba q) Xah))) tt te (Ite K a) σ H1 F:=by
 intro D hD;refine⟨wN xs.length λi σ2 H2=>(∀u v,(σ2.set p u).set q v=((Bk cap σ).set p u).set q v)/\Same H1 H2/\H2 D=some (.lst (((List.range i).filter ok).map ys)),⟨xs.length,by simp,L6 _,λ_ _=>rfl,(Same.refl H1).step hD,Ab⟩,?_⟩;rintro i m σ1 H2 ⟨rfl,hi,e,s2,hb⟩;have hS2:SqL K H2 a xs:=s2.seq hS;by_cases hlt:i<xs.length
 ·have hx:xs[i]? = some xs[i]:=Li hlt;refine .inr ⟨⟨xs,xs[i],hS2,hx⟩,?_⟩;rintro x H3 ⟨tp,rfl,ht,hy⟩;obtain⟨y,hy1,rfl⟩:=hy xs hS2;rw[hx] at hy1;cases hy1;refine⟨tp,_,rfl,SqT.of Ab,rfl,_,_,rfl,_,_,rfl,rfl,?_⟩;have s3:Same H1 (upd H2 tp (.tup [.int i,xs[i]])):=s2.step ht;have hb3:upd H2 tp (.tup [.int i,xs[i]]) D=some (.lst (((List.range i).filter ok).map ys)):=ku hb ht;rw[e];refine tst i _ _ _ hx s3 λH4 s4=>?_;have s14:=s3.trans s4;have hb4:=s4 _ _ hb3;have hss:∀u v,(((((Bk cap σ).set p (some (.int i))).set q (some xs[i])).set p u).set q v)=((Bk cap σ).set p u).set q v:=λu v=>by
   rw[List.set_comm _ _ (Ne.symm hpq),O6,O6]
  have hl:(((List.range i).filter ok).map ys).length<=i:=by
   rw[K8];exact L0 (Mw ..) (by rw[Ms];omega)
  refine Bc (λhk=>?_) (λhk=>?_)
  ·refine step i _ H4 _ hx hk s14 λH5 s5=>?_;refine wput hlt (s5 _ _ hb4) (by omega) ⟨hss,λb u e'=>?_,?_⟩
   ·rw[Ad (Aq e' hD)];exact s5 _ _ (s14 b u e')
   ·rw[Ab,Md,Ls,Lo];simp[hk]
  ·refine wskip hlt ⟨hss,s14,?_⟩;rw[hb4,Md,Ls,Lo];simp[hk]
 ·have ei:i=xs.length:=by omega
  subst ei;exact .inl ⟨⟨xs,hS2,K9 _⟩,hd D H2 hD s2 hb⟩
theorem Ey{X:Cx}{pos:Pos}{es:List Expr}{k:Nat}{t:TGs}(K:PySem.W.Frag)(n:Nat)(hK:X.K=K)(hc:X.calm=true)(h:PGs X es t)
  (hn:(assignEach es X.env).length=n:=by rfl) (hst:(assignEach es X.env).findIdx? (·.1)=none:=by rfl):PG X (.Tuple es k pos) (Hx K n t):=by
 subst hK;exact Xfs hc h hn hst
theorem Cw{α : Type}(d : α)(p : α->Bool):∀(xs:List α),((List.range xs.length).filter λi=>p (xs.getD i d)).map (λi=>xs.getD i d)=xs.filter p:=by
 intro xs;have go:∀n,n<=xs.length->((List.range n).filter λi=>p (xs.getD i d)).map (λi=>xs.getD i d)=(xs.take n).filter p:=by
  intro n
  induction n with
  | zero=>intro _;rfl
  | succ n ih=>
   intro h;have hn:n<xs.length:=by omega
   have e:xs.getD n d=xs[n]:=by simp[List.getD,hn]
   rw[Md,Ls,Lo,ih (by omega),Lu hn,Ls,L7,L7,e];split
   ·simp[hn]
   ·simp
 rw[go _ (K9 _),Mq]
abbrev TM:=St->Hp->(St->Hp->Prop)->Prop
def PM (X:Cx) (m:Sem Unit) (t:TM):Prop:=∀(pins:List (Addr×Obj)) (s:Shared) (σ:St) (H:Hp) (Q:St->Hp->Prop),Inv X pins σ H s->t σ H Q ->
 wpAny (model X.prog X.w) X.A m (λ_ s'=>∃σ' H',Inv X pins σ' H' s'/\Q σ' H') X.xe s
def C9 (e:Expr) (d:Nat) (tg iter:Expr) (ifs:List Expr) (act:Sem Unit) (it acc:Value) (env:Env):Sem Fin:=do
 standAt iter.pos
 match <-pyNext it with
 | none=>pure (.done .next)
 | some v=>
  letOwnedTupleGo tg it v
  assign tg env v
  let mut ok:=true
  for c in ifs do
   if ok then ok <-isTrue c env (eval c env)
  if ok then act
  again (.compLoop e d it acc env)
structure Cm (e:Expr):Prop where
 den1 : ∀ (P : Program) (w : World) (d : Nat) (it acc : Value) (env : Env), (model P w).den (.compLoop e d it acc env) = (compTurn e d it acc env).onRaise (fun x => do noteFrame x env; theTreesLotGoes x)
 den2 : ∀ (P : Program) (w : World) (d : Nat) (it acc : Value) (env : Env), (model P w).den (.compStart e d it acc env) = (compStart e d it acc env).onRaise (fun x => do noteFrame x env; standAt theWindowsPlace)
 und1:∀(A:Around) (d:Nat) (it acc:Value) (env:Env),A.under (.compLoop e d it acc env)=A
 und2:∀(A:Around) (d:Nat) (it acc:Value) (env:Env),A.under (.compStart e d it acc env)=A
theorem Fu{elt:Expr}{gs:List Comprehension}{sc:Scope}{p:Pos}:Cm (.ListComp elt gs sc p):=⟨λ_ _ _ _ _ _=>rfl,λ_ _ _ _ _ _=>rfl,λ_ _ _ _ _=>rfl,λ_ _ _ _ _=>rfl⟩
theorem Xiu{k v:Expr}{gs:List Comprehension}{sc:Scope}{p:Pos}:Cm (.DictComp k v gs sc p):=⟨λ_ _ _ _ _ _=>rfl,λ_ _ _ _ _ _=>rfl,λ_ _ _ _ _=>rfl,λ_ _ _ _ _=>rfl⟩
def tLp (g:TG) (tt:TT) (tm:TM) (J:It) (σ:St) (H1:Hp) (F:St->Hp->Prop):Prop:=
 ∃W:Nat->Nat->St->Hp->Prop,(∃m,W 0 m σ H1)/\∀i m σ1 H2,W i m σ1 H2 ->
  (J.stop i H2/\F σ1 H2)\/(J.go i H2/\∀x H3,J.yld i H2 x H3->g x σ1 H3 fun σ2 H4=>tt σ2 H4 λb H5=>
   if b=true then tm σ2 H5 fun σ3 H6=>∃m',m'<m/\W (i+1) m' σ3 H6 else ∃m',m'<m/\W (i+1) m' σ2 H5)
section
variable {Y:Cx}{e tg iter:Expr}{d:Nat}{ifs:List Expr}{act:Sem Unit}{acc:Value}{g:TG}{tt:TT}{tm:TM}{pins:List (Addr×Obj)}{σ:St}{H:Hp}{s:Shared}{J:It}{fp:List Addr}{it:Addr}{tn:Nat->Heap->Prop}{F:St->Hp->Prop}{R:Result->Shared->Prop}
theorem Xcb(cm:Cm e)(hx:Y.xe=λ_ _=>False)(hc:Y.calm=true)(eq:compTurn e d (.ref it) acc Y.env=C9 e d tg iter ifs act (.ref it) acc Y.env)(hg:PG Y tg g)(ht:PIfs Y ifs tt)(hm:PM Y act tm)
  (I:Inv Y pins σ H s) (T:Turn Y.prog Y.w Y.K tg J fp it tn) (h0:tn 0 s.heap) (hf:∀b∈fp,FpOk Y pins H b) (hb:tLp g tt tm J σ H F) (fin:∀σ' H' s',Inv Y pins σ' H' s'->F σ' H'->R (.ok .next) s'):
  codeAny (model Y.prog Y.w) Y.A (.compLoop e d (.ref it) acc Y.env) R s:=by
 obtain⟨W,⟨m0,w0⟩,turn⟩:=hb;have stat:∀{H':Hp},(∀b∈fp,H' b=none)->∀b∈fp,FpOk Y pins H' b:=λhn b hb=>⟨hn b hb,(hf b hb).2⟩;refine codeAny_loop rfl (λn s'=>∃i σ1 H2,Inv Y pins σ1 H2 s'/\tn i s'.heap/\(∀b∈fp,H2 b=none)/\W i n σ1 H2) (λn s' hI=>?_) m0 ⟨0, σ,H,I,h0,λb hb=>(hf b hb).1,w0⟩;obtain⟨i, σ1,H2,I',st',fr',w'⟩:=hI;rw[cm.den1,cm.und1];refine wpAny_noted ?_;rw[eq];have no:∀{α : Type} {t:Sem α} {Q : α->Shared->Prop} {E':Value->Shared->Prop} {s₁ : Shared},wpAny (model Y.prog Y.w) Y.A t Q Y.xe s₁->wpAny (model Y.prog Y.w) Y.A t Q E' s₁:=λh=>wpAny_mono h (λ_ _ q=>q) λ_ _ z=>by rw[hx] at z;exact z.elim
 unfold C9;rcases turn i n σ1 H2 w' with ⟨stop,q⟩ | ⟨go,step⟩
 ·refine O8 (wpAny_standAt (O8 (thn (T.done Y rfl rfl rfl hc i pins s' σ1 H2 _ I' (stat fr') st' stop) λr s1 ⟨hr,I1⟩=>?_)));subst hr;exact O9 (fin σ1 H2 s1 I1 q)
 ·refine O8 (wpAny_standAt (O8 (thn (T.item Y rfl rfl rfl hc i pins s' σ1 H2 _ I' (stat fr') st' go) λr s1 ⟨u,hr,h4⟩=>?_)));subst hr;refine O8 (thn h4 λ_ s5 ⟨x,H5,I5,r5,y5,st5,fr5⟩=>?_);have I5':=I5.pinned (stat fr5) (T.obj _ _ st5);refine O8 (thn (no (hg _ s5 σ1 H5 x u _ I5' r5 (step x H5 y5))) λ_ s6 ⟨σ6,H6,I6,q6⟩=>?_);refine O8 (thn (no (ht _ s6 σ6 H6 _ I6 q6)) λb s7 ⟨H7,I7,q7⟩=>?_);have again:∀{s8:Shared} {σ8:St} {H8:Hp},Inv Y (pins++Fb fp s5.heap) σ8 H8 s8->(∃m',m'<n/\W (i+1) m' σ8 H8)->∃m,m<n/\∃i σ1 H2,Inv Y pins σ1 H2 s8/\tn i s8.heap/\(∀b∈fp,H2 b=none)/\W i m σ1 H2:=λ{s8 σ8 H8} I8 ⟨m',hm,w8⟩=>by
   refine⟨m',hm,i+1, σ8,H8,I8.unpinned,T.keep _ _ _ st5 λb hb o e=>(I8.pin (b,o) (L1 _ (L1 _ (Ge hb e)))).1,λb hb=>?_,w8⟩;obtain⟨o,e,d⟩:=T.obj _ _ st5 b hb;exact(I8.pin (b,o) (L1 _ (L1 _ (Ge hb e)))).2.1
  cases b with
  | false=>
   rw[Pb Lq] at q7;exact O9 ⟨rfl,again I7 q7⟩
  | true=>
   rw[Pc rfl] at q7;exact O8 (thn (no (hm _ s7 σ6 H7 _ I7 q7)) λ_ s8 ⟨σ8,H8,I8,q8⟩=>O9 ⟨rfl,again I8 q8⟩)
theorem Xcc{prog:Program}{w:World}{A:Around}{env:Env}{itv:Value}{cl:Comprehension}(cm:Cm e)(hcl:(clausesOf e)[d]? = some cl)(has:cl.is_async=0)
  (h0:codeAny (model prog w) A (.compLoop e d itv acc env) R s)
  (h:wpAny (model prog w) A (pyIter itv) (λit' s'=>codeAny (model prog w) A (.compLoop e d it' acc env) R s') (notedBy (model prog w) A env λx s'=>R (.error x) s') s):
  codeAny (model prog w) A (.compStart e d itv acc env) R s:=by
 refine codeAny_of_tree ?_;rw[cm.den2,cm.und2];refine wpAny_notedAt ?_;unfold compStart;rw[hcl];have e1:(Option.elim (some cl) false λx=>x.is_async != 0)=false:=by
  show (cl.is_async != 0)=false;rw[has];rfl
 rw[e1,Pb Lq];show wpAny _ A (ask >>= _) _ _ s;refine O8 (wpAny_askSetting (wpAny_ite ?_));split
 ·first
   | exact O8 (O9 (O9 (And.intro rfl h0)))
   | exact O9 (And.intro rfl h0)
 ·first
   | exact O8 (wpAny_rule (O8 (wpAny_standAt (O8 (wpAny_mono h (λit' s' h'=>O9 (And.intro rfl h')) λ_ _ x=>x)))))
   | (refine O8 (wpAny_rule ?_);show wpAny _ _ (standAt cl.iter.pos >>= _) _ _ s;exact O8 (wpAny_standAt (O8 (wpAny_mono h (λit' s' h'=>O9 (And.intro rfl h')) λ_ _ x=>x))))
end
def Fv (te:TE) (D:Addr):TM:=fun σ H Q=>te σ H λy H6=>∃ys,H6 D=some (.lst ys)/\ys.length<sizeLine/\Q σ (upd H6 D (.lst (ys++[y])))
theorem Gy{Y:Cx}{elt:Expr}{te:TE}{D:Addr}(he:PE Y elt te):PM Y (do let _ <-call (.builtin "list.append") [.ref D,<-eval elt Y.env]) (Fv te D):=by
 intro pins s σ H Q I h;refine O8 (thn (he pins s σ H _ I h) λyv s8 ⟨y,H8,I8,r8,ys,hD,hlt,q8⟩=>?_);exact O8 (thn (Ff (X:=Y) _ s8 σ H8 (.ref D) [y] (.ref D) [yv] (λ_ H9=>Q σ H9) I8 rfl (.cons r8 .nil) ⟨_,ys,y,rfl,rfl,hD,hlt,q8⟩) λ_ s9 ⟨_,H9,I9,_,q9⟩=>O9 ⟨σ,H9,I9,q9⟩)
def Xcd (tk tv:TE) (D:Addr):TM:=fun σ H Q=>tk σ H λk H1=>tv σ H1 λv H2=>∃kvs ky,k=kV ky/\H2 D=some (.dK kvs)/\kvs.length<sizeLine/\Q σ (upd H2 D (.dK (A9 kvs ky v)))
theorem Xiv{Y:Cx}{kx vx:Expr}{tk tv:TE}{D:Addr}(hk:PE Y kx tk)(hv:PE Y vx tv):PM Y (do
  let kv <-eval kx Y.env
  let vv <-holding [kv] (eval vx Y.env)
  standAt {kx.pos with endLine:=vx.pos.endLine,endCol:=vx.pos.endCol}
  holding [kv,vv] (dictSet D kv vv)) (Xcd tk tv D):=by
 intro pins s σ H Q I h;refine O8 (thn (hk pins s σ H _ I h) λkv s1 ⟨k,H1,I1,rk,q1⟩=>O8 (wpAny_holding (thn (hv pins s1 σ H1 _ I1 q1) λvv s2 ⟨v,H2,I2,rv,kvs,ky,ek,hD,hl,q⟩=>O8 (wpAny_standAt (wpAny_holding ?_)))));subst ek;obtain⟨z,hd,vs,rel,dd⟩:=Xa9 I2.hok hD;have hz:vs.length<=sizeLine:=by rw[<-rel.length];exact z
 have hl':(A9 kvs ky v).length<=sizeLine:=by have:=Fg kvs ky v;omega
 refine wpAny_dictSet_pairs (knd:=A0 Y.prog Y.w) (hsz:=hz) (Ep rk) dd λh' dd' hs=>⟨σ,_,?_,q⟩;have he:∃q,h'.get? D=some q:=let ⟨q,_,_,hq,_⟩:=dd'; ⟨q,hq⟩;exact Iq I2 (by rw[hD];exact True.intro) hs he (Xba hl' hd (rel.put ky rv) dd')
def Xce (wi:TI) (g:TG) (tt:TT) (tm:TM):TM:=fun σ H Q=>wi σ H λJ H1=>tLp g tt tm J σ H1 Q
theorem Xiw{Y:Cx}{e tg iter:Expr}{ifs:List Expr}{d:Nat}{D:Addr}{wi:TI}{g:TG}{tt:TT}{tm:TM}{act:Sem Unit}(cm:Cm e)(hx:Y.xe=λ_ _=>False)(hc:Y.calm=true)(hcl:(clausesOf e)[d]? = some ⟨tg,iter,ifs,0⟩)
  (eq:∀it,compTurn e d it (.ref D) Y.env=C9 e d tg iter ifs act it (.ref D) Y.env) (hi:PI Y tg iter wi) (hg:PG Y tg g) (ht:PIfs Y ifs tt) (hm:PM Y act tm)
  (hs:∀x,foldedSetIterable iter Y.env x=pure x:=by intro _;rfl):PM Y (do
   let x <-eval iter Y.env
   standAt iter.pos
   let x <-foldedSetIterable iter Y.env x
   let _ <-runOwn (.compStart e d (<-holding [x] (pyIter x)) (.ref D) Y.env) Y.env) (Xce wi g tt tm):=by
 intro pins s σ H Q I h;refine O8 (thn (hi pins s σ H _ I h) λv s1 h1=>O8 (wpAny_standAt (O8 (wpAny_of_eq (hs v) (O8 (wpAny_holding (thn h1 λitv s2 h2=>?_)))))));obtain⟨it,fp,tn,J,H2,ei,I2,T,st2,f2,lp⟩:=h2;subst ei;refine O8 (wpAny_runOwn ?_);have go:∀s3,s3=s2->codeAny (model Y.prog Y.w) Y.A (.compLoop e d (.ref it) (.ref D) Y.env) (λr s'=>match r with | .ok _=>∃σ' H',Inv Y pins σ' H' s'/\Q σ' H' | .error e=>False) s3:=by
  rintro s3 rfl;exact Xcb cm hx hc (eq _) hg ht hm I2 T st2 f2 lp fun σ' H' s' I' q=>⟨σ',H',I',q⟩
 have st:=Xcc (s:=s2) (R:=λr s'=>match r with | .ok _=>∃σ' H',Inv Y pins σ' H' s'/\Q σ' H' | .error e=>False) cm hcl rfl (go s2 rfl) (T.self Y.A 0 s2 _ _ st2 (go s2 rfl));refine codeAny_mono st λr s' hr=>?_;cases r with
 | ok f=>exact O9 hr
 | error e=>exact hr.elim
def Xcf (cap:List (Option Nat)) (o0:Addr->HO) (g:TG) (tt:TT) (tm:Addr->TM) (J:It) (σ:St) (H1:Hp) (F:Addr->Hp->Prop):Prop:=
 ∀D,H1 D=none->tLp g tt (tm D) J (Bk cap σ) (upd H1 D (o0 D)) λ_ H2=>F D H2
def Xcg (cap:List (Option Nat)) (o0:HO) (g:TG) (tt:TT) (tm:Addr->TM) (J:It) (σ:St) (H1:Hp) (F:Addr->Hp->Prop):Prop:=
 ∀D,H1 D=none->tLp g tt (tm D) J (Bk cap σ) (upd H1 D o0) λ_ H2=>F D H2
section
variable {X:Cx}{N:List Str}{cap:List (Option Nat)}{scope:Scope}{e tg iter:Expr}{ifs:List Expr}{g:TG}{tt:TT}{tm:Addr->TM}{E:Value->Shared->Prop}{newAcc:Sem Value}{ob:Obj}{o0:HO}{o1:Addr->HO}{act:Addr->Env->Sem Unit}
theorem Xch(C:CompScope X N cap scope)(hcalm:X.calm=true)(cm:Cm e)(hcl:(clausesOf e)[0]? = some ⟨tg,iter,ifs,0⟩)
  (hnew:∀(s:Shared) (Q:Value->Shared->Prop) (E':Value->Shared->Prop),Q (.ref s.heap.objs.size) {s with heap:=s.heap.push ob}->wpAny (model X.prog X.w) X.A newAcc Q E' s)
  (hlay:∀pins σ H s,Inv X pins σ H s->Inv X pins σ (upd H s.heap.objs.size (o1 s.heap.objs.size)) {s with heap:=s.heap.push ob})
  (heq:∀it D env,compTurn e 0 it (.ref D) env=C9 e 0 tg iter ifs (act D env) it (.ref D) env)
  (hg:∀s0 H0 ex,PG (X.comp N scope s0 H0 ex) tg g) (ht:∀s0 H0 ex,PIfs (X.comp N scope s0 H0 ex) ifs tt) (hm:∀D s0 H0 ex,PM (X.comp N scope s0 H0 ex) (act D (X.comp N scope s0 H0 ex).env) (tm D))
  {pins:List (Addr×Obj)} {σ:St} {H:Hp} {s:Shared} {J:It} {fp:List Addr} {it:Addr} {tn:Nat->Heap->Prop} {F:Addr->Hp->Prop} {RR:Value->Addr->Result->Shared->Prop}
  (I:Inv X pins σ H s) (T:Turn X.prog X.w X.K tg J fp it tn) (h0:tn 0 s.heap) (hf:∀b∈fp,FpOk X pins H b) (hb:Xcf cap o1 g tt tm J σ H F)
  (fin:∀D L H' s' m,Inv X pins σ H' s'->FpOk X pins H' L->s'.heap.Ns L m->F D H'->RR (.ref D) L (.ok .next) s'):
  wpAny (model X.prog X.w) X.A newAcc (λacc s₃=>wpAny (model X.prog X.w) X.A (newFunctionEnv scope X.env.globals (Bw X.env scope.names []) [] X.env.qual none .none (some X.env)) (λcenv s₄=>
   codeAny (model X.prog X.w) X.A (.compStart e 0 (.ref it) acc {cenv with scope:=relabel scope X.env}) (RR acc cenv.locals) s₄) E s₃) E s:=by
 have hDn:H s.heap.objs.size=none:=I.hok.fresh (K9 _);have lp:=hb s.heap.objs.size hDn;have flt:∀b∈fp,b<s.heap.objs.size:=λb hb=>by
  obtain⟨o,e,_⟩:=T.obj _ _ h0 b hb;exact Ph e
 refine hnew s _ _ (Xhd ?_);have I3:Inv X pins σ (upd H s.heap.objs.size (o1 s.heap.objs.size)) {s with heap:=s.heap.push ob}:=hlay pins σ H s I;generalize e3:({s with heap:=s.heap.push ob}:Shared)=s3 at I3;have es3:s3.heap=s.heap.push ob:=by rw[<-e3]
 have hsz:s3.heap.objs.size=s.heap.objs.size+1:=by rw[es3,Heap.size_push]
 have hf3:∀b∈fp,FpOk X pins (upd H s.heap.objs.size (o1 s.heap.objs.size)) b:=λb hb=>by
  obtain⟨f0,f⟩:=hf b hb;exact⟨by rw[Ad (Lg (flt b hb))];exact f0,f⟩
 have flt3:∀b∈fp,b<s3.heap.objs.size:=λb hb=>by rw[hsz];exact M3 (flt b hb)
 have hk:∀b o,s3.heap.get? b=some o->(pushCells (s3.heap.push {cls:=.type "dict",data:=.dict #[]}) scope.names).get? b=some o:=λb o e=>pushCells_keeps _ _ b o (Pi _ e);have IY:=Xhe (tk:=s3.toks) C I3 hf3 flt3;generalize eY:X.comp N scope s3 (upd H s.heap.objs.size (o1 s.heap.objs.size)) fp=Y at IY;have hz3:(s3.heap.push {cls:=.type "dict",data:=.dict #[]}).objs.size=s3.heap.objs.size+1:=Heap.size_push ..;have hst1:tn 0 (pushCells (s3.heap.push {cls:=.type "dict",data:=.dict #[]}) scope.names):=T.keep _ _ _ h0 λb hb o e=>hk b o (by rw[es3];exact Pi _ e);have fY:∀{H':Hp},(∀b∈fp,H' b=none)->∀b∈fp,FpOk Y [] H' b:=λ{H'} hn b hb=>by
  subst eY;obtain⟨_,f1,f2,_,f4,_⟩:=hf3 b hb;refine⟨hn b hb,Lg (flt3 b hb),λz=>?_,.inl hb,λx c h=>?_,λp hp=>absurd (show p∈([]:List (Addr×Obj)) from hp) (by simp)⟩
  ·rcases Lk.mp (I3.stkSub b z) with e | e
   ·exact f1 e
   ·exact f2 e
  ·rcases Xbk (s:=s3) C I3.ok hz3 h with ⟨a,_⟩ | ⟨_,a⟩
   ·exact λz=>Mb _ (Np a (by rw[z];exact flt3 b hb))
   ·exact f4 x c a
 have loop:∀s4:Shared,s4 = {s3 with heap:=pushCells (s3.heap.push {cls:=.type "dict",data:=.dict #[]}) scope.names} ->
   codeAny (model X.prog X.w) X.A (.compLoop e 0 (.ref it) (.ref s.heap.objs.size) (compEnvC scope (Fi X scope s3) s3.heap.objs.size X.env))
    (RR (.ref s.heap.objs.size) s3.heap.objs.size) s4:=by
  rintro s4 rfl;have pP:Y.prog=X.prog:=by subst eY;rfl
  have pW:Y.w=X.w:=by subst eY;rfl
  have pK:Y.K=X.K:=by subst eY;rfl
  have pC:Y.calm=true:=by subst eY;exact hcalm
  have pA:Y.A=X.A:=by subst eY;rfl
  have pE:Y.env=compEnvC scope (Fi X scope s3) s3.heap.objs.size X.env:=by subst eY;rfl
  have pX:Y.xe=λ_ _=>False:=by subst eY;rfl
  have T':Turn Y.prog Y.w Y.K tg J fp it tn:=by rw[pP,pW,pK];exact T
  have go:=Xcb (Y:=Y) (acc:=.ref s.heap.objs.size) (pins:=[]) (R:=RR (.ref s.heap.objs.size) s3.heap.objs.size) cm pX pC (heq _ _ _) (by subst eY;exact hg _ _ _) (by subst eY;exact ht _ _ _) (show PM Y (act s.heap.objs.size Y.env) (tm s.heap.objs.size) by subst eY;exact hm _ _ _ _)
   IY T' hst1 (fY λb hb=>(hf3 b hb).1) lp ?_
  ·rw[pP,pW,pA,pE] at go;exact go
  ·intro σ' H2 s1 I1 q;have IX:Inv X pins σ H2 s1:=by
    subst eY;refine I3.call' (ch:=fp) I1.os I1.base I1.hok I1.bare λb hb=>?_;obtain⟨_,f1,_,f3,f4,f5⟩:=hf3 b hb;exact⟨f3,f1,f4,f5⟩
   have hL:H2 s3.heap.objs.size=none:=by
    have z:=I1.free;rw[pE] at z;exact z
   obtain⟨m,hm,_⟩:=I1.loc;rw[pE] at hm;exact fin s.heap.objs.size s3.heap.objs.size H2 s1 m IX (I3.fpOk (K9 _) hL) hm q
 have lp:=loop _ rfl;have T1:=T.self;subst e3;exact Xcc cm hcl rfl lp (T1 X.A 0 _ _ _ hst1 lp)
structure AccA (X:Cx) (newAcc:Sem Value) (ob:Obj) (o1:Addr->HO):Prop where
 new:∀(s:Shared) (Q:Value->Shared->Prop) (E':Value->Shared->Prop),Q (.ref s.heap.objs.size) {s with heap:=s.heap.push ob}->wpAny (model X.prog X.w) X.A newAcc Q E' s
 lay:∀pins σ H s,Inv X pins σ H s->Inv X pins σ (upd H s.heap.objs.size (o1 s.heap.objs.size)) {s with heap:=s.heap.push ob}
structure Acc (X:Cx) (newAcc:Sem Value) (ob:Obj) (o0:HO):Prop where
 new:∀(s:Shared) (Q:Value->Shared->Prop) (E':Value->Shared->Prop),Q (.ref s.heap.objs.size) {s with heap:=s.heap.push ob}->wpAny (model X.prog X.w) X.A newAcc Q E' s
 lay:∀pins σ H s,Inv X pins σ H s->Inv X pins σ (upd H s.heap.objs.size o0) {s with heap:=s.heap.push ob}
theorem Gz:Acc X (newList []) {cls:=.type "list",data:=.seq ([]:List Value).toArray} (.lst []):=⟨λs Q E' h=>wpAny_newObj_type h,λpins σ H s I=>I.lnew (t':=s.toks) .nil (L6 _)⟩
theorem Xix:Acc X newDict {cls:=.type "dict",data:=.dict #[]} (.dK []):=⟨λs Q E' h=>wpAny_newObj_type h,λpins σ H s I=>I.laid (a:=s.heap.objs.size) (o:=.dK []) (t':=s.toks) (λ_ _ q=>Pi _ q) (K9 _) (Xbc s.heap I.big)⟩
def Xiy (cap:List (Option Nat)) (o0:Addr->HO) (wi:TI) (g:TG) (tt:TT) (tm:Addr->TM):TE:=fun σ H Q=>wi σ H λJ H1=>Xcf cap o0 g tt tm J σ H1 λD H2=>Q (.ref D) H2
theorem Xiz{wi:TI}{pos:Pos}{gens:List Comprehension}(ac:AccA X newAcc ob o1)(he:eval e X.env=comprehension e scope X.env pos newAcc false (eval iter X.env))(hcls:clausesOf e=⟨tg,iter,ifs,0⟩::gens)
  (C:CompScope X N cap scope) (hcalm:X.calm=true) (cm:Cm e) (hi:PI X tg iter wi)
  (heq:∀it D env,compTurn e 0 it (.ref D) env=C9 e 0 tg iter ifs (act D env) it (.ref D) env)
  (hg:∀s0 H0 ex,PG (X.comp N scope s0 H0 ex) tg g) (ht:∀s0 H0 ex,PIfs (X.comp N scope s0 H0 ex) ifs tt) (hm:∀D s0 H0 ex,PM (X.comp N scope s0 H0 ex) (act D (X.comp N scope s0 H0 ex).env) (tm D))
  (hs:∀x,foldedSetIterable iter X.env x=pure x):PE X e (Xiy cap o1 wi g tt tm):=by
 intro pins s σ H Q I h;rw[he];refine wpAny_comprehension_free (use:=none) hcls hs (Xbg (Iz C I.ok)) C.kind (λx hx hl=>by rw[C.uniq x hx,hl]) (thn (hi pins s σ H _ I h) λv s1 h1=>thn h1 λitv s2 h2=>?_);obtain⟨it,fp,tn,J,H2,ei,I2,T,st2,f2,R⟩:=h2;subst ei;refine Xch (RR:=λacc L=>compPost (model X.prog X.w) X.A X.xe none (EP X pins σ Q) acc L) C hcalm cm (by rw[hcls];rfl) ac.new ac.lay heq hg ht hm I2 T st2 f2 R ?_;intro D L H' s' m I' fL hm q;refine⟨m,hm,λh' hs'=>?_⟩;obtain⟨f0,f1,_,f3,f4,f5⟩:=fL;exact⟨.ref D,H',I'.turned (t':=s'.toks) (λb o hb e=>(hs'.2 b hb).trans e) f0 f1 f3 f4 f5,rfl,q⟩
def Jl (cap:List (Option Nat)) (o0:HO) (wi:TI) (g:TG) (tt:TT) (tm:Addr->TM):TE:=fun σ H Q=>wi σ H λJ H1=>Xcg cap o0 g tt tm J σ H1 λD H2=>Q (.ref D) H2
theorem Jm{wi:TI}{pos:Pos}{gens:List Comprehension}(ac:Acc X newAcc ob o0)(he:eval e X.env=comprehension e scope X.env pos newAcc false (eval iter X.env))(hcls:clausesOf e=⟨tg,iter,ifs,0⟩::gens)
  (C:CompScope X N cap scope) (hcalm:X.calm=true) (cm:Cm e) (hi:PI X tg iter wi)
  (heq:∀it D env,compTurn e 0 it (.ref D) env=C9 e 0 tg iter ifs (act D env) it (.ref D) env)
  (hg:∀s0 H0 ex,PG (X.comp N scope s0 H0 ex) tg g) (ht:∀s0 H0 ex,PIfs (X.comp N scope s0 H0 ex) ifs tt) (hm:∀D s0 H0 ex,PM (X.comp N scope s0 H0 ex) (act D (X.comp N scope s0 H0 ex).env) (tm D))
  (hs:∀x,foldedSetIterable iter X.env x=pure x):PE X e (Jl cap o0 wi g tt tm):=
 Xiz (o1:=λ_=>o0) ⟨ac.new,ac.lay⟩ he hcls C hcalm cm hi heq hg ht hm hs
def Xci (i:Nat) (cap:List (Option Nat)) (o0:HO) (wi:TI) (g:TG) (tt:TT) (tm:Addr->TM):TS:=λD σ H=>wi σ H λJ H1=>Xcg cap o0 g tt tm J σ H1 λl H2=>D.nx (σ.set i (some (.ref l))) H2
theorem Xcj{wi:TI}{i:Nat}{y:Str}{py spos cpos:Pos}{gens:List Comprehension}(ac:Acc X newAcc ob o0)(he:∀use,evalThenUse e X.env use=(do let _ <-comprehension e scope X.env cpos newAcc false (eval iter X.env) (some use)))(hcls:clausesOf e=⟨tg,iter,ifs,0⟩::gens)
  (C:CompScope X N cap scope) (hcalm:X.calm=true) (cm:Cm e) (hN:X.N.Nodup) (hiN:X.N[i]? = some y) (hy:X.env.scope.names.lookup y=some .local) (hi:PI X tg iter wi)
  (heq:∀it D env,compTurn e 0 it (.ref D) env=C9 e 0 tg iter ifs (act D env) it (.ref D) env)
  (hg:∀s0 H0 ex,PG (X.comp N scope s0 H0 ex) tg g) (ht:∀s0 H0 ex,PIfs (X.comp N scope s0 H0 ex) ifs tt) (hm:∀D s0 H0 ex,PM (X.comp N scope s0 H0 ex) (act D (X.comp N scope s0 H0 ex).env) (tm D))
  (hsw:swapsWith e (some (.Name y py)) spos.line X.env=pure true) (hs:∀x,foldedSetIterable iter X.env x=pure x):PS X (.Assign [.Name y py] e spos) (Xci i cap o0 wi g tt tm):=by
 intro pins s σ H D I h;rw[exec_Assign_Name_used _ _ _ _ hsw];refine O8 (wpAny_standAt (O8 ?_));rw[he];refine O8 (thn (wpAny_comprehension_free (use:=some (assign (.Name y py) X.env)) (Q:=λ_ s'=>SP X pins D .next s') hcls hs (Xbg (Iz C I.ok)) C.kind (λx hx hl=>by rw[C.uniq x hx,hl])
  (thn (hi pins s σ H _ I h) λv s1 h1=>thn h1 λitv s2 h2=>?_)) (λ_ s' hq=>O9 (O9 hq)))
 obtain⟨it,fp,tn,J,H2,ei,I2,T,st2,f2,R⟩:=h2;subst ei;refine Xch (o1:=λ_=>o0) (RR:=λacc L=>compPost (model X.prog X.w) X.A X.xe (some (assign (.Name y py) X.env)) (λ_ s'=>SP X pins D .next s') acc L) C hcalm cm (by rw[hcls];rfl) ac.new ac.lay heq hg ht hm I2 T st2 f2 R ?_;intro l L H' s' m I' fL hm q;obtain⟨f0,f1,_,f3,f4,f5⟩:=fL;show wpAny _ X.A (assign (.Name y py) X.env (.ref l)) _ _ s';refine wpAny_assign_Name (Xac I' hN hiN (.inl hy) (show Ag (.ref l) (.ref l) from rfl) (λs3 I3 ⟨a,sb,ha⟩=>?_) (.inr hy));have hLa:L≠a:=by
  rcases ha with rfl | ha
  ·exact f1
  ·exact λz=>f4 y a ha z.symm
 refine⟨m,hm.sameBut sb hLa,λh' hs'=>?_⟩;exact⟨_,H',I3.turned (t':=s3.toks) (λb o hb e=>(hs'.2 b hb).trans e) f0 f1 f3 f4 f5,q⟩
end
def act2 (elt tg iter tg2 iter2:Expr) (ifs ifs2:List Expr) (scope:Scope) (pos:Pos) (D:Addr) (env:Env):Sem Unit:=do
      let x <-eval iter2 env
      standAt iter2.pos
      let x <-foldedSetIterable iter2 env x
      let _ <-runOwn (.compStart (.ListComp elt [⟨tg,iter,ifs,0⟩,⟨tg2,iter2,ifs2,0⟩] scope pos) 1 (<-holding [x] (pyIter x)) (.ref D) env) env
theorem Xi0(elt tg iter tg2 iter2:Expr)(ifs ifs2:List Expr)(scope:Scope)(pos:Pos)(it:Value)(D:Addr)(env:Env):
  compTurn (.ListComp elt [⟨tg,iter,ifs,0⟩,⟨tg2,iter2,ifs2,0⟩] scope pos) 0 it (.ref D) env=C9 (.ListComp elt [⟨tg,iter,ifs,0⟩,⟨tg2,iter2,ifs2,0⟩] scope pos) 0 tg iter ifs (act2 elt tg iter tg2 iter2 ifs ifs2 scope pos D env) it (.ref D) env:=by
 unfold compTurn C9 act2;dsimp only;simp only[List.getElem?_cons_zero,List.getElem?_cons_succ,bind_assoc,pure_bind];simp;rfl
section
variable {X:Cx}{N:List Str}{cap:List (Option Nat)}{scope:Scope}{tg iter tg2 iter2 elt kx vx:Expr}{ifs ifs2:List Expr}{g g2:TG}{tt tt2:TT}{te tk tv:TE}{wi wi2:TI}{pos:Pos}
theorem Ez(C:CompScope X N cap scope)(hcalm:X.calm=true)(hi:PI X tg iter wi)
  (hg:∀s0 H0 ex,PG (X.comp N scope s0 H0 ex) tg g) (ht:∀s0 H0 ex,PIfs (X.comp N scope s0 H0 ex) ifs tt) (he:∀s0 H0 ex,PE (X.comp N scope s0 H0 ex) elt te)
  (hs:∀x,foldedSetIterable iter X.env x=pure x:=by intro _;rfl):PE X (.ListComp elt [⟨tg,iter,ifs,0⟩] scope pos) (Xhf cap wi g tt te):=
 Jm (act := fun D env => do let _ <- call (.builtin "list.append") [.ref D, <- eval elt env]) Gz rfl rfl C hcalm Fu hi (fun it D env => rfl) hg ht (fun D s0 H0 ex => Gy (he s0 H0 ex)) hs
theorem G0{i:Nat}{y:Str}{py spos:Pos}(C:CompScope X N cap scope)(hcalm:X.calm=true)(hN:X.N.Nodup)(hiN:X.N[i]? = some y)(hy:X.env.scope.names.lookup y=some .local)(hi:PI X tg iter wi)
  (hg:∀s0 H0 ex,PG (X.comp N scope s0 H0 ex) tg g) (ht:∀s0 H0 ex,PIfs (X.comp N scope s0 H0 ex) ifs tt) (he:∀s0 H0 ex,PE (X.comp N scope s0 H0 ex) elt te)
  (hsw:swapsWith (.ListComp elt [⟨tg,iter,ifs,0⟩] scope pos) (some (.Name y py)) spos.line X.env=pure true:=by rfl)
  (hs:∀x,foldedSetIterable iter X.env x=pure x:=by intro _;rfl):PS X (.Assign [.Name y py] (.ListComp elt [⟨tg,iter,ifs,0⟩] scope pos) spos) (Xhg i cap wi g tt te):=
 Xcj (act := fun D env => do let _ <- call (.builtin "list.append") [.ref D, <- eval elt env]) Gz (fun use => rfl) rfl C hcalm Fu hN hiN hy hi (fun it D env => rfl) hg ht (fun D s0 H0 ex => Gy (he s0 H0 ex)) hsw hs
theorem Xck(C:CompScope X N cap scope)(hcalm:X.calm=true)(hi:PI X tg iter wi)
  (hg:∀s0 H0 ex,PG (X.comp N scope s0 H0 ex) tg g) (ht:∀s0 H0 ex,PIfs (X.comp N scope s0 H0 ex) ifs tt) (hk:∀s0 H0 ex,PE (X.comp N scope s0 H0 ex) kx tk) (hv:∀s0 H0 ex,PE (X.comp N scope s0 H0 ex) vx tv)
  (hs:∀x,foldedSetIterable iter X.env x=pure x:=by intro _;rfl):PE X (.DictComp kx vx [⟨tg,iter,ifs,0⟩] scope pos) (Jl cap (.dK []) wi g tt (Xcd tk tv)):=
 Jm Xix rfl rfl C hcalm Xiu hi (λit D env=>compTurn_dict kx vx tg iter ifs scope pos it D env) hg ht (λD s0 H0 ex=>Xiv (hk s0 H0 ex) (hv s0 H0 ex)) hs
theorem Xcl(C:CompScope X N cap scope)(hcalm:X.calm=true)(hi:PI X tg iter wi)
  (hg:∀s0 H0 ex,PG (X.comp N scope s0 H0 ex) tg g) (ht:∀s0 H0 ex,PIfs (X.comp N scope s0 H0 ex) ifs tt)
  (hi2:∀s0 H0 ex,PI (X.comp N scope s0 H0 ex) tg2 iter2 wi2) (hg2:∀s0 H0 ex,PG (X.comp N scope s0 H0 ex) tg2 g2) (ht2:∀s0 H0 ex,PIfs (X.comp N scope s0 H0 ex) ifs2 tt2) (he:∀s0 H0 ex,PE (X.comp N scope s0 H0 ex) elt te)
  (hs:∀x,foldedSetIterable iter X.env x=pure x:=by intro _;rfl) (hs2:∀s0 H0 ex x,foldedSetIterable iter2 (X.comp N scope s0 H0 ex).env x=pure x:=by intro _ _ _ _;rfl):
  PE X (.ListComp elt [⟨tg,iter,ifs,0⟩,⟨tg2,iter2,ifs2,0⟩] scope pos) (Jl cap (.lst []) wi g tt λD=>Xce wi2 g2 tt2 (Fv te D)):=
 Jm (act:=λD env=>act2 elt tg iter tg2 iter2 ifs ifs2 scope pos D env) Gz rfl rfl C hcalm Fu hi (λit D env=>Xi0 ..) hg ht (λD s0 H0 ex=>Xiw (Y:=X.comp N scope s0 H0 ex) (e:=.ListComp elt [⟨tg,iter,ifs,0⟩,⟨tg2,iter2,ifs2,0⟩] scope pos) (d:=1) Fu rfl hcalm rfl (λit=>rfl) (hi2 s0 H0 ex) (hg2 s0 H0 ex) (ht2 s0 H0 ex) (Gy (he s0 H0 ex)) (hs2 s0 H0 ex)) hs
end
mutual
def DAt (H:Hp):PyData->V->Prop
 | .none,v=>v = .non
 | .bool b,v=>v = .bl b
 | .int i,v=>v = .int i
 | .str x,v=>v = .str x
 | .list ds,v=>∃p xs,v = .ref p/\H p=some (.lst xs)/\DAll H ds xs
 | .tuple ds,v=>∃p xs,v = .ref p/\H p=some (.tup xs)/\DAll H ds xs
 | .dict _,_=>False
def DAll (H:Hp):List PyData->List V->Prop
 | [],vs=>vs=[]
 | d::ds,vs=>∃v r,vs=v::r/\DAt H d v/\DAll H ds r
end
mutual
theorem DAt.same{H H':Hp}(s:Same H H'):∀(d:PyData) (v:V),DAt H d v->DAt H' d v
 | .none,v,h=>by unfold DAt at h ⊢; exact h
 | .bool b,v,h=>by unfold DAt at h ⊢; exact h
 | .int i,v,h=>by unfold DAt at h ⊢; exact h
 | .str x,v,h=>by unfold DAt at h ⊢; exact h
 | .list ds,v,h=>by
  unfold DAt at h ⊢;obtain⟨p,xs,h1,h2,h3⟩:=h;exact⟨p,xs,h1,s _ _ h2,DAll.same s ds xs h3⟩
 | .tuple ds,v,h=>by
  unfold DAt at h ⊢;obtain⟨p,xs,h1,h2,h3⟩:=h;exact⟨p,xs,h1,s _ _ h2,DAll.same s ds xs h3⟩
 | .dict _,v,h=>by unfold DAt at h;exact h.elim
theorem DAll.same{H H':Hp}(s:Same H H'):∀(ds:List PyData) (vs:List V),DAll H ds vs->DAll H' ds vs
 | [],vs,h=>by unfold DAll at h ⊢; exact h
 | d::ds,vs,h=>by
  unfold DAll at h ⊢;obtain⟨v,r,h1,h2,h3⟩:=h;exact⟨v,r,h1,DAt.same s d v h2,DAll.same s ds r h3⟩
end
theorem Cy{H:Hp}:DAll H [] []:=by unfold DAll;rfl
theorem Dq{H:Hp}{d:PyData}{ds:List PyData}{v:V}{vs:List V}(h:DAt H d v)(hs:DAll H ds vs):DAll H (d::ds) (v::vs):=by unfold DAll;exact⟨v,vs,rfl,h,hs⟩
theorem Xcm{H:Hp}{d:PyData}{v:V}:∀{ds:List PyData} {vs:List V},DAll H ds vs->DAt H d v->DAll H (ds++[d]) (vs++[v])
 | [],vs,h,hd=>by
  unfold DAll at h;subst h;exact Dq hd Cy
 | e::ds,vs,h,hd=>by
  unfold DAll at h;obtain⟨u,r,rfl,h2,h3⟩:=h;exact Dq h2 (Xcm h3 hd)
theorem Jn{H:Hp}:∀{ds:List PyData} {vs:List V},DAll H ds vs->vs.length=ds.length
 | [],vs,h=>by unfold DAll at h;subst h;rfl
 | e::ds,vs,h=>by
  unfold DAll at h;obtain⟨u,r,rfl,h2,h3⟩:=h;rw[Lp,Lp,Jn h3]
theorem Xcn{H:Hp}:∀{ds:List PyData} {vs:List V} {i:Nat} {d:PyData},DAll H ds vs->ds[i]? = some d->∃v,vs[i]? = some v/\DAt H d v
 | [],vs,i,d,h,e=>by simp at e
 | c::ds,vs,0,d,h,e=>by
  unfold DAll at h;obtain⟨u,r,rfl,h2,h3⟩:=h;simp at e;subst e;exact⟨u,rfl,h2⟩
 | c::ds,vs,i+1,d,h,e=>by
  unfold DAll at h;obtain⟨u,r,rfl,h2,h3⟩:=h;simpa using Xcn h3 (by simpa using e)
theorem Xco{H:Hp}(row:List Str):DAll H (row.map PyData.str) (row.map V.str):=by
 induction row with
 | nil=>exact Cy
 | cons x r ih=>exact Dq (by unfold DAt;rfl) ih
theorem Xi1{H:Hp}(row:List Int):DAll H (row.map PyData.int) (row.map V.int):=by
 induction row with
 | nil=>exact Cy
 | cons x r ih=>exact Dq (by unfold DAt;rfl) ih
theorem Jo{H:Hp}{ds:List PyData}{p:Addr}{xs:List V}(h:H p=some (.tup xs))(hs:DAll H ds xs):DAt H (.tuple ds) (.ref p):=by unfold DAt;exact⟨p,xs,rfl,h,hs⟩
theorem Jp{H:Hp}{ds:List PyData}{p:Addr}{xs:List V}(h:H p=some (.lst xs))(hs:DAll H ds xs):DAt H (.list ds) (.ref p):=by unfold DAt;exact⟨p,xs,rfl,h,hs⟩
theorem Xi2{H:Hp}{ds:List PyData}{v:V}(h:DAt H (.tuple ds) v):∃p xs,v = .ref p/\H p=some (.tup xs)/\DAll H ds xs:=by unfold DAt at h;exact h
section
variable {X:Cx}{pins:List (Addr×Obj)}{σ:St}{H:Hp}{s:Shared}
mutual
theorem Da(I:Inv X pins σ H s):∀(d:PyData) (v:V) (u:Value),DAt H d v->Ag v u->∃as,Reads s.heap u d as
 | .none,v,u,h,r=>by unfold DAt at h;subst h;cases r;exact⟨_,.none⟩
 | .bool b,v,u,h,r=>by unfold DAt at h;subst h;cases r;exact⟨_,.bool b⟩
 | .int i,v,u,h,r=>by unfold DAt at h;subst h;obtain⟨t,rfl⟩:=r;exact⟨_,.int i t⟩
 | .str x,v,u,h,r=>by unfold DAt at h;subst h;obtain⟨t,rfl⟩:=r;exact⟨_,.str x t⟩
 | .list ds,v,u,h,r=>by
  unfold DAt at h;obtain⟨p,xs,rfl,hp,hs⟩:=h;cases r;obtain⟨its,rv,pl,hz⟩:=I.list (SqL.of (K:=X.K) hp);obtain⟨as,ra⟩:=Jq I ds xs its hs rv;obtain⟨o,ho,hc,n,hd⟩:=pl.isList;exact⟨_,.list ho hc hd (by simpa using ra)⟩
 | .tuple ds,v,u,h,r=>by
  unfold DAt at h;obtain⟨p,xs,rfl,hp,hs⟩:=h;cases r;obtain⟨its,rv,pl,hz⟩:=I.tuple (SqT.of (K:=X.K) hp);obtain⟨as,ra⟩:=Jq I ds xs its hs rv;obtain⟨o,ho,hc,n,hd⟩:=pl;exact⟨_,.tuple ho hc hd (by simpa using ra)⟩
 | .dict _,v,u,h,r=>by unfold DAt at h;exact h.elim
theorem Jq(I:Inv X pins σ H s):∀(ds:List PyData) (vs:List V) (us:List Value),DAll H ds vs->Vals vs us->∃as,ReadsAll s.heap us ds as
 | [],vs,us,h,r=>by unfold DAll at h;subst h;cases r;exact⟨_,.nil⟩
 | d::ds,vs,us,h,r=>by
  unfold DAll at h;obtain⟨v,vr,rfl,h1,h2⟩:=h;cases r with
  | cons r1 r2=>
   obtain⟨a1,q1⟩:=Da I d v _ h1 r1;obtain⟨a2,q2⟩:=Jq I ds vr _ h2 r2;exact⟨_,.cons q1 q2⟩
end
theorem Xi3(hu:X.A.units+3<cLine):OpR X (compareOp .Eq) (λx y H Q=>∃d d',DAt H d x/\DAt H d' y/\d.canLay0=true/\d'.canLay0=true/\min d.depth d'.depth<=3/\Q (.bl (PyData.eqv d d')) H):=by
 intro pins s σ H x y v u Q I rx ry h;obtain⟨d,d',h1,h2,c1,c2,hd,q⟩:=h;obtain⟨as,ra⟩:=Da I d x v h1 rx;obtain⟨bs,rb⟩:=Da I d' y u h2 ry;exact SeqAt.compareEq_reads ra rb c1 c2 (by omega) ⟨.bl _,H,I,rfl,q⟩
theorem Jr(hu:X.A.units+3<cLine):OpR X (compareOp .NotEq) (λx y H Q=>∃d d',DAt H d x/\DAt H d' y/\d.canLay0=true/\d'.canLay0=true/\min d.depth d'.depth<=3/\Q (.bl (!PyData.eqv d d')) H):=by
 intro pins s σ H x y v u Q I rx ry h;obtain⟨d,d',h1,h2,c1,c2,hd,q⟩:=h;obtain⟨as,ra⟩:=Da I d x v h1 rx;obtain⟨bs,rb⟩:=Da I d' y u h2 ry;exact SeqAt.compareNe_reads ra rb c1 c2 (by omega) ⟨.bl _,H,I,rfl,q⟩
theorem Xi4(hu:X.A.units+4<cLine):OpR X (compareOp .In) (λx y H Q=>∃d ds,DAt H d x/\DAt H (.list ds) y/\d.canLay0=true/\PyData.canLayAll0 ds=true/\d.depth<=3/\Q (.bl (ds.any λe=>PyData.eqv e d)) H):=by
 intro pins s σ H x y v u Q I rx ry h;obtain⟨d,ds,h1,h2,c1,c2,hd,q⟩:=h;obtain⟨as,ra⟩:=Da I d x v h1 rx;obtain⟨bs,rb⟩:=Da I (.list ds) y u h2 ry;exact SeqAt.in_list_reads rb ra c2 c1 (by omega) ⟨.bl _,H,I,rfl,q⟩
end
mutual
def Bh:PyData->Bool
 | .none | .int _=>true
 | .str x=>PyData.strOk x
 | .list xs | .tuple xs=>Ch xs
 | .bool _ | .dict _=>false
def Ch:List PyData->Bool
 | []=>true
 | x::xs=>Bh x&&Ch xs
end
mutual
theorem Db:∀d:PyData,Bh d=true->d.canLay0=true
 | .none,_=>rfl
 | .int _,_=>rfl
 | .str x,h=>h
 | .list xs,h=>Fw xs h
 | .tuple xs,h=>Fw xs h
 | .bool _,h=>nomatch h
 | .dict _,h=>nomatch h
theorem Fw:∀ds:List PyData,Ch ds=true->PyData.canLayAll0 ds=true
 | [],_=>rfl
 | d::ds,h=>by
  have h':(Bh d&&Ch ds)=true:=h;rw[Ln] at h';show (d.canLay0&&PyData.canLayAll0 ds)=true;rw[Db d h'.1,Fw ds h'.2];rfl
end
mutual
theorem Fx:∀(d d':PyData),Bh d=true->Bh d'=true->(PyData.eqv d d'=true↔d=d')
 | .none,d',_,h=>by cases d'<;>simp[PyData.eqv]
 | .int i,d',_,h=>by cases d'<;>simp_all [PyData.eqv,Bh]
 | .str x,d',_,h=>by cases d'<;>simp_all [PyData.eqv,Bh]
 | .list xs,d',g,h=>by
  cases d' with
  | list ys=>
   have:=Js xs ys g h;simp only[PyData.eqv,this,PyData.list.injEq]
  | _=>simp[PyData.eqv]
 | .tuple xs,d',g,h=>by
  cases d' with
  | tuple ys=>
   have:=Js xs ys g h;simp only[PyData.eqv,this,PyData.tuple.injEq]
  | _=>simp[PyData.eqv]
 | .bool _,_,g,_=>nomatch g
 | .dict _,_,g,_=>nomatch g
theorem Js:∀(xs ys:List PyData),Ch xs=true->Ch ys=true->(PyData.eqvAll xs ys=true↔xs=ys)
 | [],[],_,_=>by simp[PyData.eqvAll]
 | [],_::_,_,_=>by simp[PyData.eqvAll]
 | _::_,[],_,_=>by simp[PyData.eqvAll]
 | x::xs,y::ys,g,h=>by
  have g':(Bh x&&Ch xs)=true:=g;have h':(Bh y&&Ch ys)=true:=h;rw[Ln] at g' h';have e1:=Fx x y g'.1 h'.1;have e2:=Js xs ys g'.2 h'.2;simp only[PyData.eqvAll,Ln,e1,e2,List.cons.injEq]
end
theorem Xcp{α : Type}[DecidableEq α](f : α->PyData)(inj:∀a b,f a=f b->a=b)(a b : α)(ha:Bh (f a)=true)(hb:Bh (f b)=true):PyData.eqv (f a) (f b)=decide (a=b):=by
 rw[Mx,Fx _ _ ha hb,decide_eq_true_eq];exact⟨inj a b,λe=>by rw[e]⟩
theorem plainAll_map{α : Type}(f : α->PyData):∀(xs:List α),(∀x∈xs,Bh (f x)=true)->Ch (xs.map f)=true
 | [],_=>rfl
 | x::xs,h=>by
  show (Bh (f x)&&Ch (xs.map f))=true;rw[h x Ld,plainAll_map f xs λy hy=>h y (Lb _ hy)];rfl
section
variable {X:Cx}{tg:Expr}
def Xi5 (tl:TE):TI:=fun σ H R=>tl σ H λx H1=>∃d kvs,x = .ref d/\((H1 d=some (.dK kvs)/\∀o,R (Itd d o kvs) (upd H1 d (.frz o (.dK kvs)))) \/ ∃o,H1 d=some (.frz o (.dK kvs))/\R (Itd d o kvs) H1)
theorem E1{l:Expr}{tl:TE}(hl:PE X l tl):PI X tg l (Xi5 tl):=by
 intro pins s σ H R I h;refine thn (hl pins s σ H _ I h) λv s1 ⟨x,H1,I1,r1,q1⟩=>?_;obtain⟨d,kvs,e,q⟩:=q1;subst e;cases r1;rcases q with ⟨hH,q⟩ | ⟨o,hH,q⟩
 ·obtain⟨hz,hm,vs,rv,o,es,ep,ho,hex,hd,r⟩:=I1.hok d _ hH;have hlen:kvs.length=vs.length:=Paired.length rv;refine wpAny_pyIter_dict (knd:=A0 X.prog X.w) hm ⟨o,es,ho,hex,hd,r⟩ ?_;have I2:=I1.freeze hH ho;refine⟨s1.heap.objs.size,[s1.heap.objs.size],_,_,_,rfl,I2.kept (t':=s1.toks) λb o e=>Pi _ e,Jb d _ o es ep hd kvs (Lg (Ph ho)),⟨_,Heap.get?_push_size _ rfl,rfl,by rw[hlen];rfl⟩,λb hb=>?_,q o⟩;have e:b=s1.heap.objs.size:=by simpa using hb
  subst e;exact I2.fpOk (K9 _) (I2.hok.fresh (K9 _))
 ·obtain⟨ho',hok⟩:=(show A5 X.prog X.w H1 s1.heap d (.frz o (.dK kvs)) from I1.hok d _ hH);obtain⟨hz,hm,vs,rv,o',es,ep,ho,hex,hd,r⟩:=hok;have eo:o'=o:=by rw[ho'] at ho;exact(Ly ho).symm
  subst eo;have hlen:kvs.length=vs.length:=Paired.length rv;refine wpAny_pyIter_dict (knd:=A0 X.prog X.w) hm ⟨o',es,ho,hex,hd,r⟩ ?_;refine⟨s1.heap.objs.size,[s1.heap.objs.size],_,_,_,rfl,I1.kept (t':=s1.toks) λb o e=>Pi _ e,Jb d _ o' es ep hd kvs (Lg (Ph ho)),⟨_,Heap.get?_push_size _ rfl,rfl,by rw[hlen];rfl⟩,λb hb=>?_,q⟩;have e:b=s1.heap.objs.size:=by simpa using hb
  subst e;exact I1.fpOk (K9 _) (I1.hok.fresh (K9 _))
end
def hid (D:Addr) (H:Hp):Hp:=λb=>if b=D then none else H b
theorem G1(D:Addr)(H:Hp):Same (hid D H) H:=λb o e=>by
 unfold hid at e;split at e
 ·cases e
 ·exact e
theorem Xi6(D:Addr)(H:Hp)(o:HO):hid D (upd H D o)=hid D H:=by
 funext b;unfold hid;split
 ·rfl
 ·rename_i h;rw[Ad h]
theorem Xcq{D:Addr}{H H':Hp}(s:Same H H'):Same (hid D H) (hid D H'):=λb o e=>by
 unfold hid at e ⊢;split at e
 ·cases e
 ·rename_i h;rw[Pb h];exact s b o e
theorem Dr{D b:Addr}{H:Hp}{o:HO}(h:H b=some o)(n:b≠D):hid D H b=some o:=by
 unfold hid;rw[Pb n];exact h
theorem Xi7{D p:Addr}{H:Hp}{o:HO}{ds:List PyData}{xs:List V}(hD:H D=some o)(np:H p=none)(h:DAll (hid D (upd H p (.tup xs))) ds xs):DAt (hid D (upd H p (.tup xs))) (.tuple ds) (.ref p):=
 Jo (Dr Ab (Aq hD np).symm) h
section
variable {tt:TT}{te:TE}{J:It}{σ:St}{H0 H1:Hp}{D:Addr}{F:St->Hp->Prop}{j:Nat}{xs0:List V}
theorem Jt(n:Nat)(vs:Nat->V)(ok:Nat->Bool)(dat:Nat->PyData)(acc:List PyData)(hH:H0 D=none)(s0:Same H0 H1)(hxs:H1 D=some (.lst xs0))(hall:DAll (hid D H1) acc xs0)(hbd:acc.length+n<sizeLine)
  (hgo:∀i H2,i<n->Same H0 H2->J.go i H2/\∀x H3,J.yld i H2 x H3->H3=H2/\x=vs i)
  (hst:∀H2,Same H0 H2->J.stop n H2)
  (tst:∀(i:Nat) H2 Q,i<n->Same H0 H2->(∀H',Same H2 H'->Q (ok i) H')->tt (σ.set j (some (vs i))) H2 Q)
  (step:∀(i:Nat) xs H2 Q,i<n->ok i=true->Same H0 H2->H2 D=some (.lst xs)->(∀v H',Same H2 H'->DAt (hid D H') (dat i) v->Q v H')->te (σ.set j (some (vs i))) H2 Q)
  (fin:∀σ' H2 xs,(∀v, σ'.set j v = σ.set j v)->Same H0 H2->H2 D=some (.lst xs)->DAll (hid D H2) (acc++((List.range n).filter ok).map dat) xs->F σ' H2):
  tLp (Ba j) tt (Fv te D) J σ H1 F:=by
 refine⟨wN n λi σ2 H2=>(∀v, σ2.set j v = σ.set j v)/\Same H0 H2/\∃xs,H2 D=some (.lst xs)/\DAll (hid D H2) (acc++((List.range i).filter ok).map dat) xs,⟨n,by simp,L6 _,λ_=>rfl,s0,xs0,hxs,by simpa using hall⟩,?_⟩;rintro i m σ1 H2 ⟨rfl,hi,e,s2,xs,hD,hal⟩;by_cases hlt:i<n
 ·obtain⟨h1,h2⟩:=hgo i H2 hlt s2;refine .inr ⟨h1,λx H3 y=>?_⟩;obtain⟨e1,e2⟩:=h2 x H3 y;subst e1 e2;show tt (σ1.set j (some (vs i))) H3 _;rw[e];refine tst i H3 _ hlt s2 λH4 s4=>?_;have s04:=s2.trans s4;have hD4:=s4 _ _ hD;have hal4:=DAll.same (Xcq (D:=D) s4) _ _ hal;have hss:∀v,(σ.set j (some (vs i))).set j v = σ.set j v:=λv=>by rw[O6]
  have hl:xs.length<=acc.length+i:=by
   rw[Jn hal,Lj,K8];have:((List.range i).filter ok).length<=i:=L0 (Mw ..) (by rw[Ms];omega);omega
  refine Bc (λhk=>?_) (λhk=>?_)
  ·show te (σ.set j (some (vs i))) H4 _;refine step i xs H4 _ hlt hk s04 hD4 λv H5 s5 hv=>?_;refine⟨xs,s5 _ _ hD4,by omega,?_⟩;refine wskip hlt ⟨hss,λb u e'=>?_,xs++[v],Ab,?_⟩
   ·rw[Ad (Aq e' hH)];exact s5 _ _ (s04 b u e')
   ·rw[Xi6,Md,Ls,Lo,<-Nn];simp only[L7,hk,if_true,Ou,L5,Oy];exact Xcm (DAll.same (Xcq (D:=D) s5) _ _ hal4) hv
  ·refine wskip hlt ⟨hss,s04,xs,hD4,?_⟩;rw[Md,Ls];simpa [hk] using hal4
 ·have ei:i=n:=by omega
  subst ei;exact .inl ⟨hst H2 s2,fin σ1 H2 xs e s2 hD hal⟩
theorem Xi8{tm:TM}(n:Nat)(vs:Nat->V)(acc:Nat->List PyData)(hH:H0 D=none)(s0:Same H0 H1)(hxs:H1 D=some (.lst xs0))(hall:DAll (hid D H1) (acc 0) xs0)(Eσ:St->Prop)(hE:Eσ σ)
  (hgo:∀i H2,i<n->Same H0 H2->J.go i H2/\∀x H3,J.yld i H2 x H3->H3=H2/\x=vs i)
  (hst:∀H2,Same H0 H2->J.stop n H2)
  (step:∀(i:Nat) σ1 xs H2 (Q:St->Hp->Prop),i<n->Eσ σ1->Same H0 H2->H2 D=some (.lst xs)->DAll (hid D H2) (acc i) xs->(∀σ' H' xs',Eσ σ'->Same H0 H'->H' D=some (.lst xs')->DAll (hid D H') (acc (i+1)) xs'->Q σ' H')->tm (σ1.set j (some (vs i))) H2 Q)
  (fin:∀σ' H2 xs,Same H0 H2->H2 D=some (.lst xs)->DAll (hid D H2) (acc n) xs->F σ' H2):
  tLp (Ba j) C7 tm J σ H1 F:=by
 refine⟨wN n λi σ2 H2=>Eσ σ2/\Same H0 H2/\∃xs,H2 D=some (.lst xs)/\DAll (hid D H2) (acc i) xs,⟨n,by simp,L6 _,hE,s0,xs0,hxs,hall⟩,?_⟩;rintro i m σ1 H2 ⟨rfl,hi,e,s2,xs,hD,hal⟩;by_cases hlt:i<n
 ·obtain⟨h1,h2⟩:=hgo i H2 hlt s2;refine .inr ⟨h1,λx H3 y=>?_⟩;obtain⟨e1,e2⟩:=h2 x H3 y;subst e1 e2;unfold Ba C7;dsimp only;rw[Pc rfl];exact step i σ1 xs H3 _ hlt e s2 hD hal fun σ' H' xs' e' s' hD' hal'=>wskip hlt ⟨e',s',xs',hD',hal'⟩
 ·have ei:i=n:=by omega
  subst ei;exact .inl ⟨hst H2 s2,fin σ1 H2 xs s2 hD hal⟩
theorem Xi9{tm:TM}(n:Nat)(vs:Nat->V)(acc:Nat->List PyData)(G:Hp->Prop)(hH:H0 D=none)(s0:Same H0 H1)(g0:G H1)(hxs:H1 D=some (.lst xs0))(hall:DAll (hid D H1) (acc 0) xs0)(Eσ:St->Prop)(hE:Eσ σ)
  (hgo:∀i H2,i<n->Same H0 H2->J.go i H2/\∀x H3,J.yld i H2 x H3->H3=H2/\x=vs i)
  (hst:∀H2,Same H0 H2->J.stop n H2)
  (step:∀(i:Nat) σ1 xs H2 (Q:St->Hp->Prop),i<n->Eσ σ1->Same H0 H2->G H2->H2 D=some (.lst xs)->DAll (hid D H2) (acc i) xs->(∀σ' H' xs',Eσ σ'->Same H0 H'->G H'->H' D=some (.lst xs')->DAll (hid D H') (acc (i+1)) xs'->Q σ' H')->tm (σ1.set j (some (vs i))) H2 Q)
  (fin:∀σ' H2 xs,Same H0 H2->G H2->H2 D=some (.lst xs)->DAll (hid D H2) (acc n) xs->F σ' H2):
  tLp (Ba j) C7 tm J σ H1 F:=by
 refine⟨wN n λi σ2 H2=>Eσ σ2/\Same H0 H2/\G H2/\∃xs,H2 D=some (.lst xs)/\DAll (hid D H2) (acc i) xs,⟨n,by simp,L6 _,hE,s0,g0,xs0,hxs,hall⟩,?_⟩;rintro i m σ1 H2 ⟨rfl,hi,e,s2,g2,xs,hD,hal⟩;by_cases hlt:i<n
 ·obtain⟨h1,h2⟩:=hgo i H2 hlt s2;refine .inr ⟨h1,λx H3 y=>?_⟩;obtain⟨e1,e2⟩:=h2 x H3 y;subst e1 e2;unfold Ba C7;dsimp only;rw[Pc rfl];exact step i σ1 xs H3 _ hlt e s2 g2 hD hal fun σ' H' xs' e' s' g' hD' hal'=>wskip hlt ⟨e',s',g',xs',hD',hal'⟩
 ·have ei:i=n:=by omega
  subst ei;exact .inl ⟨hst H2 s2,fin σ1 H2 xs s2 g2 hD hal⟩
end
section
variable {X:Cx}{pos np hpos:Pos}{body:List Stmt}{b0:Stmt}{suite:List Stmt}{x:Str}{Cc:Addr}{tb:(Addr->St->Hp->Prop)->TS}{th:TS}
end
section
variable {X:Cx}
theorem Xja:X.calm=true->Cj X (.builtin "any") (λxs H Q=>∃(a:Addr) (bs:List Bool),xs=[.ref a]/\H a=some (.lst (bs.map V.bl))/\Q (.bl (bs.any id)) H):=by
 intro hc pins s σ H xs us Q I r h;obtain⟨a,bs,rfl,ha,q⟩:=h;obtain⟨u,rfl,ru⟩:=Ct r;cases ru;obtain⟨its,rv,p,hz⟩:=I.list (SqL.of ha);have hl:=rv.length;rw[K8] at hl;refine call_any_walk (wpAny_pyIter_list p.isList ?_);have hlt:a≠s.heap.objs.size:=by
  obtain⟨o,ho,_⟩:=p.isList;exact Lg (Ph ho)
 refine⟨s.heap.objs.size,_,_,_,_,_,λj=>bs.getD j false,rfl,Walks.list (A:=X.A.in1) (show X.A.in1.handled=none from I.ok.hd hc) s.heap.objs.size a hlt its.toArray,⟨⟨_,Heap.get?_push_size _ rfl,rfl,rfl⟩,p.isList.push _⟩,λi v s' Q' E' hP hQ=>?_,λh' tk k=>?_⟩
 ·have hv:its[i]? = some v:=by simpa using hP
  have hi:i<its.length:=(L3.mp hv).1;have g:(bs.map V.bl)[i]? = some (.bl (bs[i]'(by omega))):=by
   rw[Lx,Li (by omega)];rfl
  obtain⟨u,hu,ru⟩:=rv.get g;rw[hv] at hu;cases hu;cases ru;have e:bs.getD i false=bs[i]'(by omega):=by simp[List.getD,(by omega:i<bs.length)]
  have hQ':Q' (bs.getD i false) s':=hQ;rw[e] at hQ';exact wpAny_truthy_bool hQ'
 ·refine⟨.bl (bs.any id),H,I.kept (t':=tk) λb o e=>k b o (λz=>?_) (Pi _ e),?_,q⟩
  ·have z':b=s.heap.objs.size:=by simpa using z
   exact absurd (Ph e) (by rw[z'];exact Mb _)
  ·show Value.bool _=Value.bool _;congr 1;rw[Lm,<-hl];rw[Mx,Nr,Nr];constructor
   ·rintro ⟨j,hj,e⟩;have hj':=Mp.mp hj;refine⟨_,L8 hj',?_⟩;simpa [List.getD,hj'] using e
   ·rintro ⟨b,hb,e⟩;obtain⟨j,hj,rfl⟩:=Mt.mp hb;exact⟨j,Mp.mpr hj,by simpa [List.getD,hj] using e⟩
def Xjb:V->List V->Hp->VK->Prop:=λx vs H Q=>∃l xs y,x = .ref l/\vs=[y]/\H l=some (.lst xs)/\Ce y=true/\xs.all Ce=true/\Q (.int (xs.countP λz=>eqV z y)) H
theorem Xcr{y:V}:∀{xs:List V} {its:List Value},Vals xs its->xs.all Ce=true->its.countP (eqU y)=xs.countP λz=>eqV z y
 | _,_,.nil,_=>rfl
 | _,_,.cons (a:=a) (b:=b) r t,f=>by
  rw[O5,Ln] at f;rw[Mn,Mn,Xcr t f.2,Ip r f.1]
theorem Xjc:MtM X "list.count" Xjb:=by
 intro pins s σ H x vs v us Q I rx rv h;obtain⟨l,xs,y,rfl,rfl,hH,fy,fs,q⟩:=h;cases rx;obtain⟨u,rfl,ru⟩:=rv.one;obtain⟨z,its,n,r,hl,e⟩:=I.lstM hH;refine call_meets F.slot_list_count ⟨_,e,rfl⟩ F.entry_list_count (F.args_list_count_2 _ _) (SeqAt.list_countAt l its.toArray n _ _ u (eqU y)) ⟨e,λw hw=>Eo ru fy r fs w (by simpa using hw),?_⟩;refine⟨.int _,H,I.tok _,⟨_,rfl⟩,?_⟩;have e2:((its.toArray.toList.countP (eqU y):Nat):Int)=((xs.countP λz=>eqV z y:Nat):Int):=by rw[<-Xcr r fs]
 exact e2 ▸ q
theorem Xjd(row:List Str)(x:Str):(row.map V.str).countP (λz=>eqV z (.str x))=row.count x:=by
 rw[List.countP_map,List.count_eq_countP];rfl
end
end L2
namespace HT
open PySem PySem.Spec PyProof.Rows PySem.Calls L2
section
variable {prog:Program}{w:World}{A:Around}{E:Value->Shared->Prop}{s:Shared}
end
end HT
namespace L2
open PySem PySem.Spec PyProof.Rows
section
variable {X:Cx}{pos p2:Pos}{e:Expr}{te:TE}
def tRevT (te:TE):TE:=fun σ H Q=>te σ H λx H1=>∃a xs,x = .ref a/\H1 a=some (.tup xs)/\∀p,H1 p=none->Q (.ref p) (upd H1 p (.tup xs.reverse))
end
section
variable {X:Cx}{es:List Expr}{t:L2.St->Hp->(Hp->Prop)->Prop}{e:Expr}{te:TE}{pos:Pos}
def Xje (te:TE) (t:L2.St->Hp->(Hp->Prop)->Prop):L2.St->Hp->(Hp->Prop)->Prop:=fun σ H Q=>te σ H λx H1=>∃(a:Addr) (ss:List Str),x = .ref a/\H1 a=some (.tup (ss.map V.str))/\ss.length<=24/\(∀z∈ss,z.length<=20/\∀c∈z.cps.toList,c<16 ^ 8)/\t σ H1 Q
theorem Xcs:∀(ss:List Str),(∀z∈ss,z.length<=20/\∀c∈z.cps.toList,c<16 ^ 8)->piled (ss.map reprText)<=204 * ss.length
 | [],_=>by simp[piled]
 | z::ss,h=>by
  obtain⟨h1,h2⟩:=h z Ld;have:=StrLaws.reprText_len z h2;have ih:=Xcs ss λy hy=>h y (Lb _ hy);rw[L5,piled_cons,Lp];omega
theorem Xjf(ts:List Str):(tupleText ts).length<=piled ts+3:=by
 unfold tupleText;rw[strLen_append,strLen_append];have e1:((("(" : String):Str)).length=1:=rfl;have e3:(((if ts.length==1 then ",)" else ")" : String):Str)).length<=2:=by split<;>decide
 rw[e1];by_cases h:ts=[]
 ·subst h;have:(Str.join ", " []).length=0:=rfl;omega
 ·have:=join_length_add ts h;omega
theorem Xct{P:Program}{w:World}:∀{ss:List Str} {us:List Value},(∀z∈ss,z.length<=20/\∀c∈z.cps.toList,c<16 ^ 8)->Vals (ss.map V.str) us->ReprAll P w us (ss.map reprText)
 | [],_,_,r=>by cases r;exact .nil
 | z::ss,_,h,r=>by
  cases r with
  | cons r1 r2=>
   obtain⟨tk,rfl⟩:=r1;obtain⟨h1,h2⟩:=h z Ld;have:=StrLaws.reprText_len z h2;exact .cons (ReprIs.str z tk (by rw[Pa];omega)) (Xct (λy hy=>h y (Lb _ hy)) r2)
theorem Xjg{k:Nat}{p:Pos}(hr:Room k X.A)(ha:PE X e te)(h:PJ X es t)(he:evalEach (.FormattedValue e 114 none p::es) X.env=eval (.FormattedValue e 114 none p) X.env::evalEach es X.env:=by rfl):PJ X (.FormattedValue e 114 none p::es) (Xje te t):=by
 intro out pins s σ H Q I hw hl;rw[he];rw[Lp] at hl;refine joinParts_cons (wpAny_FormattedValue_repr (thn (ha pins s σ H _ I hw) λv s1 ⟨x,H1,I1,r1,q1⟩=>?_));obtain⟨a,ss,ez,hp,h1,h2,q⟩:=q1;subst ez;cases r1;obtain⟨its,rv,pl,hz⟩:=I1.tuple (SqT.of (K:=X.K) hp);obtain⟨o,ho,hc,n,hd⟩:=pl;have hz1:=Xjf (ss.map reprText);have hz2:=Xcs ss h2;have hz3:(tupleText (ss.map reprText)).length<=5000:=by omega
 have hz4:(tupleText (ss.map reprText)).length<=sizeLine:=by rw[Pa];omega
 refine wpAny_pyReprObj_tuple (g:=[]) ⟨o,ho,hc⟩ hr.gd (by simp) hr.units0 ho hd (Xct h2 (by simpa using rv)) (λu tk=>?_) hz4;refine formatField_str (λt' k=>⟨by rw[Ea];omega,?_⟩) hz4;exact h _ pins _ σ H1 Q ((I1.tok _).tok _) q (by rw[Ea];omega)
end
def Ds (c:Addr) (q:Str):Heap->Prop:=λh=>h.CodeRec (.ref c) q
def Dt (f:Addr) (fd:FuncData):Heap->Prop:=λh=>∃o,h.get? f=some o/\o.data = .func fd
theorem Xjh{c:Addr}{q:Str}:∀h1 h2:Heap,Ds c q h1->(∀o,h1.get? c=some o->h2.get? c=some o)->Ds c q h2:=by
 rintro h1 h2 ⟨c1,o,vs,t,e,ho,r⟩ k;cases e;exact⟨c,o,vs,t,rfl,k _ ho,r⟩
theorem Xcu{f:Addr}{fd:FuncData}:∀h1 h2:Heap,Dt f fd h1->(∀o,h1.get? f=some o->h2.get? f=some o)->Dt f fd h2:=by
 rintro h1 h2 ⟨o,ho,r⟩ k;exact⟨o,k _ ho,r⟩
theorem Xji{CX:CXT}{P:Program}{w:World}{K:PySem.W.Frag}{mg:Str->Option Value}{base:Heap}{A:Around}{outer:List Env}{s:Shared}{H:Hp}{k:Nat}{f c:Addr}{name qual:Str}{params:Arguments}{body:Expr}{scope:Scope}{pm ctv:Value}
  {N ps:List Str} {us:List Value} {vs:List V} {Q:VK} {E:XK} {t:TE}
  (hf:H f=some (.ext (Dt f (PySem.W.kla_fn name qual params body scope [] pm (.ref c) ctv)))) (hc:H c=some (.ext (Ds c qual))) (S:FnScope N ps scope) (hr:Room (k+1) A) (e0:Env0 P w K mg base A outer s H)
  (hl:vs.length=ps.length) (r:Vals vs us) (hb:bindArgs (PySem.W.kla_fn name qual params body scope [] pm (.ref c) ctv) ⟨us,[]⟩=pure (ps.zip us))
  (ht:PE (Bz CX P w K mg base N qual scope f (.ref c) A outer s H E) body t) (hq:t (start N vs) H Q):
  codeAny (model P w) A (.call (.ref f) ⟨us,[]⟩) (CR CX outer P w H s Q E) s:=by
 obtain⟨⟨of,hof,hod⟩,_⟩:=e0.hok f _ hf;obtain⟨hcod,_⟩:=e0.hok c _ hc;have lim:s.heap.NoLimit:=e0.mod.nolimit.keeps λb o e=>(e0.bs b o e).1;have hkind:∀y∈ps.zip us,scope.names.lookup y.1=some .local\/(scope.names.lookup y.1=some .cell/\((cellsFrom (s.heap.objs.size+1) scope.names []).lookup y.1).isSome=true):=λ⟨n,v⟩ hy=>by
  rcases S.par n (Oo hy).1 with q | q
  ·exact .inl q
  ·exact .inr ⟨q,PySem.W.cellsFrom_some _ _ _ (.inl q)⟩
 refine PySem.W.kla_callFunE hr.depth hof hod S.co S.gen rfl hcod ?_;rw[hb];refine O9 ?_;refine wpAny_newFunctionEnv_cells S.kind hkind λenv he s1 x=>?_;subst he;refine⟨lim.keeps x.toInCall.keep,PySem.W.kla_codeExpr ?_⟩;have I:Inv (Bz CX P w K mg base N qual scope f (.ref c) A outer s H E) [] (start N vs) H s1:=Xay S hr.hd e0 hl r x;refine wpAny_mono (ht [] s1 (start N vs) H _ I hq) (λu s' hs=>?_) λe s' hs=>hs;obtain⟨v,H',J,rv,q⟩:=hs;exact⟨v,H',J.os,J.bare,J.base,J.hok,rv,q⟩
def BmOk (mg:Str->Option Value) (base:Heap):Prop:=∃bm ob,mg "__builtins__" = some (.ref bm)/\bm≠builtinsNs/\base.get? bm=some ob/\ob.cls = .type "module" /\ ob.dict=some builtinsNs/\ob.data = .plain
def Ai (T:Addr) (pos:Pos) (q:Str) (H:Hp):Prop:=H T=some (.tbl #[]) \/ ∃c,H T=some (.tbl #[rawInt pos.line,rawInt pos.col,.ref c])/\H c=some (.ext (Ds c q))
def tLam (T:Addr) (q:Str) (params:Arguments) (body:Expr) (scope:Scope) (pos:Pos):TE:=λ_ H Q=>Ai T pos q H /\
 ∀(f c:Addr) (pm ctv:Value) (H':Hp),H f=none->H' f=some (.ext (Dt f (PySem.W.kla_fn "<lambda>" q params body scope [] pm (.ref c) ctv)))->H' c=some (.ext (Ds c q))->Ai T pos q H'->(∀b o,H b=some o->b≠T->H' b=some o)->Q (.ref f) H'
section
variable {X:Cx}{T c0:Addr}{params:Arguments}{body:Expr}{scope:Scope}{pos:Pos}{q:Str}
theorem Xjj{pins:List (Addr×Obj)}{σ:St}{H:Hp}{s:Shared}{h':Heap}{tk:Nat}{fd:FuncData}{o:Obj}(I:Inv X pins σ H s)(k:∀b o,s.heap.get? b=some o->h'.get? b=some o)(hsz:s.heap.objs.size<=h'.objs.size)(ho:o.data = .func fd)(hfr:o.isFreed=false):
  Inv X pins σ (upd H h'.objs.size (.ext (Dt h'.objs.size fd))) {s with heap:=h'.push o,toks:=tk}:=by
 refine I.laid (t':=tk) (h':=h'.push o) (λb ob e=>Pi _ (k b ob e)) hsz ?_;exact⟨⟨o,Heap.get?_push_size _ hfr,ho⟩,⟨o,Heap.get?_push_size _ hfr⟩,Xcu⟩
theorem Xjk{pins:List (Addr×Obj)}{σ:St}{H:Hp}{s:Shared}{h':Heap}{tk:Nat}{fd:FuncData}{o:Obj}{c:Addr}{ps:Array Value}(I:Inv X pins σ H s)(hT:H T=some (.tbl #[]))(hx:Heap.ExtBut T s.heap h')(hge:s.heap.objs.size<=c)(hlt:c<h'.objs.size)
  (hrec:h'.CodeRec (.ref c) q) (htb:h'.get? T=some (PySem.W.tabObj (#[]++ps))) (ho:o.data = .func fd) (hfr:o.isFreed=false):
  Inv X pins σ (upd (upd (upd H T (.tbl ps)) c (.ext (Ds c q))) h'.objs.size (.ext (Dt h'.objs.size fd))) {s with heap:=h'.push o,toks:=tk}:=by
 have htb':h'.get? T=some {cls:=.none,data:=.fields ps}:=by simpa using htb
 have nf:∀b u,s.heap.get? b=some u->b≠c/\b≠h'.objs.size:=λb u e=>by
  have z:=Lr (Ph e) hge;exact⟨Lg z,Lg (Np z hlt)⟩
 have nH:∀b u,H b=some u->b≠c/\b≠h'.objs.size:=λb u e=>by
  have z:=Lr (I.hok.lt e) hge;exact⟨Lg z,Lg (Np z hlt)⟩
 have nT:∀b,H b=none->b≠T:=λb n z=>by rw[z,hT] at n;cases n
 have kp:∀b u,b≠T->s.heap.get? b=some u->(h'.push o).get? b=some u:=λb u n e=>Pi _ (hx b u n e);have up:∀b u,H b=some u->b≠T->(upd (upd (upd H T (.tbl ps)) c (.ext (Ds c q))) h'.objs.size (.ext (Dt h'.objs.size fd))) b=some u:=λb u e n=>by
  rw[Ad (nH b u e).2,Ad (nH b u e).1,Ad n];exact e
 refine I.step (g':=s.gens) (d':=s.drawn) (t':=tk) (h':=h'.push o) (ch:=[]) (λ_ z=>nomatch z) (λb u _ _ _ e n=>kp b u (nT b n) e) (λb u _ _ _ e n=>⟨u.slots,kp b u (nT b n) e⟩) (λb u _ e n=>?_) (λb u _ e=>?_)
  (λb xs e=>up b _ e λz=>by rw[z,hT] at e;cases e) (λb u v e=>up b _ e λz=>by rw[z,hT] at e;cases e) (λb pz e=>?_) (λm hn=>(hn.extBut hx (nT _ I.free)).push _) ?_ I.bare
 ·rw[Ad (nf b u e).2,Ad (nf b u e).1,Ad (nT b n)];exact n
 ·by_cases z:b=T
  ·exact⟨_,z ▸ Pi _ htb'⟩
  ·exact⟨u,kp b u z e⟩
 ·by_cases z:b=T
  ·subst z;rw[hT] at e;cases e;refine⟨ps,?_⟩;rw[Ad (nH b _ hT).2,Ad (nH b _ hT).1,Ab];simp
  ·exact⟨#[],by rw[up b _ e z];simp⟩
 ·intro b u e;by_cases z1:b=h'.objs.size
  ·subst z1;rw[Ab] at e;cases e;exact⟨⟨o,Heap.get?_push_size _ hfr,ho⟩,⟨o,Heap.get?_push_size _ hfr⟩,Xcu⟩
  ·rw[Ad z1] at e;by_cases z2:b=c
   ·subst z2;rw[Ab] at e;cases e;obtain⟨c1,oc,vs,t,e1,hoc,r⟩:=hrec;cases e1;exact⟨⟨b,oc,vs,t,rfl,Pi _ hoc,r⟩,⟨oc,Pi _ hoc⟩,Xjh⟩
   ·rw[Ad z2] at e;by_cases z3:b=T
    ·subst z3;rw[Ab] at e;cases e;exact Pi _ htb'
    ·rw[Ad z3] at e;refine(I.hok b u e).stay (λd v hd g=>kp d v ?_ g) (λd g=>up d _ g λz=>by rw[z,hT] at g;cases g) λd xs g=>up d _ g λz=>by rw[z,hT] at g;cases g
     rcases hd with rfl | hd
     ·exact z3
     ·intro z;rw[z,hT] at hd;cases hd
theorem Xjl(hbm:BmOk X.mg X.base)(hdef:defaultsOf params X.env=([],[]))(hcl:closureFor scope X.env=pure [])(hcode:X.env.code = .ref c0)(hhd:PySem.W.codeHdIn X.K c0 T=true)(hq:X.env.qual ++ "<lambda>" = q):
  PE X (.Lambda params body scope pos) (tLam T q params body scope pos):=by
 intro pins s σ H Q I h;obtain⟨tab,k⟩:=h;obtain⟨bm,ob,b1,b2,b3,b4,b5,b6⟩:=hbm;have hg:s.heap.Ns mainGlobals X.mg:=I.mod.glob.keeps I.bk;have C:PySem.W.CodeHd s.heap c0 T:=PySem.W.codeHd_of_K I.kIn hhd;have nb:bm≠T:=λz=>by
  have n:=(I.bs bm ob b3).2;rw[z] at n;rcases tab with e | ⟨c,e,_⟩<;>(rw[e] at n;cases n)
 have hbG:bm≠mainGlobals:=λz=>by
  obtain⟨o,es,ep,e,hd,_⟩:=I.mod.glob;rw[z,e] at b3;cases b3;rw[hd] at b6;cases b6
 have hB:s.heap.BuiltinsAt X.mg T:=⟨bm,ob,b1,b2,hbG,nb,I.bk _ _ b3,b4,b5,b6⟩;refine PySem.W.kla_eval hdef ?_;rw[hq];rcases tab with e | ⟨c,e,ec⟩
 ·have hP:s.heap.get? T=some (PySem.W.tabObj #[]):=I.hok T _ e;have hgT:mainGlobals≠T:=λz=>by
   obtain⟨o,es,ep,e2,hd,_⟩:=hg;rw[z,hP] at e2;cases e2;cases hd
  refine PySem.W.kla_makeFunction (mg:=X.mg) (clos:=[]) hcl I.ok.glob hg hcode C hP trivial rfl hgT hB λc' ctv h' tk hx hge hlt hrec htb=>?_;have J:=Xjk (tk:=tk) (o:=PySem.W.kla_obj "<lambda>" q params body scope [] ((X.mg "__name__").getD .none) c' ctv) I e hx hge hlt hrec htb rfl rfl;have ltf:∀b o,H b=some o->b<c':=λb o eb=>Lr (I.hok.lt eb) hge;have ncT:c'≠T:=(Lg (ltf _ _ e)).symm;have nfc:c'≠h'.objs.size:=Lg hlt;have nTf:T≠h'.objs.size:=Lg (Np (ltf _ _ e) hlt);refine⟨.ref h'.objs.size,_,J,rfl,k _ c' _ ctv _ (I.hok.fresh (Nx (Nat.lt_of_le_of_lt hge hlt))) Ab (by rw[Ad nfc,Ab]) (.inr ⟨c',by rw[Ad nTf,Ad ncT.symm,Ab],by rw[Ad nfc,Ab]⟩) λb o eb nb=>?_⟩;rw[Ad (Lg (Np (ltf _ _ eb) hlt)),Ad (Lg (ltf _ _ eb)),Ad nb];exact eb
 ·have hP:s.heap.get? T=some (PySem.W.tabObj #[rawInt pos.line,rawInt pos.col,.ref c]):=I.hok T _ e;refine PySem.W.kla_makeFunctionHit (mg:=X.mg) (clos:=[]) (cv:=.ref c) hcl I.ok.glob hg hcode C hP trivial (by simp[codeAmong,rawInt]) hB λctv h' tk hk hsz=>?_;have J:=Xjj (tk:=tk) (fd:=PySem.W.kla_fn "<lambda>" q params body scope [] ((X.mg "__name__").getD .none) (.ref c) ctv) (o:={cls:=.type "function",data:=.func (PySem.W.kla_fn "<lambda>" q params body scope [] ((X.mg "__name__").getD .none) (.ref c) ctv)}) I hk hsz rfl rfl;have nf:∀b o,H b=some o->b≠h'.objs.size:=λb o eb=>Lg (Lr (I.hok.lt eb) hsz);refine⟨.ref h'.objs.size,_,J,rfl,k _ c _ ctv _ (I.hok.fresh hsz) Ab (by rw[Ad (nf _ _ ec)];exact ec) (.inr ⟨c,by rw[Ad (nf _ _ e)];exact e,by rw[Ad (nf _ _ ec)];exact ec⟩) λb o eb _=>?_⟩;rw[Ad (nf b o eb)];exact eb
end
end L2
namespace SH
open PySem PySem.Spec PyProof.Rows L2
structure Bl (mg:Str->Option Value):Prop where
 len:mg "len" = none
 range:mg "range" = none
 list:mg "list" = none
 min:mg "min" = none
 isi:mg "isinstance" = none
 all:mg "all" = none
 str:mg "str" = none
 val:mg "ValueError" = none
 sorted:mg "sorted" = none
 set:mg "set" = none
 enum:mg "enumerate" = none
 int:mg "int" = none
 bool:mg "bool" = none
 tuple:mg "tuple" = none
 any:mg "any" = none
 dict:mg "dict" = none
 sum:mg "sum" = none
 max:mg "max" = none
structure DrawOk (H:Hp) (dr sc:Addr):Prop where
 ex:∃(ns:List Int) (p:Nat) (c m k:Int),H dr=some (.lst [.ref sc,.int p,.int c,.int m,.int k])/\H sc=some (.lst (ns.map V.int))/\p<=ns.length/\ns.length<=63/\0<=m/\m<1000000007
def Ju (K:PySem.W.Frag):Sp:=λvs H Q _=>∃(a:Addr) (ns:List Int),vs=[.ref a]/\SqL K H a (ns.map V.int)/\ns.length<=63/\∀dr sc H',H dr=none->H sc=none->DrawOk H' dr sc->Same H H'->Q (.ref dr) H'
def Xcv:Sp:=λvs H Q _=>∃(dr sc:Addr) (n:Int),vs=[.ref dr,.int n]/\0<n/\n<=1000/\DrawOk H dr sc /\
 ∀r H',0<=r->r<n->DrawOk H' dr sc->(∀b o,H b=some o->b≠dr->H' b=some o)->Q (.int r) H'
abbrev NP:List Str:=["_law_draw", "_law_many", "_law_cell", "_law_got"]
def D5 (H:Hp) (dr sc:Addr) (ns:List Int) (p:Nat) (c m k:Int):Prop:=H dr=some (.lst [.ref sc,.int p,.int c,.int m,.int k])/\H sc=some (.lst (ns.map V.int))
theorem cpow3{m:Int}(h0:0<=m)(h1:m<1000000007):CPow m 3:=⟨by decide,by decide,by omega⟩
def Du (row:List Str) (x:Str) (a b:Nat):List Str:=row.take a++[x]++(row.drop a).take (b - a)++[x]++row.drop b
theorem Xcw(row:List Str)(x:Str)(a b:Nat)(hab:a<=b):(Du row x a b).Perm (x::x::row):=by
 unfold Du;have e:row=row.take a++((row.drop a).take (b - a)++row.drop b):=by
  have e1:row.drop b=(row.drop a).drop (b - a):=by rw[List.drop_drop];congr 1;omega
  rw[e1,Mh,Mh]
 generalize hA:row.take a=A at *;generalize hB:(row.drop a).take (b - a)=B at *;generalize hC:row.drop b=C at *;rw[e];have p1:(A++[x]++B++[x]++C).Perm (x::(A++B++[x]++C)):=by
  have:A++[x]++B++[x]++C=A++x::(B++[x]++C):=by simp
  rw[this];refine Nt.trans ?_;simp
 refine p1.trans (List.Perm.cons x ?_);have:A++B++[x]++C=(A++B)++x::C:=by simp
 rw[this];refine Nt.trans ?_;simp
def Jv:Sp:=λvs H Q _=>∃(r:Addr) (row:List Str) (x:Str) (a b:Nat),vs=[.ref r,.str x,.int a,.int b]/\H r=some (.lst (row.map V.str))/\row.length<=1000/\a<=b/\b<=row.length /\
 ∀l H',H l=none->H' l=some (.lst ((Du row x a b).map V.str))->Same H H'->Q (.ref l) H'
abbrev NPut:List Str:=["_law_row_here", "_law_name", "_law_at", "_law_to", "_law_told"]
def Az (x:Str):Nat->List Str->List Int
 | _,[]=>[]
 | n,y::r=>if y=x then (n:Int)::Az x (n+1) r else Az x (n+1) r
def plc (row:List Str) (x:Str):List Int:=Az x 0 row
theorem Xcx(x y:Str):∀(n:Nat) (r:List Str),Az x n (r++[y])=Az x n r++(if y=x then [((n+r.length:Nat):Int)] else [])
 | n,[]=>by
  show (if y=x then ((n:Nat):Int)::Az x (n+1) [] else Az x (n+1) [])=_;split<;>simp[Az]
 | n,z::r=>by
  have ih:=Xcx x y (n+1) r;show (if z=x then (n:Int)::Az x (n+1) (r++[y]) else Az x (n+1) (r++[y]))=(if z=x then (n:Int)::Az x (n+1) r else Az x (n+1) r)++_;rw[ih,Lp,show n+1+r.length=n+(r.length+1) by omega];split<;>simp
theorem G2(x:Str):∀(n:Nat) (r:List Str),(Az x n r).length=r.count x
 | _,[]=>rfl
 | n,z::r=>by
  show (if z=x then (n:Int)::Az x (n+1) r else Az x (n+1) r).length=_;rw[List.count_cons];split
  ·rename_i e;rw[Lp,G2,Pc (by simpa using e)]
  ·rename_i e;rw[G2,Pb (by simpa using e)];rfl
theorem Jw(row:List Str)(x:Str):(plc row x).length=row.count x:=G2 x 0 row
theorem Jx(r:List Str)(x y:Str):plc (r++[y]) x=plc r x++(if y=x then [(r.length:Int)] else []):=by
 have e:=Xcx x y 0 r;rw[Og] at e;exact e
structure Wh (H:Hp) (kvs:List (Key×V)) (row:List Str):Prop where
 keys:∀k∈kvs.map (·.1),∃x,k=Sum.inr x/\x∈row
 val:∀x∈row,∃l,Ao kvs (Sum.inr x:Key)=some (.ref l)/\H l=some (.lst ((plc row x).map V.int))
 none:∀x,x∉row->Ao kvs (Sum.inr x:Key)=none
 nd:(kvs.map (·.1)).Nodup
 len:kvs.length<=row.length
theorem Xcy{kvs:List (Key×V)}{k:Key}{v:V}{l:V}(h:Ao kvs k=some l):(A9 kvs k v).map (·.1)=kvs.map (·.1):=by
 unfold A9;rw[Dh,h,Pc Ox,L9];refine Mo λp _=>?_;show (if p.1=k then (p.1,v) else p).1=p.1;split<;>rfl
theorem Wh.snoc{H H':Hp}{kvs:List (Key×V)}{row:List Str}(w:Wh H kvs row)(y:Str)(l:Addr)(hl:H' l=some (.lst ((plc (row++[y]) y).map V.int)))
  (s:∀b xs,H b=some (.lst xs)->H' b=some (.lst xs)):Wh H' (A9 kvs (Sum.inr y) (.ref l)) (row++[y]):=by
 refine⟨λk hk=>?_,λx hx=>?_,λx hx=>?_,?_,?_⟩
 ·by_cases hy:y∈row
  ·obtain⟨l0,e,_⟩:=w.val y hy;rw[Xcy e] at hk;obtain⟨x,e1,e2⟩:=w.keys k hk;exact⟨x,e1,Mz _ e2⟩
  ·rw[Fh _ (w.none y hy),Lo] at hk;rcases Ll.mp hk with hk | hk
   ·obtain⟨x,e1,e2⟩:=w.keys k hk;exact⟨x,e1,Mz _ e2⟩
   ·exact⟨y,by simpa using hk,by simp⟩
 ·rw[Gh];by_cases e:x=y
  ·subst e;exact⟨l,Pc rfl,hl⟩
  ·have hx':x∈row:=by
    rcases Ll.mp hx with z | z
    ·exact z
    ·exact absurd (Lf.mp z) e
   obtain⟨l0,e1,e2⟩:=w.val x hx';refine⟨l0,by rw[Pb (λz=>e (Nq z))];exact e1,?_⟩;rw[Jx,Pb (λz=>e z.symm),Mj];exact s _ _ e2
 ·rw[Gh];have h1:x∉row:=λz=>hx (Mz _ z);have h2:x≠y:=λz=>hx (by rw[z];simp);rw[Pb (λz=>h2 (Nq z))];exact w.none x h1
 ·by_cases hy:y∈row
  ·obtain⟨l0,e,_⟩:=w.val y hy;rw[Xcy e];exact w.nd
  ·exact Xhc _ w.nd (w.none y hy)
 ·have:=Fg kvs (Sum.inr y:Key) (.ref l);have:=w.len;rw[Lj,Ml];omega
def Jy:Sp:=λvs H Q _=>∃(r:Addr) (row:List Str),vs=[.ref r]/\H r=some (.lst (row.map V.str))/\row.length<=1000 /\
 ∀d kvs H',H d=none->H' d=some (.dK kvs)->Wh H' kvs row->Same H H'->Q (.ref d) H'
abbrev NWh:List Str:=["_law_row_here", "_law_told", "_law_at"]
def inn (a b:Int) (ys:List Int):List Int:=ys.filter λt=>decide (a<t)&&decide (t<b)
theorem Jz(a b:Int)(ys:List Int):(inn a b ys).length<=ys.length:=Mw ..
def words3:List Str:=["same", "cross", "around"]
def Cz (a b c e:Int) (same:Bool):Str:=
 if (same||decide (0<(inn a b [c,e]).length))=true then words3.getD (inn a b [c,e]).length "apart" else if c<a/\b<e then "within" else "apart"
def spWord:Sp:=λvs H Q _=>∃(d l1 l2:Addr) (kvs:List (Key×V)) (x y:Str) (a b c e:Int),vs=[.ref d,.str x,.str y]/\Rd H d (.dK kvs)/\Ao kvs (Sum.inr x:Key)=some (.ref l1)/\Ao kvs (Sum.inr y:Key)=some (.ref l2) /\
 H l1=some (.lst [.int a,.int b])/\H l2=some (.lst [.int c,.int e])/\∀H',Same H H'->Q (.str (Cz a b c e (decide (x=y)))) H'
abbrev NWo:List Str:=["_law_where_here", "_law_one", "_law_other", "_law_low", "_law_high", "_law_inner"]
theorem Rd.same{H H':Hp}{d:Addr}{o:HO}(r:Rd H d o)(s:Same H H'):Rd H' d o:=by
 rcases r with r | ⟨u,r⟩
 ·exact .inl (s _ _ r)
 ·exact .inr ⟨u,s _ _ r⟩
theorem DGet.rd{H:Hp}{a:Addr}{kvs:List (Key×V)}{x:Str}{v:V}(e:Rd H a (.dK kvs))(h:Ao kvs (Sum.inr x:Key)=some v):DGet H a (.str x) (some v):=.inl ⟨kvs,Sum.inr x,e,rfl,h.symm⟩
theorem Xjm{row:List Str}{x:Str}(h:row.count x=2):∃a b,plc row x=[a,b]:=by
 have e:=Jw row x;rw[h] at e
 match q:plc row x,e with
 | [a,b],_=>exact⟨a,b,rfl⟩
abbrev NBa:List Str:=["_law_row_here", "_law_name", "_law_where_here", "_law_met", "_law_at", "_law_other"]
abbrev NBc:List Str:=["_law_one", "_law_name", "_law_where_here"]
abbrev Ec:Str := "kqvzbdgmprtxhnjfwlycsaeiou"
def signOf (i:Nat):Str:=⟨#[(Ec.cps.toList).getD i 0]⟩
def Fy (st:Nat) (late:Bool) (k:Nat):Str:=
 if late=true then (repS "m" ((st+k * k) % 7)++signOf ((st+k) % 26)) ++ "y" else signOf ((st+k) % 26)++repS "m" ((st+k * k) % 7)
def Bd (st:Nat) (late:Bool) (n:Nat):List Str:=(List.range n).map (Fy st late)
theorem Xjn:∀st<26,∀late:Bool,(Bd st late 14).Nodup:=by decide +kernel
theorem J3{st:Nat}{late:Bool}{n:Nat}(hs:st<26)(hn:n<=14):(Bd st late n).Nodup:=by
 refine(Xjn st hs late).sublist ?_;unfold Bd;refine List.Sublist.map _ ?_;have e:List.range 14=List.range n++(List.range (14 - n)).map (n + ·):=by
  rw[<-List.range_add];congr 1;omega
 rw[e];exact List.sublist_append_left ..
def But (dr:Addr) (H H':Hp):Prop:=∀b o,H b=some o->b≠dr->H' b=some o
theorem But.trans{dr:Addr}{H H1 H2:Hp}(a:But dr H H1)(b:But dr H1 H2):But dr H H2:=λc o e h=>b c o (a c o e h) h
theorem But.same{dr:Addr}{H H1 H2:Hp}(a:But dr H H1)(b:Same H1 H2):But dr H H2:=λc o e h=>b c o (a c o e h)
theorem But.free{dr b:Addr}{H H':Hp}{o:HO}(a:But dr H H')(hd:H' dr=some o)(h:H' b=none):H b=none:=by
 cases q:H b with
 | none=>rfl
 | some u=>
  by_cases e:b=dr
  ·rw[e,hd] at h;cases h
  ·rw[a b u q e] at h;cases h
theorem But.upd{dr a:Addr}{H H':Hp}{o:HO}(x:But dr H H')(h:H a=none):But dr H (L2.upd H' a o):=λb u e hb=>by
 rw[Ad (Aq e h)];exact x b u e hb
theorem DrawOk.at{H:Hp}{dr sc:Addr}(d:DrawOk H dr sc):∃xs,H dr=some (.lst xs):=let ⟨_,_,_,_,_,h,_⟩:=d.ex; ⟨_,h⟩
theorem DrawOk.same{H H':Hp}{dr sc:Addr}(d:DrawOk H dr sc)(s:Same H H'):DrawOk H' dr sc:=
 let ⟨ns,p,c,m,k,h1,h2,r⟩:=d.ex; ⟨ns,p,c,m,k,s _ _ h1,s _ _ h2,r⟩
theorem DrawOk.upd{H:Hp}{dr sc a:Addr}{o:HO}(d:DrawOk H dr sc)(h1:a≠dr)(h2:a≠sc):DrawOk (L2.upd H a o) dr sc:=
 let ⟨ns,p,c,m,k,e1,e2,r⟩:=d.ex; ⟨ns,p,c,m,k,by rw[Ad h1.symm];exact e1,by rw[Ad h2.symm];exact e2,r⟩
theorem DrawOk.ne{H:Hp}{dr sc a:Addr}(d:DrawOk H dr sc)(h:H a=none):a≠dr/\a≠sc:=by
 obtain⟨ns,p,c,m,k,e1,e2,r⟩:=d.ex;exact⟨(Aq e1 h).symm,(Aq e2 h).symm⟩
def J4:Sp:=λvs H Q _=>∃(dr sc:Addr) (n:Nat),vs=[.ref dr,.int n]/\n<=14/\DrawOk H dr sc /\
 ∀l st late H',H l=none->st<26->H' l=some (.lst ((Bd st late n).map V.str))->l≠sc->DrawOk H' dr sc->But dr H H'->Q (.ref l) H'
abbrev FnPick (P:Program) (w:World) (K:PySem.W.Frag) (mg:Str->Option Value) (base:Heap):Prop:=Fn P w K mg base CX0 1 "_law_pick" ["_law_draw", "_law_many"] Xcv
abbrev NNa:List Str:=["_law_draw", "_law_many", "_law_base", "_law_start", "_law_late", "_law_told", "_law_k", "_law_sign", "_law_hum"]
theorem Xjo{i:Nat}(h:i<26):atI Ec.cps.toList (i:Int)=some ((Ec.cps.toList).getD i 0):=by
 have hl:i<Ec.cps.toList.length:=h;refine En ?_;rw[Li hl];simp[List.getD,Li hl]
theorem E2{l:List Str}(h:l.Nodup){row:List Str}(p:row.Perm (l++l)):∀y∈row,row.count y=2:=λy hy=>by
 rw[p.count_eq,M8];have hy':y∈l:=by
  rcases Ll.mp (p.mem_iff.mp hy) with z | z
  ·exact z
  ·exact z
 have e1:l.count y<=1:=List.nodup_iff_count.mp h y;have e2:0<l.count y:=Oz.mpr hy';omega
theorem Xcz{A row more:List Str}{x:Str}(p:row.Perm (A++A))(q:more.Perm (x::x::row)):more.Perm ((A++[x])++(A++[x])):=by
 refine q.trans (((p.cons x).cons x).trans ?_);have e:(A++[x])++(A++[x])=A++x::(A++x::[]):=by simp
 rw[e];refine List.Perm.trans ?_ Nt.symm;refine List.Perm.cons x ?_;have e2:A++(A++x::[])=(A++A)++x::[]:=by simp
 rw[e2];refine List.Perm.trans ?_ Nt.symm;simp
abbrev NRo:List Str:=["_law_draw", "_law_names_here", "_law_cut", "_law_row_here", "_law_name", "_law_at", "_law_to", "_law_more"]
def Xol:Sp:=λvs H Q _=>∃(dr sc:Addr) (m:Nat),vs=[.ref dr,.int m]/\m<=14/\DrawOk H dr sc /\
 ∀(l:Addr) (row:List Str) (n st:Nat) (late:Bool) (H':Hp),H l=none->n<=m->st<26->H' l=some (.lst (row.map V.str))->row.Perm (Bd st late n++Bd st late n)->DrawOk H' dr sc->But dr H H'->Q (.ref l) H'
abbrev NIs:List Str:=["_law_draw", "_law_most", "_law_few", "_law_many"]
theorem J5(row:List Str)(x:Str):((List.range row.length).filter λi=>decide (row.getD i Str.empty=x)).map (λi:Nat=>(i:Int))=plc row x:=by
 have go:∀n,n<=row.length->((List.range n).filter λi=>decide (row.getD i Str.empty=x)).map (λi:Nat=>(i:Int))=plc (row.take n) x:=by
  intro n
  induction n with
  | zero=>intro _;rfl
  | succ n ih=>
   intro h;have hn:n<row.length:=by omega
   have e:row.getD n Str.empty=row[n]:=by simp[List.getD,hn]
   rw[Md,Ls,Lo,ih (by omega),Lu hn,Jx,L7,e,Mf,Nz (by omega)];by_cases q:row[n]=x
   ·rw[Pc q,Pc (Pd q)];rfl
   ·rw[Pb q,Pb (by simpa using q)];rfl
 rw[go _ (K9 _),Mq]
def okN (x:Str):Prop:=x.length<=20/\∀c∈x.cps.toList,c<0x110000
def J6 (C:Addr):Sp:=λvs H Q E=>∃(r:Addr) (row:List Str) (x:Str),vs=[.ref r,.str x]/\H r=some (.lst (row.map V.str))/\okN x /\
 (x∈row->∀H',Same H H'->Q .non H')/\(x∉row->∀H',Same H H'->E (.ref C) none H')
def spDitches:Sp:=λvs H Q _=>∃(r:Addr) (row:List Str),vs=[.ref r]/\H r=some (.lst (row.map V.str))/\row.length<=60 /\
 ∀l H',H l=none->H' l=some (.lst ((dit row).map V.str))->Same H H'->Q (.ref l) H'
def J7 (C:Addr):Sp:=λvs H Q E=>∃(r:Addr) (row:List Str) (x:Str),vs=[.ref r,.str x]/\H r=some (.lst (row.map V.str))/\okN x/\row.length<=1000 /\
 (x∈row->∃a b,plc row x=[a,b]/\∀l H',H l=none->H' l=some (.tup [.int a,.int b])->Same H H'->Q (.ref l) H')/\(x∉row->∀H',Same H H'->E (.ref C) none H')
abbrev NEn:List Str:=["row", "name", "found"]
abbrev NEc:List Str:=["at", "end", "name"]
end SH
namespace L2
open PySem PySem.Spec PyProof.Rows
theorem J8(x y:Str):decide (V.str x=V.str y)=decide (x=y):=by
 by_cases z:x=y
 ·rw[z];simp
 ·rw[Pe z,Pe (λq=>z (by injection q))]
theorem Co{α : Type}(f : α->V)(d : α)(xs:List α){i:Nat}(hi:i<xs.length):(xs.map f).getD i .non=f (xs.getD i d):=by simp[List.getD,hi]
end L2
namespace SH
open PySem PySem.Spec PyProof.Rows L2
structure Isl (row:List Str):Prop where
 ex:∃n st late,n<=14/\st<26/\row.Perm (Bd st late n++Bd st late n)
theorem Xjp{st n:Nat}{late:Bool}(hn:n<=14){x:Str}(h:x∈Bd st late n):x∈Bd st late 14:=by
 unfold Bd at h ⊢;obtain⟨i,hi,rfl⟩:=Lw.mp h;exact Lw.mpr ⟨i,Mp.mpr (by have:=Mp.mp hi;omega),rfl⟩
instance (x:Str):Decidable (okN x):=inferInstanceAs (Decidable (_/\_))
theorem Xjq:∀st<26,∀late:Bool,∀x∈Bd st late 14,okN x:=by decide +kernel
theorem Isl.two{row:List Str}(h:Isl row):∀y∈row,row.count y=2:=by
 obtain⟨n,st,late,hn,hs,p⟩:=h.ex;exact E2 (J3 hs hn) p
theorem Isl.len{row:List Str}(h:Isl row):row.length<=28:=by
 obtain⟨n,st,late,hn,hs,p⟩:=h.ex;have:=p.length_eq;unfold Bd at this;simp at this;omega
theorem Isl.ok{row:List Str}(h:Isl row):∀y∈row,okN y:=λy hy=>by
 obtain⟨n,st,late,hn,hs,p⟩:=h.ex;refine Xjq st hs late y (Xjp hn ?_);rcases Ll.mp (p.mem_iff.mp hy) with z | z<;>exact z
def Xom:List Str->Str
 | [] => "noneatal"
 | y::_=>Txt.slice y none (some 7)++Str.ofString "q"
theorem Xjr{x:Str}(h:okN x):Bh (.str x)=true:=by
 show PyData.strOk x=true;unfold PyData.strOk;rw[<-Array.all_toList,Lz];intro c hc;exact Pd (h.2 c hc)
theorem Xc0{row:List Str}{x:Str}{i:Int}:i∈plc row x ↔ ∃k:Nat,i=k/\row[k]? = some x:=by
 rw[<-J5,Lw];constructor
 ·rintro ⟨k,hk,rfl⟩;obtain⟨h1,h2⟩:=Lc.mp hk;have hk':=Mp.mp h1;refine⟨k,rfl,?_⟩;have:=Pf h2;rw[Li hk'];simpa [List.getD,hk'] using this
 ·rintro ⟨k,rfl,hk⟩;have hk':k<row.length:=(L3.mp hk).1;refine⟨k,Lc.mpr ⟨Mp.mpr hk',Pd ?_⟩,rfl⟩;simp[List.getD,hk]
theorem Xjs(row:List Str)(x:Str):(plc row x).Pairwise (· < ·):=by
 rw[<-J5,Od];refine List.Pairwise.imp ?_ (List.Pairwise.filter _ (List.pairwise_lt_range (n:=row.length)));intro a b h;omega
def pl (row:List Str) (x:Str):Int×Int:=((plc row x).getD 0 0,(plc row x).getD 1 0)
theorem Xc1{row:List Str}{x:Str}{a b:Int}(h:plc row x=[a,b]):pl row x=(a,b):=by
 unfold pl;rw[h];rfl
theorem E3{row:List Str}{x:Str}(h:row.count x=2):plc row x=[(pl row x).1,(pl row x).2]:=by
 obtain⟨a,b,e⟩:=Xjm h;rw[Xc1 e,e]
theorem Bq{row:List Str}{x:Str}(h:row.count x=2):(pl row x).1<(pl row x).2:=by
 have h1:=Xjs row x;rw[E3 h] at h1;simpa using h1
theorem Ed{row:List Str}{x y:Str}(hx:row.count x=2)(hy:row.count y=2)(n:x≠y):(pl row x).1≠(pl row y).1/\(pl row x).1≠(pl row y).2/\(pl row x).2≠(pl row y).1/\(pl row x).2≠(pl row y).2:=by
 have key:∀i,i∈plc row x->i∈plc row y->False:=λi h1 h2=>by
  obtain⟨k,e1,g1⟩:=Xc0.mp h1;obtain⟨m,e2,g2⟩:=Xc0.mp h2;have:k=m:=by omega
  subst this;rw[g1] at g2;exact n (Ly g2)
 rw[E3 hx,E3 hy] at key;refine⟨λe=>key (pl row x).1 (by simp) (by rw[e];simp),λe=>key (pl row x).1 (by simp) (by rw[e];simp),λe=>key (pl row x).2 (by simp) (by rw[e];simp),λe=>key (pl row x).2 (by simp) (by rw[e];simp)⟩
def nIn (a b:Int) (ys:List Int):Nat:=(inn a b ys).length
theorem Br(a b c e:Int):nIn a b [c,e]=(if a<c/\c<b then 1 else 0)+(if a<e/\e<b then 1 else 0):=by
 unfold nIn inn;simp only[L7,Ou,Ln,decide_eq_true_eq];split<;>split<;>rfl
def lieT (a b c e:Int):Str:=if a=c/\b=e then "same" else if nIn c e [a,b]=1 then "cross" else if nIn c e [a,b]=2 then "within" else if nIn a b [c,e]=2 then "around" else "apart"
theorem Xjt{a b c e:Int}(h1:a<b)(h2:c<e)(n1:a≠c)(n2:a≠e)(n3:b≠c)(n4:b≠e):lieT a b c e=Cz a b c e false:=by
  unfold lieT Cz;rw[Pb (λz=>n1 z.1)];have e1:=Br a b c e;have e2:=Br c e a b;have e3:(inn a b [c,e]).length=nIn a b [c,e]:=rfl;rw[e3];generalize nIn a b [c,e]=p at *;generalize nIn c e [a,b]=q at *;by_cases p1:a<c/\c<b<;>by_cases p2:a<e/\e<b<;>by_cases q1:c<a/\a<e<;>by_cases q2:c<b/\b<e <;>
    (first | rw[Pc p1] at e1 | rw[Pb p1] at e1)<;>(first | rw[Pc p2] at e1 | rw[Pb p2] at e1) <;>
    (first | rw[Pc q1] at e2 | rw[Pb q1] at e2)<;>(first | rw[Pc q2] at e2 | rw[Pb q2] at e2)<;>subst e1 e2<;>first
    | (exfalso;omega)
    | rfl
    | (have hw:(c<a/\b<e):=by omega
       rw[Pc hw];rfl)
    | (have hw:¬(c<a/\b<e):=by omega
       rw[Pb hw];rfl)
theorem Xju{a b:Int}:lieT a b a b=Cz a b a b true:=by
 unfold lieT Cz;rw[Pc ⟨rfl,rfl⟩,Bool.true_or,Pc rfl];have e1:=Br a b a b;have e3:(inn a b [a,b]).length=nIn a b [a,b]:=rfl;rw[e3,e1,Pb (by omega),Pb (by omega)];rfl
def lieR (row:List Str) (x y:Str):Str:=lieT (pl row x).1 (pl row x).2 (pl row y).1 (pl row y).2
theorem Fz{row:List Str}{x y:Str}(hx:row.count x=2)(hy:row.count y=2):lieR row x y=Cz (pl row x).1 (pl row x).2 (pl row y).1 (pl row y).2 (decide (x=y)):=by
 unfold lieR;by_cases n:x=y
 ·subst n;rw[Pd rfl];exact Xju
 ·rw[Pe n];obtain⟨n1,n2,n3,n4⟩:=Ed hx hy n;exact Xjt (Bq hx) (Bq hy) n1 n2 n3 n4
def crs (row:List Str):List (Str×Str):=(dit row).flatMap λx=>((dit row).filter λy=>decide (ltS x y)&&decide (lieR row x y = "cross")).map λy=>(x,y)
def prD (p:Str×Str):PyData:=.tuple [.str p.1,.str p.2]
structure Spn (H:Hp) (kvs:List (Key×V)) (row:List Str) (ns:List Str):Prop where
 keys:kvs.map (·.1)=ns.map (λx=>(Sum.inr x:Key))
 val:∀x∈ns,∃l,Ao kvs (Sum.inr x:Key)=some (.ref l)/\H l=some (.tup [.int (pl row x).1,.int (pl row x).2])
theorem Spn.mono{H H':Hp}{kvs:List (Key×V)}{row ns:List Str}(s:Spn H kvs row ns)(h:Same H H'):Spn H' kvs row ns:=⟨s.keys,λx hx=>let ⟨l,h1,h2⟩:=s.val x hx; ⟨l,h1,h _ _ h2⟩⟩
end SH
namespace L2
open PySem
theorem hu3{A:Around}{k:Nat}(hr:Room k A):A.units+3<cLine:=by have:=hr.units;omega
theorem hu4{A:Around}{k:Nat}(hr:Room k A):A.units+4<cLine:=by have:=hr.units;omega
end L2
namespace SH
open PySem PySem.Spec PyProof.Rows L2
structure Row2 (row:List Str):Prop where
 two:∀y∈row,row.count y=2
 ok:∀y∈row,okN y
 len:row.length<=60
theorem Isl.row2{row:List Str}(h:Isl row):Row2 row:=⟨h.two,h.ok,by have:=h.len;omega⟩
def spSpans:Sp:=λvs H Q _=>∃(r:Addr) (row:List Str),vs=[.ref r]/\H r=some (.lst (row.map V.str))/\Row2 row /\
 ∀d kvs H',H d=none->H' d=some (.dK kvs)->Spn H' kvs row (dit row)->Same H H'->Q (.ref d) H'
def Lie4 (a b c e:Int):Prop:=c<=e/\(b=e->a=c)
theorem lie4{row:List Str}{x y:Str}(hx:row.count x=2)(hy:row.count y=2):Lie4 (pl row x).1 (pl row x).2 (pl row y).1 (pl row y).2:=
 ⟨Int.le_of_lt (Bq hy),λe=>by
  by_cases n:x=y
  ·rw[n]
  ·exact absurd e (Ed hx hy n).2.2.2⟩
theorem Xjv{a b c e:Int}(n:¬(a=c/\b=e))(h:((decide (c<a)&&decide (a<e))==(decide (c<b)&&decide (b<e)))=false):lieT a b c e = "cross" := by
 unfold lieT;rw[Pb n,Pc];rw[Br];rw[<-Bool.decide_and,<-Bool.decide_and] at h;by_cases q1:c<a/\a<e<;>by_cases q2:c<b/\b<e<;>simp[q1,q2] at h ⊢
theorem Xjw{a b c e:Int}(n:¬(a=c/\b=e))(h:((decide (c<a)&&decide (a<e))==(decide (c<b)&&decide (b<e)))=true)(h2:(decide (c<a)&&decide (a<e))=true):lieT a b c e = "within" := by
 unfold lieT;rw[h2,beq_iff_eq] at h;simp only[Ln,decide_eq_true_eq] at h2;have h3:c<b/\b<e:=by simpa using h.symm
 rw[Pb n,Br,Pc h2,Pc h3,Pb (by decide),Pc rfl]
theorem Xjx{a b c e:Int}(l:Lie4 a b c e)(n:¬(a=c/\b=e))(h:((decide (c<a)&&decide (a<e))==(decide (c<b)&&decide (b<e)))=true)(h2:(decide (c<a)&&decide (a<e))=false):lieT a b c e=if (decide (a<c)&&decide (c<b))=true then "around" else "apart" := by
 unfold lieT;rw[h2,beq_iff_eq] at h;have h2:¬(c<a/\a<e):=λz=>by rw[Pd z.1,Pd z.2] at h2;cases h2
 have h3:¬(c<b/\b<e):=λz=>by rw[Pd z.1,Pd z.2] at h;cases h
 rw[Pb n,Br,Pb h2,Pb h3,Pb (by decide),Pb (by decide),Br];obtain⟨l1,l2⟩:=l;have key:a<c/\c<b->a<e/\e<b:=λz=>by
  have:b≠e:=λq=>n ⟨l2 q,q⟩;omega
 by_cases q:a<c/\c<b
 ·rw[Pc q,Pc (key q),Pc rfl,Pc (by simp[q])]
 ·rw[Pb q,Pb (by split<;>decide),Pb (by simpa using q)]
def spLieOf:Sp:=λvs H Q _=>∃(p q:Addr) (a b c e:Int),vs=[.ref p,.ref q]/\H p=some (.tup [.int a,.int b])/\H q=some (.tup [.int c,.int e])/\Lie4 a b c e/\∀H',Same H H'->Q (.str (lieT a b c e)) H'
theorem J9{ta tb tc:TE}{σ:L2.St}{H:Hp}{Q:VK}{x y z:Int}(ha:∀Q':VK,Q' (.int x) H->ta σ H Q')(hb:∀Q':VK,Q' (.int y) H->tb σ H Q')(hc:∀Q':VK,Q' (.int z) H->tc σ H Q')(h:Q (.bl (decide (x<y)&&decide (y<z))) H):
  Ig (rI0 λi j=>.bl (decide (i<j))) (rI0 λi j=>.bl (decide (i<j))) ta tb tc σ H Q:=by
 refine ha _ (hb _ ⟨x,y,rfl,rfl,_,rfl,?_⟩);refine Bc (λq=>hc _ ⟨y,z,rfl,rfl,?_⟩) (λq=>?_)
 ·rw[q,M7] at h;exact h
 ·rw[q,M4] at h;exact h
def Ka:Sp:=λvs H Q _=>∃(r:Addr) (row:List Str),vs=[.ref r]/\H r=some (.lst (row.map V.str))/\Row2 row /\
 ∀l xs H',H l=none->H' l=some (.lst xs)->DAll (hid l H') ((crs row).map prD) xs->Same H H'->Q (.ref l) H'
abbrev NSp:List Str:=["name", "row"]
abbrev NLo:List Str:=["here", "there", "first", "last"]
abbrev NCr:List Str:=["row", "span"]
abbrev NCc:List Str:=["one", "other", "span"]
theorem Spn.snoc{H H':Hp}{kvs:List (Key×V)}{row ns:List Str}{x:Str}{l:Addr}(s:Spn H kvs row ns)(nx:x∉ns)(h:H' l=some (.tup [.int (pl row x).1,.int (pl row x).2]))(k:∀b xs,H b=some (.tup xs)->H' b=some (.tup xs)):
  Spn H' (A9 kvs (Sum.inr x) (.ref l)) row (ns++[x]):=by
 have hn:Ao kvs (Sum.inr x:Key)=none:=by
  cases e:Ao kvs (Sum.inr x:Key) with
  | none=>rfl
  | some v=>
   exfalso;have:=Gi e;rw[s.keys] at this;obtain⟨y,hy,e2⟩:=Lw.mp this;rw[Nq e2] at hy;exact nx hy
 refine⟨by rw[Fh _ hn,Lo,Lo,s.keys];rfl,λy hy=>?_⟩;rw[Gh];by_cases e:y=x
 ·subst e;exact⟨l,Pc rfl,h⟩
 ·have hy':y∈ns:=by
   rcases Ll.mp hy with z | z
   ·exact z
   ·exact absurd (Lf.mp z) e
  obtain⟨l0,h1,h2⟩:=s.val y hy';exact⟨l0,by rw[Pb (λz=>e (Nq z))];exact h1,k _ _ h2⟩
theorem Spn.get{H:Hp}{kvs:List (Key×V)}{row ns:List Str}{d:Addr}{x:Str}(s:Spn H kvs row ns)(hd:Rd H d (.dK kvs))(hx:x∈ns):∃l,DGet H d (.str x) (some (.ref l))/\H l=some (.tup [.int (pl row x).1,.int (pl row x).2]):=by
 obtain⟨l,h1,h2⟩:=s.val x hx;exact⟨l,DGet.rd hd h1,h2⟩
theorem Spn.at{H:Hp}{kvs:List (Key×V)}{row ns:List Str}(s:Spn H kvs row ns)(i:Nat)(hi:i<ns.length):(kvs.map λp=>kV p.1).getD i .non = .str (ns.getD i Str.empty):=by
 have e:(kvs.map λp=>kV p.1)=ns.map V.str:=by
  have:(kvs.map λp=>kV p.1)=(kvs.map (·.1)).map kV:=by rw[L9];rfl
  rw[this,s.keys,L9];rfl
 rw[e];exact Co V.str Str.empty ns hi
theorem Spn.len{H:Hp}{kvs:List (Key×V)}{row ns:List Str}(s:Spn H kvs row ns):kvs.length=ns.length:=by
 have:=congrArg List.length s.keys;simpa using this
theorem Cp{ns:List Str}{i:Nat}(hi:i<ns.length):ns.getD i Str.empty∈ns:=by
 have:ns.getD i Str.empty=ns[i]:=by simp[List.getD,hi]
 rw[this];exact L8 hi
theorem Kb{H:Hp}:∀{ss:List Str} {xs:List V},DAll H (ss.map PyData.str) xs->xs=ss.map V.str
 | [],xs,h=>by unfold List.map DAll at h;exact h
 | s::ss,xs,h=>by
  rw[L5] at h;unfold DAll at h;obtain⟨v,r,rfl,h1,h2⟩:=h;unfold DAt at h1;rw[h1,Kb h2];rfl
def Bm (how:Str) (off:Bool):Bool:=if how = "within" then off else (!decide (how = "apart") || !off)
def told (ss:List Str):List Str:=srt (ddup ss)
def Ae (row plot:List Str):Bool:=decide (plot=told plot)&&plot.all (λx=>decide (x∈row))&&plot.all λx=>(dit row).all λy=>Bm (lieR row x y) (decide (y∈plot))
def trD (t:Str×Str×Str):PyData:=.tuple [.str t.1,.str t.2.1,.str t.2.2]
def Ee (row:List Str) (x y:Str):Bool:=decide (lieR row x y = "within")||(decide (lieR row x y = "apart")&&decide (ltS x y))
def bars (row:List Str):List (Str×Str×Str):=(dit row).flatMap λx=>((dit row).filter (Ee row x)).map λy=>(x,y,lieR row x y)
def Kc (bs:List (Str×Str×Str)) (plot:List Str):Bool:=bs.all λt => !(decide (t.1∈plot) && !decide (decide (t.2.1∈plot)=decide (t.2.2 = "within")))
def Kd (row plot:List Str):Bool:=decide (plot=(dit row).filter λy=>decide (y∈plot))&&Kc (bars row) plot
theorem Xjy{a b c e:Int}(h1:a<b)(h2:c<e)(n1:a≠c)(n2:a≠e)(n3:b≠c)(n4:b≠e)(h:lieT a b c e = "apart"):lieT c e a b = "apart" := by
 unfold lieT at h ⊢;rw[Pb (λz=>n1 z.1)] at h;rw[Pb (λz=>n1 z.1.symm)];have e1:=Br a b c e;have e2:=Br c e a b;generalize nIn a b [c,e]=p at *;generalize nIn c e [a,b]=q at *;by_cases p1:a<c/\c<b<;>by_cases p2:a<e/\e<b<;>by_cases q1:c<a/\a<e<;>by_cases q2:c<b/\b<e <;>
  (first | rw[Pc p1] at e1 | rw[Pb p1] at e1)<;>(first | rw[Pc p2] at e1 | rw[Pb p2] at e1) <;>
  (first | rw[Pc q1] at e2 | rw[Pb q1] at e2)<;>(first | rw[Pc q2] at e2 | rw[Pb q2] at e2)<;>subst e1 e2<;>first
  | (exfalso;omega)
  | rfl
  | (exfalso;revert h;decide +kernel)
theorem Xjz{row:List Str}{x y:Str}(hx:row.count x=2)(hy:row.count y=2)(h:lieR row x y = "apart"):lieR row y x = "apart" := by
 by_cases n:x=y
 ·subst n;exact h
 ·obtain⟨n1,n2,n3,n4⟩:=Ed hx hy n;exact Xjy (Bq hx) (Bq hy) n1 n2 n3 n4 h
theorem G3(row:List Str)(x:Str):lieR row x x = "same" := by
 unfold lieR lieT;rw[Pc ⟨rfl,rfl⟩]
theorem Ke{l:List Str}(h:l.Pairwise ltS):l.Pairwise leS:=h.imp λh=>Xio h
theorem Dv{l:List Str}(h:l.Pairwise ltS):l.Nodup:=h.imp λh=>Fp h
theorem Kf{l:List Str}(h:l.Nodup):(ddup l).Perm l:=Gw (Gn l) h (Xbx l)
theorem G4{l:List Str}(h:l.Pairwise ltS):told l=l:=Fq ((Dp _).trans (Kf (Dv h))) (Ew _) (Ke h)
theorem Kg(l:List Str):(told l).Pairwise ltS:=Cv l
theorem Xc2{l:List Str}{x:Str}:x∈told l↔x∈l:=Ak
theorem Xc3{row plot:List Str}:(plot=(dit row).filter λy=>decide (y∈plot))↔(plot=told plot/\∀x∈plot,x∈row):=by
 constructor
 ·intro h;have hp:plot.Pairwise ltS:=by
   rw[h];exact(Cv row).filter _
  refine⟨(G4 hp).symm,λx hx=>?_⟩;rw[h] at hx;exact Ak.mp (Lc.mp hx).1
 ·rintro ⟨h1,h2⟩;have hp:plot.Pairwise ltS:=by rw[h1];exact Kg plot
  have hq:((dit row).filter λy=>decide (y∈plot)).Pairwise ltS:=(Cv row).filter _;refine Fq (Gw (Dv hp) (Dv hq) λx=>?_) (Ke hp) (Ke hq);rw[Lc,decide_eq_true_eq,Ak];exact⟨λh=>⟨h2 x h,h⟩,λh=>h.2⟩
theorem G5{row:List Str}{t:Str×Str×Str}:t∈bars row↔t.1∈row/\t.2.1∈row/\Ee row t.1 t.2.1=true/\t.2.2=lieR row t.1 t.2.1:=by
 unfold bars;rw[List.mem_flatMap];constructor
 ·rintro ⟨x,hx,h⟩;obtain⟨y,hy,rfl⟩:=Lw.mp h;obtain⟨h1,h2⟩:=Lc.mp hy;exact⟨Ak.mp hx,Ak.mp h1,h2,rfl⟩
 ·rintro ⟨h1,h2,h3,h4⟩;refine⟨t.1,Ak.mpr h1,Lw.mpr ⟨t.2.1,Lc.mpr ⟨Ak.mpr h2,h3⟩,?_⟩⟩;rw[<-h4]
theorem Xj0{row plot:List Str}(h:∀y∈row,row.count y=2):Kd row plot=Ae row plot:=by
 unfold Kd Ae;by_cases hp:plot=(dit row).filter λy=>decide (y∈plot)
 ·obtain⟨p1,p2⟩:=Xc3.mp hp;have e1:plot.all (λx=>decide (x∈row))=true:=Lz.mpr λx hx=>Pd (p2 x hx);rw[Pd hp,Pd p1,e1,M7,M7];show Kc (bars row) plot=(true&&_);rw[M7,Mx];unfold Kc;rw[Lz,Lz];constructor
  ·intro hf x hx;rw[Lz];intro y hy;have hyr:=Ak.mp hy;unfold Bm;by_cases hw:lieR row x y = "within"
   ·rw[Pc hw];have:=hf (x,y,lieR row x y) (G5.mpr ⟨p2 x hx,hyr,by unfold Ee;rw[Pd hw];rfl,rfl⟩);simpa [hx,hw] using this
   ·rw[Pb hw];by_cases ha:lieR row x y = "apart"
    ·have hne:x≠y:=λz=>by
      rw[z,G3] at ha
      revert ha
      decide
     have ha2:=Xjz (h x (p2 x hx)) (h y hyr) ha;have key:y∉plot:=λhy2=>by
      rcases Jf x y with hle | hle
      ·have hlt:=ltS_of hle hne;have:=hf (x,y,lieR row x y) (G5.mpr ⟨p2 x hx,hyr,by unfold Ee;rw[Pd ha,Pd hlt,Om,Bool.or_true],rfl⟩);rw[ha] at this;simp[hx,hy2] at this
       revert this
       decide
      ·have hlt:=ltS_of hle (λz=>hne z.symm);have:=hf (y,x,lieR row y x) (G5.mpr ⟨hyr,p2 x hx,by unfold Ee;rw[Pd ha2,Pd hlt,Om,Bool.or_true],rfl⟩);rw[ha2] at this;simp[hx,hy2] at this
       revert this
       decide
     rw[Pe key];simp
    ·rw[Pe ha];rfl
  ·intro hf t ht;obtain⟨h1,h2,h3,h4⟩:=G5.mp ht;by_cases hx:t.1∈plot
   ·have:=hf t.1 hx;rw[Lz] at this;have:=this t.2.1 (Ak.mpr h2);rw[h4];unfold Bm at this;by_cases hw:lieR row t.1 t.2.1 = "within"
    ·rw[Pc hw] at this;simp[hw,Pf this]
    ·rw[Pb hw] at this;have ha:lieR row t.1 t.2.1 = "apart" := by
      unfold Ee at h3;rw[Pe hw,Bool.false_or,Ln] at h3;exact Pf h3.1
     rw[ha] at this;have hn:t.2.1∉plot:=by simpa using this
     have hne:¬(("apart" : Str) = "within"):=by decide
     simp[hn,ha,hne]
   ·simp[hx]
 ·rw[Pe hp,M4];by_cases p1:plot=told plot
  ·have:¬ ∀x∈plot,x∈row:=λp2=>hp (Xc3.mpr ⟨p1,p2⟩);have e1:plot.all (λx=>decide (x∈row))=false:=by
    rw[Oe];intro z;rw[Lz] at z;exact this λx hx=>Pf (z x hx)
   rw[e1,Bool.and_false,M4]
  ·rw[Pe p1,M4,M4]
theorem Kh{H:Hp}:∀{bs:List Bool} {xs:List V},DAll H (bs.map PyData.bool) xs->xs=bs.map V.bl
 | [],xs,h=>by unfold List.map DAll at h;exact h
 | s::ss,xs,h=>by
  rw[L5] at h;unfold DAll at h;obtain⟨v,r,rfl,h1,h2⟩:=h;unfold DAt at h1;rw[h1,Kh h2];rfl
theorem Xc4(a b:List Str)(h:PyData.tuple (a.map PyData.str)=PyData.tuple (b.map PyData.str)):a=b:=by
 injection h with h
 exact(N8 (λx y e=>by injection e)).mp h
theorem Xc5{ss:List Str}(h:∀y∈ss,okN y):Ch (ss.map PyData.str)=true:=plainAll_map PyData.str ss λx hx=>Xjr (h x hx)
theorem Dw{ss:List Str}(h:∀y∈ss,okN y):Bh (.tuple (ss.map PyData.str))=true:=Xc5 h
theorem Xj1{ss:List Str}(h:∀y∈ss,okN y):Bh (.list (ss.map PyData.str))=true:=Xc5 h
theorem F2:∀(ss:List Str),PyData.depthAll (ss.map PyData.str)=0
 | []=>rfl
 | s::ss=>by
  rw[L5];unfold PyData.depthAll;rw[F2 ss];rfl
theorem Xj2(a b:List Str):min (PyData.depth (.tuple (a.map PyData.str))) (PyData.depth (.tuple (b.map PyData.str)))<=3:=by
 have e:PyData.depth (.tuple (a.map PyData.str))=PyData.depthAll (a.map PyData.str)+1:=rfl;rw[e,F2];omega
theorem Ki{a b:List Str}(ha:∀y∈a,okN y)(hb:∀y∈b,okN y):PyData.eqv (.tuple (a.map PyData.str)) (.tuple (b.map PyData.str))=decide (a=b):=
 Xcp (λl:List Str=>PyData.tuple (l.map PyData.str)) Xc4 a b (Dw ha) (Dw hb)
theorem Ef{H:Hp}{p:Addr}{ss:List Str}(h:H p=some (.tup (ss.map V.str))):DAt H (.tuple (ss.map PyData.str)) (.ref p):=Jo h (Xco ss)
def spTold (K:PySem.W.Frag):Sp:=λvs H Q _=>∃(p:Addr) (ss:List Str),vs=[.ref p]/\(SqL K H p (ss.map V.str)\/SqT K H p (ss.map V.str))/\ss.length<=60 /\
 ∀l H',H l=none->H' l=some (.tup ((told ss).map V.str))->Same H H'->Q (.ref l) H'
def spAllows:Sp:=λvs H Q _=>∃(how:Str) (off:Bool),vs=[.str how,.bl off]/\Q (.bl (Bm how off)) H
def Kj:Sp:=λvs H Q _=>∃(r p:Addr) (row ss:List Str),vs=[.ref r,.ref p]/\H r=some (.lst (row.map V.str))/\Row2 row/\H p=some (.tup (ss.map V.str))/\(∀y∈ss,okN y)/\ss.length<=60 /\
 ∀H',Same H H'->Q (.bl (Ae row ss)) H'
abbrev NIp:List Str:=["row", "plot", "span"]
abbrev NI1:List Str:=["name", "span"]
abbrev NI2:List Str:=["name", "other", "plot", "span"]
theorem Spn.has{H:Hp}{kvs:List (Key×V)}{row:List Str}{x:Str}(s:Spn H kvs row (dit row)):(Ao kvs (Sum.inr x:Key)).isSome=decide (x∈row):=by
 by_cases hx:x∈row
 ·obtain⟨l,h1,_⟩:=s.val x (Ak.mpr hx);rw[h1,Pd hx];rfl
 ·rw[Pe hx];cases e:Ao kvs (Sum.inr x:Key) with
  | none=>rfl
  | some v=>
   exfalso;have:=Gi e;rw[s.keys] at this;obtain⟨y,hy,e2⟩:=Lw.mp this;rw[Nq e2] at hy;exact hx (Ak.mp hy)
theorem Xc6{ss:List Str}(h:∀y∈ss,okN y):∀y∈told ss,okN y:=λy hy=>h y (Xc2.mp hy)
theorem Xj3{α : Type}(d : α)(p : α->Bool)(xs:List α):((List.range xs.length).map λi=>p (xs.getD i d)).any id=xs.any p:=by
 have e:(List.range xs.length).map (λi=>p (xs.getD i d))=xs.map p:=by
  have:=Cw d (λ_=>true) xs;rw[Lv.mpr (λ_ _=>rfl),Lv.mpr (λ_ _=>rfl)] at this
  conv=>rhs;rw[<-this]
  rw[L9];rfl
 rw[e,List.any_map];rfl
theorem Xc7{α : Type}(f : α->List Bool):∀(xs:List α),(xs.flatMap f).all id=xs.all λx=>(f x).all id
 | []=>rfl
 | x::xs=>by
  rw[N0,List.all_append,O5,Xc7 f xs]
theorem Xj4{α β : Type}(d : α)(f : α->List β)(xs:List α):(List.range xs.length).flatMap (λi=>f (xs.getD i d))=xs.flatMap f:=by
 have this:=Cw d (λ_=>true) xs;rw[Lv.mpr (λ_ _=>rfl),Lv.mpr (λ_ _=>rfl)] at this
 conv=>rhs;rw[<-this]
 rw[List.flatMap_map]
end SH
namespace L2
open PySem PySem.Spec PyProof.Rows
theorem Xj5{X:Cx}{o e:Expr}{es:List Expr}{to:TE}{t:TA}{name:Str}{apos cpos:Pos}{T id:String}{r:V->List V->Hp->VK->Prop}(K:PySem.W.Frag)(hK:X.K=K)(pa:PlainAttrs T)(slot:Slot T name id)(hty:typeOf (.builtin id)=pure (.type "method_descriptor"))(hm:MtR X id r)(ho:PE X o to)(ha:PA X (e::es) t)
  (hbase:attributeBase o name X.env (eval o X.env)=eval o X.env:=by rfl)
  (hfew:((backTo cpos (starEach (e::es) X.env)).all (λx => !x.1)&&(backToKw cpos (keywordEach [] X.env)).all (λx=>x.1.isSome)
   && decide ((e::es).length+([]:List Keyword).length+(if ([]:List Keyword).isEmpty then 0 else 1)<30))=true:=by rfl)
  (hline:(apos.endLine==cpos.line)=true:=by rfl) (hs:starEach (e::es) X.env=(false,eval e X.env)::starEach es X.env:=by rfl) (hplain:(backTo cpos (starEach es X.env)).any (·.1)=false:=by rfl):
  PE X (.Call (.Attribute o name apos) (e::es) [] cpos) (tBM K T r to t):=by
 subst hK;exact Fe pa slot hty hm ho ha hbase hfew hline hs hplain
def Xj6 (K:PySem.W.Frag) (i:Nat):TE:=fun σ H Q=>∃v, σ[i]? = some (some v)/\∃p ss,v = .ref p/\(SqL K H p (ss.map V.str)\/SqT K H p (ss.map V.str))/\ss.length<=60/\∀l H',H l=none->H' l=some (.lst ((dit ss).map V.str))->Same H H'->Q (.ref l) H'
theorem Xj7{X:Cx}{i:Nat}{x:Str}{pos p1 p2 q1 q2:Pos}(hc:X.calm=true)(hg1:Gl X "sorted")(hm1:X.mg "sorted" = none)(hg2:Gl X "set")(hm2:X.mg "set" = none)(hv:PE X (.Name x pos) (Hq i))
  (h1:starEach [.Call (.Name "set" p2) [.Name x pos] [] q2] X.env=[(false,eval (.Call (.Name "set" p2) [.Name x pos] [] q2) X.env)]:=by rfl) (h2:starEach [.Name x pos] X.env=[(false,eval (.Name x pos) X.env)]:=by rfl):
  PE X (.Call (.Name "sorted" p1) [.Call (.Name "set" p2) [.Name x pos] [] q2] [] q1) (Xj6 X.K i):=by
 intro pins s σ H Q I h;obtain⟨v,hv1,p,ss,ev,hq,hl,k⟩:=h;refine(Be (Gq hc) hg1 hm1 (by rfl) (Aa (C3 (Fo hc) hg2 hm2 (by rfl) (Aa hv Ac) (by decide) (by decide) h2) Ac) (by decide) (by decide) h1) pins s σ H Q I ?_;refine⟨v,hv1,p,ss,by rw[ev],hq,by unfold scanBound;omega,λa na=>?_⟩;have hdl:=Fm ss;refine⟨a,ddup ss,rfl,Ab,by omega,λl ls nl hp hs=>?_⟩;rw[Gu hp hs];have s1:Same H (upd H a (Dn X.prog X.w a (ddup ss))):=(Same.refl H).step na;exact k l _ (s1.free nl) Ab (s1.step nl)
end L2
namespace SH
open PySem PySem.Spec PyProof.Rows L2
def Ax (ss:List Str) (x:Str):List Str:=srt (ss.filter (λy=>decide (y≠x))++(if x∈ss then [] else [x]))
def Xon (row:List Str) (x:Str) (ys:List Str):List (Str×Str×Str):=(ys.filter (Ee row x)).map λy=>(x,y,lieR row x y)
abbrev NFl1:List Str:=["_law_one", "_law_name"]
abbrev NFi:List Str:=["_law_bars_here", "_law_plot", "_law_one", "_law_other", "_law_word_here"]
abbrev NBr:List Str:=["_law_row_here", "_law_where_here", "_law_told", "_law_one", "_law_other", "_law_word_here"]
def spAskPlot (C:Addr):Sp:=λvs H Q E=>∃(r p:Addr) (row ss:List Str),vs=[.ref r,.ref p]/\H r=some (.lst (row.map V.str))/\Row2 row/\H p=some (.tup (ss.map V.str))/\(∀y∈ss,okN y)/\ss.length<=24 /\
 (Ae row ss=true->∀H',Same H H'->Q .non H')/\(Ae row ss=false->∀H',Same H H'->E (.ref C) none H')
theorem Xj8{ss:List Str}(h:∀y∈ss,okN y):∀z∈ss,z.length<=20/\∀c∈z.cps.toList,c<16 ^ 8:=λz hz=>⟨(h z hz).1,λc hc=>Np ((h z hz).2 c hc) (by decide)⟩
theorem DrawOk.ntup{H:Hp}{dr sc:Addr}(d:DrawOk H dr sc):∀q ys,H q=some (.tup ys)->q≠dr:=λq ys e z=>by
 obtain⟨xs,h⟩:=d.at;rw[z,h] at e;cases e
def mid (row:List Str) (x:Str):List Str:=((row.dropWhile λy=>decide (y≠x)).tail).takeWhile λy=>decide (y≠x)
theorem Xc8{x y:Str}{r:List Str}(h:x∉y::r):decide (y≠x)=true:=by
 have:y≠x:=λe=>h (by rw[e];exact Ld);simpa using this
theorem Xj9{A R:List Str}{x:Str}(h:x∉A):(A++x::R).dropWhile (λy=>decide (y≠x))=x::R:=by
 induction A with
 | nil=>rw[N9,Nb,Pb (by simp)]
 | cons y r ih=>
  rw[List.cons_append,Nb,Pc (Xc8 h)];exact ih λz=>h (Lb _ z)
theorem Xka{A R:List Str}{x:Str}(h:x∉A):(A++x::R).takeWhile (λy=>decide (y≠x))=A:=by
 induction A with
 | nil=>rw[N9,Nc,Pb (by simp)]
 | cons y r ih=>
  rw[List.cons_append,Nc,Pc (Xc8 h)];rw[ih λz=>h (Lb _ z)]
theorem Kk{A B C:List Str}{x:Str}(hA:x∉A)(hB:x∉B):mid (A++x::(B++x::C)) x=B:=by
 unfold mid;rw[Xj9 hA,List.tail_cons,Xka hB]
theorem split1{x:Str}:∀{row:List Str},x∈row->∃A R,row=A++x::R/\x∉A:=by
 intro row
 induction row with
 | nil=>intro h;cases h
 | cons y r ih=>
  intro h;by_cases e:x=y
  ·exact⟨[],r,by rw[e];rfl,by simp⟩
  ·obtain⟨A,R,h1,h2⟩:=ih ((Lk.mp h).resolve_left e);exact⟨y::A,R,by rw[h1];rfl,λz=>(Lk.mp z).elim e h2⟩
theorem split2{row:List Str}{x:Str}(h:row.count x=2):∃A B C,row=A++x::(B++x::C)/\x∉A/\x∉B/\x∉C:=by
 obtain⟨A,R,h1,h2⟩:=split1 (Oz.mp (by omega:0<row.count x));rw[h1,M8,Nh.mpr h2,N3] at h;have hR:R.count x=1:=by omega
 obtain⟨B,C,h3,h4⟩:=split1 (Oz.mp (by omega:0<R.count x));rw[h3,M8,Nh.mpr h4,N3] at hR;exact⟨A,B,C,by rw[h1,h3],h2,h4,Nh.mp (by omega)⟩
theorem F3(x:Str):∀(n:Nat) (l r:List Str),Az x n (l++r)=Az x n l++Az x (n+l.length) r
 | n,[],r=>rfl
 | n,y::l,r=>by
  have ih:=F3 x (n+1) l r;have e:n+(y::l).length=n+1+l.length:=by rw[Lp];omega
  rw[e];show (if y=x then (n:Int)::Az x (n+1) (l++r) else Az x (n+1) (l++r))=(if y=x then (n:Int)::Az x (n+1) l else Az x (n+1) l)++_;rw[ih];split<;>rfl
theorem G6(x:Str):∀(n:Nat) (l:List Str),∀i∈Az x n l,(n:Int)<=i/\i<n+l.length
 | n,[]=>λi h=>by cases h
 | n,y::l=>λi h=>by
  have ih:=G6 x (n+1) l;have h':i=n\/i∈Az x (n+1) l:=by
   change i∈(if y=x then (n:Int)::Az x (n+1) l else Az x (n+1) l) at h;split at h
   ·exact Lk.mp h
   ·exact .inr h
  rw[Lp];rcases h' with rfl | h'
  ·omega
  ·have:=ih i h';omega
theorem G7{x:Str}:∀(n:Nat) (l:List Str),x∉l->Az x n l=[]
 | _,[],_=>rfl
 | n,y::l,h=>by
  show (if y=x then (n:Int)::Az x (n+1) l else Az x (n+1) l)=[];rw[Pb (λe=>h (by rw[e];exact Ld))];exact G7 _ _ λz=>h (Lb _ z)
theorem Xkb{row:List Str}{x y:Str}(hx:row.count x=2)(n:x≠y):nIn (pl row x).1 (pl row x).2 (plc row y)=(mid row x).count y:=by
 obtain⟨A,B,C,e,hA,hB,hC⟩:=split2 hx;have ex:plc row x=[(A.length:Int),((A.length+1+B.length:Nat):Int)]:=by
  unfold plc;rw[e,F3,G7 _ _ hA];show []++(if x=x then _ else _)=_;rw[Pc rfl,F3,G7 _ _ hB];show []++(_::([]++(if x=x then _ else _)))=_;rw[Pc rfl,G7 _ _ hC];simp
 have ey:plc row y=Az y 0 A++(Az y (A.length+1) B++Az y (A.length+1+B.length+1) C):=by
  unfold plc;rw[e,F3];show _++(if x=y then _ else _)=_;rw[Pb n,F3];show _++(_++(if x=y then _ else _))=_;rw[Pb n];simp
 rw[Xc1 ex,ey];unfold nIn inn;rw[Ls,Ls];have e1:(Az y 0 A).filter (λt=>decide ((A.length:Int)<t)&&decide (t<((A.length+1+B.length:Nat):Int)))=[]:=by
  rw[Nd];intro i hi;have:=G6 y 0 A i hi;simp;intro;omega
 have e2:(Az y (A.length+1) B).filter (λt=>decide ((A.length:Int)<t)&&decide (t<((A.length+1+B.length:Nat):Int)))=Az y (A.length+1) B:=by
  rw[Lv];intro i hi;have:=G6 y (A.length+1) B i hi;simp;omega
 have e3:(Az y (A.length+1+B.length+1) C).filter (λt=>decide ((A.length:Int)<t)&&decide (t<((A.length+1+B.length:Nat):Int)))=[]:=by
  rw[Nd];intro i hi;have:=G6 y _ C i hi;simp;intro;omega
 rw[e1,e2,e3,N9,Mj,G2];rw[e,Kk hA hB]
def Av (row:List Str) (x y:Str):Prop:=lieR row x y = "cross"
instance (row:List Str) (x y:Str):Decidable (Av row x y):=inferInstanceAs (Decidable (_=_))
theorem Kl{a b c e:Int}:Cz a b c e false = "cross" ↔ nIn a b [c,e]=1:=by
 unfold Cz;have e3:(inn a b [c,e]).length=nIn a b [c,e]:=rfl;have h2:(inn a b [c,e]).length<=2:=Jz a b [c,e];rw[e3] at *;generalize nIn a b [c,e]=q at *
 match q,h2 with
 | 0,_=>
  rw[Pb (by decide)];split<;>decide
 | 1,_=>rw[Pc (by decide)];decide
 | 2,_=>rw[Pc (by decide)];decide
theorem G8{row:List Str}{x y:Str}(hx:row.count x=2)(hy:row.count y=2)(n:x≠y):Av row x y↔(mid row x).count y=1:=by
 unfold Av;rw[Fz hx hy,Pe n,Kl,<-E3 hy,Xkb hx n]
theorem Dx{row:List Str}{x:Str}(hx:row.count x=2):¬Av row x x:=by
 unfold Av lieR lieT;rw[Pc ⟨rfl,rfl⟩];decide
theorem C0{row:List Str}{x y:Str}(hx:row.count x=2)(hy:row.count y=2)(h:Av row x y):Av row y x:=by
 by_cases n:x=y
 ·subst n;exact h
 ·obtain⟨n1,n2,n3,n4⟩:=Ed hx hy n;unfold Av at *;rw[Fz hx hy,Pe n,Kl,Br] at h;rw[Fz hy hx,Pe (λe=>n e.symm),Kl,Br];have l1:=Bq hx;have l2:=Bq hy;generalize (pl row x).1=a at *;generalize (pl row x).2=b at *;generalize (pl row y).1=c at *;generalize (pl row y).2=e at *;by_cases p1:a<c/\c<b<;>by_cases p2:a<e/\e<b<;>by_cases q1:c<a/\a<e<;>by_cases q2:c<b/\b<e <;>
  (first | rw[Pc p1] at h | rw[Pb p1] at h)<;>(first | rw[Pc p2] at h | rw[Pb p2] at h) <;>
  (first | rw[Pc q1] | rw[Pb q1])<;>(first | rw[Pc q2] | rw[Pb q2])<;>omega
theorem Xc9{x:Str}{p:Str->Bool}(h:p x=true):∀row:List Str,mid (row.filter p) x=(mid row x).filter p:=by
 have tk:∀l:List Str,(l.filter p).takeWhile (λy=>decide (y≠x))=(l.takeWhile λy=>decide (y≠x)).filter p:=by
  intro l
  induction l with
  | nil=>rfl
  | cons y r ih=>
   by_cases e:y=x
   ·subst e;rw[L7,Pc h,Nc,Pb (by simp),Nc,Pb (by simp)];rfl
   ·rw[Nc,Pc (Pd e),L7,L7];by_cases q:p y=true
    ·rw[Pc q,Pc q,Nc,Pc (Pd e),ih]
    ·rw[Pb q,Pb q,ih]
 intro row;unfold mid;rw[<-tk];congr 1
 induction row with
 | nil=>rfl
 | cons y r ih=>
  by_cases e:y=x
  ·subst e;rw[L7,Pc h,Nb,Pb (by simp),Nb,Pb (by simp)];rfl
  ·rw[Nb,Pc (Pd e),<-ih,L7];by_cases q:p y=true
   ·rw[Pc q,Nb,Pc (Pd e)]
   ·rw[Pb q]
theorem Xkc{row row':List Str}{x y:Str}(hx:row.count x=2)(hy:row.count y=2)(hx':row'.count x=2)(hy':row'.count y=2)
  (e:row.filter (λz=>decide (z=x\/z=y))=row'.filter (λz=>decide (z=x\/z=y))):Av row x y↔Av row' x y:=by
 by_cases n:x=y
 ·subst n;exact⟨λh=>absurd h (Dx hx),λh=>absurd h (Dx hx')⟩
 ·rw[G8 hx hy n,G8 hx' hy' n];have h1:∀r:List Str,(mid r x).count y=(mid (r.filter λz=>decide (z=x\/z=y)) x).count y:=λr=>by
   rw[Xc9 (by simp),List.count_filter (by simp)]
  rw[h1 row,h1 row',e]
def Bs (row:List Str):Prop:=∀x∈row,∀y∈row,∀z∈row,Av row x y->Av row x z->¬Av row y z
theorem Xkd:Bs []:=λx h=>by cases h
theorem Xda{row more:List Str}{x:Str}(h:Bs row)(h2:∀y∈row,row.count y=2)(h2':∀y∈more,more.count y=2)(hin:∀y∈more,y=x\/y∈row)
  (hf:∀p:Str->Bool,p x=false->more.filter p=row.filter p) (hb:∀y∈more,∀z∈more,Av more x y->Av more x z->¬Av more y z):Bs more:=by
 intro a ha b hb' c hc k1 k2 k3;have s12:=C0 (h2' a ha) (h2' b hb') k1;have s13:=C0 (h2' a ha) (h2' c hc) k2;have s23:=C0 (h2' b hb') (h2' c hc) k3;by_cases ea:a=x
 ·subst ea;exact hb b hb' c hc k1 k2 k3
 by_cases eb:b=x
 ·subst eb;exact hb a ha c hc s12 k3 k2
 by_cases ec:c=x
 ·subst ec;exact hb a ha b hb' s13 s23 k1
 have ra:=(hin a ha).resolve_left ea;have rb:=(hin b hb').resolve_left eb;have rc:=(hin c hc).resolve_left ec;have go:∀u v:Str,u≠x->v≠x->u∈row->v∈row->u∈more->v∈more->Av more u v->Av row u v:=λu v nu nv hu hv mu mv k=>
  (Xkc (h2' u mu) (h2' v mv) (h2 u hu) (h2 v hv) (hf _ (by
   rw[decide_eq_false_iff_not];rintro (e | e)
   ·exact nu e.symm
   ·exact nv e.symm))).mp k
 exact h a ra b rb c rc (go a b ea eb ra rb ha hb' k1) (go a c ea ec ra rc ha hc k2) (go b c eb ec rb rc hb' hc k3)
theorem Xke{row:List Str}{x:Str}{a b:Nat}(hab:a<=b){p:Str->Bool}(h:p x=false):(Du row x a b).filter p=row.filter p:=by
 unfold Du;have e:row=row.take a++((row.drop a).take (b - a)++row.drop b):=by
  have e1:row.drop b=(row.drop a).drop (b - a):=by rw[List.drop_drop];congr 1;omega
  rw[e1,Mh,Mh]
 conv=>rhs;rw[e]
 simp[Ls,L7,h]
theorem Xkf{A C:List Str}{x y:Str}(hx:(A++[x,x]++C).count x=2)(hy:(A++[x,x]++C).count y=2):¬Av (A++[x,x]++C) x y:=by
 by_cases n:x=y
 ·subst n;exact Dx hx
 ·rw[G8 hx hy n];have hA:x∉A:=by
   rw[<-Nh];rw[M8,M8,N3,N3] at hx;omega
  have e:A++[x,x]++C=A++x::([]++x::C):=by simp
  rw[e,Kk hA (by simp)];simp
theorem Xkg{row:List Str}{x:Str}{a:Nat}{p:Str->Bool}(h:p x=false):(row.take a++[x,x]++row.drop a).filter p=row.filter p:=by
 simp[Ls,L7,h];rw[<-Ls,Mh]
theorem Xdb{F:List Str}{x y:Str}(hF:F.Nodup)(hx:x∈F)(n:x≠y):(mid (F++F.reverse) x).count y≠1:=by
 obtain⟨A,B,rfl,hA⟩:=split1 hx;have hB:x∉B:=by
  have h1:=(Mr.mp hF).2.1;exact(Ma.mp h1).1
 have e:(A++x::B)++(A++x::B).reverse=A++x::((B++B.reverse)++x::A.reverse):=by simp
 rw[e,Kk hA (by simp[hB]),M8,List.count_reverse];omega
theorem Dy{ns:List Str}(hn:ns.Nodup)(c:Nat){x y:Str}(h2:∀z∈ns,(ns++(ns.take c).reverse++(ns.drop c).reverse).count z=2)
  (h:(x∈ns.take c/\y∈ns.take c)\/(x∈ns.drop c/\y∈ns.drop c)):¬Av (ns++(ns.take c).reverse++(ns.drop c).reverse) x y:=by
 have sub:(∀z,z∈ns.take c->z∈ns)/\∀z,z∈ns.drop c->z∈ns:=⟨λz=>List.mem_of_mem_take,λz=>Oj⟩;have hx:x∈ns:=h.elim (λz=>sub.1 _ z.1) λz=>sub.2 _ z.1;have hy:y∈ns:=h.elim (λz=>sub.1 _ z.2) λz=>sub.2 _ z.2;by_cases n:x=y
 ·subst n;exact Dx (h2 x hx)
 rw[G8 (h2 x hx) (h2 y hy) n];have key:(mid (ns++(ns.take c).reverse++(ns.drop c).reverse) x).count y=(mid ((ns++(ns.take c).reverse++(ns.drop c).reverse).filter λz=>decide (z=x\/z=y)) x).count y:=by
  rw[Xc9 (by simp),List.count_filter (by simp)]
 rw[key];have dj:∀z,z∈ns.take c->z∈ns.drop c->False:=by
  have:=hn;rw[<-Mh c ns] at this;intro z h1 h2;exact(Mr.mp this).2.2 z h1 z h2 rfl
 have e0:ns.filter (λz=>decide (z=x\/z=y))=(ns.take c).filter (λz=>decide (z=x\/z=y))++(ns.drop c).filter (λz=>decide (z=x\/z=y)):=by
  rw[<-Ls,Mh]
 rw[Ls,Ls,e0,List.filter_reverse,List.filter_reverse];rcases h with ⟨h1,h2⟩ | ⟨h1,h2⟩
 ·have e:(ns.drop c).filter (λz=>decide (z=x\/z=y))=[]:=by
   rw[Nd];intro z hz q;rcases Pf q with q | q
   ·exact dj x h1 (q ▸ hz)
   ·exact dj y h2 (q ▸ hz)
  rw[e,Mj,List.reverse_nil,Mj];exact Xdb ((hn.sublist (Nj ..)).filter _) (Lc.mpr ⟨h1,by simp⟩) n
 ·have e:(ns.take c).filter (λz=>decide (z=x\/z=y))=[]:=by
   rw[Nd];intro z hz q;rcases Pf q with q | q
   ·exact dj x (q ▸ hz) h1
   ·exact dj y (q ▸ hz) h2
  rw[e,N9,List.reverse_nil,Mj];exact Xdb ((hn.sublist (List.drop_sublist ..)).filter _) (Lc.mpr ⟨h1,by simp⟩) n
theorem noThree_grid{ns:List Str}(hn:ns.Nodup)(c:Nat)(h2:∀z∈ns,(ns++(ns.take c).reverse++(ns.drop c).reverse).count z=2):Bs (ns++(ns.take c).reverse++(ns.drop c).reverse):=by
 have mem:∀z,z∈ns++(ns.take c).reverse++(ns.drop c).reverse->z∈ns.take c\/z∈ns.drop c:=by
  intro z hz;rw[<-Ll,Mh];simp only[Ll,List.mem_reverse] at hz;rcases hz with (h | h) | h
  ·exact h
  ·exact List.mem_of_mem_take h
  ·exact Oj h
 intro x hx y hy z hz k1 k2 k3;rcases mem x hx with a | a<;>rcases mem y hy with b | b<;>rcases mem z hz with d | d
 ·exact Dy hn c h2 (.inl ⟨a,b⟩) k1
 ·exact Dy hn c h2 (.inl ⟨a,b⟩) k1
 ·exact Dy hn c h2 (.inl ⟨a,d⟩) k2
 ·exact Dy hn c h2 (.inr ⟨b,d⟩) k3
 ·exact Dy hn c h2 (.inl ⟨b,d⟩) k3
 ·exact Dy hn c h2 (.inr ⟨a,d⟩) k2
 ·exact Dy hn c h2 (.inr ⟨a,b⟩) k1
 ·exact Dy hn c h2 (.inr ⟨a,b⟩) k1
def spBarredN:Sp:=λvs H Q _=>∃(r:Addr) (row:List Str) (x:Str),vs=[.ref r,.str x]/\H r=some (.lst (row.map V.str))/\row.length<=1000/\(∀y∈row,row.count y=2)/\x∈row /\
 ∀b H',(b=false->∀y∈row,∀z∈row,Av row x y->Av row x z->¬Av row y z)->Same H H'->Q (.bl b) H'
def spRowN:Sp:=λvs H Q _=>∃(dr sc nl:Addr) (ns:List Str),vs=[.ref dr,.ref nl]/\DrawOk H dr sc/\H nl=some (.lst (ns.map V.str))/\nl≠dr/\ns.Nodup/\ns.length<=14 /\
 ∀(l:Addr) (row:List Str) (H':Hp),H l=none->H' l=some (.lst (row.map V.str))->row.Perm (ns++ns)->Bs row->DrawOk H' dr sc->But dr H H'->Q (.ref l) H'
def spIslandN:Sp:=λvs H Q _=>∃(dr sc:Addr) (m:Nat),vs=[.ref dr,.int m]/\m<=14/\DrawOk H dr sc /\
 ∀(l:Addr) (row:List Str) (n st:Nat) (late:Bool) (H':Hp),H l=none->n<=m->st<26->H' l=some (.lst (row.map V.str))->row.Perm (Bd st late n++Bd st late n)->Bs row->DrawOk H' dr sc->But dr H H'->Q (.ref l) H'
theorem Xdc{p:Prop}{_:Decidable p}(h:decide p=false):¬p:=Pg h
theorem Wh.pl{H:Hp}{kvs:List (Key×V)}{row:List Str}{x:Str}(w:Wh H kvs row)(hx:x∈row)(h:row.count x=2):∃l,Ao kvs (Sum.inr x:Key)=some (.ref l)/\H l=some (.lst [.int (pl row x).1,.int (pl row x).2]):=by
 obtain⟨l,h1,h2⟩:=w.val x hx;rw[E3 h] at h2;exact⟨l,h1,h2⟩
def deg2 {α : Type} (R : α -> α->Bool) (l:List α):Nat:=(l.map λx=>l.countP (R x)).sum
theorem Xkh{a b:List Nat}(p:a.Perm b):a.sum=b.sum:=by
 induction p with
 | nil=>rfl
 | cons x _ ih=>simp[ih]
 | swap x y l=>simp;omega
 | trans _ _ h1 h2=>exact h1.trans h2
theorem Xki{α : Type}{R : α -> α->Bool}{a b:List α}(p:a.Perm b):deg2 R a=deg2 R b:=by
 unfold deg2;have e:(a.map λx=>a.countP (R x))=a.map λx=>b.countP (R x):=Mo λx _=>p.countP_eq _;rw[e];exact Xkh (p.map _)
theorem Eg{α : Type}(f g : α->Nat):∀l:List α,(l.map λx=>f x+g x).sum=(l.map f).sum+(l.map g).sum
 | []=>rfl
 | x::r=>by simp[Eg f g r];omega
theorem Dc{α : Type}(p : α->Bool):∀l:List α,(l.map λx=>if p x=true then 1 else 0).sum=l.countP p
 | []=>rfl
 | x::r=>by
  rw[L5,N1,Dc p r,Mn];omega
theorem Xdd{α : Type}:∀l:List α,(l.map λ_=>0).sum=0
 | []=>rfl
 | _::r=>by rw[L5,N1,Xdd r]
theorem mantel{α : Type}[DecidableEq α]{R : α -> α->Bool}:∀(n:Nat) (l:List α),l.length=n->l.Nodup->(∀x∈l,R x x=false)->(∀x∈l,∀y∈l,R x y=R y x) ->
  (∀x∈l,∀y∈l,∀z∈l,R x y=true->R x z=true->R y z=false)->2 * deg2 R l<=n * n:=by
 intro n
 induction n using Nat.strongRecOn with
 | ind n ih=>
  intro l hl nd irr sy tri;by_cases h:∃u∈l,∃v∈l,R u v=true
  ·obtain⟨u,hu,v,hv,huv⟩:=h;have nuv:u≠v:=λe=>by subst e;rw[irr u hu] at huv;cases huv
   have p1:l.Perm (u::l.erase u):=List.perm_cons_erase hu;have hv':v∈l.erase u:=(List.mem_erase_of_ne nuv.symm).mpr hv;have p2:l.Perm (u::v::(l.erase u).erase v):=p1.trans (List.Perm.cons u (List.perm_cons_erase hv'));generalize (l.erase u).erase v=r at p2;have hlen:=p2.length_eq;simp only[Lp] at hlen;have nd':=p2.nodup_iff.mp nd;have mr:∀x∈r,x∈l:=λx hx=>p2.mem_iff.mpr (Lb _ (Lb _ hx));have ndr:r.Nodup:=(Ma.mp (Ma.mp nd').2).2;have ihr:=ih r.length (by omega) r rfl ndr (λx hx=>irr x (mr x hx)) (λx hx y hy=>sy x (mr x hx) y (mr y hy)) (λx hx y hy z hz=>tri x (mr x hx) y (mr y hy) z (mr z hz));have e:deg2 R l=2+2 * (r.countP (R u)+r.countP (R v))+deg2 R r:=by
    rw[Xki p2];unfold deg2;rw[L5,L5,N1,N1];have ef:(r.map λx=>(u::v::r).countP (R x))=r.map λx=>((if R u x=true then 1 else 0)+(if R v x=true then 1 else 0))+r.countP (R x):=by
     refine Mo λx hx=>?_;rw[Mn,Mn,sy x (mr x hx) u hu,sy x (mr x hx) v hv];omega
    rw[ef,Eg,Eg,Dc,Dc,Mn,Mn,Mn,Mn,irr u hu,irr v hv,huv,sy v hv u hu,huv];simp;omega
   have le:r.countP (R u)+r.countP (R v)<=r.length:=by
    rw[<-Dc (R u),<-Dc (R v),<-Eg];have:∀m:List α,(∀x∈m,x∈l)->(m.map λx=>(if R u x=true then 1 else 0)+(if R v x=true then 1 else 0)).sum<=m.length:=by
     intro m
     induction m with
     | nil=>intro _;exact K9 _
     | cons x t iht=>
      intro hm;have h1:=iht λy hy=>hm y (Lb _ hy);have hx:=hm x Ld;have h2:(if R u x=true then 1 else 0)+(if R v x=true then 1 else 0)<=1:=by
       by_cases a:R u x=true
       ·have:=tri u hu v hv x hx huv a;rw[this,Pc a];decide
       ·rw[Pb a];split<;>decide
      rw[L5,N1,Lp];omega
    exact this r mr
   have hn:n=r.length+2:=by omega
   rw[e,hn];have:(r.length+2) * (r.length+2)=r.length * r.length+4 * r.length+4:=by
    rw[Nat.add_mul,Nat.mul_add];omega
   rw[this];omega
  ·have z:deg2 R l=0:=by
    unfold deg2;have:(l.map λx=>l.countP (R x))=l.map λ_=>0:=by
     refine Mo λx hx=>?_;rw[List.countP_eq_zero];intro y hy q;exact h ⟨x,hx,y,hy,q⟩
    rw[this];exact Xdd l
   rw[z];exact L6 _
theorem Xde{α β : Type}(p : α -> β->Bool)(m:List β):∀l:List α,(l.map λx=>m.countP (p x)).sum=(m.map λy=>l.countP λx=>p x y).sum
 | []=>by
  show 0=_
  induction m with
  | nil=>rfl
  | cons y r ih=>rw[L5,N1,<-ih];rfl
 | x::l=>by
  rw[L5,N1,Xde p m l];have e:(m.map λy=>(x::l).countP λx=>p x y)=m.map λy=>(if p x y=true then 1 else 0)+l.countP λx=>p x y:=by
   refine Mo λy _=>?_;rw[Mn];omega
  rw[e,Eg,Dc]
theorem Xkj{row:List Str}(h2:∀y∈row,row.count y=2):2 * (crs row).length=deg2 (λx y=>decide (Av row x y)) (dit row):=by
 have e:(crs row).length=((dit row).map λx=>(dit row).countP λy=>decide (ltS x y)&&decide (Av row x y)).sum:=by
  unfold crs;rw[List.length_flatMap];congr 1;refine Mo λx _=>?_;rw[K8,List.countP_eq_length_filter];rfl
 have e2:=Xde (λx y=>decide (ltS x y)&&decide (Av row x y)) (dit row) (dit row);have e3:2 * (crs row).length=((dit row).map λx=>(dit row).countP λy=>decide (ltS x y)&&decide (Av row x y)).sum+((dit row).map λy=>(dit row).countP λx=>decide (ltS x y)&&decide (Av row x y)).sum:=by
  rw[<-e2,e];omega
 rw[e3,<-Eg];unfold deg2;congr 1;refine Mo λx hx=>?_;rw[<-Dc,<-Dc,<-Dc,<-Eg];congr 1;refine Mo λy hy=>?_;have hx':=Ak.mp hx;have hy':=Ak.mp hy;by_cases c:Av row x y
 ·have c':=C0 (h2 x hx') (h2 y hy') c;have n:x≠y:=λe=>by subst e;exact Dx (h2 x hx') c
  by_cases l:ltS x y
  ·have l':¬ltS y x:=λq=>Gr x (Gs l q);simp[c,c',l,l']
  ·have l':ltS y x:=ltS_of (Jg.mp l) n.symm;simp[c,c',l,l']
 ·have c':¬Av row y x:=λq=>c (C0 (h2 y hy') (h2 x hx') q);simp[c,c']
theorem Xkk{row:List Str}(h2:∀y∈row,row.count y=2)(h3:Bs row)(hl:(dit row).length<=14):(crs row).length<=49:=by
 have m:=mantel (R:=λx y=>decide (Av row x y)) (dit row).length (dit row) rfl (Eb row) (λx hx=>Pe (Dx (h2 x (Ak.mp hx))))
  (λx hx y hy=>by
   by_cases c:Av row x y
   ·rw[Pd c,Pd (C0 (h2 x (Ak.mp hx)) (h2 y (Ak.mp hy)) c)]
   ·rw[Pe c,Pe λq=>c (C0 (h2 y (Ak.mp hy)) (h2 x (Ak.mp hx)) q)])
  (λx hx y hy z hz a b=>Pe (h3 x (Ak.mp hx) y (Ak.mp hy) z (Ak.mp hz) (Pf a) (Pf b)))
 rw[<-Xkj h2] at m;have:(dit row).length * (dit row).length<=14 * 14:=Nat.mul_le_mul hl hl;omega
def upB (row:List Str) (x y:Str):Bool:=decide (y=x)||decide (lieR row x y = "within")
def span (row:List Str) (x:Str):Nat:=((pl row x).2 - (pl row x).1).toNat
theorem Xkl(a b c e:Int):lieT a b c e = "same" \/ lieT a b c e = "cross" \/ lieT a b c e = "within" \/ lieT a b c e = "around" \/ lieT a b c e = "apart" := by
 unfold lieT;split
 ·exact .inl rfl
 ·split
  ·exact .inr (.inl rfl)
  ·split
   ·exact .inr (.inr (.inl rfl))
   ·split
    ·exact .inr (.inr (.inr (.inl rfl)))
    ·exact .inr (.inr (.inr (.inr rfl)))
theorem Xkm{row:List Str}{x y:Str}(hx:row.count x=2)(hy:row.count y=2)(n:x≠y)(h:lieR row x y = "around"):span row y<span row x:=by
 obtain⟨n1,n2,n3,n4⟩:=Ed hx hy n;have l1:=Bq hx;have l2:=Bq hy;unfold span;unfold lieR lieT at h;rw[Pb (λz=>n1 z.1)] at h;split at h
 ·exact absurd h (by decide)
 ·split at h
  ·exact absurd h (by decide)
  ·split at h
   ·rename_i q;rw[Br] at q;generalize (pl row x).1=a at *;generalize (pl row x).2=b at *;generalize (pl row y).1=c at *;generalize (pl row y).2=e at *;by_cases p1:a<c/\c<b
    ·by_cases p2:a<e/\e<b
     ·omega
     ·rw[Pc p1,Pb p2] at q;omega
    ·rw[Pb p1] at q;split at q<;>omega
   ·exact absurd h (by decide)
theorem Xdf{row:List Str}{x y:Str}(hx:row.count x=2)(hy:row.count y=2)(h:lieR row x y = "same"):x=y:=by
 refine Classical.byContradiction λn=>?_;obtain⟨n1,n2,n3,n4⟩:=Ed hx hy n;unfold lieR lieT at h;rw[Pb (λz=>n1 z.1)] at h;split at h
 ·exact absurd h (by decide)
 ·split at h
  ·exact absurd h (by decide)
  ·split at h
   ·exact absurd h (by decide)
   ·exact absurd h (by decide)
theorem least{α : Type}(f : α->Nat):∀l:List α,l≠[]->∃a∈l,∀b∈l,f a<=f b
 | [],h=>absurd rfl h
 | [a],_=>⟨a,Ld,λb hb=>by rw[Lf.mp hb];exact K9 _⟩
 | a::c::r,_=>by
  obtain⟨m,hm,hl⟩:=least f (c::r) (by simp);by_cases q:f a<=f m
  ·exact⟨a,Ld,λb hb=>by
    rcases Lk.mp hb with e | e
    ·rw[e];exact K9 _
    ·exact L0 q (hl b e)⟩
  ·exact⟨m,Lb _ hm,λb hb=>by
    rcases Lk.mp hb with e | e
    ·rw[e];omega
    ·exact hl b e⟩
def cands (row:List Str):List (List Str):=(dit row).map (λa=>(dit row).filter (upB row a))++(crs row).map λp=>(dit row).filter λy=>upB row p.1 y||upB row p.2 y
theorem Xkn{row S:List Str}(h2:∀y∈row,row.count y=2)(h3:Bs row)(hne:S≠[])(hg:Ae row S=true):S∈cands row:=by
 have hg':=hg;rw[<-Xj0 h2] at hg';unfold Kd at hg';rw[Ln] at hg';have hS:=Pf hg'.1;unfold Ae at hg;rw[Ln,Ln] at hg;obtain⟨⟨_,hrow⟩,hal⟩:=hg;have inr:∀x∈S,x∈row:=λx hx=>Pf (Lz.mp hrow x hx);have al:∀x∈S,∀y∈row,Bm (lieR row x y) (decide (y∈S))=true:=λx hx y hy=>Lz.mp (Lz.mp hal x hx) y (Ak.mpr hy);have within:∀x∈S,∀y∈row,lieR row x y = "within" -> y∈S:=λx hx y hy e=>by
  have:=al x hx y hy;unfold Bm at this;rw[Pc e] at this;exact Pf this
 have apart:∀x∈S,∀y∈S,lieR row x y ≠ "apart" := λx hx y hy e=>by
  have:=al x hx y (inr y hy);unfold Bm at this;rw[Pb (by rw[e];decide),e,Pd hy] at this;exact absurd this (by decide)
 have how:∀a∈S,∀c∈S,upB row a c=false->¬span row c<span row a->Av row a c:=λa ha c hc hu hs=>by
  have hu':=Bool.or_eq_false_iff.mp hu;have n1:c≠a:=Pg hu'.1;have n2:=Pg hu'.2;rcases Xkl (pl row a).1 (pl row a).2 (pl row c).1 (pl row c).2 with q | q | q | q | q
  ·exact absurd (Xdf (h2 a (inr a ha)) (h2 c (inr c hc)) q).symm n1
  ·exact q
  ·exact absurd q n2
  ·exact absurd (Xkm (h2 a (inr a ha)) (h2 c (inr c hc)) (λe=>n1 e.symm) q) hs
  ·exact absurd q (apart a ha c hc)
 have upin:∀a∈S,∀y∈row,upB row a y=true->y∈S:=λa ha y hy q=>by
  rcases Os.mp q with q | q
  ·rw[Pf q];exact ha
  ·exact within a ha y hy (Pf q)
 obtain⟨a,ha,la⟩:=least (span row) S hne;unfold cands;rw[Ll];by_cases hall:∀c∈S,upB row a c=true
 ·left;rw[Lw];refine⟨a,Ak.mpr (inr a ha),?_⟩;rw[hS];refine List.filter_congr λy hy=>?_;by_cases q:y∈S
  ·rw[hall y q,Pd q]
  ·rw[Pe q,Oe];exact λz=>q (upin a ha y (Ak.mp hy) z)
 ·right;have hne2:S.filter (λc => !upB row a c)≠[]:=λe=>hall λc hc=>by
   rw[Nd] at e;have:=e c hc;simpa using this
  obtain⟨b,hb,lb⟩:=least (span row) _ hne2;obtain⟨hbS,hbu⟩:=Lc.mp hb;have hbu:upB row a b=false:=by simpa using hbu
  have cab:=how a ha b hbS hbu (by have:=la b hbS;omega);have all2:∀c∈S,upB row a c=true\/upB row b c=true:=λc hc=>by
   refine Classical.byContradiction λz=>?_;have z1:upB row a c=false:=by
    cases q:upB row a c with
    | false=>rfl
    | true=>exact absurd (.inl q) z
   have z2:upB row b c=false:=by
    cases q:upB row b c with
    | false=>rfl
    | true=>exact absurd (.inr q) z
   have k1:=how a ha c hc z1 (by have:=la c hc;omega);have k2:=how b hbS c hc z2 (by have:=lb c (Lc.mpr ⟨hc,by simp[z1]⟩);omega);exact h3 a (inr a ha) b (inr b hbS) c (inr c hc) cab k1 k2
  have key:∀p q:Str,p∈S->q∈S->(∀c∈S,upB row p c=true\/upB row q c=true)->(dit row).filter (λy=>upB row p y||upB row q y)=S:=λp q hp hq h=>by
   conv=>rhs;rw[hS]
   refine List.filter_congr λy hy=>?_;by_cases m:y∈S
   ·rw[Pd m,Os];exact h y m
   ·rw[Pe m,Bool.or_eq_false_iff];exact⟨Oe.mpr λz=>m (upin p hp y (Ak.mp hy) z),Oe.mpr λz=>m (upin q hq y (Ak.mp hy) z)⟩
  have nab:a≠b:=λe=>by subst e;exact Dx (h2 a (inr a ha)) cab
  have mk:∀p q:Str,p∈S->q∈S->ltS p q->Av row p q->(p,q)∈crs row:=λp q hp hq l c=>by
   unfold crs;rw[List.mem_flatMap];refine⟨p,Ak.mpr (inr p hp),Lw.mpr ⟨q,Lc.mpr ⟨Ak.mpr (inr q hq),?_⟩,rfl⟩⟩;rw[Ln];exact⟨Pd l,Pd c⟩
  rw[Lw];by_cases l:ltS a b
  ·exact⟨(a,b),mk a b ha hbS l cab,key a b ha hbS all2⟩
  ·have l':=ltS_of (Jg.mp l) nab.symm;exact⟨(b,a),mk b a hbS ha l' (C0 (h2 a (inr a ha)) (h2 b (inr b hbS)) cab),key b a hbS ha λc hc=>(all2 c hc).symm⟩
theorem Xdg{α : Type}[DecidableEq α]:∀{a b:List α},a.Nodup->(∀x∈a,x∈b)->a.length<=b.length
 | [],_,_,_=>L6 _
 | x::r,b,h,s=>by
  obtain⟨h1,h2⟩:=Ma.mp h;have hx:=s x Ld;have:=Xdg (a:=r) (b:=b.erase x) h2 λy hy=>(List.mem_erase_of_ne (show y≠x from λe=>h1 (e ▸ hy))).mpr (s y (Lb _ hy));rw[List.length_erase_of_mem hx] at this;have:0<b.length:=List.length_pos_of_mem hx;rw[Lp];omega
end SH
namespace L2
open PySem PySem.Spec PyProof.Rows
open PySem.W (KasT kas_asc kas_desc kas_rev kas_tail3 kas_descPart kas_count kas_place kas_bin kas_sort kas_ask kas_item kat_run kat_snds kat_kind kat_lt KatLex kat_cons kat_go kat_yes kat_no kat_one kat_nil KatTups)
def KAll {α : Type} (n:Nat) (P : α->Prop):KasT α->Prop
 | .ret a=>P a
 | .ask i j k=>i<n/\j<n/\∀b,KAll n P (k b)
theorem KAll.bind{α β : Type}{n:Nat}{P : α->Prop}{Q : β->Prop}{f : α->KasT β}(hf:∀a,P a->KAll n Q (f a)):∀{t:KasT α},KAll n P t->KAll n Q (t.bind f)
 | .ret a,h=>hf a h
 | .ask i j k,h=>⟨h.1,h.2.1,λb=>KAll.bind hf (h.2.2 b)⟩
def Gd (n:Nat) (p:Array Nat):Prop:=p.Perm (List.toArray (List.range n))
theorem Gd.lt{n:Nat}{p:Array Nat}(h:Gd n p)(hn:0<n)(i:Nat):p.getD i 0<n:=by
 by_cases hi:i<p.size
 ·have e:p.getD i 0=p[i]:=by simp[Array.getD,hi]
  rw[e];have:p[i]∈p:=Array.getElem_mem hi;have:=h.mem_iff.mp this;simpa using this
 ·have e:p.getD i 0=0:=by simp[Array.getD,hi]
  rw[e];exact hn
theorem Gd.rev{n:Nat}{p:Array Nat}(h:Gd n p)(i j:Nat):Gd n (kas_rev p i j):=(mirror_perm p i j _).trans h
theorem Km{n:Nat}(hn:0<n){p:Array Nat}(h:Gd n p):∀f m,KAll n (λ_=>True) (kas_asc p f m)
 | 0,_=>trivial
 | f+1,m=>⟨h.lt hn _,h.lt hn _,λb=>by
  cases b with
  | true=>exact trivial
  | false=>exact Km hn h f (m+1)⟩
theorem G9{n:Nat}(hn:0<n):∀f (p:Array Nat) m q,Gd n p->KAll n (λr=>Gd n r.1) (kas_desc f p m q)
 | 0,p,m,q,h=>h
 | f+1,p,m,q,h=>⟨h.lt hn _,h.lt hn _,λb=>by
  cases b with
  | true=>
   show KAll n _ (if q > 0 then kas_desc f (kas_rev p (m - (q+1)) m) (m+1) 0 else kas_desc f p (m+1) 0);split
   ·exact G9 hn f _ _ _ (h.rev _ _)
   ·exact G9 hn f _ _ _ h
  | false=>
   refine⟨h.lt hn _,h.lt hn _,λd=>?_⟩;cases d with
   | true=>exact h
   | false=>exact G9 hn f _ _ _ h⟩
theorem Xdh{n:Nat}(hn:0<n){p:Array Nat}(h:Gd n p)(m r:Nat):KAll n (λr=>Gd n r.2) (kas_tail3 m r p):=by
 unfold kas_tail3;refine KAll.bind (P:=λ_=>True) (Q:=λ(r:Nat×Array Nat)=>Gd n r.2) (λa _=>?_) (Km hn (h.rev 0 m) _ _);exact h.rev 0 m
theorem Xdi{n:Nat}(hn:0<n){p:Array Nat}(h:Gd n p)(m r:Nat):KAll n (λr=>Gd n r.2) (kas_descPart m r p):=by
 refine KAll.bind (P:=λr=>Gd n r.1) (λa ha=>?_) (G9 hn _ _ _ _ h);split
 ·exact Xdh hn (ha.rev _ _) _ _
 ·exact Xdh hn ha _ _
theorem Xko{n:Nat}(hn:0<n){p:Array Nat}(h:Gd n p)(r:Nat):KAll n (λr=>Gd n r.2) (kas_count r p):=by
 refine KAll.bind (P:=λ_=>True) (λa _=>?_) (Km hn h _ _);split
 ·exact h
 ·split
  ·refine⟨h.lt hn _,h.lt hn _,λb=>?_⟩;cases b with
   | true=>exact h
   | false=>exact Xdi hn (h.rev _ _) _ _
  ·exact Xdi hn h _ _
theorem Kn{n:Nat}(hn:0<n){p:Array Nat}(h:Gd n p)(k:Nat):∀f l r,KAll n (λ_=>True) (kas_place p k f l r)
 | 0,_,_=>trivial
 | f+1,l,r=>by
  show KAll n _ (if l ≥ r then _ else _);split
  ·exact trivial
  ·refine⟨h.lt hn _,h.lt hn _,λb=>?_⟩;cases b with
   | true=>exact Kn hn h k f _ _
   | false=>exact Kn hn h k f _ _
theorem Xdj{n:Nat}(hn:0<n):∀f (p:Array Nat) k,Gd n p->KAll n (Gd n) (kas_bin f p k)
 | 0,p,_,h=>h
 | f+1,p,k,h=>KAll.bind (P:=λ_=>True) (λl _=>Xdj hn f _ _ ((bubble_perm p k _).trans h)) (Kn hn h k _ _ _)
theorem Xdk{n:Nat}(hn:0<n):KAll n (Gd n) (kas_sort n):=by
 refine KAll.bind (P:=λr=>Gd n r.2) (λa ha=>?_) (Xko hn (Array.Perm.refl _) n);split
 ·exact Xdj hn _ _ _ ha
 ·exact ha
section
variable {prog:Program}{w:World}{A:Around}{E:Value->Shared->Prop}{s:Shared}
def TupS (h:Heap) (v:Value):Prop:=∃a o xs n ss,v = .ref a/\h.get? a=some o/\o.cls = .type "tuple" /\ o.data = .seq xs n/\StrsAre xs.toList ss/\ss≠[]
end
section
variable {X:Cx}
end
section
variable {X:Cx}
theorem Xkp(hu:X.A.units+4<cLine):OpR X (compareOp .NotIn) (λx y H Q=>∃d ds,DAt H d x/\DAt H (.list ds) y/\d.canLay0=true/\PyData.canLayAll0 ds=true/\d.depth<=3/\Q (.bl (!ds.any λe=>PyData.eqv e d)) H):=by
 intro pins s σ H x y v u Q I rx ry h;obtain⟨d,ds,h1,h2,c1,c2,hd,q⟩:=h;obtain⟨as,ra⟩:=Da I d x v h1 rx;obtain⟨bs,rb⟩:=Da I (.list ds) y u h2 ry;exact SeqAt.notIn_list_reads rb ra c2 c1 (by omega) ⟨.bl _,H,I,rfl,q⟩
end
end L2
namespace SH
open PySem PySem.Spec PyProof.Rows L2
def A6 (ss:List Str):PyData:=.tuple (ss.map PyData.str)
def Plts (row:List Str) (H:Hp) (ps:List Addr):Prop:=∀p∈ps,∃ss:List Str,H p=some (.tup (ss.map V.str))/\Ae row ss=true
theorem Bo{row ss:List Str}(h:Ae row ss=true):(∀x∈ss,x∈row)/\ss.Pairwise ltS:=by
 unfold Ae at h;rw[Ln,Ln] at h;refine⟨λx hx=>Pf (Lz.mp h.1.2 x hx),?_⟩;rw[Pf h.1.1];exact Kg ss
theorem He{row ss:List Str}(h:Ae row ss=true):ss.length<=(dit row).length:=
 Xdg (Dv (Bo h).2) λx hx=>Ak.mpr ((Bo h).1 x hx)
theorem Xdl(row:List Str):Ae row []=true:=by
 unfold Ae;rw[G4 .nil];rfl
structure Fresh (row:List Str) (H:Hp) (f:Addr) (xs:List V) (Ts:List (List Str)):Prop where
 at':H f=some (.lst xs)
 all:DAll H (Ts.map A6) xs
 nd:Ts.Nodup
 ok:∀T∈Ts,T≠[]/\Ae row T=true
end SH
namespace L2
open PySem PySem.Spec PyProof.Rows
def Tups (H:Hp) (ps:List Addr) (Ts:List (List Str)):Prop:=ps.length=Ts.length/\∀i,i<ps.length->H (ps.getD i 0)=some (.tup ((Ts.getD i []).map V.str))
theorem Tups.same{H H':Hp}{ps:List Addr}{Ts:List (List Str)}(h:Tups H ps Ts)(s:Same H H'):Tups H' ps Ts:=⟨h.1,λi hi=>s _ _ (h.2 i hi)⟩
theorem Tups.nil(H:Hp):Tups H [] []:=⟨rfl,λi hi=>absurd hi (Mv _)⟩
theorem Tups.cons{H:Hp}{p:Addr}{T:List Str}{ps:List Addr}{Ts:List (List Str)}(h:H p=some (.tup (T.map V.str)))(r:Tups H ps Ts):Tups H (p::ps) (T::Ts):=by
 refine⟨by simp[r.1],λi hi=>?_⟩;cases i with
 | zero=>exact h
 | succ i=>exact r.2 i (by simpa using hi)
theorem Tups.app{H:Hp}:∀{ps qs:List Addr} {Ts Us:List (List Str)},Tups H ps Ts->Tups H qs Us->Tups H (ps++qs) (Ts++Us)
 | [],qs,Ts,Us,h,g=>by
  have:Ts=[]:=Mc.mp h.1.symm;rw[this];exact g
 | p::ps,qs,[],Us,h,g=>by have:=h.1;simp at this
 | p::ps,qs,T::Ts,Us,h,g=>by
  have r:Tups H ps Ts:=⟨by simpa using h.1,λi hi=>by simpa using h.2 (i+1) (by simpa using hi)⟩;exact Tups.cons (h.2 0 (by simp)) (Tups.app r g)
open PySem.W (KasT kas_asc kas_desc kas_rev kas_tail3 kas_descPart kas_count kas_place kas_bin kas_sort kas_ask kas_item kat_run kat_snds kat_kind kat_lt KatLex kat_cons kat_go kat_yes kat_no kat_one kat_nil KatTups)
def A4 {α : Type} (lt:Nat->Nat->Bool):KasT α -> α
 | .ret a=>a
 | .ask i j k=>A4 lt (k (lt i j))
theorem E4{α β : Type}{lt:Nat->Nat->Bool}{f : α->KasT β}:∀t:KasT α,A4 lt (t.bind f)=A4 lt (f (A4 lt t))
 | .ret _=>rfl
 | .ask i j k=>E4 (k (lt i j))
theorem Xdm{α : Type}{n:Nat}{lt:Nat->Nat->Bool}{P : α->Prop}{G : α->Shared->Prop}{s:Shared}{cmp:Nat->Nat->(Bool->Shared->Prop)->Shared->Prop}(hc:∀i j C,i<n->j<n->C (lt i j) s->cmp i j C s):
  ∀{t:KasT α},KAll n P t->G (A4 lt t) s->t.kasWp cmp G s
 | .ret a,_,h=>h
 | .ask i j k,h,g=>hc i j _ h.1 h.2.1 (Xdm hc (h.2.2 _) g)
theorem KAll.run{α : Type}{n:Nat}{lt:Nat->Nat->Bool}{P : α->Prop}:∀{t:KasT α},KAll n P t->P (A4 lt t)
 | .ret a,h=>h
 | .ask i j k,h=>KAll.run (t:=k (lt i j)) (h.2.2 (lt i j))
structure Lin (n:Nat) (lt:Nat->Nat->Bool):Prop where
 irr:∀i,lt i i=false
 tr:∀i j k,lt i j=true->lt j k=true->lt i k=true
 tot:∀i j,i<n->j<n->i≠j->lt i j=true\/lt j i=true
section
variable {n:Nat}{lt:Nat->Nat->Bool}{p:Array Nat}
def B2 (lt:Nat->Nat->Bool) (p:Array Nat) (m:Nat):Prop:=∀i j,i<j->j<m->lt (p.getD i 0) (p.getD j 0)=true
def Xdn (lt:Nat->Nat->Bool) (p:Array Nat) (m:Nat):Prop:=∀i j,i<j->j<m->lt (p.getD j 0) (p.getD i 0)=true
theorem Gd.size{p:Array Nat}(h:Gd n p):p.size=n:=by
 have:=h.size_eq;simpa using this
theorem Gd.inj{p:Array Nat}(h:Gd n p){i j:Nat}(hi:i<n)(hj:j<n)(ne:i≠j):p.getD i 0≠p.getD j 0:=λe=>by
 have sz:=h.size;have nd:p.toList.Nodup:=by
  have q:p.toList.Perm (List.range n):=by simpa using h.toList
  exact q.nodup_iff.mpr List.nodup_range
 have hi':i<p.toList.length:=by rw[Lh,sz];exact hi
 have hj':j<p.toList.length:=by rw[Lh,sz];exact hj
 have e1:p.getD i 0=p.toList[i]:=by simp[Array.getD,sz,hi]
 have e2:p.getD j 0=p.toList[j]:=by simp[Array.getD,sz,hj]
 rw[e1,e2] at e;exact ne ((List.getElem_inj nd).mp e)
theorem Lin.flip(L:Lin n lt)(h:Gd n p){i j:Nat}(hi:i<n)(hj:j<n)(ne:i≠j)(e:lt (p.getD i 0) (p.getD j 0)=false):lt (p.getD j 0) (p.getD i 0)=true:=by
 have hn:0<n:=by omega
 rcases L.tot _ _ (h.lt hn i) (h.lt hn j) (h.inj hi hj ne) with z | z
 ·rw[z] at e;cases e
 ·exact z
theorem Ko(L:Lin n lt)(h:Gd n p):∀f m,1<=m->m+f<=n->B2 lt p m->m<=A4 lt (kas_asc p f m)/\A4 lt (kas_asc p f m)<=m+f/\B2 lt p (A4 lt (kas_asc p f m)) /\
  (A4 lt (kas_asc p f m)<m+f->lt (p.getD (A4 lt (kas_asc p f m)) 0) (p.getD (A4 lt (kas_asc p f m) - 1) 0)=true)
 | 0,m,_,_,so=>⟨K9 _,K9 _,so,λz=>absurd z (by show ¬m<m+0;omega)⟩
 | f+1,m,h1,hn,so=>by
  have e:A4 lt (kas_asc p (f+1) m)=A4 lt (if lt (p.getD m 0) (p.getD (m - 1) 0)=true then KasT.ret m else kas_asc p f (m+1)):=rfl;cases c:lt (p.getD m 0) (p.getD (m - 1) 0) with
  | true=>
   rw[e,c,Pc rfl];exact⟨K9 _,by show m<=_;omega,so,λ_=>c⟩
  | false=>
   rw[e,c,Pb (by decide)];have c':=L.flip h (by omega) (by omega) (by omega) c;obtain⟨a1,a2,a3,a4⟩:=Ko L h f (m+1) (by omega) (by omega) (λi j hij hj=>by
    by_cases hjm:j<m
    ·exact so i j hij hjm
    ·have:j=m:=by omega
     subst this;by_cases hi:i=j - 1
     ·subst hi;exact c'
     ·exact L.tr _ _ _ (so i (j - 1) (by omega) (by omega)) c')
   exact⟨by omega,by omega,a3,λz=>a4 (by omega)⟩
theorem Xdo(L:Lin n lt)(h:Gd n p):∀f m,1<=m->m+f<=n->Xdn lt p m->∃r,A4 lt (kas_desc f p m 0)=(p,r,0)/\m<=r/\r<=m+f/\Xdn lt p r
 | 0,m,_,_,so=>⟨m,rfl,K9 _,K9 _,so⟩
 | f+1,m,h1,hn,so=>by
  have e:A4 lt (kas_desc (f+1) p m 0)=A4 lt (if lt (p.getD m 0) (p.getD (m - 1) 0)=true then (if 0 > 0 then kas_desc f (kas_rev p (m - (0+1)) m) (m+1) 0 else kas_desc f p (m+1) 0)
   else .ask (p.getD (m - 1) 0) (p.getD m 0) λd=>if d=true then .ret (p,m,0) else kas_desc f p (m+1) (0+1)):=rfl
  cases c:lt (p.getD m 0) (p.getD (m - 1) 0) with
  | true=>
   rw[e,c,Pc rfl,Pb (by omega)];obtain⟨r,a1,a2,a3,a4⟩:=Xdo L h f (m+1) (by omega) (by omega) (λi j hij hj=>by
    by_cases hjm:j<m
    ·exact so i j hij hjm
    ·have:j=m:=by omega
     subst this;by_cases hi:i=j - 1
     ·subst hi;exact c
     ·exact L.tr _ _ _ c (so i (j - 1) (by omega) (by omega)))
   exact⟨r,a1,by omega,by omega,a4⟩
  | false=>
   rw[e,c,Pb (by decide)];have c':=L.flip h (by omega) (by omega) (by omega) c;refine⟨m,?_,K9 _,by omega,so⟩;show A4 lt (if lt (p.getD (m - 1) 0) (p.getD m 0)=true then _ else _)=_;rw[Pc c'];rfl
theorem Kp(p:Array Nat)(i:Nat):p.getD i 0=(p[i]?).getD 0:=by simp
theorem Xdp{m:Nat}(hm:m<=p.size){i:Nat}(hi:i<m):(kas_rev p 0 m).getD i 0=p.getD (m - 1 - i) 0:=by
 rw[Kp,Kp];show ((mirror p 0 m ((m - 0) / 2))[i]?).getD 0=_;rw[getElem?_mirror_all hm,Pc (by omega)];congr 2;omega
theorem Xkq(L:Lin n lt)(h:Gd n p)(hn:1<=n):∃m p',A4 lt (kas_count n p)=(m,p')/\1<=m/\m<=n/\Gd n p'/\B2 lt p' m:=by
 have sz:=h.size;unfold kas_count;rw[E4];obtain⟨a1,a2,a3,a4⟩:=Ko (lt:=lt) L h (n - 1) 1 (K9 _) (by omega) (λi j hij hj=>by omega);generalize A4 lt (kas_asc p (n - 1) 1)=r at *;by_cases e1:(r==n)=true
 ·rw[Pc e1];exact⟨r,p,rfl,a1,by omega,h,a3⟩
 ·rw[Pb e1];have rn:r≠n:=λz=>e1 (by rw[z];exact beq_self_eq_true _);by_cases e2:r > 1
  ·rw[Pc e2];refine⟨r,p,?_,a1,by omega,h,a3⟩;show A4 lt (if lt (p.getD 0 0) (p.getD (r - 1) 0)=true then _ else _)=_;rw[Pc (a3 0 (r - 1) (by omega) (by omega))];rfl
  ·rw[Pb e2];obtain rfl:r=1:=by omega
   have a4:=a4 (by omega);unfold kas_descPart;rw[E4];obtain⟨r2,b1,b2,b3,b4⟩:=Xdo (lt:=lt) L h (n - (1+1)) (1+1) (by omega) (by omega) (λi j hij hj=>by
    have:j=1:=by omega
    subst this;have:i=0:=by omega
    subst this;exact a4)
   rw[b1];dsimp only;rw[Pb (by omega)];unfold kas_tail3;rw[E4];have hrv:=h.rev 0 r2;obtain⟨c1,c2,c3,_⟩:=Ko (lt:=lt) L hrv (n - r2) r2 (by omega) (by omega) (λi j hij hj=>by
    rw[Xdp (by omega) (by omega),Xdp (by omega) (by omega)];exact b4 _ _ (by omega) (by omega))
   exact⟨_,_,rfl,by omega,by omega,hrv,c3⟩
theorem Kq(L:Lin n lt)(h:Gd n p){k:Nat}(hk:k<n)(so:B2 lt p k):∀f l r,r - l<=f->l<=r->r<=k->(∀i,i<l->lt (p.getD i 0) (p.getD k 0)=true)->(∀i,r<=i->i<k->lt (p.getD k 0) (p.getD i 0)=true) ->
  A4 lt (kas_place p k f l r)<=k/\(∀i,i<A4 lt (kas_place p k f l r)->lt (p.getD i 0) (p.getD k 0)=true)/\(∀i,A4 lt (kas_place p k f l r)<=i->i<k->lt (p.getD k 0) (p.getD i 0)=true)
 | 0,l,r,hf,hlr,hr,hl,hg=>by
  have:l=r:=by omega
  subst this;exact⟨hr,hl,hg⟩
 | f+1,l,r,hf,hlr,hr,hl,hg=>by
  unfold kas_place;by_cases e:l ≥ r
  ·rw[Pc e];have:l=r:=by omega
   subst this;exact⟨hr,hl,hg⟩
  ·rw[Pb e];have e2:A4 lt (KasT.ask (p.getD k 0) (p.getD ((l+r) / 2) 0) λc=>if c=true then kas_place p k f l ((l+r) / 2) else kas_place p k f ((l+r) / 2+1) r)=A4 lt (if lt (p.getD k 0) (p.getD ((l+r) / 2) 0)=true then kas_place p k f l ((l+r) / 2) else kas_place p k f ((l+r) / 2+1) r):=rfl;rw[e2];have hm1:l<=(l+r) / 2:=by omega
   have hm2:(l+r) / 2<r:=by omega
   generalize (l+r) / 2=md at *;cases c:lt (p.getD k 0) (p.getD md 0) with
   | true=>
    rw[Pc rfl];refine Kq L h hk so f l md (by omega) (by omega) (by omega) hl λi h1 h2=>?_;by_cases e3:i=md
    ·rw[e3];exact c
    ·exact L.tr _ _ _ c (so md i (by omega) h2)
   | false=>
    rw[Pb (by decide)];have c':=L.flip h hk (by omega) (by omega) c;refine Kq L h hk so f (md+1) r (by omega) (by omega) hr (λi hi=>?_) hg;by_cases e3:i=md
    ·rw[e3];exact c'
    ·exact L.tr _ _ _ (so i md (by omega) (by omega)) c'
theorem Xdq{k l:Nat}(hk:k<p.size)(hl:l<=k)(i:Nat):(bubble p k (k - l)).getD i 0=if i=l then p.getD k 0 else if l<i/\i<=k then p.getD (i - 1) 0 else p.getD i 0:=by
 simp only[Kp];rw[getElem?_bubble hk _ (by omega),show k - (k - l)=l by omega];by_cases h1:i=l
 ·rw[Pc h1,Pc h1]
 ·rw[Pb h1,Pb h1];by_cases h2:l<i/\i<=k
  ·rw[Pc h2,Pc h2]
  ·rw[Pb h2,Pb h2]
theorem Xdr(L:Lin n lt):∀f (p:Array Nat) k,Gd n p->k+f<=n->B2 lt p k->B2 lt (A4 lt (kas_bin f p k)) (k+f)
 | 0,p,k,_,_,so=>so
 | f+1,p,k,h,hk,so=>by
  have sz:=h.size;have e:A4 lt (kas_bin (f+1) p k)=A4 lt ((kas_place p k k 0 k).bind λl=>kas_bin f (bubble p k (k - l)) (k+1)):=rfl;rw[e,E4];obtain⟨a1,a2,a3⟩:=Kq (lt:=lt) L h (k:=k) (by omega) so k 0 k (by omega) (by omega) (K9 _) (λi z=>absurd z (Mv _)) (λi h1 h2=>by omega);generalize A4 lt (kas_place p k k 0 k)=l at *;have:=Xdr L f (bubble p k (k - l)) (k+1) ((bubble_perm p k _).trans h) (by omega) (λi j hij hj=>by
   rw[Xdq (by omega) a1,Xdq (by omega) a1];by_cases i1:i=l
   ·rw[Pc i1,Pb (by omega),Pc (by omega)];exact a3 _ (by omega) (by omega)
   ·rw[Pb i1];by_cases i2:l<i/\i<=k
    ·rw[Pc i2,Pb (by omega),Pc (by omega)];exact so _ _ (by omega) (by omega)
    ·rw[Pb i2];by_cases j1:j=l
     ·rw[Pc j1];exact a2 i (by omega)
     ·rw[Pb j1];by_cases j2:l<j/\j<=k
      ·rw[Pc j2];by_cases z:i=j - 1
       ·omega
       ·exact so _ _ (by omega) (by omega)
      ·rw[Pb j2];exact so _ _ hij (by omega))
  rw[show k+(f+1)=k+1+f by omega];exact this
theorem Xkr(L:Lin n lt)(hn:0<n):B2 lt (A4 lt (kas_sort n)) n:=by
 unfold kas_sort;rw[E4];obtain⟨m,p',e,h1,h2,h3,h4⟩:=Xkq (lt:=lt) L (p:=List.toArray (List.range n)) (Array.Perm.refl _) hn;rw[e];dsimp only;by_cases hm:m<n
 ·rw[Pc hm];have:=Xdr L (n - max m 1) p' (max m 1) h3 (by omega) (by rw[show max m 1=m by omega];exact h4)
  rwa [show max m 1+(n - max m 1)=n by omega] at this
 ·rw[Pb hm];have:m=n:=by omega
  subst this;exact h4
end
open PySem.W (KasT kas_asc kas_desc kas_rev kas_tail3 kas_descPart kas_count kas_place kas_bin kas_sort kas_ask kas_item kat_run kat_snds kat_kind kat_lt KatLex kat_cons kat_go kat_yes kat_no kat_one kat_nil KatTups)
def ltL:List Str->List Str->Bool
 | [],[]=>false
 | [],_::_=>true
 | _::_,[]=>false
 | x::a,y::b=>if x=y then ltL a b else decide (ltS x y)
theorem Kr:∀a,ltL a a=false
 | []=>rfl
 | x::a=>by
  show (if x=x then ltL a a else _)=false;rw[Pc rfl];exact Kr a
theorem Xds:∀a b c,ltL a b=true->ltL b c=true->ltL a c=true
 | [],[],c,h,_=>by cases h
 | [],_::_,[],_,g=>by cases g
 | [],_::_,_::_,_,_=>rfl
 | _::_,[],_,h,_=>by cases h
 | _::_,_::_,[],_,g=>by cases g
 | x::a,y::b,z::c,h,g=>by
  have h:(if x=y then ltL a b else decide (ltS x y))=true:=h;have g:(if y=z then ltL b c else decide (ltS y z))=true:=g;show (if x=z then ltL a c else decide (ltS x z))=true;by_cases e1:x=y
  ·subst e1;rw[Pc rfl] at h;by_cases e2:x=z
   ·rw[Pc e2] at g ⊢;exact Xds a b c h g
   ·rw[Pb e2] at g ⊢;exact g
  ·rw[Pb e1] at h;by_cases e2:y=z
   ·subst e2;rw[Pb e1];exact h
   ·rw[Pb e2] at g;have q:=Gs (Pf h) (Pf g);rw[Pb (Fp q)];exact Pd q
theorem Xdt:∀a b,a≠b->ltL a b=true\/ltL b a=true
 | [],[],n=>absurd rfl n
 | [],_::_,_=>.inl rfl
 | _::_,[],_=>.inr rfl
 | x::a,y::b,n=>by
  show (if x=y then ltL a b else decide (ltS x y))=true\/(if y=x then ltL b a else decide (ltS y x))=true;by_cases e:x=y
  ·subst e;rw[Pc rfl,Pc rfl];exact Xdt a b λz=>n (by rw[z])
  ·rw[Pb e,Pb (λz=>e z.symm)];rcases Jf x y with z | z
   ·exact .inl (Pd (ltS_of z e))
   ·exact .inr (Pd (ltS_of z λq=>e q.symm))
section
variable {prog:Program}{w:World}{A:Around}{E:Value->Shared->Prop}{s:Shared}
def Xdu (h:Heap) (v:Value) (ss:List Str):Prop:=∃a o xs n,v = .ref a/\h.get? a=some o/\o.cls = .type "tuple" /\ o.data = .seq xs n/\StrsAre xs.toList ss
def TupsO (h:Heap) (vs:List Value) (Ts:List (List Str)):Prop:=vs.length=Ts.length/\∀i,i<vs.length->Xdu h (vs.getD i .none) (Ts.getD i [])
end
section
variable {X:Cx}
end
theorem Xks(x y:Str)(xs ys:List Str):ltL (x::xs) (y::ys)=if x=y then ltL xs ys else decide (ltS x y):=rfl
theorem Xkt:ltL [] []=false:=rfl
theorem Xku(y:Str)(ys:List Str):ltL [] (y::ys)=true:=rfl
theorem Xkv(x:Str)(xs:List Str):ltL (x::xs) []=false:=rfl
theorem Xkw(A:Around)(s:Shared)(a:Str)(t:Tok)(c:Str)(u:Tok):∃e,SeqAt.EqAt A s (.str a t) (.str c u) e/\(e=true↔a=c):=
 ⟨(a==c),SeqAt.EqAt.str_str a t c u,by simp⟩
theorem Xkx(A:Around)(s:Shared)(a:Str)(t:Tok)(c:Str)(u:Tok)(prog:Program)(w:World)(E:Value->Shared->Prop)(Q:Value->Shared->Prop)(h:Q (.bool (decide (ltS a c))) s):
  wpAny (model prog w) A (richCompare .Lt (.str a t) (.str c u)) Q E s:=
 (PyProof.Rows.lt_str h:wpAny (model prog w) A (compareOp .Lt (.str a t) (.str c u)) Q E s)
section
open PySem.SeqAt
open PySem.AutoSeq1 (wpAny_loadPart')
open PySem.MeetsSeq PySem.MeetsSeq2 PySem.MeetsSeq3
theorem Xky(l b:Addr)(items items2:Array Value)(n n2:Nat)(dd dd2:Option Addr)(sl sl2:Array (Option Value))(ns ms:List Str)(hi:StrsAre items.toList ns)(hj:StrsAre items2.toList ms):
  Meets (Builtin.«tuple.__lt__» ⟨[.ref l,.ref b],[]⟩)
   (λ_ R s=>s.heap.get? l=some {cls:=.type "tuple",dict:=dd,data:=.seq items n,slots:=sl}/\s.heap.get? b=some {cls:=.type "tuple",dict:=dd2,data:=.seq items2 n2,slots:=sl2} /\
    R (.ok (.ret (.bool (ltL ns ms)))) s):=
 .of_wp λprog w A R s h=>by
  obtain⟨hp,g,d,tk,os⟩:=s;obtain⟨hl,hb,h⟩:=h;have f2:=AutoSeq1.sub_tuple_tuple;have z1:items.size=ns.length:=by rw[<-hi.length];simp
  have z2:items2.size=ms.length:=by rw[<-hj.length];simp
  wp_walk using wpAny_loadPart' hl,wpAny_loadPart' hb,wpAny_forIn_list _ (λrest b s'=>b.1=none/\s'=⟨hp,g,d,tk,os⟩/\∃(vs ws:List Value) (ns' ms':List Str),rest=vs.zip ws /\
   StrsAre vs ns'/\StrsAre ws ms'/\ns'.length+items2.size=ms'.length+items.size/\R (.ok (.ret (.bool (ltL ns' ms')))) ⟨hp,g,d,tk,os⟩) _
  case turn=>
   rintro ⟨y,x⟩ rest b s' ⟨hb',rfl,vs,ws,ns',ms',hz,hvi,hwi,hlen,hR⟩;cases hvi with
   | nil=>rw[List.zip_nil_left] at hz;cases hz
   | cons a t hvi'=>
    cases hwi with
    | nil=>rw[List.zip_nil_right] at hz;cases hz
    | cons c u hwi'=>
     rw[List.zip_cons_cons] at hz;injection hz with hyx hrest
     injection hyx with hy hx
     subst hy hx;rw[Xks] at hR;simp only[Lp] at hlen;obtain⟨e,he,hiff⟩:=Xkw A.in1 ⟨hp,g,d,tk,os⟩ a t c u;refine O8 (he prog w _ _ ?_);cases e with
     | true=>
      rw[Pc (hiff.mp rfl)] at hR
      wp_walk
      exact⟨rfl,rfl,_,_,_,_,hrest,hvi',hwi',by omega,hR⟩
     | false=>
      rw[Pb (λq=>absurd (hiff.mpr q) Lq)] at hR;have hri:=Xkx A.in1 ⟨hp,g,d,tk,os⟩ a t c u prog w
      wp_walk using hri
      exact⟨_,rfl,by simpa using hR⟩
  case fin=>
   rintro ⟨b1,b2⟩ s' ⟨hb',rfl,vs,ws,ns',ms',hz,hvi,hwi,hlen,hR⟩;simp only at hb';subst hb';have hv:ltL ns' ms'=decide (items.size<items2.size):=by
    cases hvi with
    | nil=>
     cases hwi with
     | nil=>
      simp only[M9] at hlen;rw[Xkt];exact(Pe (by omega)).symm
     | cons c u hw=>
      simp only[M9,Lp] at hlen;rw[Xku];exact(Pd (by omega)).symm
    | cons a t hv=>
     cases hwi with
     | nil=>
      simp only[M9,Lp] at hlen;rw[Xkv];exact(Pe (by omega)).symm
     | cons c u hw=>
      rw[List.zip_cons_cons] at hz;cases hz
   rw[hv] at hR
   wp_walk
   exact⟨_,rfl,by simpa [Builtin.Tuple.tupleCompareSizes] using hR⟩
  case h=>
   exact⟨rfl,rfl,items.toList,items2.toList,ns,ms,rfl,hi,hj,by omega,h⟩
end
open PySem.W (KasT kas_sort kas_ask kas_item kat_run kat_snds kat_kind kat_lt KatLex kat_cons kat_go kat_yes kat_no kat_one kat_nil KatTups)
section
variable {prog:Program}{w:World}{A:Around}{E:Value->Shared->Prop}{s:Shared}
theorem Xkz{l b:Addr}{items items2:Array Value}{ns ms:List Str}{Q:Value->Shared->Prop}(hl:IsTup s.heap l items)(hb:IsTup s.heap b items2)(hi:StrsAre items.toList ns)(hj:StrsAre items2.toList ms)
  (hu:A.units<cLine) (h:Q (.bool (ltL ns ms)) s):wpAny (model prog w) A (compareOp .Lt (.ref l) (.ref b)) Q E s:=by
 obtain⟨⟨cls,dd,data,sl⟩,ho,hc,n,hd⟩:=id hl;obtain⟨⟨cls2,dd2,data2,sl2⟩,ho2,hc2,n2,hd2⟩:=id hb;simp only at hc hd hc2 hd2;subst hc hd hc2 hd2;exact richCompare_meets_room (op:=.Lt) ⟨_,ho,rfl⟩ ⟨_,ho2,rfl⟩ PySem.F.slot_tuple_lt PySem.F.entry_tuple_lt (PySem.F.args_tuple_lt_2 _ _) (Xky l b items items2 n n2 dd dd2 sl sl2 ns ms hi hj)
  ⟨ho,ho2,show Value.bool (ltL ns ms)≠Value.notImplemented/\Q (.bool (ltL ns ms)) s from ⟨(λx=>nomatch x),h⟩⟩ hu
def B6 (n:Nat) (a:List Str) (m:Nat) (b:List Str):Bool:=if n=m then ltL a b else decide (n<m)
theorem Xdv{vs:List Value}{ss:List Str}(h:StrsAre vs ss):ItemsAre (A0 prog w) (ss.map Sum.inr) vs:=by
 induction h with
 | nil=>exact .nil
 | cons x t r ih=>exact .cons (show C1 (.inr x) (.str x t)=true by simp[C1,Value.isStrOf]) ih
def F4 (h:Heap) (v:Value) (n:Nat) (ss:List Str):Prop:=∃a o xs k t u,v = .ref a/\h.get? a=some o/\o.cls = .type "tuple" /\ o.data = .seq xs k/\xs.toList=[.int n t,u]/\Xdu h u ss
theorem Xk0{x y:Value}{n m:Nat}{as bs:List Str}{C:Bool->Shared->Prop}(hu:A.units<cLine)(hx:F4 s.heap x n as)(hy:F4 s.heap y m bs)(h:C (B6 n as m bs) s):wpAny (model prog w) A (keyLt' (tuples' true) x y) C E s:=by
 obtain⟨a,o,xs,k,t,u,rfl,h1,h2,h3,h4,h5⟩:=hx;obtain⟨b,o',ys,k',t',u',rfl,g1,g2,g3,g4,g5⟩:=hy;refine kat_lt h1 h3 g1 g3 ?_;rw[h4,g4];have ef:decide (xs.size<ys.size)=false:=by
  have e1:xs.size=2:=by rw[<-Lh,h4];rfl
  have e2:ys.size=2:=by rw[<-Lh,g4];rfl
  rw[e1,e2];decide
 rw[ef];show KatLex prog w A true false C [(.int n t,.int m t'),(u,u')] 0 s;unfold B6 at h;refine kat_cons (wpAny_eqBool_int ?_);refine kat_go (λe=>kat_yes ?_) (λe=>kat_no ?_)
 ·have e:n=m:=by have:=Pf e;omega
  rw[Pc e] at h;obtain⟨c,oc,cs,kc,rfl,c1,c2,c3,c4⟩:=h5;obtain⟨d,od,ds,kd,rfl,d1,d2,d3,d4⟩:=g5;refine kat_cons (wpAny_eqBool_tuple (knd:=A0 prog w) hu ⟨oc,cs,kc,c1,c2,c3,Xdv c4⟩ ⟨od,ds,kd,d1,d2,d3,Xdv d4⟩ ?_);refine kat_go (λe2=>kat_yes (kat_nil ?_)) (λe2=>kat_no ?_)
  ·have e2:as=bs:=by
    have:=Pf e2;exact N8 (λ_ _ q=>Nq q) |>.mp this
   rw[e2,Kr] at h;exact h
  ·exact kat_one _ _ (Xkz ⟨oc,c1,c2,kc,c3⟩ ⟨od,d1,d2,kd,d3⟩ c4 d4 hu h)
 ·have e:¬n=m:=λz=>by
   have:=Pg e;omega
  rw[Pb e] at h;refine oneLt_int ?_;have:decide ((n:Int)<(m:Int))=decide (n<m):=by simp
  rw[this];exact h
end
open PySem.W (KasT kas_sort kas_ask kas_item kat_run kat_snds kat_kind KatTups)
section
variable {X:Cx}{pins:List (Addr×Obj)}{σ:List (Option V)}{H:Hp}{s:Shared}
theorem Inv.unpin{p:Addr×Obj}(I:Inv X (p::pins) σ H s):Inv X pins σ H s:=
 I.pins_of λq hq=>I.pin q (L1 _ (Lb _ hq))
theorem Xk1{D:Addr}{e1:Nat}{ys:List V}{out:List Value}(I:Inv X ((D,seqObj "list" #[] e1)::pins) σ H s)(hD:X.s₀.heap.objs.size<=D)(hnp:∀p∈X.pn++pins,p.1≠D)(hv:Vals ys out)(hz:ys.length<=sizeLine):
  Inv X pins σ (upd H D (.lst ys)) {s with heap:=s.heap.update D (Obj.mapSeq λ_=>out.toArray)}:=by
 obtain⟨hg,hn,hl,hf,_⟩:=I.pin (D,seqObj "list" #[] e1) (L1 _ Ld);have J:=I.unpin;have sb:=Pj s.heap D (Obj.mapSeq λ_=>out.toArray);obtain⟨c2,hc2⟩:∃c2,(s.heap.update D (Obj.mapSeq λ_=>out.toArray)).get? D=some (seqObj "list" out.toArray c2):=⟨_,get?_update_seq hg λ_=>out.toArray⟩;have kp:∀b o,b≠D->s.heap.get? b=some o->(s.heap.update D (Obj.mapSeq λ_=>out.toArray)).get? b=some o:=λb o n e=>(sb.2 b n).trans e;have nD:∀b u,H b=some u->b≠D:=λb u e z=>by rw[z,hn] at e;cases e
 have up:∀b u,H b=some u->(upd H D (.lst ys)) b=some u:=λb u e=>by rw[Ad (nD b u e)];exact e
 refine J.step (g':=s.gens) (d':=s.drawn) (t':=s.toks) (ch:=[D]) (λb hb=>?_) (λb o _ _ hc e _=>kp b o (λz=>hc (by rw[z];exact My _)) e) (λb o _ _ hc e _=>⟨o.slots,kp b o (λz=>hc (by rw[z];exact My _)) e⟩)
  (λb o hc e n=>?_) (λb o hc e=>⟨o,kp b o (λz=>hc (by rw[z];exact My _)) e⟩) (λb xs e=>up b _ e) (λb o u e=>up b _ e) (λb pz e=>⟨#[],by rw[up b _ e];simp⟩) (λm hm=>hm.sameBut sb (Ne.symm hl)) ?_ J.bare
 ·rw[Lf.mp hb];refine⟨.inr hD,hl,λx c e z=>?_,λp hp=>hnp p hp⟩;obtain⟨v,o,ho,hd⟩:=J.cell x c e;rw[z,hg] at ho;cases ho;cases hd
 ·rw[Ad (λz=>hc (by rw[z];exact My _))];exact n
 ·intro b u e;by_cases z:b=D
  ·subst z;rw[Ab] at e;cases e;exact⟨hz,out,c2,hv,hc2⟩
  ·rw[Ad z] at e;refine(J.hok b u e).stay (λd v hd g=>kp d v ?_ g) (λd g=>up d _ g) λd xs g=>up d _ g;rcases hd with rfl | hd
   ·exact z
   ·exact nD d _ hd
end
open PySem.W (KasT kas_sort kas_ask kas_item kat_run kat_snds kat_kind KatTups)
def Dd (Ts:List (List Str)) (i j:Nat):Bool:=B6 (Ts.getD i []).length (Ts.getD i []) (Ts.getD j []).length (Ts.getD j [])
theorem Xdw(n:Nat)(a:List Str):B6 n a n a=false:=by unfold B6;rw[Pc rfl];exact Kr a
theorem Xk2{n m k:Nat}{a b c:List Str}(h:B6 n a m b=true)(g:B6 m b k c=true):B6 n a k c=true:=by
 unfold B6 at *;by_cases e1:n=m
 ·rw[Pc e1] at h;by_cases e2:m=k
  ·rw[Pc e2] at g;rw[Pc (e1.trans e2)];exact Xds _ _ _ h g
  ·rw[Pb e2] at g;rw[Pb (by omega)];have:=Pf g;exact Pd (by omega)
 ·rw[Pb e1] at h;have h:=Pf h;by_cases e2:m=k
  ·rw[Pb (by omega)];exact Pd (by omega)
  ·rw[Pb e2] at g;have g:=Pf g;rw[Pb (by omega)];exact Pd (by omega)
theorem Xk3{n m:Nat}{a b:List Str}(h:a≠b):B6 n a m b=true\/B6 m b n a=true:=by
 unfold B6;by_cases e:n=m
 ·rw[Pc e,Pc e.symm];exact Xdt _ _ h
 ·rw[Pb e,Pb (Ne.symm e)];rcases Nat.lt_or_ge n m with z | z
  ·exact .inl (Pd z)
  ·exact .inr (Pd (by omega))
theorem linP{Ts:List (List Str)}(nd:Ts.Nodup):Lin Ts.length (Dd Ts) where
 irr i:=Xdw _ _
 tr i j k:=Xk2
 tot i j hi hj ne:=Xk3 λe=>ne (by
  have e1:Ts.getD i []=Ts[i]:=by simp[List.getD,hi]
  have e2:Ts.getD j []=Ts[j]:=by simp[List.getD,hj]
  rw[e1,e2] at e;exact(List.getElem_inj nd).mp e)
def Turns (X:Cx) (f:Addr) (H:Hp) (ps:List Addr) (Ts:List (List Str)):Prop:=
 ∀(pins:List (Addr×Obj)) (σ:L2.St) (s1:Shared) (H1:Hp) (i:Nat),i<ps.length->Same H H1->Inv X pins σ H1 s1 ->
  wpAny (model X.prog X.w) X.A.in1.in1 (call (.ref f) [.ref (ps.getD i 0)]) (λu s'=>∃t H2,u = .ref t/\Inv X pins σ H2 s'/\H2 t=some (.tup [.int (Ts.getD i []).length,.ref (ps.getD i 0)])/\Same H1 H2) (λ_ _=>False) s1
section
variable {X:Cx}{pins:List (Addr×Obj)}{σ:L2.St}{H:Hp}{s:Shared}
theorem Xk4{t p:Addr}{n:Nat}{ss:List Str}(I:Inv X pins σ H s)(ht:H t=some (.tup [.int n,.ref p]))(hp:H p=some (.tup (ss.map V.str))):F4 s.heap (.ref t) n ss:=by
 obtain⟨its,r,⟨o,ho,hc,k,hd⟩,_⟩:=I.tuple (SqT.of (K:=X.K) ht);obtain⟨its2,r2,⟨o2,ho2,hc2,k2,hd2⟩,_⟩:=I.tuple (SqT.of (K:=X.K) hp);cases r with
 | cons r1 r'=>
  cases r' with
  | cons r2' r''=>
   cases r'';obtain⟨tk,rfl⟩:∃tk,_=Value.int n tk:=r1;cases r2';exact⟨t,o,_,k,tk,.ref p,rfl,ho,hc,hd,rfl,p,o2,_,k2,rfl,ho2,hc2,hd2,by simpa using Je r2⟩
theorem Xdx{D kS:Addr}{e1:Nat}{ks:List V}{st:SortSt}{out:List Addr}{A:Around}{E:Value->Shared->Prop}{P:PySem.Fin->Shared->Prop}(I:Inv X ((D,seqObj "list" #[] e1)::pins) σ H s)(hD:X.s₀.heap.objs.size<=D)(hnp:∀p∈X.pn++pins,p.1≠D)
  (hk:H kS=some (.lst ks)) (ho:(arrOf st).map (·.2)=(out.map Value.ref).toArray) (hf:failedOf st=none) (hz:out.length<64) (h:∀s',Inv X pins σ (upd (upd H kS (.lst [])) D (.lst (out.map V.ref))) s'->P (.done (.ret .none)) s'):
  wpAny (model X.prog X.w) A (ksk_tail D false e1 (.ref kS) st) P E s:=by
 obtain⟨z,its,n,r,hl,e⟩:=I.lstM hk;have J:=I.lset (its':=[]) (f:=λ_ => #[]) (ys:=[]) (t':=s.toks) hk e rfl .nil (by decide);unfold ksk_tail
 try dsimp only
 rw[ho];simp only[L4,if_false];refine O8 (listUpdate_at e rfl ?_ (by rw[Lm,<-hl];exact z) (L6 _));refine O8 (wpAny_letGo ?_);obtain⟨hg,_⟩:=J.pin (D,seqObj "list" #[] e1) (L1 _ Ld);refine O8 (seqEpoch_at hg rfl ?_);refine O8 (listUpdate_at hg rfl ?_ (L6 _) (by rw[Lm,K8,Pa];omega));rw[hf];simp only[bne_self_eq_false,L4,if_false];refine O9 (h _ ?_);have vr:Vals (out.map V.ref) (out.map Value.ref):=by
  clear ho hz h
  induction out with
  | nil=>exact .nil
  | cons p t ih=>exact .cons rfl ih
 exact Xk1 J hD hnp vr (by rw[K8,Pa];omega)
theorem Xk5{D kS:Addr}{e1:Nat}{ks:List V}{ps:List Addr}{Ts:List (List Str)}{its:List Value}{A:Around}{E:Value->Shared->Prop}{P:PySem.Fin->Shared->Prop}(I:Inv X ((D,seqObj "list" #[] e1)::pins) σ H s)(hu:A.units<cLine)(hD:X.s₀.heap.objs.size<=D)(hnp:∀p∈X.pn++pins,p.1≠D)
  (hk:H kS=some (.lst ks)) (hlen:its.length=ps.length) (hT:ps.length=Ts.length) (nd:Ts.Nodup) (hp:∀i,i<ps.length->F4 s.heap (its.getD i .none) (Ts.getD i []).length (Ts.getD i [])) (h64:ps.length<64)
  (h:∀(p:Array Nat) s',Gd ps.length p->B2 (Dd Ts) p ps.length->Inv X pins σ (upd (upd H kS (.lst [])) D (.lst ((p.toList.map λi=>ps.getD i 0).map V.ref))) s'->P (.done (.ret .none)) s'):
  wpAny (model X.prog X.w) A (ksk_end D false (ps.map Value.ref).toArray e1 (.ref kS) its.toArray) P E s:=by
 have hsz:(ps.map Value.ref).toArray.size=ps.length:=by simp
 have L:=linP nd;rw[<-hT] at L;have outs:∀p:Array Nat,Gd ps.length p->(p.toList.map λi=>(ps.map Value.ref).getD i Value.none)=((p.toList.map λi=>ps.getD i 0).map Value.ref):=λp g=>by
  rw[L9];refine Mo λi hi=>?_;have hi':i<ps.length:=by
   have:=(Array.perm_iff_toList_perm.mp g).mem_iff.mp hi;simpa using this
  simp[List.getD,hi']
 unfold ksk_end
 try dsimp only
 simp only[L4,if_false];by_cases h2:(ps.map Value.ref).toArray.size<2
 ·rw[Pc h2,Pc h2];refine O8 (O9 ?_);rw[StateT.run_pure];refine O8 (O9 ?_)
  try dsimp only
  have g0:Gd ps.length (List.toArray (List.range ps.length)):=Array.Perm.refl _;refine Xdx (st:=SortSt.mk' general' (its.toArray.zip (ps.map Value.ref).toArray) #[] 7 none) (out:=(List.toArray (List.range ps.length)).toList.map λi=>ps.getD i 0) I hD hnp hk ?_ rfl (by simpa using h64) λs' J=>h _ s' g0 (λi j hij hj=>by omega) J;rw[<-outs _ g0];show ((its.toArray.zip (ps.map Value.ref).toArray).map (·.2))=_;apply Array.toList_inj.mp;simp only[Array.toList_map,List.zip_toArray];rw[List.map_snd_zip (by simp[hlen])];refine List.ext_getElem (by simp) λi h1 h2=>?_;simp[List.getD] at h1 ⊢;simp[h1]
 ·rw[Pb h2,Pb h2];have fst:∀(l:List Value) (q:∀v∈l,∃n ss,F4 s.heap v n ss),∃fs,KatTups s.heap l fs/\fs.length=l.length/\∀f∈fs,∃(x:Int) (t:Tok),f = .int x t:=by
   intro l
   induction l with
   | nil=>exact λ_=>⟨[],KatTups.nil,rfl,λ_ h=>by cases h⟩
   | cons v l ih=>
    intro q;obtain⟨fs,t1,t2,t3⟩:=ih λu hm=>q u (Lb _ hm);obtain⟨n,ss,a,o,xs,k,t,u,rfl,g1,g2,g3,g4,_⟩:=q v Ld;refine⟨.int n t::fs,KatTups.cons g1 g2 g3 ?_ t1,by simp[t2],λf hf=>?_⟩
    ·have:xs[0]? = xs.toList[0]?:=by simp
     rw[this,g4];rfl
    ·rcases Lk.mp hf with e | e
     ·exact⟨_,_,e⟩
     ·exact t3 f e
  obtain⟨fs,t1,t2,t3⟩:=fst its λv hv=>by
   obtain⟨i,hi,rfl⟩:=Mt.mp hv;have:=hp i (by omega);have e:its.getD i .none=its[i]:=by simp[List.getD,hi]
   rw[e] at this;exact⟨_,_,this⟩
  refine O8 (kat_kind (T:=.type "int") t1 (by omega) (λv hm=>?_) (by decide) ?_)
  ·obtain⟨x,t,rfl⟩:=t3 v hm;exact .now
  have eb:((Value.type "int") != Value.type "tuple")=true:=by decide
  rw[eb];refine O8 (wpAny_mono (kat_run (κ:=tuples' true) (ks:=its) (vs:=ps.map Value.ref) (Q:=λst' s'=>s'=s/\failedOf st'=none/\∃p,Gd ps.length p/\B2 (Dd Ts) p ps.length/\(arrOf st').map (·.2)=(p.toList.map λi=>(ps.map Value.ref).getD i Value.none).toArray)
   (G:=λp s'=>s'=s/\Gd ps.length p/\B2 (Dd Ts) p ps.length) (by simp[hlen]) (by rw[K8];omega) (by rw[K8];exact h64) (λp st' s' a1 a2 a3 a4=>⟨a4.1,a3,p,a4.2.1,a4.2.2,kat_snds (by simp[hlen]) a2⟩) ?_) ?_ λ_ _ e=>e)
  ·rw[K8];refine Xdm (n:=ps.length) (lt:=Dd Ts) (λi j C hi hj hC=>?_) (Xdk (n:=ps.length) (by omega)) ⟨rfl,(Xdk (n:=ps.length) (by omega)).run,Xkr L (by omega)⟩;show wpAny _ _ (keyLt' (tuples' true) (its.getD i Value.none) (its.getD j Value.none)) C _ _;exact Xk0 hu (hp i hi) (hp j hj) hC
  rintro ⟨⟨⟩,st'⟩ s' ⟨rfl,hf,p,g,so,ea⟩
  try dsimp only
  refine Xdx (out:=p.toList.map λi=>ps.getD i 0) I hD hnp hk (by rw[ea,outs p g]) hf (by rw[K8,Lh,g.size];exact h64) λs' J=>h p s' g so J
end
section
variable {X:Cx}{pins:List (Addr×Obj)}{σ:L2.St}{H:Hp}{s:Shared}
theorem Xk6{D kS f:Addr}{e1:Nat}{ps:List Addr}{Ts:List (List Str)}{A:Around}{E:Value->Shared->Prop}{P:PySem.Fin->Shared->Prop}(hA:A=X.A.in1.in1)(I:Inv X ((D,seqObj "list" #[] e1)::pins) σ (upd H kS (.lst [])) s)(hkS:H kS=none)(hu:A.units<cLine)(hD:X.s₀.heap.objs.size<=D)(hnp:∀p∈X.pn++pins,p.1≠D)(hDn:H D=none)
  (hT:Tups H ps Ts) (nd:Ts.Nodup) (h64:ps.length<64) (turn:Turns X f H ps Ts)
  (h:∀(p:Array Nat) (H':Hp) s',Gd ps.length p->B2 (Dd Ts) p ps.length->Same H H'->H' D=some (.lst ((p.toList.map λi=>ps.getD i 0).map V.ref))->Inv X pins σ H' s'->P (.done (.ret .none)) s'):
  wpAny (model X.prog X.w) A (ksk_rest D (.ref f) false (ps.map Value.ref).toArray e1 (.ref kS)) P E s:=by
 subst hA;unfold ksk_rest;refine O8 (wpAny_rule ?_)
 first
  | rw[List.forIn_toArray]
  | (rw[<-Oa];simp only[List.toList_toArray])
  | rw[<-Oa]
 refine O8 (ksk_fold (λi s'=>∃(H':Hp) (ks:List V),Inv X ((D,seqObj "list" #[] e1)::pins) σ H' s'/\Same H H'/\H' kS=some (.lst ks)/\ks.length=i/\∀j,j<i->∃t,ks[j]? = some (.ref t)/\H' t=some (.tup [.int (Ts.getD j []).length,.ref (ps.getD j 0)])) (ps.map Value.ref) 0 s
  ⟨_,[],I,Same.upd0 hkS,Ab,rfl,λj hj=>absurd hj (Mv _)⟩ ?step ?done)
 case step=>
  rintro j x s' hx ⟨H',ks,J,sm,hk,hkl,hks⟩;simp only[Og] at hkl hks ⊢;obtain⟨hj,ex⟩:=L3.mp hx;rw[K8] at hj;have ex':x = .ref (ps.getD j 0):=by rw[<-ex];simp[List.getD,hj]
  subst ex';refine O8 (wpAny_attempt (wpAny_mono (turn _ σ s' H' j hj sm J) (λv s'' he=>?_) λ_ _ hF=>hF.elim));obtain⟨t,H2,rfl,J2,ht,sm2⟩:=he
  try dsimp only
  have hk2:=sm2 _ _ hk;obtain⟨z,its,n,r,hl,e⟩:=J2.lstM hk2;have ntk:t≠kS:=λq=>by rw[q,hk2] at ht;cases ht
  refine O8 (listUpdate_at e rfl ?_ (by rw[Lm,<-hl];exact z) (by rw[Array.size_push,Lm,<-hl,hkl,Pa];omega));refine O9 ⟨rfl,_,ks++[.ref t],J2.lset (ys:=ks++[.ref t]) (its':=its++[.ref t]) (t':=s''.toks) hk2 e (by simp) (r.append (.cons (show Ag (.ref t) (.ref t) from rfl) .nil)) (by rw[Lj,Ml,hkl,Pa];omega),(sm.trans sm2).upd hkS,Ab,by simp[hkl],λi hi=>?_⟩;by_cases q:i=j
  ·subst q;exact⟨t,by rw[Mm (by omega),hkl];simp,by rw[Ad ntk];exact ht⟩
  ·obtain⟨t',a1,a2⟩:=hks i (by omega);refine⟨t',by rw[Mu (by omega)];exact a1,?_⟩;rw[Ad λq=>by rw[q,hk] at a2;cases a2];exact sm2 _ _ a2
 case done=>
  rintro s' ⟨H',ks,J,sm,hk,hkl,hks⟩;simp only[Og,K8] at hkl hks
  try dsimp only
  obtain⟨z,its,n,r,hl,e⟩:=J.lstM hk;refine O8 (listItems_at e rfl ?_);have hTs:=hT.same sm;have nkD:kS≠D:=λq=>by
   obtain⟨_,hn,_⟩:=J.pin (D,seqObj "list" #[] e1) (L1 _ Ld);have hn:H' D=none:=hn;rw[<-q,hk] at hn;cases hn
  refine Xk5 (ks:=ks) J hu hD hnp hk (by omega) hT.1 nd (λi hi=>?_) h64 λp s2 g so J2=>h p _ s2 g so ((sm.upd hkS).upd hDn) Ab J2;obtain⟨t,a1,a2⟩:=hks i hi;obtain⟨u,hu1,hu2⟩:=r.get a1;have hu2:u=Value.ref t:=hu2;have e2:its.getD i .none = .ref t:=by simp[List.getD,hu1,hu2]
  rw[e2];exact Xk4 J a2 (hTs.2 i hi)
theorem Xk7{l f:Addr}{ps:List Addr}{Ts:List (List Str)}{Q:VK}(I:Inv X pins σ H s)(hu:X.A.in1.in1.units<cLine)(hl:H l=some (.lst (ps.map V.ref)))(hT:Tups H ps Ts)(nd:Ts.Nodup)(h64:ps.length<64)(turn:Turns X f H ps Ts)
  (h:∀(D:Addr) (p:Array Nat) (H':Hp),H D=none->Gd ps.length p->B2 (Dd Ts) p ps.length->Same H H'->H' D=some (.lst ((p.toList.map λi=>ps.getD i 0).map V.ref))->Q (.ref D) H'):
  wpAny (model X.prog X.w) X.A (call (.builtin "sorted") [.ref l] [(Str.ofString "key",.ref f)]) (EP X pins σ Q) X.xe s:=by
 obtain⟨its,rv,pl,hz⟩:=I.list (SqL.of hl);have hits:its=ps.map Value.ref:=by
  clear hT h64 turn h pl hl hz
  induction ps generalizing its with
  | nil=>cases rv;rfl
  | cons p t ih=>
   cases rv with
   | cons r t'=>cases r;rw[ih _ t'];rfl
 subst hits;refine call_function_entry_kw kind_sorted plain_sorted entry_sorted (ksk_s1 _ _) ?_;unfold Builtin.«sorted»;refine O8 (m:=checkCount "sorted" 1 1 _) (O9 ?_);refine O8 (collect_list pl.isList ?_ (by rw[K8,Pa];omega));refine O8 (wpAny_newList ?_ (by rw[K8,Pa];omega));generalize hvs:ps.map Value.ref=vs at *;have hvl:vs.length=ps.length:=by rw[<-hvs,K8]
 have hsz:((s.heap.push (seqObj "list" #[] 0)).update s.heap.objs.size (Obj.mapSeq (· ++ vs.toArray))).objs.size=s.heap.objs.size+1:=by
  rw[Heap.size_update,size_push']
 have hoL:(((s.heap.push (seqObj "list" #[] 0)).update s.heap.objs.size (Obj.mapSeq (· ++ vs.toArray))).push (seqObj "list" vs.toArray 0)).get? (s.heap.objs.size+1)=some (seqObj "list" vs.toArray 0):=by
  rw[<-hsz];exact Heap.get?_push_size _ rfl
 have keep:∀b o,s.heap.get? b=some o->(((s.heap.push (seqObj "list" #[] 0)).update s.heap.objs.size (Obj.mapSeq (· ++ vs.toArray))).push (seqObj "list" vs.toArray 0)).get? b=some o:=λb o q=>by
  have hlt:b<s.heap.objs.size:=Ph q;rw[Heap.get?_push_ne _ _ _ (by rw[hsz];exact Lg (M3 hlt)),Heap.get?_update_ne _ _ _ _ (Lg hlt),Heap.get?_push_ne _ _ _ (Lg hlt)];exact q
 have hszA:(((s.heap.push (seqObj "list" #[] 0)).update s.heap.objs.size (Obj.mapSeq (· ++ vs.toArray))).push (seqObj "list" vs.toArray 0)).objs.size=s.heap.objs.size+2:=by
  rw[size_push',hsz]
 show wpAny _ _ _ _ _ {s with heap:=((s.heap.push (seqObj "list" #[] 0)).update s.heap.objs.size (Obj.mapSeq (· ++ vs.toArray))).push (seqObj "list" vs.toArray 0)};rw[hsz];generalize hhA:((s.heap.push (seqObj "list" #[] 0)).update s.heap.objs.size (Obj.mapSeq (· ++ vs.toArray))).push (seqObj "list" vs.toArray 0)=hA at *;refine O8 (wpAny_holding (wpAny_call_entry_kw slot_list_sort ⟨_,hoL,rfl⟩ entry_list_sort ?body (ksk_l1 _ _)))
 case body=>
  show wpAny (model X.prog X.w) X.A.in1.in1 (Builtin.«list.sort» ⟨[.ref (s.heap.objs.size+1)],[(Str.ofString "key",.ref f)]⟩) _ _ _;rw[ksk_t1];unfold ksk_tree;refine O8 (listItems_at hoL rfl ?_);refine O8 (listUpdate_at hoL rfl ?_ (by rw[Lm,hvl,Pa];omega) (L6 _));obtain⟨e1,ho1⟩:∃e1,(hA.update (s.heap.objs.size+1) (Obj.mapSeq λ_=>(#[]:Array Value))).get? (s.heap.objs.size+1)=some (seqObj "list" #[] e1):=⟨_,get?_update_seq hoL λ_ => #[]⟩;refine O8 (seqEpoch_at ho1 rfl ?_);refine O8 (wpAny_newTuple ?_ (by show vs.length<=_;rw[hvl,Pa];omega));refine O8 (wpAny_newList ?_ (L6 _));refine wpAny_holding ?_;have hkS:((hA.update (s.heap.objs.size+1) (Obj.mapSeq λ_=>(#[]:Array Value))).push (seqObj "tuple" vs.toArray 0)).objs.size=s.heap.objs.size+3:=by rw[size_push',Heap.size_update,hszA]
  have k6:∀b o,s.heap.get? b=some o->(((hA.update (s.heap.objs.size+1) (Obj.mapSeq λ_=>(#[]:Array Value))).push (seqObj "tuple" vs.toArray 0)).push (seqObj "list" #[] 0)).get? b=some o:=λb o e=>by
   refine Pi _ (Pi _ ?_);rw[Heap.get?_update_ne _ _ _ _ (Lg (M3 (Ph e)))];exact keep b o e
  have ho6:(((hA.update (s.heap.objs.size+1) (Obj.mapSeq λ_=>(#[]:Array Value))).push (seqObj "tuple" vs.toArray 0)).push (seqObj "list" #[] 0)).get? (s.heap.objs.size+1)=some (seqObj "list" #[] e1):=Pi _ (Pi _ ho1);have hk6:(((hA.update (s.heap.objs.size+1) (Obj.mapSeq λ_=>(#[]:Array Value))).push (seqObj "tuple" vs.toArray 0)).push (seqObj "list" #[] 0)).get? (s.heap.objs.size+3)=some (seqObj "list" #[] 0):=by rw[<-hkS];exact Heap.get?_push_size _ rfl
  have J0:Inv X pins σ (upd H (s.heap.objs.size+3) (.lst [])) {s with heap:=((hA.update (s.heap.objs.size+1) (Obj.mapSeq λ_=>(#[]:Array Value))).push (seqObj "tuple" vs.toArray 0)).push (seqObj "list" #[] 0)}:=
   I.laid (t':=s.toks) (o:=.lst []) k6 (by omega) ⟨by decide,[],0,.nil,hk6⟩
  have hDn:H (s.heap.objs.size+1)=none:=I.hok.fresh (Ni _);have hnp:∀p∈X.pn++pins,p.1≠s.heap.objs.size+1:=λp hp=>Lg (M3 (Ph (I.pin p hp).1));have J1:Inv X ((s.heap.objs.size+1,seqObj "list" #[] e1)::pins) σ (upd H (s.heap.objs.size+3) (.lst [])) {s with heap:=((hA.update (s.heap.objs.size+1) (Obj.mapSeq λ_=>(#[]:Array Value))).push (seqObj "tuple" vs.toArray 0)).push (seqObj "list" #[] 0)}:=by
   refine J0.pins_of λp hp=>?_;rcases Lk.mp hp with rfl | hp
   ·exact⟨ho6,by rw[Ad (by show s.heap.objs.size+1≠s.heap.objs.size+3;omega)];exact hDn,Ov (M3 I.lt),I.nofs (Ni _),λv q=>by cases q⟩
   ·exact J0.pin p (L1 _ hp)
  rw[hkS];subst hvs;refine Xk6 (f:=f) rfl J1 (I.hok.fresh (by omega)) hu (L0 I.sz (Ni _)) hnp hDn hT nd h64 turn λp H' s' g so sm hD' J=>⟨_,rfl,?_⟩;exact O9 ⟨_,rfl,⟨.ref (s.heap.objs.size+1),H',J,rfl,h _ p H' hDn g so sm hD'⟩⟩
end
structure FunT (K:PySem.W.Frag) (x:Str) (st:Stmt) (f:Addr) (fd:FuncData) (T:Addr):Prop where
 ex:∃(oc:Value) (od:Option Addr) (kV doc pm:Value) (an:Option Addr) (c0:Addr) (ct:Value) (osl:Array (Option Value)),
  fd=PySem.W.fnOf x x (C6 st) (B4 st) (Aj st) .none kV doc pm an (.ref c0) ct/\K.lookup f=some ⟨oc,od,.func fd,osl⟩/\PySem.W.codeIn K (.ref c0) x=true/\PySem.W.codeHdIn K c0 T=true
 kp:PySem.W.keepIn K (.ref f)=true
structure DefT (K:PySem.W.Frag) (x:Str) (st:Stmt) (T:Addr):Prop where
 ex:∃f fd,PySem.W.nsIn K mainGlobals x=some (some (.ref f))/\PySem.W.keepIn K (.ref f)=true/\FunT K x st f fd T/\Fun K x x st f fd
theorem DefT.of{K:PySem.W.Frag}{x:Str}{st:Stmt}{f c0 T:Addr}{oc:Value}{od an:Option Addr}{osl:Array (Option Value)}{kV doc pm ct:Value}(a:PySem.W.nsIn K mainGlobals x=some (some (.ref f)))
  (l:K.lookup f=some ⟨oc,od,.func (PySem.W.fnOf x x (C6 st) (B4 st) (Aj st) .none kV doc pm an (.ref c0) ct),osl⟩) (c:PySem.W.codeIn K (.ref c0) x=true) (k:PySem.W.keepIn K (.ref f)=true) (t:PySem.W.codeHdIn K c0 T=true):DefT K x st T:=
 ⟨⟨f,_,a,k,⟨⟨oc,od,kV,doc,pm,an,c0,ct,osl,rfl,l,c,t⟩,k⟩,Xbf l c k⟩⟩
section
variable {P:Program}{w:World}{K:PySem.W.Frag}{mg:Str->Option Value}{base:Heap}
theorem FunT.ok{x:Str}{st:Stmt}{f T:Addr}{fd:FuncData}{N ps:List Str}{k:Nat}{sp:Sp}(F:FunT K x st f fd T)(S:FnScope N ps (Aj st))(len:∀vs H Q E,sp vs H Q E->vs.length=ps.length)
  (hbody:∀(c0:Addr),PySem.W.codeHdIn K c0 T=true->∀(A:Around) (outer:List Env) (s:Shared) (H:Hp) (vs:List V) (Q:VK) (E:XK),Room k (A.deeper (envOfC x (Aj st) s.heap.objs.size f (.ref c0)))->sp vs H Q E ->
   ∃t,PSs (Bz CX0 P w K mg base N x (Aj st) f (.ref c0) A outer s H E).nox (B4 st) t/\t {nx:=λ_ H'=>Q .non H',rt:=Q} (start N vs) H):FnOk P w K mg base CX0 (k+1) f fd ps sp:=by
 obtain⟨oc,od,kV,doc,pm,an,c0,ct,osl,rfl,lk,hcd,hhd⟩:=F.ex;refine Ik lk hcd S len λA outer s H vs Q E hr hsp=>?_;obtain⟨t,h,q⟩:=hbody c0 hhd A outer s H vs Q E hr hsp;exact⟨t,h.nox,q⟩
end
section
variable {X:Cx}
def Xk8 (X:Cx) (ta tk:TA):TE:=fun σ H Q=>ta σ H λvs H1=>tk σ H1 λzs H2=>∃(l f:Addr) (ps:List Addr) (Ts:List (List Str)),vs=[.ref l]/\zs=[.ref f]/\H2 l=some (.lst (ps.map V.ref))/\Tups H2 ps Ts/\Ts.Nodup/\ps.length<64/\Turns X f H2 ps Ts /\
 ∀(D:Addr) (p:Array Nat) (H':Hp),H2 D=none->Gd ps.length p->B2 (Dd Ts) p ps.length->Same H2 H'->H' D=some (.lst ((p.toList.map λi=>ps.getD i 0).map V.ref))->Q (.ref D) H'
theorem Xk9{x:Str}{p pos:Pos}{e:Expr}{es:List Expr}{kws:List Keyword}{ta tk:TA}(hu:X.A.in1.in1.units<cLine)(hg:Gl X x)(hm:X.mg x=none)(hv:bootBuiltins x=some (.builtin "sorted"))(ha:PA X (e::es) ta)(hkw:PK X kws tk)
  (hks:(backToKw pos (keywordEach kws X.env)).filterMap (·.1)=[Str.ofString "key"]:=by rfl)
  (hn:x ≠ "__name__" := by decide) (hdb:(x==("__debug__" : Str))=false:=by decide)
  (he:backTo pos (starEach (e::es) X.env)=(false,eval e X.env)::backTo pos (starEach es X.env):=by rfl)
  (hplain:(backTo pos (starEach (e::es) X.env)).any (·.1)=false:=by rfl)
  (hall:(backToKw pos (keywordEach kws X.env)).all (·.1.isSome)=true:=by rfl)
  (hno:(backToKw pos (keywordEach kws X.env)).any (·.1.isNone)=false:=by rfl):PE X (.Call (.Name x p) (e::es) kws pos) (Xk8 X ta tk):=by
 intro pins s σ H Q I h;refine wpAny_Call_Name_kw (E9 I hg hm hv ?_ hn hdb);refine callWith_kw (thn (ha pos pins s σ H _ I h) λus s1 ⟨vs,H1,I1,r1,q1⟩=>thn (hkw pos pins s1 σ H1 _ I1 q1) λws s2 ⟨zs,H2,I2,r2,q2⟩=>?_) he hplain hall hno;rw[hks];obtain⟨l,f,ps,Ts,rfl,rfl,hl,hT,nd,h64,turn,k⟩:=q2;obtain⟨u,rfl,rx⟩:=Ct r1;obtain⟨v,rfl,rf⟩:=Ct r2;cases rx;cases rf;exact Xk7 I2 hu hl hT nd h64 turn k
theorem Xla{k:Nat}{f c:Addr}{x qual:Str}{params:Arguments}{body:Expr}{scope:Scope}{pm ctv:Value}{H:Hp}{ps:List Addr}{Ts:List (List Str)}(hf:H f=some (.ext (Dt f (PySem.W.kla_fn "<lambda>" qual params body scope [] pm (.ref c) ctv))))(hc:H c=some (.ext (Ds c qual)))
  (S:FnScope [x] [x] scope) (hr:Room (k+3) X.A) (hb:∀u,bindArgs (PySem.W.kla_fn "<lambda>" qual params body scope [] pm (.ref c) ctv) ⟨[u],[]⟩=pure ([x].zip [u]))
  (hkey:∀(A:Around) (outer:List Env) (s1:Shared) (H1:Hp) (i:Nat),i<ps.length->Same H H1->Room k (A.deeper (envOfC qual scope s1.heap.objs.size f (.ref c)))->∃t,PE (Bz CX0 X.prog X.w X.K X.mg X.base [x] qual scope f (.ref c) A outer s1 H1 E0) body t /\
   ∀Q:VK,(∀t H2,H2 t=some (.tup [.int (Ts.getD i []).length,.ref (ps.getD i 0)])->Same H1 H2->Q (.ref t) H2)->t (start [x] [.ref (ps.getD i 0)]) H1 Q):Turns X f H ps Ts:=by
 intro pins σ s1 H1 i hi sm I;have hr1:Room (k+1) X.A.in1.in1:=(Room.in1 (k:=k+2) hr).in1;obtain⟨t,ht,hq⟩:=hkey X.A.in1.in1 X.stack s1 H1 i hi sm (hr1.deeper _);refine wpAny_call (codeAny_mono (Xji (Q:=λv H2=>∃t,v = .ref t/\H2 t=some (.tup [.int (Ts.getD i []).length,.ref (ps.getD i 0)])/\Same H1 H2) (sm _ _ hf) (sm _ _ hc) S hr1 I.env0.in1.in1 rfl (.cons (show Ag (.ref (ps.getD i 0)) (.ref (ps.getD i 0)) from rfl) .nil) (hb _) ht (hq _ λt H2 a b=>⟨t,rfl,a,b⟩)) λr s' hq'=>?_);cases r with
 | error e=>exact hq'.elim
 | ok fl=>
  cases fl with
  | next=>exact False.elim hq'
  | brk=>exact False.elim hq'
  | cont=>exact False.elim hq'
  | ret u=>
   obtain⟨v,H2,J,rv,t,rfl,a,b⟩:=I.after hq';exact⟨t,H2,rv,J,a,b⟩
end
end L2
namespace SH
open PySem PySem.Spec PyProof.Rows L2
theorem Ks{how:Str}{off:Bool}:Bm how off=true↔(how = "within" -> off=true)/\(how = "apart" -> off=false):=by
 unfold Bm;by_cases h:how = "within"
 ·rw[Pc h];have n:how ≠ "apart" := by rw[h];decide
  exact⟨λz=>⟨λ_=>z,λz=>absurd z n⟩,λz=>z.1 h⟩
 ·rw[Pb h];by_cases g:how = "apart"
  ·rw[Pd g];constructor
   ·exact λz=>⟨λq=>absurd q h,λ_=>by simpa using z⟩
   ·intro z;rw[z.2 g];rfl
  ·rw[Pe g];exact⟨λ_=>⟨λq=>absurd q h,λq=>absurd q g⟩,λ_=>rfl⟩
theorem F5{row S:List Str}:Ae row S=true↔S.Pairwise ltS/\(∀x∈S,x∈row)/\(∀x∈S,∀y∈row,lieR row x y = "within" -> y∈S)/\(∀x∈S,∀y∈S,lieR row x y ≠ "apart"):=by
 constructor
 ·intro h;obtain⟨h1,h2⟩:=Bo h;unfold Ae at h;rw[Ln] at h;have al:∀x∈S,∀y∈row,Bm (lieR row x y) (decide (y∈S))=true:=λx hx y hy=>Lz.mp (Lz.mp h.2 x hx) y (Ak.mpr hy);refine⟨h2,h1,λx hx y hy e=>Pf ((Ks.mp (al x hx y hy)).1 e),λx hx y hy e=>?_⟩;have:=(Ks.mp (al x hx y (h1 y hy))).2 e;rw[Pd hy] at this;cases this
 ·rintro ⟨h1,h2,h3,h4⟩;unfold Ae;rw[Ln,Ln];refine⟨⟨Pd (G4 h1).symm,Lz.mpr λx hx=>Pd (h2 x hx)⟩,Lz.mpr λx hx=>Lz.mpr λy hy=>Ks.mpr ⟨λe=>Pd (h3 x hx y (Ak.mp hy) e),λe=>Pe λz=>h4 x hx y z e⟩⟩
theorem Hf{a b c e:Int}(h:lieT a b c e = "within"):c<a/\a<e/\c<b/\b<e:=by
 unfold lieT at h;split at h
 ·exact absurd h (by decide)
 ·split at h
  ·exact absurd h (by decide)
  ·split at h
   ·rename_i q;rw[Br] at q;by_cases p1:c<a/\a<e
    ·by_cases p2:c<b/\b<e
     ·exact⟨p1.1,p1.2,p2.1,p2.2⟩
     ·rw[Pc p1,Pb p2] at q;omega
    ·rw[Pb p1] at q;split at q<;>omega
   ·split at h
    ·exact absurd h (by decide)
    ·exact absurd h (by decide)
theorem Xdy{row:List Str}{x y:Str}(hx:row.count x=2)(h:lieR row x y = "within"):span row x<span row y:=by
 have l1:=Bq hx;obtain⟨h1,h2,h3,h4⟩:=Hf h;unfold span;omega
theorem Xlb{S:List Str}{p:Str->Bool}(h:S.Pairwise ltS):(S.filter p).Pairwise ltS:=h.filter p
theorem Xdz{H:Hp}:∀{Ts:List (List Str)} {xs:List V},DAll H (Ts.map A6) xs->∃ps:List Addr,xs=ps.map V.ref/\Tups H ps Ts
 | [],xs,h=>by unfold List.map DAll at h;exact⟨[],h,Tups.nil H⟩
 | T::Ts,xs,h=>by
  rw[L5] at h;unfold DAll at h;obtain⟨v,vr,rfl,h1,h2⟩:=h;obtain⟨p,ys,rfl,hp,hy⟩:=Xi2 h1;rw[Kb hy] at hp;obtain⟨ps,rfl,hq⟩:=Xdz h2;exact⟨p::ps,rfl,Tups.cons hp hq⟩
theorem Xd0{H:Hp}:∀{ps:List Addr} {Ts:List (List Str)},Tups H ps Ts->DAll H (Ts.map A6) (ps.map V.ref)
 | [],Ts,h=>by
  have:Ts=[]:=Mc.mp h.1.symm;rw[this];unfold List.map DAll;rfl
 | p::ps,[],h=>by have:=h.1;simp at this
 | p::ps,T::Ts,h=>by
  rw[L5,L5];unfold DAll;exact⟨.ref p,ps.map V.ref,rfl,Ef (h.2 0 (by simp)),Xd0 ⟨by simpa using h.1,λi hi=>by simpa using h.2 (i+1) (by simpa using hi)⟩⟩
def Cov (row:List Str) (Us:List (List Str)) (j:Nat) (Ts:List (List Str)):Prop:=∀i,i<j->∀x∈row,x∉Us.getD i []->Ae row (srt (Us.getD i []++[x]))=true->srt (Us.getD i []++[x])∈Ts
theorem Xd1{α : Type}{R : α -> α->Prop}(irr:∀a,¬R a a)(tr:∀a b c,R a b->R b c->R a c):∀{A B:List α},A.Pairwise R->B.Pairwise R->(∀x,x∈A↔x∈B)->A=B
 | [],[],_,_,_=>rfl
 | [],b::_,_,_,h=>absurd ((h b).mpr Ld) (by simp)
 | a::_,[],_,_,h=>absurd ((h a).mp Ld) (by simp)
 | a::A,b::B,hA,hB,h=>by
  obtain⟨a1,a2⟩:=Ng.mp hA;obtain⟨b1,b2⟩:=Ng.mp hB;have e:a=b:=by
   rcases Lk.mp ((h a).mp Ld) with z | z
   ·exact z
   ·rcases Lk.mp ((h b).mpr Ld) with u | u
    ·exact u.symm
    ·exact absurd (tr _ _ _ (a1 b u) (b1 a z)) (irr a)
  subst e;rw[Xd1 irr tr a2 b2 λx=>?_];constructor
  ·intro hx;rcases Lk.mp ((h x).mp (Lb _ hx)) with z | z
   ·exact absurd (z ▸ a1 x hx) (irr a)
   ·exact z
  ·intro hx;rcases Lk.mp ((h x).mpr (Lb _ hx)) with z | z
   ·exact absurd (z ▸ b1 x hx) (irr a)
   ·exact z
def LayC (row:List Str) (n:Nat) (Us:List (List Str)):Prop:=∀T,T∈Us↔Ae row T=true/\T.length=n
end SH
namespace L2
open PySem PySem.Spec PyProof.Rows
end L2
namespace SH
open PySem PySem.Spec PyProof.Rows L2
def Kt:Sp:=λvs H Q _=>∃(dr sc l:Addr) (xs:List V),vs=[.ref dr,.ref l]/\DrawOk H dr sc/\H l=some (.lst xs)/\l≠dr/\0<xs.length/\xs.length<=1000 /\
 ∀(i:Nat) (H':Hp),i<xs.length->DrawOk H' dr sc->But dr H H'->Q (xs.getD i .non) H'
def mostL (a b c:List Str):List Str:=srt ((a.filter λx=>decide (x∈b)||decide (x∈c))++(b.filter λx=>decide (x∈c) && !decide (x∈a)))
theorem lt_uniq{a b:List Str}(ha:a.Pairwise ltS)(hb:b.Pairwise ltS)(h:∀x,x∈a↔x∈b):a=b:=Xd1 Gr (λ_ _ _=>Gs) ha hb h
end SH
set_option maxHeartbeats 3200000
namespace L2
open PySem PySem.Spec PyProof.Rows PySem.Calls
def it5 (mask:Nat):Nat->Nat->Nat
 | 0,i=>i
 | m+1,i=>it5 mask m ((i * 5+1) % (mask+1))
theorem Xlc:∀i<8,∀j<8,∃m<8,it5 7 m i=j:=by decide +kernel
theorem Xld:∀i<16,∀j<16,∃m<16,it5 15 m i=j:=by decide +kernel
theorem Xle:∀i<32,∀j<32,∃m<32,it5 31 m i=j:=by decide +kernel
def Mask (mask:Nat):Prop:=mask=7\/mask=15\/mask=31
theorem Xlf{mask:Nat}(h:Mask mask):∀i<mask+1,∀j<mask+1,∃m<mask+1,it5 mask m i=j:=by
 rcases h with rfl | rfl | rfl
 ·exact Xlc
 ·exact Xld
 ·exact Xle
section
variable {mask:Nat}{owner:Array (Option Nat)}
abbrev Free (owner:Array (Option Nat)) (j:Nat):Prop:=owner.getD j (some 0)=none
theorem Xd2(fuel i p:Nat):(∃j,SetTable.layClean.free mask owner (fuel+1) i p=some j/\Free owner j) \/
  (¬Free owner i/\SetTable.layClean.free mask owner (fuel+1) i p=SetTable.layClean.free mask owner fuel ((i * 5+1+p / 32) % (mask+1)) (p / 32)):=by
 rw[SetTable.layClean.free];cases hf:(List.range (SetTable.runEnd mask i+1 - i)).find? λk=>(owner.getD (i+k) (some 0)).isNone with
 | some k=>
  left;refine⟨i+k,rfl,?_⟩;have:=List.find?_some hf;exact Option.isNone_iff_eq_none.mp this
 | none=>
  right;refine⟨λz=>?_,rfl⟩;rw[List.find?_eq_none] at hf;have hr:0<SetTable.runEnd mask i+1 - i:=by
   unfold SetTable.runEnd;split<;>omega
  have:=hf 0 (Mp.mpr hr);rw[Nat.add_zero] at this;have z:owner.getD i (some 0)=none:=z;rw[z] at this;exact this rfl
theorem Xd3:∀fuel i,(∃m,m<fuel/\Free owner (it5 mask m i))->∃j,SetTable.layClean.free mask owner fuel i 0=some j/\Free owner j
 | 0,_,⟨_,h,_⟩=>absurd h (Mv _)
 | fuel+1,i,⟨m,hm,hf⟩=>by
  rcases Xd2 (mask:=mask) (owner:=owner) fuel i 0 with h | ⟨h1,h2⟩
  ·exact h
  ·rw[h2];cases m with
   | zero=>exact absurd hf h1
   | succ m=>exact Xd3 fuel _ ⟨m,by omega,hf⟩
theorem Xd4:∀c fuel i p,p<32 ^ c->i<mask+1->(∀i,i<mask+1->∃m,m<fuel/\Free owner (it5 mask m i))->∃j,SetTable.layClean.free mask owner (fuel+c) i p=some j/\Free owner j
 | 0,fuel,i,p,hp,hi,h=>by
  have:p=0:=by omega
  subst this;exact Xd3 fuel i (h i hi)
 | c+1,fuel,i,p,hp,hi,h=>by
  rcases Xd2 (mask:=mask) (owner:=owner) (fuel+c) i p with h' | ⟨_,h2⟩
  ·exact h'
  ·rw[<-Nat.add_assoc,h2];exact Xd4 c fuel _ _ (by rw[Nat.pow_succ] at hp;omega) (O4 _ (by omega)) h
def Ci (owner:Array (Option Nat)):List Nat:=owner.toList.filterMap id
theorem Xlg{j k:Nat}(h:Free owner j):(Ci (owner.setIfInBounds j (some k))).Perm (k::Ci owner):=by
 have hj:j<owner.size:=by
  by_cases q:j<owner.size
  ·exact q
  ·have h:owner.getD j (some 0)=none:=h;simp[Array.getD,q] at h
 have h':owner.toList[j]'(by simpa using hj)=none:=by
  have h:owner.getD j (some 0)=none:=h;simpa [Array.getD,hj] using h
 unfold Ci;rw[Array.toList_setIfInBounds];have e:∀(l:List (Option Nat)) (j:Nat) (hj:j<l.length),l[j]=none->((l.set j (some k)).filterMap id).Perm (k::l.filterMap id):=by
  intro l
  induction l with
  | nil=>intro j hj;exact absurd hj (Mv _)
  | cons o l ih=>
   intro j hj hn;cases j with
   | zero=>
    have:o=none:=hn;subst this;simp
   | succ j=>
    have:=ih j (by simpa using hj) (by simpa using hn);cases o with
    | none=>simpa using this
    | some v=>
     simp only[List.set_cons_succ,M0,id];exact(this.cons v).trans (List.Perm.swap k v _)
 exact e _ j (by simpa using hj) h'
theorem Xlh(hn:(Ci owner).length<owner.size):∃j,j<owner.size/\Free owner j:=by
 refine Classical.byContradiction λz=>?_;have all:∀o∈owner.toList,o≠none:=λo ho e=>by
  obtain⟨j,hj,e2⟩:=Mt.mp ho;have hj':j<owner.size:=by simpa using hj
  refine z ⟨j,hj',?_⟩;show owner.getD j (some 0)=none;rw[<-e,<-e2];simp[Array.getD,hj']
 have:(Ci owner).length=owner.toList.length:=by
  unfold Ci;generalize owner.toList=l at all;clear hn z
  induction l with
  | nil=>rfl
  | cons o l ih=>
   cases o with
   | none=>exact absurd rfl (all none Ld)
   | some v=>
    have:=ih λo ho=>all o (Lb _ ho);simp only[M0,id,Lp,this]
 exact absurd hn (by rw[this,Lh];exact Mb _)
end
theorem Xli(h:Int):SetTable.bits h<32 ^ 14:=by
 unfold SetTable.bits;have h1:h % (2 ^ 64:Int)<2 ^ 64:=Nw _ (by decide);have h2:0<=h % (2 ^ 64:Int):=Ob _ (by decide);have:(h % (2 ^ 64:Int)).toNat<2 ^ 64:=by omega
 exact Lr this (by decide)
def Ku (mask:Nat) (acc:Option (Array (Option Nat)×Nat)) (h:Int):Option (Array (Option Nat)×Nat):=do
 let (owner,k) <-acc
 let j <-SetTable.layClean.free mask owner (SetTable.turns mask) (SetTable.bits h % (mask+1)) (SetTable.bits h)
 pure (owner.setIfInBounds j (some k),k+1)
theorem Xd5{mask:Nat}(hm:Mask mask):∀(hs:List Int) (owner:Array (Option Nat)) (k:Nat),owner.size=mask+1->(Ci owner).Perm (List.range k)->k+hs.length<=mask ->
  ∃owner',hs.foldl (Ku mask) (some (owner,k))=some (owner',k+hs.length)/\owner'.size=mask+1/\(Ci owner').Perm (List.range (k+hs.length))
 | [],owner,k,h1,h2,_=>⟨owner,rfl,h1,h2⟩
 | h::hs,owner,k,h1,h2,h3=>by
  have hl:(Ci owner).length=k:=by rw[h2.length_eq,Ms]
  rw[Lp] at h3;obtain⟨j0,hj0,hf0⟩:=Xlh (owner:=owner) (by omega);obtain⟨j,e,hf⟩:=Xd4 (mask:=mask) (owner:=owner) 14 (mask+1) (SetTable.bits h % (mask+1)) (SetTable.bits h) (Xli h) (O4 _ (by omega)) λi hi=>by
   obtain⟨m,hm1,hm2⟩:=Xlf hm i hi j0 (by omega);exact⟨m,hm1,by rw[hm2];exact hf0⟩
  have e1:Ku mask (some (owner,k)) h=some (owner.setIfInBounds j (some k),k+1):=by
   show (do let j <-SetTable.layClean.free mask owner (SetTable.turns mask) (SetTable.bits h % (mask+1)) (SetTable.bits h);pure (owner.setIfInBounds j (some k),k+1))=_;have:SetTable.turns mask=mask+1+14:=by unfold SetTable.turns;omega
   rw[this,e];rfl
  rw[Oq,e1];obtain⟨o',a1,a2,a3⟩:=Xd5 hm hs (owner.setIfInBounds j (some k)) (k+1) (by simpa using h1) (by
   refine(Xlg hf).trans ((h2.cons k).trans ?_);rw[Md];exact(List.perm_append_singleton k (List.range k)).symm) (by omega)
  rw[show k+(h::hs).length=k+1+hs.length by rw[Lp];omega];exact⟨o',a1,a2,a3⟩
theorem Xlj(mask:Nat)(hs:Array Int):SetTable.layClean mask hs=(hs.toList.foldl (Ku mask) (some (Array.replicate (mask+1) none,0))).map (·.1):=by
 unfold SetTable.layClean;rw[<-Array.foldl_toList];rfl
theorem Xd6:∀(owner:Array (Option Nat)),((List.range owner.size).filterMap λj=>(owner.getD j none).map (j, ·)).map (·.2)=Ci owner:=by
 intro owner;unfold Ci;rw[List.map_filterMap];have e:owner.toList=(List.range owner.size).map λj=>owner.getD j none:=by
  refine List.ext_getElem (by simp) λi h1 h2=>?_;have:i<owner.size:=by simpa using h1
  simp[Array.getD,this]
 rw[e,List.filterMap_map];congr 1;funext j;show Option.map _ (Option.map _ (owner.getD j none))=owner.getD j none;cases owner.getD j none<;>rfl
theorem Xlk{mask finger moves:Nat}{led plain:Bool}{hs:Array Int}(hm:Mask mask)(hn:hs.size<=mask):
  ∃t o,SetTable.laid mask finger moves led plain hs=some (t,o)/\o.toList.Perm (List.range hs.size)/\t.fits hs.size=true/\t.led=led/\t.plain=plain:=by
 obtain⟨owner,e1,e2,e3⟩:=Xd5 hm hs.toList (Array.replicate (mask+1) none) 0 (by simp) (by
  unfold Ci;rw[Array.toList_replicate];have:∀n,(List.replicate n (none:Option Nat)).filterMap id=[]:=λn=>by
   induction n with
   | zero=>rfl
   | succ n ih=>rw[List.replicate_succ];simpa using ih
  rw[this];exact M5 _) (by simpa using hn)
 rw[Lh,Og] at e1 e3;have ec:SetTable.layClean mask hs=some owner:=by rw[Xlj,e1];rfl
 unfold SetTable.laid;rw[ec];refine⟨_,_,rfl,?_,?_,rfl,rfl⟩
 ·show (((List.range (mask+1)).filterMap λj=>(owner.getD j none).map (j, ·)).map (·.2)).Perm _;rw[<-e2,Xd6];exact e3
 ·have l1:(((List.range (mask+1)).filterMap λj=>(owner.getD j none).map (j, ·))).length=hs.size:=by
   have:=congrArg List.length (Xd6 owner);rw[K8,e2,e3.length_eq,Ms] at this;exact this
  simp only[SetTable.fits,SetTable.fill,Ln,beq_iff_eq,decide_eq_true_eq,Lm,K8,l1];exact⟨trivial,by simpa using hn⟩
theorem Xll{mask finger moves:Nat}{led plain:Bool}(hm:Mask mask):∃t,SetTable.laid mask finger moves led plain #[]=some (t, #[])/\t.mask=mask/\t.place = #[]/\t.dummies = #[]/\t.led=led/\t.plain=plain:=by
 have ec:SetTable.layClean mask #[]=some (Array.replicate (mask+1) none):=rfl;unfold SetTable.laid;rw[ec];have l0:((List.range (mask+1)).filterMap λj=>((Array.replicate (mask+1) (none:Option Nat)).getD j none).map (j, ·))=[]:=by
  rw[List.filterMap_eq_nil_iff];intro j hj;have:j<mask+1:=Mp.mp hj;simp[Array.getD,this]
 refine⟨⟨mask, #[], #[],finger,led,moves,plain⟩,?_,rfl,rfl,rfl,rfl,rfl⟩;show some (_,_)=_;rw[l0];rfl
def reord (es:Array (Int×Value)) (laid:Option (SetTable×Array Nat)):Sem (Array (Int×Value)×SetTable):=do
 let some (t,order):=laid | unsupported "internal:set-table-without-room"
 let es':=order.filterMap (es[·]?)
 if es'.size != es.size then unsupported "internal:set-table-lost-an-element"
 pure (es',t)
theorem Xlm(a:Addr)(wanted:Nat):setRelay a wanted=(do
  let (es,_,t) <-setState a
  if SetTable.sizeAbove wanted > sizeLine then unsupported "set:memory"
  let (es,t) <-reord es (t.relaid (es.map (·.1)) wanted)
  storeSet a es t):=rfl
theorem Xln(s o:Addr)(each:Sem Unit):setMerge s o each=(do
  if s==o then return
  let (eo,epoch,to) <-setState o
  if eo.isEmpty then return
  setRoomFor s eo.size
  let (_,_,ts) <-setState s
  match ts.road to with
  | .slotForSlot=>storeSet s eo {to with finger:=ts.finger,led:=ts.led&&to.led,moves:=ts.moves,plain:=ts.plain&&to.plain}
  | .clean=>
   let (es,t) <-reord eo (SetTable.laid ts.mask ts.finger ts.moves (led:=ts.led&&to.led) (plain:=ts.plain&&to.plain) (eo.map (·.1)))
   storeSet s es t
  | .oneByOne=>
   for (h,x) in <-setWalkUnseen o [s] (some s) do
    let _ <-holding [x] (setAddHashed s x h)
    each
    if (<-setState o).2.1 != epoch then unsupported "set.changed-during-merge"):=rfl
def Kv (es:Array (Int×Value)) (t:SetTable):Sem Unit:=do
 if !t.led&&es.size > 1 then unsupported "set:maker-not-led"
theorem Xlo(a:Addr):setWalk a=(do
  let (es,epoch,t) <-setState a
  if <-setsByText then return pickOrder ((<-ask).params.setOrder a epoch) es
  if !t.plain&&decide (es.size > 1) then return (<-drawOrder es.size es.toList).toArray
  Kv es t
  return es):=rfl
theorem Xlp:∀m<16,5<=m->(SetTable.sizeAbove (m * 2) - 1=15\/SetTable.sizeAbove (m * 2) - 1=31)/\m<=SetTable.sizeAbove (m * 2) - 1/\¬SetTable.sizeAbove (m * 2) > sizeLine:=by decide +kernel
section
variable {P:Program}{w:World}{A:Around}{E:Value->Shared->Prop}{s:Shared}{a b c:Addr}{ks ls:List Str}
theorem wp_reord{es:Array (Int×Value)}{t:SetTable}{o:Array Nat}{Q:Array (Int×Value)×SetTable->Shared->Prop}(h:o.toList.Perm (List.range es.size))(q:∀es':Array (Int×Value),es'.toList.Perm es.toList->es'.size=es.size->Q (es',t) s):
  wpAny (model P w) A (reord es (some (t,o))) Q E s:=by
 have p:(o.filterMap (es[·]?)).toList.Perm es.toList:=by
  rw[Array.toList_filterMap];have:=h.filterMap (λi=>es[i]?)
  rwa [filterMap_getElem?_range] at this
 have z:(o.filterMap (es[·]?)).size=es.size:=by rw[<-Lh,p.length_eq,Lh]
 unfold reord;dsimp only;rw[z];simp only[bne_self_eq_false,L4,if_false];exact O9 (q _ p z)
theorem Hg{Q:Bool->Shared->Prop}(hT:s.TypeIs (.ref a) "set")(h:Q true s):wpAny (model P w) A (Builtin.Frozenset.isAnySet (.ref a)) Q E s:=by
 unfold Builtin.Frozenset.isAnySet;show wpAny _ _ (isInstance (.ref a) (.type "set") >>= λb=>_) _ _ s;refine O8 (wpAny_isInstance hT sub_set_self ?_);exact O9 h
theorem Xlq{Q:Value->Shared->Prop}(hT:s.TypeIs (.ref a) "set")(h:Q (.type "set") s):wpAny (model P w) A (Builtin.Frozenset.baseOf a) Q E s:=by
 unfold Builtin.Frozenset.baseOf;refine O8 (wpAny_isInstance hT sub_set_self ?_);exact O9 h
theorem SSet.typeIs(S:SSet P w s.heap a ks):s.TypeIs (.ref a) "set" := by
 obtain⟨o,_,_,_,_,ho,hex,_⟩:=S;exact⟨o,ho,hex.1⟩
structure Nu (w:World) (h:Heap) (a:Addr) (n:Nat):Prop where
 ex:∃o ep t,h.get? a=some o/\o.ExactSet/\o.data = .set #[] ep t/\t.place = #[]/\t.dummies = #[]/\Mask t.mask/\n<=t.mask/\t.led = !A2 w/\t.plain=true
theorem Xlr{t:SetTable}(h1:t.place = #[])(h2:t.dummies = #[]):t.fits 0=true:=by
 simp[SetTable.fits,SetTable.fill,h1,h2]
theorem Xls{n:Nat}{Q:Unit->Shared->Prop}{o:Obj}{ep:Nat}(ho:s.heap.get? a=some o)(hex:o.ExactSet)(hd:o.data = .set #[] ep (.fresh 0 0 (!A2 w)))(hn:n<16)
  (h:∀h',Heap.SameBut a s.heap h'->Nu w h' a n->Q () {s with heap:=h'}):wpAny (model P w) A (setRoomFor a n) Q E s:=by
 have hf:(SetTable.fresh 0 0 (!A2 w)).fits (#[]:Array (Int×Value)).size=true:=rfl;unfold setRoomFor;refine O8 (wpAny_setState_of ho hd hf ?_);dsimp only;by_cases hr:n * 5 ≥ 21
 ·have e:(SetTable.fresh 0 0 (!A2 w)).roomFor n=some (n * 2):=by
   unfold SetTable.roomFor;rw[Pc (by show (0+0+n) * 5 ≥ 7 * 3;omega)];show some ((0+n) * 2)=_;rw[Og]
  rw[e];dsimp only;rw[Xlm];refine O8 (wpAny_setState_of ho hd hf ?_);dsimp only;obtain⟨m1,m2,m3⟩:=Xlp n hn (by omega);have hM:Mask (SetTable.sizeAbove (n * 2) - 1):=.inr m1;rw[Pb m3];obtain⟨t,e1,t1,t2,t3,t4,t5⟩:=Xll (finger:=(SetTable.fresh 0 0 (!A2 w)).finger) (moves:=(SetTable.fresh 0 0 (!A2 w)).movedTo (SetTable.sizeAbove (n * 2) - 1)) (led := !A2 w) (plain:=true) hM;have e2:(SetTable.fresh 0 0 (!A2 w)).relaid ((#[]:Array (Int×Value)).map (·.1)) (n * 2)=some (t, #[]):=by
   unfold SetTable.relaid;rw[Array.map_empty];exact e1
  rw[e2];refine O8 (wp_reord (es := #[]) (by simp) λes' p z=>?_);have:es' = #[]:=Array.eq_empty_of_size_eq_zero z;subst this;refine wpAny_storeSet_of ho hd ?_ (L6 _);have g:=Heap.get?_update_self (Obj.putSet #[] t) ho (by rw[putSet_of #[] t hd];rfl);rw[putSet_of #[] t hd] at g;exact h _ (Pj _ a _) ⟨_,ep+1,t,g,hex,rfl,t2,t3,by rw[t1];exact hM,by rw[t1];exact m2,t4,t5⟩
 ·have e:(SetTable.fresh 0 0 (!A2 w)).roomFor n=none:=by
   unfold SetTable.roomFor;rw[Pb (by show ¬(0+0+n) * 5 ≥ 7 * 3;omega)]
  rw[e];exact O9 (h _ (Heap.SameBut.refl a _) ⟨o,ep,_,ho,hex,hd,rfl,rfl,.inl rfl,by show n<=7;omega,rfl,rfl⟩)
theorem Xlt{id:String}{Q:Unit->Shared->Prop}{o:Obj}{ep:Nat}(ho:s.heap.get? c=some o)(hex:o.ExactSet)(hd:o.data = .set #[] ep (.fresh 0 0 (!A2 w)))(S:SSet P w s.heap b ls)(hl:ls.length<16)(hcb:c≠b)
  (h:∀h',Heap.SameBut c s.heap h'->SSet P w h' c ls->Q () {s with heap:=h'}):wpAny (model P w) A (Builtin.Frozenset.merge id c b) Q E s:=by
 obtain⟨ob,eo,epo,to,lso,hob,hexo,hdo,helo,hsto,hpo,hbo,hfo,hlo,hplo⟩:=S;have hz:eo.size=ls.length:=by
  have:=hsto.length;rw[K8,Lh] at this;rw[this,hpo.length_eq]
 unfold Builtin.Frozenset.merge;refine O8 (wpAny_setEpoch_of hob hdo hfo ?_);rw[Xln];rw[Pb (by simpa using hcb)];refine O8 (wpAny_setState_of hob hdo hfo ?_);dsimp only;by_cases he:eo.isEmpty=true
 ·rw[Pc he];have e0:eo = #[]:=by simpa using he
  have:ls=[]:=Mc.mp (by rw[<-hz,e0];rfl);subst this;exact O9 (h _ (Heap.SameBut.refl c _) ⟨o, #[],ep,_,[],ho,hex,hd,λe he=>by simp at he,.nil,M5 _,by decide,rfl,rfl,λ_=>rfl⟩)
 ·rw[Pb he];refine O8 (Xls ho hex hd (by rw[hz];exact hl) λh1 sb1 nu=>?_);obtain⟨o1,ep1,t1,ho1,hex1,hd1,p1,p2,hM,hn1,l1,pl1⟩:=nu.ex;have hf1:t1.fits (#[]:Array (Int×Value)).size=true:=Xlr p1 p2;refine O8 (wpAny_setState_of (s:={s with heap:=h1}) ho1 hd1 hf1 ?_);dsimp only;have fin:∀(es':Array (Int×Value)) (t':SetTable),es'.toList.Perm eo.toList->t'.fits es'.size=true->t'.led = !A2 w->(t'.plain=true->es'.size=0)->Q () {s with heap:=h1.update c (Obj.putSet es' t')}:=λes' t' pp ff fl fp=>by
   obtain⟨ls',st',q'⟩:=Gm pp hsto;have z':es'.size=eo.size:=by rw[<-Lh,pp.length_eq,Lh]
   have g:=Heap.get?_update_self (Obj.putSet es' t') ho1 (by rw[putSet_of es' t' hd1];rfl);rw[putSet_of es' t' hd1] at g;exact h _ (sb1.trans (Pj _ c _)) ⟨_,es',ep1+1,t',ls',g,hex1,rfl,helo.perm pp,st',q'.trans hpo,by rw[z'];exact hbo,ff,fl,fp⟩
  have hroad:t1.road to=if (t1.mask==to.mask&&to.dummies.isEmpty)=true then SetTable.Road.slotForSlot else SetTable.Road.clean:=by
   unfold SetTable.road;have:(t1.fill != 0)=false:=by simp[SetTable.fill,p1,p2]
   rw[this,Pb (by decide)]
  rw[hroad];by_cases hr:(t1.mask==to.mask&&to.dummies.isEmpty)=true
  ·rw[Pc hr];dsimp only;refine wpAny_storeSet_of (s:={s with heap:=h1}) ho1 hd1 ?_ (fits_of_scanBound hbo);exact fin eo _ (M5 _) hfo (by show (t1.led&&to.led)=_;rw[l1,hlo,Om]) (by show (t1.plain&&to.plain)=true->_;rw[pl1,M7];exact hplo)
  ·rw[Pb hr];dsimp only;obtain⟨t2,od,e1,e2,e3,e4,e5⟩:=Xlk (finger:=t1.finger) (moves:=t1.moves) (led:=t1.led&&to.led) (plain:=t1.plain&&to.plain) (hs:=eo.map (·.1)) hM (by rw[Array.size_map];exact hn1);rw[e1];rw[Array.size_map] at e2 e3;refine O8 (wp_reord e2 λes' pp zz=>?_);refine wpAny_storeSet_of (s:={s with heap:=h1}) ho1 hd1 ?_ (fits_of_scanBound (by rw[zz];exact hbo));exact fin es' t2 pp (by rw[zz];exact e3) (by rw[e4,l1,hlo,Om]) (by rw[e5,pl1,M7,zz];exact hplo)
def Wl (P:Program) (w:World) (wl:Array (Int×Value)) (ks:List Str):Prop:=ElemsOf (PySem.strKind P w) wl.toList/\∃zs,StrsAre (wl.toList.map (·.2)) zs/\zs.Perm ks
theorem Xlu{es wl:Array (Int×Value)}{ls0:List Str}(hel:ElemsOf (PySem.strKind P w) es.toList)(hs:StrsAre (es.toList.map (·.2)) ls0)(hp:ls0.Perm ks)(pp:wl.toList.Perm es.toList):Wl P w wl ks:=by
 obtain⟨zs,st,q⟩:=Gm pp hs;exact⟨hel.perm pp,zs,st,q.trans hp⟩
theorem Xd7{Q:Option Bool×Unit->Shared->Prop}{f:Int×Value->Option Bool×Unit->Sem (ForInStep (Option Bool×Unit))}(hf:∀(x:Int×Value) (r:Option Bool×Unit),(∀p,x.2 ≠ .ref p)->f x r=pure (.yield (none,()))):
  ∀(l:List (Int×Value)),(∀e∈l,∀p,e.2 ≠ .ref p)->Q (none,()) s->wpAny (model P w) A (forIn l (none,()) f) Q E s
 | [],_,h=>by rw[O1];exact O9 h
 | x::l,hn,h=>by
  rw[Op,hf x _ (hn x Ld)];exact O8 (O9 (Xd7 hf l (λe he=>hn e (Lb _ he)) h))
end
section
variable {P:Program}{w:World}{A:Around}{E:Value->Shared->Prop}{s:Shared}{a b c:Addr}{ks ls:List Str}
theorem Xd8{l:List (Int×Value)}(h:ElemsOf (PySem.strKind P w) l):∀e∈l,∀p,e.2 ≠ .ref p:=λe he p z=>by
 have:=(h e he).2;rw[z] at this;cases this
theorem Xd9{Q:Option Bool×Unit->Shared->Prop}{f:Int×Value->Option Bool×Unit->Sem (ForInStep (Option Bool×Unit))}(hf:∀(x:Int×Value) (r:Option Bool×Unit),(∀p,x.2 ≠ .ref p)->f x r=pure (.yield (none,())))
  {es:Array (Int×Value)} (hn:∀e∈es.toList,∀p,e.2 ≠ .ref p) (h:Q (none,()) s):wpAny (model P w) A (forIn es (none,()) f) Q E s:=by
 rw[<-Oa];exact Xd7 hf _ hn h
theorem Xlv{Q:Bool->Shared->Prop}(S:SSet P w s.heap a ks)(F:SSet P w s.heap b ls)(h:Q true s):wpAny (model P w) A (setsQuiet [a,b]) Q E s:=by
 obtain⟨o,es,ep,t,l0,ho,hex,hd,hel,hst,hp,hb,hf,hl,hpl⟩:=S;obtain⟨o',es',ep',t',l0',ho',hex',hd',hel',hst',hp',hb',hf',hl',hpl'⟩:=F;have hq:∀(x:Int×Value) (r:Option Bool×Unit),(∀p,x.2 ≠ .ref p)->(match x.2 with
   | Value.ref a=>do
    let __do_lift <-specialOf x.2 (Str.ofString "__eq__")
    if (__do_lift != some (Value.builtin "object.__eq__"))=true then pure (ForInStep.done (some false,())) else pure (ForInStep.yield (none,()))
   | x=>pure (ForInStep.yield (none,())):Sem (ForInStep (Option Bool×Unit)))=pure (.yield (none,())):=λx r hx=>by
  split
  ·rename_i e;exact absurd e (hx _)
  ·rfl
 unfold setsQuiet;simp only[Op,O1];refine O8 (O8 (O8 (wpAny_setEntries_of ho hd hf (O8 (Xd9 hq (Xd8 hel) (O9 ?_))))));refine O8 (O8 (wpAny_setEntries_of ho' hd' hf' (O8 (Xd9 hq (Xd8 hel') (O9 ?_)))));exact O9 (O9 h)
theorem wp_unseen{Q:Array (Int×Value)->Shared->Prop}(S:SSet P w s.heap a ks)(F:SSet P w s.heap c ls)(hac:a≠c)
  (h:∀wl h' d,Wl P w wl ks->Heap.SameBut c s.heap h'->SSet P w h' c ls->Q wl {s with heap:=h',drawn:=d}):wpAny (model P w) A (setWalkUnseen a [c] (some c)) Q E s:=by
 obtain⟨o,es,ep,t,l0,ho,hex,hd,hel,hst,hp,hb,hf,hl,hpl⟩:=id S;have wl1:∀wl:Array (Int×Value),wl.toList.Perm es.toList->Wl P w wl ks:=λwl pp=>Xlu hel hst hp pp;have walk:wpAny (model P w) A (setWalk a) Q E s:=by
  rw[Xlo];refine O8 (wpAny_setState_of ho hd hf ?_);dsimp only;unfold setsByText;refine O8 (O8 (wpAny_askSetting (O9 ?_)));show wpAny _ _ (if A2 w=true then _ else _) _ _ s;cases hw:A2 w with
  | true=>
   rw[Pc rfl];refine O8 (wpAny_askSetting (O9 ?_));exact h _ s.heap s.drawn (wl1 _ (Xbz _ es)) (Heap.SameBut.refl c _) F
  | false=>
   rw[Pb (by decide)];by_cases hc:(!t.plain&&decide (es.size > 1))=true
   ·rw[Pc hc];refine O8 (Xb0 _ _ _ _ (Lh) λos d po=>O9 ?_);exact h _ s.heap d (wl1 _ (by simpa using po)) (Heap.SameBut.refl c _) F
   ·rw[Pb hc];have hm:Kv es t=pure ():=by
     unfold Kv;rw[hl,hw];rfl
    refine O8 (wpAny_of_eq hm (O9 ?_));exact h _ s.heap s.drawn (wl1 _ (M5 _)) (Heap.SameBut.refl c _) F
 unfold setWalkUnseen;refine O8 (wpAny_setState_of ho hd hf ?_);dsimp only;unfold setsByText;refine O8 (O8 (wpAny_askSetting (O9 ?_)));show wpAny _ _ (if (A2 w||(t.led&&t.plain)||decide (es.size<=1))=true then setWalk a else _) _ _ s;by_cases hc:(A2 w||(t.led&&t.plain)||decide (es.size<=1))=true
 ·rw[Pc hc];exact walk
 ·rw[Pb hc];refine O8 (Xlv S F ?_);simp only[N7,L4,if_false];refine O8 (wpAny_rule ?_);obtain⟨oc,ec,epc,tc,lc,hoc,hexc,hdc,helc,hstc,hpc,hbc,hfc,hlc,hplc⟩:=id F;refine O8 (wpAny_setState_of hoc hdc hfc ?_);dsimp only;by_cases hs:((tc.led && !t.led)||(tc.plain && !t.plain))=true
  ·rw[Pc hs];refine O8 (wpAny_storeSet_of hoc hdc (O9 ?_) (fits_of_scanBound hbc));obtain⟨g,S1⟩:_/\SSet P w (s.heap.update c (Obj.putSet ec {tc with led:=tc.led&&t.led,plain:=tc.plain&&t.plain})) c ls:=by
    have g:=Heap.get?_update_self (Obj.putSet ec {tc with led:=tc.led&&t.led,plain:=tc.plain&&t.plain}) hoc (by rw[putSet_of ec _ hdc];rfl);rw[putSet_of ec _ hdc] at g;exact⟨g,_,ec,epc+1,_,lc,g,hexc,rfl,helc,hstc,hpc,hbc,hfc,by show (tc.led&&t.led)=_;rw[hlc,hl,Om],by
     show (tc.plain&&t.plain)=true->_;intro z;rw[Ln] at z;exact hplc z.1⟩
   exact h _ _ s.drawn (wl1 _ (M5 _)) (Pj _ c _) S1
  ·rw[Pb hs];exact O9 (h _ s.heap s.drawn (wl1 _ (M5 _)) (Heap.SameBut.refl c _) F)
def xor1 (ks:List Str) (x:Str):List Str:=if x∈ks then ks.erase x else ks++[x]
theorem Hh{α : Type}(xs:Array α)(i:Nat):(SetTable.eraseAt xs i).toList=xs.toList.eraseIdx i:=by
 unfold SetTable.eraseAt;rw[Array.toList_append,Array.toList_extract,Array.toList_extract,List.eraseIdx_eq_take_drop_succ];simp[List.extract];exact Oc (by simp)
theorem Xea:∀(l:List Str),l.Nodup->∀(j:Nat) (hj:j<l.length),l.erase l[j]=l.eraseIdx j
 | x::l,nd,0,_=>by simp
 | x::l,nd,j+1,hj=>by
  obtain⟨h1,h2⟩:=Ma.mp nd;have hj':j<l.length:=by simpa using hj
  have ne:x≠l[j]:=λe=>h1 (e ▸ L8 hj');rw[List.getElem_cons_succ,List.eraseIdx_cons_succ,List.erase_cons_tail (by simpa using ne),Xea l h2 j hj']
theorem Xeb{α β : Type}(f : α -> β):∀(l:List α) (j:Nat),(l.eraseIdx j).map f=(l.map f).eraseIdx j
 | [],_=>rfl
 | x::l,0=>rfl
 | x::l,j+1=>by simp[Xeb f l j]
theorem Xec:∀{vs:List Value} {ls:List Str} (i:Nat),StrsAre vs ls->StrsAre (vs.eraseIdx i) (ls.eraseIdx i)
 | _,_,_,.nil=>by simp;exact .nil
 | _,_,0,.cons x t h=>h
 | _,_,i+1,.cons x t h=>.cons x t (Xec i h)
theorem Xlw{vs:List Value}{ls:List Str}(h:StrsAre vs ls){i:Nat}(hi:i<vs.length):∃t,vs[i] = .str (ls.getD i Str.empty) t:=by
 induction h generalizing i with
 | nil=>exact absurd hi (Mv _)
 | cons x t _ ih=>
  cases i with
  | zero=>exact⟨t,rfl⟩
  | succ i=>exact ih (by simpa using hi)
theorem Xlx{x:Str}{tk:Tok}{Q:Unit->Shared->Prop}(S:SSet P w s.heap a ks)(nd:ks.Nodup)(hr:ks.length+1<scanBound)
  (h:∀h',Heap.SameBut a s.heap h'->SSet P w h' a (xor1 ks x)->Q () {s with heap:=h'}):
  wpAny (model P w) A (holding [.str x tk] do
   if !(<-setDiscardHashed a (.str x tk) ((PySem.strKind P w).hash x)) then
    let _ <-setAddHashed a (.str x tk) ((PySem.strKind P w).hash x)) Q E s:=by
 obtain⟨o,es,ep,t,l0,ho,hex,hd,hel,hs,hp,hb,hf,hl,hpl⟩:=id S;have hkey:(PySem.strKind P w).is x (.str x tk)=true:=strKind_is P w x tk;have hin:x∈ks ↔ ∃e∈es.toList,(PySem.strKind P w).is x e.2=true:=hp.mem_iff.symm.trans (Xbt hs);have hlen:es.size=ks.length:=by
  have:=hs.length;rw[K8,Lh] at this;rw[this,hp.length_eq]
 refine wpAny_holding (O8 ?_);unfold setDiscardHashed setFind setFindIn;refine O8 (O8 (wpAny_setState_of ho hd hf ?_));dsimp only;rw[byScan_of (knd:=PySem.strKind P w) rfl hb hel];simp only[↓reduceIte];refine O8 (wpAny_rule (O8 (wpAny_setScan_of hkey ho hd hf hel ?_)));cases hf1:List.findIdx? (λe=>(PySem.strKind P w).is x e.2) es.toList with
 | none=>
  dsimp only;have hx:x∉ks:=λz=>by
   obtain⟨e,he,q⟩:=hin.mp z;have:=List.findIdx?_eq_none_iff.mp hf1 e he;rw[q] at this;cases this
  refine O9 (O9 ?_);simp only[Bool.not_false,if_true];refine O8 (sset_add S hr λb h' sb S'=>O9 ?_);refine h h' sb ?_;unfold xor1;rw[Pb hx];rw[Pb hx] at S';exact S'
 | some j=>
  dsimp only;obtain⟨hj,hpj,_⟩:=N6.mp hf1;have hx:x∈ks:=hin.mpr ⟨es.toList[j],L8 hj,hpj⟩;rw[Og];refine O9 ?_;dsimp only;refine O8 (wpAny_setState_of ho hd hf ?_);dsimp only;have hjs:j<es.size:=by simpa using hj
  have zE:(SetTable.eraseAt es j).size=es.size - 1:=by
   rw[<-Lh,Hh,Nf hj,Lh]
  refine O8 (wpAny_storeSet_of ho hd ?_ (fits_of_scanBound (by rw[zE];omega)));refine O8 (wpAny_point (O9 ?_));simp only[N7,L4,if_false];refine O9 ?_;have g:=Heap.get?_update_self (Obj.putSet (SetTable.eraseAt es j) (t.drop j)) ho (by rw[putSet_of _ _ hd];rfl);rw[putSet_of _ _ hd] at g;have hfs:t.place.size=es.size/\t.fill<=t.mask:=by
   simpa [SetTable.fits,Ln] using hf
  have hdrop:(t.drop j).fits (es.size - 1)=true/\(t.drop j).led=t.led/\(t.drop j).plain=t.plain:=by
   unfold SetTable.drop;have hjp:j<t.place.size:=by rw[hfs.1];exact hjs
   rw[getElem?_pos t.place j hjp];dsimp only;refine⟨?_,rfl,rfl⟩;have z1:(SetTable.eraseAt t.place j).size=t.place.size - 1:=by
    rw[<-Lh,Hh,Nf (by simpa using hjp),Lh]
   have z2:∀p v,(SetTable.insertAt t.dummies p v).size=t.dummies.size+1:=λp v=>by
    have:=(SetTable.insertAt_perm t.dummies p v).length_eq;simpa using this
   simp only[SetTable.fits,SetTable.fill,Ln,beq_iff_eq,decide_eq_true_eq,z1,z2];have:=hfs.2;unfold SetTable.fill at this;omega
  have hl0j:l0.getD j Str.empty=x:=by
   obtain⟨tt,e⟩:=Xlw hs (i:=j) (by simpa using hj);rw[N4] at e;rw[e] at hpj;obtain⟨t3,e3⟩:=Value.isStrOf_shape (x:=x) (v:=.str (l0.getD j Str.empty) tt) hpj;injection e3
  have hl0:l0.length=es.size:=by
   have:=hs.length;rw[K8,Lh] at this;exact this.symm
  have nd0:l0.Nodup:=hp.nodup_iff.mpr nd;have ere:l0.eraseIdx j=l0.erase x:=by
   have hj0:j<l0.length:=by omega
   have e:l0[j]=x:=by rw[<-hl0j];simp[List.getD,hj0]
   rw[<-e];exact(Xea l0 nd0 j hj0).symm
  refine h _ (Pj _ a _) ⟨_,_,ep+1,_,l0.eraseIdx j,g,hex,rfl,?_,?_,?_,by rw[zE];omega,by rw[zE];exact hdrop.1,hdrop.2.1.trans hl,?_⟩
  ·intro e he;rw[Hh] at he;exact hel e (List.mem_of_mem_eraseIdx he)
  ·rw[Hh];have:(es.toList.eraseIdx j).map (·.2)=(es.toList.map (·.2)).eraseIdx j:=by
    exact Xeb _ _ _
   rw[this];exact Xec j hs
  ·rw[ere];unfold xor1;rw[Pc hx];exact hp.erase x
  ·rw[hdrop.2.2,zE];intro z;rw[hpl z]
end
def Xly (a:Addr) (h:Int) (x:Value):Sem Unit:=holding [x] do
 if !(<-setDiscardHashed a x h) then
  let _ <-setAddHashed a x h
theorem Xed(ks:List Str)(x:Str):(xor1 ks x).length<=ks.length+1:=by
 unfold xor1;split
 ·exact Nat.le_succ_of_le (List.length_erase_le ..)
 ·rw[Lj];exact K9 _
theorem Xee{ks:List Str}{x:Str}(h:ks.Nodup):(xor1 ks x).Nodup:=by
 unfold xor1;split
 ·exact h.erase x
 ·rename_i hx;exact Mr.mpr ⟨h,by simp,λa ha b hb e=>hx (by rw[Lf.mp hb] at e;exact e ▸ ha)⟩
theorem Xlz{ks:List Str}{x y:Str}(h:ks.Nodup):y∈xor1 ks x↔(y∈ks/\y≠x)\/(y=x/\x∉ks):=by
 unfold xor1;split
 ·rename_i hx;rw[h.mem_erase_iff];constructor
  ·exact λz=>.inl ⟨z.2,z.1⟩
  ·rintro (z | z)
   ·exact⟨z.2,z.1⟩
   ·exact absurd hx z.2
 ·rename_i hx;rw[Ll,Lf];constructor
  ·rintro (z | z)
   ·exact .inl ⟨z,λe=>hx (e ▸ z)⟩
   ·exact .inr ⟨z,hx⟩
  ·rintro (z | z)
   ·exact .inl z.1
   ·exact .inr z.1
theorem Xef:∀(zs ms:List Str),ms.Nodup->zs.Nodup->(zs.foldl xor1 ms).Nodup/\(zs.foldl xor1 ms).length<=ms.length+zs.length/\∀y,y∈zs.foldl xor1 ms↔(y∈ms/\y∉zs)\/(y∉ms/\y∈zs)
 | [],ms,h,_=>⟨h,K9 _,λy=>by simp⟩
 | z::zs,ms,h,hz=>by
  obtain⟨n1,n2⟩:=Ma.mp hz;obtain⟨a1,a2,a3⟩:=Xef zs (xor1 ms z) (Xee h) n2;refine⟨a1,?_,λy=>?_⟩
  ·have:=Xed ms z;rw[Lp];rw[Oq];omega
  ·rw[Oq,a3,Xlz h,Lk];by_cases e:y=z
   ·subst e;by_cases g:y∈ms<;>simp[g,n1]
   ·by_cases g:y∈ms<;>simp[g,e]
section
variable {P:Program}{w:World}{A:Around}{E:Value->Shared->Prop}{s:Shared}{a b c:Addr}{ks ls:List Str}
theorem Xeg{id:String}{ep:Nat}{f:Int×Value->PUnit->Sem (ForInStep PUnit)}(hf:∀x u,f x u=(do Xly c x.1 x.2; Builtin.Frozenset.unchanged id a ep;pure (.yield ⟨⟩))){o:Obj}{es:Array (Int×Value)}{t:SetTable}(hd:o.data = .set es ep t)(hft:t.fits es.size=true)(hac:a≠c):
  ∀(l:List (Int×Value)) (zs ms:List Str) (s:Shared) (Q:PUnit->Shared->Prop),s.heap.get? a=some o->ElemsOf (PySem.strKind P w) l->StrsAre (l.map (·.2)) zs->SSet P w s.heap c ms->ms.Nodup->ms.length+l.length<scanBound ->
   (∀h',Heap.SameBut c s.heap h'->SSet P w h' c (zs.foldl xor1 ms)->Q ⟨⟩ {s with heap:=h'})->wpAny (model P w) A (forIn l PUnit.unit f) Q E s
 | [],zs,ms,s,Q,_,_,hz,hS,_,_,h=>by
  rw[O1];cases hz;exact O9 (h s.heap (Heap.SameBut.refl c _) hS)
 | (hh,x)::l,zs,ms,s,Q,ho,hel,hz,hS,nd,hb,h=>by
  have hz0:StrsAre (x::l.map (·.2)) zs:=hz;clear hz;cases hz0 with
  | cons y t' hz=>
   obtain⟨⟨k,hk,he⟩,_⟩:=hel.head;have hk:(PySem.strKind P w).is k (.str y t')=true:=hk;obtain⟨t3,e3⟩:=Value.isStrOf_shape (x:=k) (v:=.str y t') hk;injection e3 with e3 _
   subst e3;have he:hh=(PySem.strKind P w).hash y:=he;subst he;rw[Lp] at hb;rw[Op,hf];refine O8 (O8 (Xlx hS nd (by omega) λh1 sb1 S1=>?_));have ho1:h1.get? a=some o:=(sb1.2 a hac).trans ho;refine O8 ?_;unfold Builtin.Frozenset.unchanged;refine O8 (wpAny_setEpoch_of (s:={s with heap:=h1}) ho1 hd hft ?_);simp only[bne_self_eq_false,L4,if_false];refine O9 (O9 ?_);have hl:=Xed ms y;exact Xeg hf hd hft hac l _ (xor1 ms y) {s with heap:=h1} Q ho1 hel.tail hz S1 (Xee nd) (by omega) λh2 sb2 S2=>h h2 (sb1.trans sb2) S2
def Xeh (i:String) (l:Addr) (r:Value):Sem Value:=do
 let result <-Builtin.Frozenset.newFrom i (<-Builtin.Frozenset.baseOf l) r
 holding [result] (Builtin.Frozenset.symmetricDifferenceUpdate i (<-Builtin.Frozenset.addrOf result) (.ref l))
 return result
theorem Xl0(x y:Value):Builtin.«frozenset.__xor__» ⟨[x,y],[]⟩=(do
  let (self,other) <-Builtin.Frozenset.slot1 "__xor__" ⟨[x,y],[]⟩
  let (l,r):=if false then (other,self) else (self,other)
  if !(<-Builtin.Frozenset.isAnySet l <&&> Builtin.Frozenset.isAnySet r) then rule s!"frozenset.{"__xor__"}.declined"; return <-ret .notImplemented
  ret (<-Xeh s!"frozenset.{"__xor__"}" (<-Builtin.Frozenset.addrOf l) r)):=rfl
theorem Xl1{i:String}{Q:Unit->Shared->Prop}{ms:List Str}(S:SSet P w s.heap a ks)(F:SSet P w s.heap c ms)(hac:a≠c)(hk:ks.Nodup)(hm:ms.Nodup)(l1:ks.length<16)(l2:ms.length<16)
  (h:∀h' d zs,Heap.SameBut c s.heap h'->SSet P w h' c zs->zs.Nodup->zs.length<=32->(∀y,y∈zs↔(y∈ms/\y∉ks)\/(y∉ms/\y∈ks))->Q () {s with heap:=h',drawn:=d}):
  wpAny (model P w) A (Builtin.Frozenset.symmetricDifferenceUpdate i c (.ref a)) Q E s:=by
 obtain⟨o,es,ep,t,l0,ho,hex,hd,hel,hst,hp,hb,hf,hl,hpl⟩:=id S;unfold Builtin.Frozenset.symmetricDifferenceUpdate;rw[Pb (by simpa using hac)];refine O8 (wpAny_typeOf (T := "set") S.typeIs ?_);rw[Pb (by decide)];refine O8 (Hg S.typeIs ?_);rw[Pc rfl];refine O8 (O9 ?_);refine O8 (O9 ?_);refine O8 (wpAny_setEpoch_of ho hd hf ?_);refine wpAny_holding (O8 (wp_unseen S F hac λwl h1 d W sb1 S1=>?_));obtain⟨hel1,zs,st1,q1⟩:=W;rw[<-Oa];have ho1:h1.get? a=some o:=(sb1.2 a hac).trans ho;have hwl:wl.toList.length=ks.length:=by
  have:=st1.length;rw[K8] at this;rw[this,q1.length_eq]
 have ndz:zs.Nodup:=q1.nodup_iff.mpr hk;obtain⟨x1,x2,x3⟩:=Xef zs ms hm ndz;refine O8 (Xeg (id:=i) (c:=c) (a:=a) (s:={s with heap:=h1,drawn:=d}) (λx u=>rfl) hd hf hac wl.toList zs ms _ ho1 hel1 st1 S1 hm (by rw[hwl];unfold scanBound;omega) λh2 sb2 S2=>O9 ?_);refine h h2 d _ (sb1.trans sb2) S2 x1 ?_ λy=>?_
 ·have:=q1.length_eq;omega
 ·rw[x3,q1.mem_iff]
theorem Xl2{Q:Value->Shared->Prop}(S:SSet P w s.heap a ks)(F:SSet P w s.heap b ls)(hk:ks.Nodup)(hl:ls.Nodup)(l1:ks.length<16)(l2:ls.length<16)
  (h:∀h' d zs,(∀e o,s.heap.get? e=some o->h'.get? e=some o)->SSet P w h' s.heap.objs.size zs->zs.Nodup->zs.length<=32->(∀y,y∈zs↔(y∈ls/\y∉ks)\/(y∉ls/\y∈ks))->Q (.ref s.heap.objs.size) {s with heap:=h',drawn:=d}):
  wpAny (model P w) A (binaryOp .BitXor (.ref a) (.ref b)) Q E s:=by
 have ha:=S.typeIs;have hb:=F.typeIs;have la:a<s.heap.objs.size:=by obtain⟨o,_,_,_,_,g,_⟩:=S;exact Ph g
 have lb:b<s.heap.objs.size:=by obtain⟨o,_,_,_,_,g,_⟩:=F;exact Ph g
 have eX:entryFor table "set.__xor__" = some Builtin.«frozenset.__xor__»:=entryFor_alias (id' := "frozenset.__xor__") (by kernel_rfl) rfl (by decide +kernel) (by kernel_rfl);refine wpAny_binaryOp_same (T := "set") (id := "set.__xor__") ha hb PySem.F.fills_set_xor PySem.F.slot_set_xor (wpAny_call_entry PySem.F.slot_set_xor ha eX ?_ (PySem.F.args_set_xor_2 _ _));rw[Xl0];unfold Builtin.Frozenset.slot1 slotArgs;simp only[List.isEmpty_nil,N7,L4, ↓reduceIte,bind_assoc,M9,Lp,bne_self_eq_false,pure_bind];refine O8 ?_;show wpAny _ _ (Builtin.Frozenset.isAnySet (.ref a) >>= λb1=>_) _ _ s;refine O8 (Hg ha ?_);show wpAny _ _ (Builtin.Frozenset.isAnySet (.ref b)) _ _ s;refine Hg hb ?_;simp only[N7,L4, ↓reduceIte];refine O8 ?_;show wpAny _ _ (pure a) _ _ s;refine O9 ?_;refine O8 ?_;unfold Xeh;refine O8 (Xlq ha ?_);refine O8 ?_;unfold Builtin.Frozenset.newFrom newSet setsByText;refine O8 (O8 (O8 (wpAny_askSetting (O9 ?_))));dsimp only;simp only[newObj];refine O8 (wpAny_alloc (O9 ?_));have keep:∀e o,s.heap.get? e=some o->(s.heap.push {cls:=.type "set",dict:=none,data:=.set #[] 0 (.fresh 0 0 (!A2 w))}).get? e=some o:=λe o q=>Pi _ q;refine O8 ?_;show wpAny _ _ (pure s.heap.objs.size) _ _ _;refine O9 ?_;refine O8 (wpAny_holding ?_);unfold Builtin.Frozenset.updateFrom;have F1:SSet P w (s.heap.push {cls:=.type "set",dict:=none,data:=.set #[] 0 (.fresh 0 0 (!A2 w))}) b ls:=F.stay λo q=>keep b o q;refine O8 (Hg (s:={s with heap:=s.heap.push {cls:=.type "set",dict:=none,data:=.set #[] 0 (.fresh 0 0 (!A2 w))} }) F1.typeIs ?_);rw[Pc rfl];unfold Builtin.Frozenset.addrOf;refine O8 (O9 ?_);refine Xlt (s:={s with heap:=s.heap.push {cls:=.type "set",dict:=none,data:=.set #[] 0 (.fresh 0 0 (!A2 w))} }) (c:=s.heap.objs.size) (ep:=0) (Heap.get?_push_size _ rfl) ⟨rfl,rfl,rfl⟩ rfl F1 l2 (Ov lb) λh1 sb1 S1=>?_;refine O9 ?_;have k1:∀e o,s.heap.get? e=some o->h1.get? e=some o:=λe o q=>(sb1.2 e (Lg (Ph q))).trans (keep e o q);refine O8 (O9 ?_);refine O8 (wpAny_holding (Xl1 (s:={s with heap:=h1}) (S.stay λo q=>k1 a o q) S1 (Lg la) hk hl l1 l2 λh2 d zs sb2 S2 n2 z2 m2=>?_));refine O9 (O9 ⟨_,rfl,by simp,?_⟩);exact h h2 d zs (λe o q=>(sb2.2 e (Lg (Ph q))).trans (k1 e o q)) S2 n2 z2 m2
end
section
variable {X:Cx}
theorem Xl3:OpR X (binaryOp .BitXor) (λx y H Q=>∃a b ks ls,x = .ref a/\y = .ref b/\H a=some (Dn X.prog X.w a ks)/\H b=some (Dn X.prog X.w b ls)/\ks.Nodup/\ls.Nodup/\ks.length<16/\ls.length<16 /\
  ∀c zs,H c=none->zs.Nodup->zs.length<=32->(∀y,y∈zs↔(y∈ls/\y∉ks)\/(y∉ls/\y∈ks))->Q (.ref c) (upd H c (Dn X.prog X.w c zs))):=by
 intro pins s σ H x y v u Q I rx ry h;obtain⟨a,b,ks,ls,rfl,rfl,ha,hb,nk,nl,l1,l2,q⟩:=h;cases rx;cases ry;obtain⟨S,_⟩:=(show A5 X.prog X.w H s.heap a (.ext λh=>SSet X.prog X.w h a ks) from I.hok a _ ha);obtain⟨F,_⟩:=(show A5 X.prog X.w H s.heap b (.ext λh=>SSet X.prog X.w h b ls) from I.hok b _ hb);refine Xl2 S F nk nl l1 l2 λh' d zs k S' n' z' m'=>?_;refine⟨.ref s.heap.objs.size,_,I.laidM (s':={s with heap:=h',drawn:=d}) k rfl rfl (K9 _) ?_,rfl,q _ zs (I.hok.fresh (K9 _)) n' z' m'⟩;exact⟨S',by obtain⟨o,_,_,_,_,g,_⟩:=S';exact⟨o,g⟩,λh1 h2 S1 kk=>S1.stay kk⟩
end
end L2
set_option maxHeartbeats 4000000
namespace SH
open PySem PySem.Spec PyProof.Rows L2
def A7 (a b:List Str):List Str:=srt ((a.filter λx => !decide (x∈b))++(b.filter λx => !decide (x∈a)))
theorem E5{a b:List Str}{x:Str}:x∈A7 a b↔(x∈a/\x∉b)\/(x∈b/\x∉a):=by
 unfold A7;rw[Jh,Ll,Lc,Lc];simp
theorem Xei{a b:List Str}(ha:a.Nodup)(hb:b.Nodup):((a.filter λx => !decide (x∈b))++(b.filter λx => !decide (x∈a))).Nodup:=by
 rw[Mr];refine⟨ha.filter _,hb.filter _,λx hx y hy e=>?_⟩;subst e;have h1:=(Lc.mp hx).1;have h2:=(Lc.mp hy).2;simp[h1] at h2
theorem Xej{a b:List Str}(ha:a.Nodup)(hb:b.Nodup):(A7 a b).Pairwise ltS:=by
 have nd2:(A7 a b).Nodup:=(Dp _).nodup_iff.mpr (Xei ha hb);exact(List.pairwise_and_iff.mpr ⟨Ew _,nd2⟩).imp λ{x y} (h:leS x y/\x≠y)=>ltS_of h.1 h.2
theorem xor_srt{a b zs:List Str}(ha:a.Nodup)(hb:b.Nodup)(hz:zs.Nodup)(h:∀y,y∈zs↔(y∈b/\y∉a)\/(y∉b/\y∈a)):srt zs=A7 a b:=by
 refine Xiq (Gw hz (Xei ha hb) λy=>?_);rw[h,Ll,Lc,Lc];simp;by_cases h1:y∈a<;>by_cases h2:y∈b<;>simp[h1,h2]
def spParting:Sp:=λvs H Q _=>∃(p q:Addr) (a b:List Str),vs=[.ref p,.ref q]/\H p=some (.tup (a.map V.str))/\H q=some (.tup (b.map V.str))/\a.Nodup/\b.Nodup/\a.length<16/\b.length<16 /\
 ∀l H',H l=none->H' l=some (.lst ((A7 a b).map V.str))->Same H H'->Q (.ref l) H'
structure Two (H:Hp) (r p q:Addr) (row a b:List Str):Prop where
 hr:H r=some (.lst (row.map V.str))
 r2:Row2 row
 hd:(dit row).length<=14
 hp:H p=some (.tup (a.map V.str))
 hq:H q=some (.tup (b.map V.str))
 oa:∀y∈a,okN y
 ob:∀y∈b,okN y
 la:a.length<=24
 lb:b.length<=24
def Hi (C:Addr):Sp:=λvs H Q E=>∃(r p q:Addr) (row a b:List Str),vs=[.ref r,.ref p,.ref q]/\Two H r p q row a b /\
 ((Ae row a=true/\Ae row b=true)->∀l H',H l=none->H' l=some (.lst ((A7 a b).map V.str))->Same H H'->Q (.ref l) H')/\(¬(Ae row a=true/\Ae row b=true)->∀H',Same H H'->E (.ref C) none H')
def spFar (C:Addr):Sp:=λvs H Q E=>∃(r p q:Addr) (row a b:List Str),vs=[.ref r,.ref p,.ref q]/\Two H r p q row a b /\
 ((Ae row a=true/\Ae row b=true)->∀H',Same H H'->Q (.int (A7 a b).length) H')/\(¬(Ae row a=true/\Ae row b=true)->∀H',Same H H'->E (.ref C) none H')
theorem Eh{row a:List Str}(h:Ae row a=true):a.Nodup:=Dv (Bo h).2
def Ei (a b:List Str):Bool:=B6 a.length a b.length b
theorem Xl4{Ts:List (List Str)}{p:Array Nat}(g:Gd Ts.length p)(so:B2 (Dd Ts) p Ts.length):
  (p.toList.map λi=>Ts.getD i []).Perm Ts/\(p.toList.map λi=>Ts.getD i []).Pairwise λa b=>Ei a b=true:=by
 constructor
 ·have e:((List.range Ts.length).map λi=>Ts.getD i [])=Ts:=by
   refine List.ext_getElem (by simp) λi h1 h2=>?_;simp[N4,List.getElem_range,List.getD,h2]
  have q:p.toList.Perm (List.range Ts.length):=by
   have:=g.toList;simpa using this
  have:=q.map λi=>Ts.getD i [];rw[e] at this;exact this
 ·rw[List.pairwise_iff_getElem];intro i j hi hj hij;have sz:=g.size;rw[K8,Lh,sz] at hi hj;have:=so i j hij hj;rw[N4,N4];have e1:p.getD i 0=p.toList[i]'(by rw[Lh,sz];exact hi):=by simp[Array.getD,sz,hi]
  have e2:p.getD j 0=p.toList[j]'(by rw[Lh,sz];exact hj):=by simp[Array.getD,sz,hj]
  rw[e1,e2] at this;exact this
theorem Xek{α : Type}(f:Nat -> α)(d : α)(l:List Nat){i:Nat}(hi:i<l.length):(l.map f).getD i d=f l[i]:=by simp[List.getD,hi]
theorem Xl5{H:Hp}{ps:List Addr}{Ts:List (List Str)}{p:Array Nat}(h:Tups H ps Ts)(g:Gd ps.length p):Tups H (p.toList.map λi=>ps.getD i 0) (p.toList.map λi=>Ts.getD i []):=by
 refine⟨by simp,λi hi=>?_⟩;rw[K8] at hi;have e1:(p.toList.map λi=>ps.getD i 0).getD i 0=ps.getD p.toList[i] 0:=Xek _ _ _ hi;have e2:(p.toList.map λi=>Ts.getD i []).getD i []=Ts.getD p.toList[i] []:=Xek _ _ _ hi;rw[e1,e2];refine h.2 _ ?_;have q:p.toList.Perm (List.range ps.length):=by
  have:=g.toList;simpa using this
 simpa using q.mem_iff.mp (L8 hi)
abbrev qIn:Str:=(Str.ofString "in_order" ++ Str.ofString ".<locals>.")++Str.ofString "<lambda>"
def spInOrder (T:Addr) (pos:Pos):Sp:=λvs H Q _=>∃(l:Addr) (ps:List Addr) (Ts:List (List Str)),vs=[.ref l]/\H l=some (.lst (ps.map V.ref))/\Tups H ps Ts/\Ts.Nodup/\ps.length<64/\Ai T pos qIn H /\
 ∀(D:Addr) (ps':List Addr) (Ts':List (List Str)) (H':Hp),H D=none->H' D=some (.lst (ps'.map V.ref))->Tups H' ps' Ts'->Ts'.Perm Ts->(Ts'.Pairwise λa b=>Ei a b=true)->Ai T pos qIn H'->But T H H'->Q (.ref D) H'
theorem Ai.same{T:Addr}{pos:Pos}{q:Str}{H H':Hp}(h:Ai T pos q H)(s:Same H H'):Ai T pos q H':=by
 rcases h with e | ⟨c,e,ec⟩
 ·exact .inl (s _ _ e)
 ·exact .inr ⟨c,s _ _ e,s _ _ ec⟩
theorem Ai.but{T dr:Addr}{pos:Pos}{q:Str}{H H':Hp}{o':List V}(h:Ai T pos q H)(hd:H dr=some (.lst o'))(b:But dr H H'):Ai T pos q H':=by
 rcases h with e | ⟨c,e,ec⟩
 ·exact .inl (b _ _ e λz=>by rw[z,hd] at e;cases e)
 ·exact .inr ⟨c,b _ _ e (λz=>by rw[z,hd] at e;cases e),b _ _ ec λz=>by rw[z,hd] at ec;cases ec⟩
def lamPos (s:Stmt):Pos:=match B4 s with
 | [.Return (some (.Call _ _ [⟨_,.Lambda _ _ _ p,_⟩] _)) _]=>p
 | _=>⟨0,0,0,0⟩
theorem Xl6{a b c e:Int}(h1:a<b)(h2:c<e)(n1:a≠c)(n2:a≠e)(n3:b≠c)(n4:b≠e)(h:lieT a b c e = "apart"):e<a\/b<c:=by
 unfold lieT at h;rw[Pb (by omega)] at h;split at h
 ·exact absurd h (by decide)
 ·split at h
  ·exact absurd h (by decide)
  ·split at h
   ·exact absurd h (by decide)
   ·rename_i q1 q2 q3;rw[Br] at q1 q2 q3;by_cases p1:c<a/\a<e
    ·by_cases p2:c<b/\b<e
     ·rw[Pc p1,Pc p2] at q2;omega
     ·rw[Pc p1,Pb p2] at q1;omega
    ·by_cases p2:c<b/\b<e
     ·rw[Pb p1,Pc p2] at q1;omega
     ·by_cases p3:a<c/\c<b
      ·by_cases p4:a<e/\e<b
       ·rw[Pc p3,Pc p4] at q3;omega
       ·omega
      ·omega
theorem Xel{a b c e:Int}(h1:a<b)(h:lieT a b c e = "cross"):a<e/\c<b:=by
 unfold lieT at h;split at h
 ·exact absurd h (by decide)
 ·split at h
  ·rename_i q;rw[Br] at q;by_cases p1:c<a/\a<e
   ·omega
   ·by_cases p2:c<b/\b<e
    ·omega
    ·rw[Pb p1,Pb p2] at q;omega
  ·split at h
   ·exact absurd h (by decide)
   ·split at h
    ·exact absurd h (by decide)
    ·exact absurd h (by decide)
theorem Xl7{a b c e:Int}(h1:a<b)(h2:c<a)(h3:b<e):lieT a b c e = "within" := by
 unfold lieT;have q:nIn c e [a,b]=2:=by rw[Br,Pc ⟨h2,by omega⟩,Pc ⟨by omega,h3⟩]
 rw[Pb (by omega),q,Pb (by decide),Pc rfl]
section
variable {row:List Str}
theorem Xem{a y:Str}(h:upB row a y=true):(pl row y).1<=(pl row a).1/\(pl row a).2<=(pl row y).2:=by
 unfold upB at h;rw[Na] at h;rcases h with h | h
 ·rw[Pf h];exact⟨Int.le_refl _,Int.le_refl _⟩
 ·obtain⟨h1,h2,h3,h4⟩:=Hf (Pf h);exact⟨by omega,by omega⟩
theorem Xen{x y z:Str}(hx:row.count x=2)(h:lieR row x y = "within")(g:lieR row y z = "within"):lieR row x z = "within" := by
 have l:=Bq hx;obtain⟨h1,h2,h3,h4⟩:=Hf h;obtain⟨g1,g2,g3,g4⟩:=Hf g;exact Xl7 l (by omega) (by omega)
theorem Kw{x:Str}:lieR row x x ≠ "within" := by rw[G3];decide
structure Core (row:List Str) (cs:List Str) (p:Str->Bool):Prop where
 inr:∀c∈cs,c∈row
 is:∀y,p y=true ↔ ∃c∈cs,upB row c y=true
 ov:∀c∈cs,∀d∈cs,(pl row c).1<(pl row d).2
 an:∀c∈cs,∀d∈cs,lieR row c d ≠ "within"
variable {cs cs':List Str}{p p':Str->Bool}
theorem Core.plot(h2:∀y∈row,row.count y=2)(C:Core row cs p):Ae row ((dit row).filter p)=true:=by
 refine F5.mpr ⟨(Cv row).filter p,λx hx=>Ak.mp (Lc.mp hx).1,λx hx y hy e=>?_,λx hx y hy e=>?_⟩
 ·obtain⟨c,hc,hu⟩:=(C.is x).mp (Lc.mp hx).2;refine Lc.mpr ⟨Ak.mpr hy,(C.is y).mpr ⟨c,hc,?_⟩⟩;unfold upB at hu ⊢;rw[Na] at hu ⊢;rcases hu with hu | hu
  ·rw[Pf hu] at e;exact .inr (Pd e)
  ·exact .inr (Pd (Xen (h2 c (C.inr c hc)) (Pf hu) e))
 ·have mx:=Lc.mp hx;have my:=Lc.mp hy;obtain⟨c,hc,hu⟩:=(C.is x).mp mx.2;obtain⟨d,hd,hv⟩:=(C.is y).mp my.2;have hx2:=h2 x (Ak.mp mx.1);have hy2:=h2 y (Ak.mp my.1);have ne:x≠y:=λz=>by rw[z,G3] at e;exact absurd e (by decide)
  obtain⟨n1,n2,n3,n4⟩:=Ed hx2 hy2 ne;have u1:=Xem hu;have u2:=Xem hv;have o1:=C.ov c hc d hd;have o2:=C.ov d hd c hc;rcases Xl6 (Bq hx2) (Bq hy2) n1 n2 n3 n4 e with z | z
  ·omega
  ·omega
theorem Core.min(h2:∀y∈row,row.count y=2)(C:Core row cs p)(x:Str):x∈cs↔x∈(dit row).filter p/\∀y∈(dit row).filter p,lieR row y x ≠ "within" := by
 have self:∀c∈cs,c∈(dit row).filter p:=λc hc=>Lc.mpr ⟨Ak.mpr (C.inr c hc),(C.is c).mpr ⟨c,hc,by unfold upB;simp⟩⟩;constructor
 ·intro hx;refine⟨self x hx,λy hy e=>?_⟩;obtain⟨c,hc,hu⟩:=(C.is y).mp (Lc.mp hy).2;unfold upB at hu;rw[Na] at hu;rcases hu with hu | hu
  ·rw[Pf hu] at e;exact C.an c hc x hx e
  ·exact C.an c hc x hx (Xen (h2 c (C.inr c hc)) (Pf hu) e)
 ·rintro ⟨hx,hm⟩;obtain⟨c,hc,hu⟩:=(C.is x).mp (Lc.mp hx).2;unfold upB at hu;rw[Na] at hu;rcases hu with hu | hu
  ·rw[Pf hu];exact hc
  ·exact absurd (Pf hu) (hm c (self c hc))
theorem Core.eq(h2:∀y∈row,row.count y=2)(C:Core row cs p)(C':Core row cs' p')(e:(dit row).filter p=(dit row).filter p'):∀x,x∈cs↔x∈cs':=λx=>by
 rw[C.min h2,C'.min h2,e]
theorem core1(h2:∀y∈row,row.count y=2){a:Str}(ha:a∈row):Core row [a] (upB row a) where
 inr c hc:=by rw[Lf.mp hc];exact ha
 is y:=by simp
 ov c hc d hd:=by rw[Lf.mp hc,Lf.mp hd];exact Bq (h2 a ha)
 an c hc d hd:=by rw[Lf.mp hc,Lf.mp hd];exact Kw
theorem F6{q:Str×Str}(h:q∈crs row):q.1∈row/\q.2∈row/\ltS q.1 q.2/\lieR row q.1 q.2 = "cross" := by
 unfold crs at h;obtain⟨x,hx,h⟩:=List.mem_flatMap.mp h;obtain⟨y,hy,rfl⟩:=Lw.mp h;obtain⟨h1,h3⟩:=Lc.mp hy;rw[Ln] at h3;exact⟨Ak.mp hx,Ak.mp h1,Pf h3.1,Pf h3.2⟩
theorem core2(h2:∀y∈row,row.count y=2){q:Str×Str}(h:q∈crs row):Core row [q.1,q.2] λy=>upB row q.1 y||upB row q.2 y:=by
 obtain⟨ha,hb,hl,hx⟩:=F6 h;have hy:lieR row q.2 q.1 = "cross" := C0 (h2 _ ha) (h2 _ hb) hx;have la:=Bq (h2 _ ha);have lb:=Bq (h2 _ hb);have c1:=Xel la hx;have c2:=Xel lb hy;refine⟨λc hc=>?_,λy=>by simp,λc hc d hd=>?_,λc hc d hd=>?_⟩
 ·simp at hc;rcases hc with rfl | rfl
  ·exact ha
  ·exact hb
 ·simp at hc hd;rcases hc with rfl | rfl<;>rcases hd with rfl | rfl
  ·exact la
  ·exact c1.1
  ·exact c2.1
  ·exact lb
 ·simp at hc hd;rcases hc with rfl | rfl<;>rcases hd with rfl | rfl
  ·exact Kw
  ·rw[hx];decide
  ·rw[hy];decide
  ·exact Kw
theorem Xl8(h2:∀y∈row,row.count y=2):∀S∈cands row,Ae row S=true:=λS hS=>by
 unfold cands at hS;rcases Ll.mp hS with h | h
 ·obtain⟨a,ha,rfl⟩:=Lw.mp h;exact(core1 h2 (Ak.mp ha)).plot h2
 ·obtain⟨q,hq,rfl⟩:=Lw.mp h;exact(core2 h2 hq).plot h2
theorem Xl9(row:List Str):(crs row).Nodup:=by
 unfold crs;have nd:=Dv (Cv row);rw[List.Nodup,List.pairwise_flatMap];refine⟨λx hx=>?_,nd.imp λ{x y} ne a ha b hb e=>?_⟩
 ·rw[Od];exact(nd.filter _).imp λne e=>ne (Prod.mk.inj e).2
 ·obtain⟨u,_,rfl⟩:=Lw.mp ha;obtain⟨v,_,rfl⟩:=Lw.mp hb;exact ne (Prod.mk.inj e).1
theorem Xma(h2:∀y∈row,row.count y=2):(cands row).Nodup:=by
 have nd:=Dv (Cv row);unfold cands;rw[List.Nodup,List.pairwise_append];refine⟨?_,?_,?_⟩
 ·rw[Od];refine nd.imp_of_mem λ{a b} ha hb ne e=>ne ?_;have:=(Core.eq h2 (core1 h2 (Ak.mp ha)) (core1 h2 (Ak.mp hb)) e a).mp (My _);exact Lf.mp this
 ·rw[Od];refine(Xl9 row).imp_of_mem λ{q r} hq hr ne e=>ne ?_;have E:=Core.eq h2 (core2 h2 hq) (core2 h2 hr) e;obtain⟨_,_,l1,_⟩:=F6 hq;obtain⟨_,_,l2,_⟩:=F6 hr;have e1:=(E q.1).mp (by simp);have e2:=(E q.2).mp (by simp);have e3:=(E r.1).mpr (by simp);simp at e1 e2 e3;obtain⟨a,b⟩:=q;obtain⟨c,d⟩:=r;simp only at *;rcases e1 with e1 | e1
  ·rcases e2 with e2 | e2
   ·exact absurd (e1.trans e2.symm) (Fp l1)
   ·rw[e1,e2]
  ·rcases e2 with e2 | e2
   ·rw[e1,e2] at l1;exact absurd (Gs l1 l2) (Gr _)
   ·exact absurd (e1.trans e2.symm) (Fp l1)
 ·intro A hA B hB e;obtain⟨a,ha,rfl⟩:=Lw.mp hA;obtain⟨q,hq,rfl⟩:=Lw.mp hB;have E:=Core.eq h2 (core1 h2 (Ak.mp ha)) (core2 h2 hq) e;obtain⟨_,_,l1,_⟩:=F6 hq;have e1:=Lf.mp ((E q.1).mpr (by simp));have e2:=Lf.mp ((E q.2).mpr (by simp));exact Fp l1 (e1.trans e2.symm)
theorem Xmb(h2:∀y∈row,row.count y=2)(h3:Bs row)(S:List Str):S∈[]::cands row↔Ae row S=true:=by
 constructor
 ·intro h;rcases Lk.mp h with e | e
  ·rw[e];exact Xdl row
  ·exact Xl8 h2 S e
 ·intro h;by_cases e:S=[]
  ·rw[e];exact Ld
  ·exact Lb _ (Xkn h2 h3 e h)
theorem Xmc(h2:∀y∈row,row.count y=2):[]∉cands row:=λh=>by
 unfold cands at h;rcases Ll.mp h with h | h
 ·obtain⟨a,ha,e⟩:=Lw.mp h;have:=((core1 h2 (Ak.mp ha)).min h2 a).mp (My _);rw[e] at this;cases this.1
 ·obtain⟨q,hq,e⟩:=Lw.mp h;have:=((core2 h2 hq).min h2 q.1).mp (by simp);rw[e] at this;cases this.1
theorem Xmd(h2:∀y∈row,row.count y=2):([]::cands row).Nodup:=Ma.mpr ⟨Xmc h2,Xma h2⟩
end
end SH
namespace L2
open PySem PySem.Spec PyProof.Rows
theorem Xeo{X:Cx}{N:List Str}{cap:List (Option Nat)}{scope:Scope}{tg iter elt:Expr}{ifs:List Expr}{g:TG}{tt:TT}{te:TE}{wi:TI}{pos:Pos}{i:Nat}{y:Str}{py spos:Pos}(C:CompScope X N cap scope)(hcalm:X.calm=true)(hN:X.N.Nodup)(hiN:X.N[i]? = some y)(hy:X.env.scope.names.lookup y=some .local)(hi:PI X tg iter wi)
  (hg:∀s0 H0 ex,PG (X.comp N scope s0 H0 ex) tg g) (ht:∀s0 H0 ex,PIfs (X.comp N scope s0 H0 ex) ifs tt) (he:∀s0 H0 ex,PE (X.comp N scope s0 H0 ex) elt te)
  (hsw:swapsWith (.ListComp elt [⟨tg,iter,ifs,0⟩] scope pos) (some (.Name y py)) spos.line X.env=pure true:=by rfl)
  (hs:∀x,foldedSetIterable iter X.env x=pure x:=by intro _;rfl):PS X (.Assign [.Name y py] (.ListComp elt [⟨tg,iter,ifs,0⟩] scope pos) spos) (Xci i cap (.lst []) wi g tt (Fv te)):=
 Xcj (act := fun D env => do let _ <- call (.builtin "list.append") [.ref D, <- eval elt env]) Gz (fun use => rfl) rfl C hcalm Fu hN hiN hy hi (fun it D env => rfl) hg ht (fun D s0 H0 ex => Gy (he s0 H0 ex)) hsw hs
end L2
namespace SH
open PySem PySem.Spec PyProof.Rows L2
def spPlotsA (T:Addr) (pos:Pos):Sp:=λvs H Q _=>∃(r:Addr) (row:List Str),vs=[.ref r]/\H r=some (.lst (row.map V.str))/\Row2 row/\Bs row/\(dit row).length<=13/\Ai T pos qIn H /\
 ∀(D:Addr) (ps:List Addr) (Ts:List (List Str)) (H':Hp),H D=none->H' D=some (.lst (ps.map V.ref))->Tups H' ps Ts->(∀S,S∈Ts↔Ae row S=true)->(Ts.Pairwise λa b=>Ei a b=true)->ps.length<=64->Ai T pos qIn H'->But T H H'->Q (.ref D) H'
abbrev NPp:List Str:=["row", "span", "off", "single", "double"]
abbrev NPo:List Str:=["name", "span"]
abbrev NPi:List Str:=["other", "name", "span"]
abbrev NPs:List Str:=["name", "off"]
abbrev NPd:List Str:=["one", "other", "off"]
structure Offs (H:Hp) (kvs:List (Key×V)) (row:List Str) (ns:List Str):Prop where
 keys:kvs.map (·.1)=ns.map (λx=>(Sum.inr x:Key))
 val:∀x∈ns,∃l,Ao kvs (Sum.inr x:Key)=some (.ref l)/\H l=some (.lst (((dit row).filter (upB row x)).map V.str))
theorem Offs.mono{H H':Hp}{kvs:List (Key×V)}{row ns:List Str}(s:Offs H kvs row ns)(h:Same H H'):Offs H' kvs row ns:=⟨s.keys,λx hx=>let ⟨l,h1,h2⟩:=s.val x hx; ⟨l,h1,h _ _ h2⟩⟩
theorem Offs.snoc{H H':Hp}{kvs:List (Key×V)}{row ns:List Str}{x:Str}{l:Addr}(s:Offs H kvs row ns)(nx:x∉ns)(h:H' l=some (.lst (((dit row).filter (upB row x)).map V.str)))(k:∀b xs,H b=some (.lst xs)->H' b=some (.lst xs)):
  Offs H' (A9 kvs (Sum.inr x) (.ref l)) row (ns++[x]):=by
 have hn:Ao kvs (Sum.inr x:Key)=none:=by
  cases e:Ao kvs (Sum.inr x:Key) with
  | none=>rfl
  | some v=>
   exfalso;have:=Gi e;rw[s.keys] at this;obtain⟨y,hy,e2⟩:=Lw.mp this;rw[Nq e2] at hy;exact nx hy
 refine⟨by rw[Fh _ hn,Lo,Lo,s.keys];rfl,λy hy=>?_⟩;rw[Gh];by_cases e:y=x
 ·subst e;exact⟨l,Pc rfl,h⟩
 ·have hy':y∈ns:=by
   rcases Ll.mp hy with z | z
   ·exact z
   ·exact absurd (Lf.mp z) e
  obtain⟨l0,h1,h2⟩:=s.val y hy';exact⟨l0,by rw[Pb (λz=>e (Nq z))];exact h1,k _ _ h2⟩
theorem Offs.get{H:Hp}{kvs:List (Key×V)}{row ns:List Str}{d:Addr}{x:Str}(s:Offs H kvs row ns)(hd:Rd H d (.dK kvs))(hx:x∈ns):∃l,DGet H d (.str x) (some (.ref l))/\H l=some (.lst (((dit row).filter (upB row x)).map V.str)):=by
 obtain⟨l,h1,h2⟩:=s.val x hx;exact⟨l,DGet.rd hd h1,h2⟩
theorem Offs.at{H:Hp}{kvs:List (Key×V)}{row ns:List Str}(s:Offs H kvs row ns)(i:Nat)(hi:i<ns.length):(kvs.map λp=>kV p.1).getD i .non = .str (ns.getD i Str.empty):=by
 have e:(kvs.map λp=>kV p.1)=ns.map V.str:=by
  have:(kvs.map λp=>kV p.1)=(kvs.map (·.1)).map kV:=by rw[L9];rfl
  rw[this,s.keys,L9];rfl
 rw[e];exact Co V.str Str.empty ns hi
theorem Offs.len{H:Hp}{kvs:List (Key×V)}{row ns:List Str}(s:Offs H kvs row ns):kvs.length=ns.length:=by
 have:=congrArg List.length s.keys;simpa using this
theorem Xme{row:List Str}{x y:Str}(hx:row.count x=2)(hy:row.count y=2):decide (lieR row x y∈[Str.ofString "same",Str.ofString "within"])=upB row x y:=by
 unfold upB;by_cases e:y=x
 ·subst e;rw[G3];simp
 ·have n:lieR row x y ≠ "same" := λz=>e (Xdf hx hy z).symm;simp[e,n]
end SH
namespace L2
open PySem PySem.Spec PyProof.Rows
section
variable {X:Cx}
end
end L2
set_option maxHeartbeats 8000000
namespace SH
open PySem PySem.Spec PyProof.Rows L2
theorem isin{U:List (List Str)}{S:List Str}(h1:∀W∈U,∀y∈W,okN y)(h2:∀y∈S,okN y):((U.map A6).any λe=>PyData.eqv e (A6 S))=decide (S∈U):=by
 rw[List.any_map];by_cases hS:S∈U
 ·rw[Pd hS,Nr];exact⟨S,hS,by show PyData.eqv (.tuple _) (.tuple _)=true;rw[Ki h2 h2];exact Pd rfl⟩
 ·rw[Pe hS,List.any_eq_false];intro W hW;show ¬PyData.eqv (.tuple _) (.tuple _)=true;rw[Ki (h1 W hW) h2];simp;exact λz=>hS (z ▸ hW)
theorem Xep:∀(U:List (List Str)),PyData.depthAll (U.map A6)<=1
 | []=>by show 0<=1;decide
 | S::U=>by
  have:=Xep U;show max (PyData.depthAll (S.map PyData.str)+1) (PyData.depthAll (U.map A6))<=1;rw[F2];omega
theorem Kx{U:List (List Str)}(h:∀S∈U,∀y∈S,okN y):Ch (U.map A6)=true:=plainAll_map A6 U λS hS=>Dw (h S hS)
theorem Hj{U:List (List Str)}(h:∀S∈U,∀y∈S,okN y):Bh (.list (U.map A6))=true:=Kx h
theorem Xmf{U W:List (List Str)}(h1:∀S∈U,∀y∈S,okN y)(h2:∀S∈W,∀y∈S,okN y):PyData.eqv (.list (U.map A6)) (.list (W.map A6))=decide (U=W):=
 Xcp (λU=>PyData.list (U.map A6)) (λa b e=>by injection e with e;exact(N8 Xc4).mp e) U W (Hj h1) (Hj h2)
theorem Hk{H:Hp}{l:Addr}{ps:List Addr}{Ts:List (List Str)}(h:H l=some (.lst (ps.map V.ref)))(t:Tups H ps Ts):DAt H (.list (Ts.map A6)) (.ref l):=Jp h (Xd0 t)
theorem Xmg(U W:List (List Str)):min (PyData.depth (.list (U.map A6))) (PyData.depth (.list (W.map A6)))<=3:=by
 show min (PyData.depthAll (U.map A6)+1) _<=3;have:=Xep U;omega
end SH
set_option maxHeartbeats 4000000
namespace SH
open PySem PySem.Spec PyProof.Rows L2
def CrOk (Ts:List (List Str)):Prop:=∀S∈Ts,(∀y∈S,okN y)/\S.length<=24
def Xeq (Ts:List (List Str)) (b:List Str):Int:=(Ts.map λa=>((A7 a b).length:Int)).sum
theorem Tups.at{H:Hp}{ps:List Addr}{Ts:List (List Str)}{i:Nat}(h:Tups H ps Ts)(hi:i<ps.length):Ts.getD i []∈Ts:=by
 have hi':i<Ts.length:=by rw[<-h.1];exact hi
 have:Ts.getD i []=Ts[i]:=by simp[List.getD,hi']
 rw[this];exact L8 hi'
theorem Xer{ps:List Addr}{i:Nat}{v:V}(h:(ps.map V.ref)[i]? = some v):i<ps.length/\v = .ref (ps.getD i 0):=by
 obtain⟨hi,e⟩:=L3.mp h;rw[K8] at hi;exact⟨hi,by rw[<-e];simp[List.getD,hi]⟩
theorem Ai.ne{T b:Addr}{pos:Pos}{q:Str}{H:Hp}{o:HO}(tb:Ai T pos q H)(e:H b=some o)(n:∀z,o ≠ .tbl z):b≠T:=λz=>by
 rcases tb with q | ⟨_,q,_⟩<;>(rw[z,q] at e;cases e;exact n _ rfl)
end SH
namespace L2
open PySem PySem.Spec PyProof.Rows
def Recs (H:Hp) (ps:List Addr) (rs:List (List V)):Prop:=ps.length=rs.length/\∀i,i<ps.length->H (ps.getD i 0)=some (.tup (rs.getD i []))
end L2
namespace SH
open PySem PySem.Spec PyProof.Rows L2
def offN (Ts:List (List Str)) (x:Str):Nat:=(Ts.filter λS=>decide (x∈S)).length
def v3 (t:Str×Int×Int):List V:=[.str t.1,.int t.2.1,.int t.2.2]
def v2 (q:Str×Int):List V:=[.str q.1,.int q.2]
def d3 (t:Str×Int×Int):PyData:=.tuple [.str t.1,.int t.2.1,.int t.2.2]
def d2 (q:Str×Int):PyData:=.tuple [.str q.1,.int q.2]
structure CrAt (H:Hp) (T:Addr) (pos:Pos) (r c:Addr) (row:List Str) (ps:List Addr) (Ts:List (List Str)):Prop where
 hr:H r=some (.lst (row.map V.str))
 r2:Row2 row
 n3:Bs row
 d:(dit row).length<=13
 tab:Ai T pos qIn H
 hc:H c=some (.lst (ps.map V.ref))
 ht:Tups H ps Ts
 pl:ps.length<=200
 co:CrOk Ts
def kvN (ns:List Str) (f:Str->Nat):List (Key×V):=ns.map λx=>((Sum.inr x:Key),V.int (f x:Int))
def cntOn (ns:List Str) (Ts:List (List Str)):List (Str×Int×Int):=ns.map λx=>(x,(Ts.length:Int) - offN Ts x,(offN Ts x:Int))
theorem Xes{α : Type}{f : α->Bool}{U:List α}:U.countP f=0 ↔ ∀x∈U,f x=false:=by
 rw[List.countP_eq_zero];exact⟨λh x hx=>by simpa using h x hx,λh x hx=>by simp[h x hx]⟩
def ne2 (a b:List Str) (x:Str):Bool:=xor (decide (x∈a)) (decide (x∈b))
theorem Ej{a b:List Str}{x:Str}:ne2 a b x=true↔(x∈a/\x∉b)\/(x∈b/\x∉a):=by
 unfold ne2;by_cases h1:x∈a<;>by_cases h2:x∈b<;>simp[h1,h2]
theorem Ek{row a b:List Str}(ha:Ae row a=true)(hb:Ae row b=true):(A7 a b).length=(dit row).countP (ne2 a b):=by
 rw[List.countP_eq_length_filter];congr 1;refine lt_uniq (Xej (Eh ha) (Eh hb)) ((Cv row).filter _) λx=>?_;rw[E5,Lc,Ej,Ak];refine⟨λh=>⟨?_,h⟩,λh=>h.2⟩;rcases h with h | h
 ·exact(Bo ha).1 x h.1
 ·exact(Bo hb).1 x h.1
def btw (a b c:List Str):Bool:=decide ((A7 a c).length+(A7 c b).length=(A7 a b).length)
def Xoo:Sp:=λvs H Q _=>∃(r p q u:Addr) (row a b c:List Str),vs=[.ref r,.ref p,.ref q,.ref u]/\H r=some (.lst (row.map V.str))/\Row2 row/\(dit row).length<=14/\H p=some (.tup (a.map V.str))/\H q=some (.tup (b.map V.str))/\H u=some (.tup (c.map V.str)) /\
 Ae row a=true/\Ae row b=true/\Ae row c=true/\∀H',Same H H'->Q (.bl (btw a b c)) H'
def Xop (T:Addr) (pos:Pos):Sp:=λvs H Q _=>∃(r p q:Addr) (row a b:List Str),vs=[.ref r,.ref p,.ref q]/\H r=some (.lst (row.map V.str))/\Row2 row/\Bs row/\(dit row).length<=13/\H p=some (.tup (a.map V.str))/\H q=some (.tup (b.map V.str)) /\
 Ae row a=true/\Ae row b=true/\Ai T pos qIn H /\
 ∀(D:Addr) (ps:List Addr) (Ts:List (List Str)) (H':Hp),H D=none->H' D=some (.lst (ps.map V.ref))->Tups H' ps Ts->(∀S,S∈Ts↔Ae row S=true/\btw a b S=true)->(Ts.Pairwise λx y=>Ei x y=true)->ps.length<=64->Ai T pos qIn H'->But T H H'->Q (.ref D) H'
def costX (Ts:List (List Str)) (S:List Str) (x:Str):Int:=if x∈S then (Ts.length:Int) - offN Ts x else (offN Ts x:Int)
def majB (Ts:List (List Str)) (S:List Str) (x:Str):Prop:=(x∈S->Ts.length<=2 * offN Ts x)/\(x∉S->2 * offN Ts x<=Ts.length)
def majP (row:List Str) (Ts:List (List Str)):List Str:=(dit row).filter λx=>decide (Ts.length<2 * offN Ts x)
def Xoq (row:List Str) (Ts:List (List Str)) (S:List Str):Prop:=Ae row S=true/\∀S',Ae row S'=true->Xeq Ts S<=Xeq Ts S'
end SH
namespace L2
open PySem PySem.Spec PyProof.Rows
section
variable {P:Program}{w:World}{A:Around}{E:Value->Shared->Prop}{s:Shared}{it d v:Addr}{i ep:Nat}{es:Array DictEntry}
end
section
variable {X:Cx}{tg:Expr}
end
section
variable {X:Cx}
end
end L2
namespace SH
open PySem PySem.Spec PyProof.Rows L2
def kOf (S:List Str):List Key:=S.map λx=>(Sum.inr x:Key)
theorem Xet(S:List Str):(kOf S).map kV=S.map V.str:=by unfold kOf;rw[L9];rfl
theorem Xmh{S S':List Str}(h:kOf S=kOf S'):S=S':=by
 unfold kOf at h;exact N8 (λa b e=>Nq e) |>.mp h
def kvT (Us:List (List Str)) (f:List Str->Int):List (List Key×V):=Us.map λS=>(kOf S,V.int (f S))
theorem Xmi(a:List Str):¬Ei a a=true:=λh=>by unfold Ei at h;rw[Xdw] at h;cases h
theorem Xmj{Us:List (List Str)}(h:Us.Pairwise λa b=>Ei a b=true):Us.Nodup:=h.imp (S:=λa b=>a≠b) λ{a b} q (e:a=b)=>Xmi a (by rw[<-e] at q;exact q)
end SH
namespace L2
open PySem PySem.Spec PyProof.Rows PySem.Calls
section
variable {P:Program}{w:World}{A:Around}{E:Value->Shared->Prop}{s:Shared}
theorem Xmk:typeLookup (.type "list") "keys" = pure none:=by rw[typeLookup_type,builtinLookup_eq_fast];kernel_rfl
theorem Xml{a:Addr}{xs:Array Value}{k:Nat}{Q:Option Value->Shared->Prop}(hx:s.heap.get? a=some {cls:=.type "list",data:=.seq xs k})(hA:A.handled=none)
  (h:∀h' tk,(∀b o,s.heap.get? b=some o->h'.get? b=some o)->Q none {s with heap:=h',toks:=tk}):wpAny (model P w) A (getAttr? (.ref a) "keys") Q E s:=by
 obtain⟨hp,g,d,tk,os⟩:=s;have hT:∀tk',(⟨hp,g,d,tk',os⟩:Shared).TypeIs (.ref a) "list" := λ_=>⟨_,hx,rfl⟩;have f1:=sub_AttributeError;have f3:=PySem.F.slot_list_getattribute.lookup;have f4:=PySem.F.slot_list_getattribute.bind (.ref a);have f5:=am_list_getattr_none;unfold getAttr? getAttrBy? getAttrBy
 repeat (any_goals (first | assumption | exact hT _ | ((with_reducible show wpAny _ _ (call (Value.builtin "list.__getattribute__") _ _) _ _ _);refine call_meets PySem.F.slot_list_getattribute (hT _) am_entry_list_getattribute (PySem.F.args_list_getattribute_2 _ _) (meets_getattribute_miss_list a xs k #[] "keys" _ Xmk (by decide +kernel)) ⟨hx,hA,λh' tk' e hx'=>?_⟩) | wp_step))
 obtain⟨t',u',he⟩:=hx'.there;show wpAny _ _ (getattributeRaised _ _ _ _ _ _ _) _ _ _;unfold getattributeRaised
 repeat (any_goals (first | assumption | wp_step))
 all_goals first | exact h _ _ hx'.keeps | trace_state
theorem Xeu:entryFor table "dict.update.loop" = some Builtin.«dict.update.loop»:=entryFor_of_tree (by kernel_rfl)
theorem Hl:plainId "dict.update.loop" = true:=by decide +kernel
def dictP (prs:List (Key×V)):List (Key×V):=prs.foldl (λm q=>A9 m q.1 q.2) []
abbrev Dz:Obj:={cls:=.type "dict",data:=.dict #[]}
end
section
variable {X:Cx}
end
theorem Xev{P:Program}{w:World}{h h':Heap}{k:List Key}{a:Addr}(x:(tupleKind (A0 P w)).is h k a)(e:∀o,h.get? a=some o->h'.get? a=some o):(tupleKind (A0 P w)).is h' k a:=by
 obtain⟨o,its,n,h1,r⟩:=x;exact⟨o,its,n,e o h1,r⟩
theorem KT.mem{H:Hp}:∀{kvs:List (List Key×V)} {xs:List (List Key×Addr×Value)},KT H kvs xs->∀x∈xs,H x.2.1=some (.tup (x.1.map kV))
 | _,_,.nil,x,hx=>by cases hx
 | _,_,.cons r t,x,hx=>by
  rcases Lk.mp hx with e | e
  ·rw[e,<-r.1];exact r.2.1
  ·exact KT.mem t x e
section
variable {P:Program}{w:World}{A:Around}{E:Value->Shared->Prop}{s:Shared}
def B7 (prs:List (List Key×V)):List (List Key×V):=prs.foldl (λm q=>A9 m q.1 q.2) []
theorem Ky(prs:List (List Key×V))(q:List Key×V):B7 (prs++[q])=A9 (B7 prs) q.1 q.2:=by
 unfold B7;rw[List.foldl_append];rfl
theorem Xew(prs:List (List Key×V)):(B7 prs).length<=prs.length:=by
 have:∀n,∀prs:List (List Key×V),prs.length=n->(B7 prs).length<=n:=by
  intro n
  induction n with
  | zero=>intro prs h;rw[Mc.mp h];exact K9 _
  | succ n ih=>
   intro prs h;obtain⟨l,q,rfl⟩:∃l q,prs=l++[q]:=⟨prs.dropLast,prs.getLast (λe=>by rw[e] at h;cases h),(Nv _).symm⟩;rw[Ky];have:=Fg (B7 l) q.1 q.2;have:=ih l (by simpa using h);omega
 exact this _ prs rfl
abbrev B8:List Key×V:=([],.non)
theorem Xmm{R:Result->Shared->Prop}{I:Addr}{fp wr:List Addr}{G:Array GenState->Array GenState->Prop}{Pv:Nat->Value->Prop}{St:Nat->Shared->Prop}(H:Hp)(prs:List (List Key×V))(W:WalksS P w A.in1 I fp wr G prs.length Pv St)(d:Addr)(nd:d∉fp)(h0:Heap)(hH:∀b∈d::wr,H b=none)(hu:A.units+1<cLine)
  (hval:∀i v,i<prs.length->Pv i v->∃p o n b vv,v = .ref p/\p≠d/\p∉wr/\h0.get? p=some o/\o.cls = .type "tuple" /\ o.data = .seq #[.ref b,vv] n/\H b=some (.tup ((prs.getD i B8).1.map kV))/\(tupleKind (A0 P w)).is h0 (prs.getD i B8).1 b/\Ag (prs.getD i B8).2 vv) (hb:prs.length<sizeLine):
  ∀(k i:Nat) (j:Int) (tj:Tok) (s:Shared),prs.length - i=k->i<=prs.length->St i s->(∀b o,b≠d->b∉wr->h0.get? b=some o->s.heap.get? b=some o)->(∃vs,KT H (B7 (prs.take i)) vs/\s.heap.DictOfH (tupleKind (A0 P w)) d vs) ->
   (∀s',Moved (d::wr) G s s'->(∃vs,KT H (B7 prs) vs/\s'.heap.DictOfH (tupleKind (A0 P w)) d vs)->R (.ok (.ret .none)) s') ->
   codeAny (model P w) A (.builtin "dict.update.loop" ⟨[.ref d,.ref I,.int j tj,.none],[]⟩) R s:=by
 have nw:d∉wr:=λz=>nd (W.sub _ z);have up:∀b∈wr,b∈d::wr:=λb z=>Lb _ z;have notIn:∀{b:Addr} {o:HO},H b=some o->b≠d/\b∉wr:=λ{b o} e=>⟨λz=>(by rw[z,hH d Ld] at e;cases e),λz=>(by rw[hH b (Lb _ z)] at e;cases e)⟩;have move:∀{kvs:List (List Key×V)} {vs:List (List Key×Addr×Value)} {s s':Shared},KT H kvs vs->Moved wr G s s'->s.heap.DictOfH (tupleKind (A0 P w)) d vs->s'.heap.DictOfH (tupleKind (A0 P w)) d vs:=λ{kvs vs s s'} rel mv dd=>by
  obtain⟨o,es,ep,ho,r1,r2,r3,r4,r5⟩:=dd;exact⟨o,es,ep,mv.heap d o nw ho,r1,r2,r3,λx hx=>Xev (r4 x hx) λo e=>mv.heap _ o (notIn (rel.mem x hx)).2 e,r5⟩
 intro k
 induction k with
 | zero=>
  intro i j tj s e hi st hk ⟨vs,rel,dd⟩ hR;have:i=prs.length:=by omega
  subst this;rw[Mq] at rel;refine codeAny_builtin Xeu ?_;rw[Around.under_plainId Hl _];show wpAny _ A.in1 (pyNext (.ref I) >>= λ_=>_) _ _ s;refine O8 (W.done s _ _ st λs' mv=>?_);show wpAny _ A.in1 (Builtin.Dict.addKeywords d [] >>= _) _ _ s';exact O8 (O9 (O9 (hR s' (mv.mono up) ⟨vs,rel,move rel mv dd⟩)))
 | succ k ih=>
  intro i j tj s e hi st hk ⟨vs,rel,dd⟩ hR;have lt:i<prs.length:=by omega
  refine codeAny_builtin Xeu ?_;rw[Around.under_plainId Hl _];show wpAny _ A.in1 (pyNext (.ref I) >>= λ_=>_) _ _ s;refine O8 (W.item i s _ _ lt st λv s' hP st' mv=>?_);obtain⟨p,o,n,b,vv,rfl,npd,npw,ho,hc,hd,hbH,hbk,rv⟩:=hval i v lt hP;have hk':∀b o,b≠d->b∉wr->h0.get? b=some o->s'.heap.get? b=some o:=λb o h1 h2 h3=>mv.heap b o h2 (hk b o h1 h2 h3);have ho':=hk' p o npd npw ho;have dd':=move rel mv dd;have hT:s'.TypeIs (.ref p) "tuple" := ⟨o,ho',hc⟩;have hl1:vs.length<=i:=by
   have:=Xew (prs.take i);rw[<-Paired.length rel];rw[Mf] at this;omega
  show wpAny _ A.in1 (holding [Value.ref p] _ >>= λ_=>_) _ _ s';refine O8 (wpAny_holding (O8 (wpAny_tryCatch ?_)));unfold Builtin.Dict.pairItems;refine O8 (wpAny_typeOf hT ?_);rw[Pc (by decide)];refine O8 (wpAny_seqItems ho' hd (O9 ?_));show wpAny _ _ (holding [Value.ref b,vv] (dictSet d (.ref b) vv)) _ _ s';have hkey:(tupleKind (A0 P w)).is s'.heap (prs.getD i B8).1 b:=Xev hbk λo e=>hk' b o (notIn hbH).1 (notIn hbH).2 e;refine wpAny_holding (wpAny_dictSet_heap (hsz:=by omega) (tupleKind_room_in1 hu) hkey dd' λh' dd2 hs=>?_);have e3:B7 (prs.take (i+1))=A9 (B7 (prs.take i)) (prs.getD i B8).1 (prs.getD i B8).2:=by
   rw[Lu lt,Ky];have:prs.getD i B8=prs[i]:=by simp[List.getD,lt]
   rw[this]
  refine O9 ⟨plainId_quiet Hl _,ih (i+1) _ _ _ (by omega) lt (W.frame _ s' _ _ st' (Nat.le_add_right _ _) λb hb o q=>?_) (λb o h1 h2 h3=>?_) ⟨_,by rw[e3];exact rel.put _ hbH rv,dd2⟩ λs'' mv2 S4=>?_⟩
  ·show h'.get? b=some o;rw[hs.2 b (λz=>nd (z ▸ hb))];exact q
  ·show h'.get? b=some o;rw[hs.2 b h1];exact hk' b o h1 h2 h3
  ·refine hR s'' (Moved.trans W.gtrans ((mv.mono up).then_heap (Nat.le_add_right _ _) λb o hb q=>?_) mv2) S4;rw[hs.2 b (λz=>hb (z ▸ Ld))];exact q
theorem Xmn{l:Addr}{items:Array Value}{k:Nat}(H:Hp){prs:List (List Key×V)}{Q:Value->Shared->Prop}(hA:A.handled=none)(hu:A.units+3<cLine)(hH:∀b,s.heap.objs.size<=b->H b=none)(hl:s.heap.get? l=some {cls:=.type "list",data:=.seq items k})(hz:items.size=prs.length)(hb:prs.length<sizeLine)
  (hval:∀i v,i<prs.length->items[i]? = some v->∃p o n b vv,v = .ref p/\s.heap.get? p=some o/\o.cls = .type "tuple" /\ o.data = .seq #[.ref b,vv] n/\H b=some (.tup ((prs.getD i B8).1.map kV))/\(tupleKind (A0 P w)).is s.heap (prs.getD i B8).1 b/\Ag (prs.getD i B8).2 vv)
  (h:∀(h':Heap) (tk:Nat),(∃vs,KT H (B7 prs) vs/\h'.DictOfH (tupleKind (A0 P w)) s.heap.objs.size vs)->(∀b o,s.heap.get? b=some o->h'.get? b=some o)->Q (.ref s.heap.objs.size) {s with heap:=h',toks:=tk}):
  wpAny (model P w) A (call (.type "dict") [.ref l]) Q E s:=by
 refine callType_codes (Q₁:=λobj s₁=>obj = .ref s.heap.objs.size/\s₁ = {s with heap:=s.heap.push Dz}) PySem.F.kt_called_dict (PySem.F.kt_typeCall_dict_1 _) PySem.F.entry_dict_init (kt_code_dict_new _ ⟨rfl,rfl⟩) ?_;rintro obj s₁ ⟨rfl,rfl⟩;have gS:(s.heap.push Dz).get? s.heap.objs.size=some Dz:=Heap.get?_push_size _ rfl;have hnew:({s with heap:=s.heap.push Dz}:Shared).TypeIs (.ref s.heap.objs.size) "dict" := ⟨_,gS,rfl⟩;have hl1:(s.heap.push Dz).get? l=some {cls:=.type "list",data:=.seq items k}:=Pi _ hl;have ltl:=Ph hl;refine⟨hnew,PySem.F.args_dict_init_2 _ _,?_⟩;unfold Builtin.«dict.__init__»;refine O8 ?_;unfold Builtin.Dict.selfAndRest;refine O8 (wpAny_notOrdered_dict hnew ?_);show wpAny _ _ (pure (s.heap.objs.size,[Value.ref l])) _ _ _;refine O9 ?_;show wpAny _ _ (Builtin.Dict.updateFrom "dict.__init__" s.heap.objs.size (.ref l) [] .none) _ _ _;unfold Builtin.Dict.updateFrom;refine O8 (wpAny_typeOf (T := "list") ⟨_,hl1,rfl⟩ ?_);rw[Pc (by decide)];refine O8 (Xml (s:={s with heap:=s.heap.push Dz}) hl1 (by simp[hA]) λh2 tk2 k2=>?_);rw[Pc (show (none:Option Value).isNone=true from rfl)];have hl2:h2.get? l=some {cls:=.type "list",data:=.seq items k}:=k2 _ _ hl1;have gS2:=k2 _ _ gS;have ltS:=Ph gS2;have ltl2:=Ph hl2;have hi2:h2.IsList l items:=⟨_,hl2,rfl,k,rfl⟩;refine O8 (wpAny_rule (O8 (wpAny_pyIter_list (s:={s with heap:=h2,toks:=tk2}) hi2 ?_)));have nI:s.heap.objs.size∉[h2.objs.size,l]:=by simp only[Lk,Oh,or_false,not_or];exact⟨Lg ltS,(Lg ltl).symm⟩
 have W:=(Walks.list (prog:=P) (w:=w) (A:=A.in1.in1) (by simp[hA]) h2.objs.size l (Lg ltl2) items).toS;rw[hz] at W;refine O9 ⟨plainId_quiet Hl _,?_⟩;refine Xmm (A:=A.in1) H prs W s.heap.objs.size nI s.heap (λb hb=>?_) (by show A.units+1+1<cLine;omega) (λi v hi hv=>?_) hb _ 0 _ _ _ rfl (L6 _) ⟨⟨_,Heap.get?_push_size _ rfl,rfl,rfl⟩,hi2.push _⟩ (λb o _ _ q=>Pi _ (k2 _ _ (Pi _ q))) ⟨[],.nil,?_⟩ λs' mv S'=>?_
 ·rcases Lk.mp hb with z | z
  ·rw[z];exact hH _ (K9 _)
  ·rw[Lf.mp z];exact hH _ (Nx ltS)
 ·obtain⟨p,o,n,b,vv,e,ho,hc,hd,rk,rk2,rv⟩:=hval i v hi hv;have ltp:=Ph ho;have ltp2:=Ph (k2 _ _ (Pi Dz ho));exact⟨p,o,n,b,vv,e,Lg ltp,by simp only[Lk,Oh,or_false];exact Lg ltp2,ho,hc,hd,rk,rk2,rv⟩
 ·exact⟨_, #[],0,Pi _ gS2,⟨rfl,rfl,rfl⟩,rfl,rfl,λx hx=>(nomatch hx),List.nodup_nil⟩
 ·rw[Moved.eq_with mv];refine⟨rfl,h s'.heap s'.toks S' λb o q=>mv.heap b o (λz=>?_) (Pi _ (k2 _ _ (Pi _ q)))⟩;have ltb:=Ph q;rcases Lk.mp z with z | z
  ·exact absurd ltb (by rw[z];exact Mb _)
  ·have:=Ph (k2 _ _ (Pi Dz q));exact absurd this (by rw[Lf.mp z];exact Mb _)
end
section
variable {X:Cx}
theorem Xmo(hcalm:X.calm=true)(hu:X.A.units+3<cLine):Cj X (.type "dict") (λxs H Q=>∃(p:Addr) (qs bs:List Addr) (prs:List (List Key×V)),xs=[.ref p]/\H p=some (.lst (qs.map V.ref))/\qs.length=prs.length/\prs.length<=1000 /\
  (∀i,i<qs.length->H (qs.getD i 0)=some (.tup [.ref (bs.getD i 0),(prs.getD i B8).2])/\H (bs.getD i 0)=some (.tup ((prs.getD i B8).1.map kV)))/\∀d,H d=none->Q (.ref d) (upd H d (.dT (B7 prs)))):=by
 intro pins s σ H xs us Q I r h;obtain⟨p,qs,bs,prs,rfl,hp,hz,hb,ht,q⟩:=h;obtain⟨u,rfl,rx⟩:=Ct r;cases rx;obtain⟨_,its,n,rv,hx⟩:(qs.map V.ref).length<=sizeLine/\∃(its:List Value) (n:Nat),Vals (qs.map V.ref) its/\s.heap.get? p=some {cls:=.type "list",data:=.seq its.toArray n}:=I.hok p _ hp;have lenV:its.length=qs.length:=by rw[<-rv.length,K8]
 have hdS:(s.heap.objs.size==sysModules)=false:=by
  have:=I.big;exact beq_eq_false_iff_ne.mpr (Ov this)
 have free0:H s.heap.objs.size=none:=I.hok.fresh (K9 _);refine Xmn H (prs:=prs) (I.ok.hd hcalm) hu (λb hb=>I.hok.fresh hb) hx (by rw[Lm,lenV,hz]) (by rw[Pa];omega) (λi v hi hv=>?_) λh' tk ⟨vs,rel,dd⟩ k=>?_
 ·have hi':i<qs.length:=by omega
  obtain⟨u,hu,ru⟩:=rv.get (i:=i) (x:=.ref (qs.getD i 0)) (by rw[Lx,Li hi'];simp[List.getD,hi']);have:v=u:=by
   rw[List.getElem?_toArray,hu] at hv;exact(Ly hv).symm
  subst this;obtain⟨its2,r2,pl,_⟩:=I.tuple (SqT.of (K:=X.K) (ht i hi').1);obtain⟨kv,vv,e2,rk,rv2⟩:=r2.two;subst e2;cases (show kv=Value.ref _ from rk);obtain⟨o,ho,hc,n2,hd⟩:=pl;exact⟨_,o,n2,_,vv,ru,ho,hc,hd,(ht i hi').2,Et I.hok (ht i hi').2,rv2⟩
 ·refine⟨.ref s.heap.objs.size,_,I.laidM (s':={s with heap:=h',toks:=tk}) k rfl rfl (K9 _) ?_,rfl,q _ free0⟩;obtain⟨o,es,ep,ho,r1,r2,r3,_,r5⟩:=dd;refine⟨by have:=Xew prs;rw[Pa];omega,hdS,vs,rel.keeps λb ys e=>?_,o,es,ep,ho,r1,r2,r3,r5⟩;rw[Ad (λz=>by rw[z,free0] at e;cases e)];exact e
end
section
variable {P:Program}{w:World}{A:Around}{E:Value->Shared->Prop}{s:Shared}
end
section
variable {X:Cx}{N:List Str}{cap:List (Option Nat)}{scope:Scope}{tg iter elt:Expr}{ifs:List Expr}{g:TG}{tt:TT}{te:TE}{wi:TI}{pos:Pos}
end
end L2
namespace L2
open PySem PySem.Spec PyProof.Rows
section
variable {X:Cx}{N:List Str}{cap:List (Option Nat)}{scope:Scope}{tg iter elt:Expr}{ifs:List Expr}{g:TG}{tt:TT}{te:TE}{wi:TI}{pos:Pos}
end
end L2
namespace SH
open PySem PySem.Spec PyProof.Rows L2
def bk (S:List Str) (x:Str):Str:=if x∈S then "off" else "home"
def Xex (Ts:List (List Str)) (x:Str):List Str:=srt (ddup (Ts.map λS=>bk S x))
def Xmp (row:List Str) (Ts:List (List Str)):List (Str×Str):=((dit row).filter λx=>decide ((Xex Ts x).length=1)).map λx=>(x,(Xex Ts x).headD Str.empty)
def pr2 (q:Str×Str):List Str:=[q.1,q.2]
def keeps (kept:List (Str×Str)) (S:List Str):Bool:=kept.all λq=>decide (bk S q.1=q.2)
def Good (row:List Str) (kept:List (Str×Str)):Prop:=∃Us,Us≠[]/\(∀S∈Us,Ae row S=true)/\kept=Xmp row Us
structure Lsts (H:Hp) (kvs:List (Key×V)) (f:Str->List Str) (ns:List Str):Prop where
 keys:kvs.map (·.1)=ns.map (λx=>(Sum.inr x:Key))
 val:∀x∈ns,∃l,Ao kvs (Sum.inr x:Key)=some (.ref l)/\H l=some (.lst ((f x).map V.str))
end SH
namespace L2
open PySem PySem.Spec PyProof.Rows
def okR (z:Str):Prop:=z.length<=9/\∀c∈z.cps.toList,c<16 ^ 8
section
variable {X:Cx}{es:List Expr}{t:L2.St->Hp->(Hp->Prop)->Prop}{e:Expr}{te:TE}{pos:Pos}
end
end L2
namespace SH
open PySem PySem.Spec PyProof.Rows L2
structure KpOk (kept:List (Str×Str)):Prop where
 len:kept.length<=16
 ok:∀q∈kept,okR q.1/\okR q.2/\okN q.1/\okN q.2
structure HeldAt (H:Hp) (T:Addr) (pos:Pos) (r k:Addr) (row:List Str) (kept:List (Str×Str)):Prop where
 hr:H r=some (.lst (row.map V.str))
 r2:Row2 row
 n3:Bs row
 d:(dit row).length<=13
 tab:Ai T pos qIn H
 kp:∃qs:List Addr,H k=some (.lst (qs.map V.ref))/\Tups H qs (kept.map pr2)
 ok:KpOk kept
def kvK (kept:List (Str×Str)):List (Key×V):=kept.map λq=>((Sum.inr q.1:Key),V.str q.2)
section
variable {row:List Str}{kept:List (Str×Str)}{S:List Str}
theorem Xmq{a b:List Str}(ha:Ae row a=true)(hb:Ae row b=true)(h:(A7 a b).length=0):a=b:=by
 have e:=Mc.mp h;refine lt_uniq (Bo ha).2 (Bo hb).2 λx=>?_;have n:x∉A7 a b:=by rw[e];simp
 rw[E5] at n;by_cases z1:x∈a<;>by_cases z2:x∈b<;>simp_all
end
end SH
namespace SH
open PySem L2
end SH
namespace SH
open PySem PySem.Spec PyProof.Rows L2
def ltP (a b:List Str):Prop:=a.length<b.length\/(a.length=b.length/\ltL a b=true)
structure IsPL (row:List Str) (Ts:List (List Str)):Prop where
 pw:Ts.Pairwise ltP
 mem:∀T,T∈Ts↔Ae row T=true
structure Lay (row:List Str) (n:Nat) (Us:List (List Str)):Prop where
 pw:Us.Pairwise λa b=>ltL a b=true
 mem:∀T,T∈Us↔Ae row T=true/\T.length=n
structure Upto (row:List Str) (n:Nat) (Ts:List (List Str)):Prop where
 pw:Ts.Pairwise ltP
 mem:∀T,T∈Ts↔Ae row T=true/\T.length<=n
def Xor:Sp:=λvs H Q _=>∃(dr sc r kp:Addr) (row:List Str) (qs:List Addr) (kept:List (Str×Str)),vs=[.ref dr,.ref r,.ref kp]/\DrawOk H dr sc/\H r=some (.lst (row.map V.str))/\r≠dr/\Isl row/\H kp=some (.lst (qs.map V.ref))/\kp≠dr/\Tups H qs (kept.map pr2)/\Good row kept /\
 ∀(k':Addr) (qs':List Addr) (kept':List (Str×Str)) (H':Hp),k'≠dr->H' k'=some (.lst (qs'.map V.ref))->Tups H' qs' (kept'.map pr2)->KpOk kept'->DrawOk H' dr sc->But dr H H'->Q (.ref k') H'
end SH
namespace L2
open PySem
end L2
namespace SH
open PySem PySem.Spec PyProof.Rows L2
theorem most{α : Type}(f : α->Nat):∀l:List α,l≠[]->∃a∈l,∀b∈l,f b<=f a
 | [],h=>absurd rfl h
 | [a],_=>⟨a,Ld,λb hb=>by rw[Lf.mp hb];exact K9 _⟩
 | a::c::r,_=>by
  obtain⟨m,hm,hl⟩:=most f (c::r) (by simp);by_cases q:f m<=f a
  ·exact⟨a,Ld,λb hb=>by
    rcases Lk.mp hb with e | e
    ·rw[e];exact K9 _
    ·exact L0 (hl b e) q⟩
  ·exact⟨m,Lb _ hm,λb hb=>by
    rcases Lk.mp hb with e | e
    ·rw[e];omega
    ·exact hl b e⟩
theorem Xmr{row a b:List Str}(h2:∀y∈row,row.count y=2)(ha:Ae row a=true)(hb:Ae row b=true)(n:a≠b):
  ∃x c,Ae row c=true/\ne2 a b x=true/\∀y,y∈c↔if y=x then y∈b else y∈a:=by
 obtain⟨p1,p2,p3,p4⟩:=F5.mp ha;obtain⟨q1,q2,q3,q4⟩:=F5.mp hb;by_cases e:(a.filter λx => !decide (x∈b))=[]
 ·have sub:∀x∈a,x∈b:=λx hx=>Classical.byContradiction λz=>by
   have:x∈a.filter λx => !decide (x∈b):=Lc.mpr ⟨hx,by simp[z]⟩;rw[e] at this;cases this
  have ne:(b.filter λx => !decide (x∈a))≠[]:=λe2=>n (lt_uniq p1 q1 λx=>⟨sub x,λhx=>Classical.byContradiction λz=>by
   have:x∈b.filter λx => !decide (x∈a):=Lc.mpr ⟨hx,by simp[z]⟩;rw[e2] at this;cases this⟩)
  obtain⟨x,hx,mx⟩:=most (span row) _ ne;obtain⟨hxb,hxa⟩:=Lc.mp hx;have hxa:x∉a:=by simpa using hxa
  refine⟨x,(dit row).filter (λy=>decide (y∈a)||decide (y=x)),?_,Ej.mpr (.inr ⟨hxb,hxa⟩),λy=>?_⟩
  ·have mem:∀y,y∈(dit row).filter (λy=>decide (y∈a)||decide (y=x))↔y∈row/\(y∈a\/y=x):=λy=>by rw[Lc,Ak,Na,decide_eq_true_eq,decide_eq_true_eq]
   refine F5.mpr ⟨(Cv row).filter _,λy hy=>((mem y).mp hy).1,λy hy z hz w=>?_,λy hy z hz=>?_⟩
   ·refine(mem z).mpr ⟨hz,?_⟩;rcases ((mem y).mp hy).2 with h | h
    ·exact .inl (p3 y h z hz w)
    ·rw[h] at w;refine .inl (Classical.byContradiction λnz=>?_);have hzb:=q3 x hxb z hz w;have:=mx z (Lc.mpr ⟨hzb,by simp[nz]⟩);have:=Xdy (h2 x (q2 x hxb)) w;omega
   ·refine q4 y ?_ z ?_
    ·rcases ((mem y).mp hy).2 with h | h
     ·exact sub y h
     ·rw[h];exact hxb
    ·rcases ((mem z).mp hz).2 with h | h
     ·exact sub z h
     ·rw[h];exact hxb
  ·rw[Lc,Ak,Na,decide_eq_true_eq,decide_eq_true_eq];by_cases z:y=x
   ·rw[Pc z];exact⟨λ_=>z ▸ hxb,λh=>⟨q2 y h,.inr z⟩⟩
   ·rw[Pb z];exact⟨λh=>h.2.elim id λq=>absurd q z,λh=>⟨p2 y h,.inl h⟩⟩
 ·obtain⟨x,hx,mx⟩:=least (span row) _ e;obtain⟨hxa,hxb⟩:=Lc.mp hx;have hxb:x∉b:=by simpa using hxb
  refine⟨x,a.filter (λy=>decide (y≠x)),?_,Ej.mpr (.inl ⟨hxa,hxb⟩),λy=>?_⟩
  ·refine F5.mpr ⟨Xlb p1,λy hy=>p2 y (Lc.mp hy).1,λy hy z hz w=>?_,λy hy z hz=>p4 y (Lc.mp hy).1 z (Lc.mp hz).1⟩;obtain⟨hy1,hy2⟩:=Lc.mp hy;refine Lc.mpr ⟨p3 y hy1 z hz w,Pd λq=>?_⟩;subst q;have hyb:y∉b:=λh=>hxb (q3 y h z hz w);have:=mx y (Lc.mpr ⟨hy1,by simp[hyb]⟩);have:=Xdy (h2 y (p2 y hy1)) w;omega
  ·rw[Lc,decide_eq_true_eq];by_cases z:y=x
   ·rw[Pc z];exact⟨λh=>absurd z h.2,λh=>absurd (z ▸ h) hxb⟩
   ·rw[Pb z];exact⟨λh=>h.1,λh=>⟨h,z⟩⟩
def Xms (Ts:List (List Str)) (W:List Str):Bool:=Ts.any λa=>Ts.any λb=>btw a b W
def Xmt (Ts Us:List (List Str)):Nat->List Str->Bool
 | 0,S=>decide (S∈Us)
 | k+1,S=>Xms (Ts.filter (Xmt Ts Us k)) S
section
variable {row:List Str}{Ts Us:List (List Str)}
end
theorem D0{S:List Str}{x n:Str}:n∈Ax S x↔(n∈S/\n≠x)\/(x∉S/\n=x):=by
 unfold Ax;rw[Jh,Ll,Lc,decide_eq_true_eq];by_cases h:x∈S
 ·rw[Pc h];simp[h]
 ·rw[Pb h];simp[h]
theorem Kz(S:List Str)(x:Str):A7 S [x]=Ax S x:=by
 unfold A7 Ax;have e1:(S.filter λy => !decide (y∈[x]))=S.filter λy=>decide (y≠x):=by
  congr 1;funext y;by_cases z:y=x<;>simp[z]
 have e2:([x].filter λy => !decide (y∈S))=if x∈S then [] else [x]:=by
  by_cases z:x∈S<;>simp[z]
 rw[e1,e2]
theorem K0{S:List Str}(x:Str)(h:S.Nodup):(Ax S x).Pairwise ltS:=by
 rw[<-Kz];exact Xej h (by simp)
def K1:Sp:=λvs H Q _=>∃(p:Addr) (ss:List Str) (x:Str),vs=[.ref p,.str x]/\H p=some (.tup (ss.map V.str))/\ss.Nodup/\ss.length<16 /\
 ∀q H',H q=none->H' q=some (.tup ((Ax ss x).map V.str))->Same H H'->Q (.ref q) H'
def Xos (T:Addr) (pos:Pos):Sp:=λvs H Q _=>∃(r k:Addr) (row:List Str) (kept:List (Str×Str)) (v:V) (Ts:List (List Str)),vs=[.ref r,.ref k,v]/\HeldAt H T pos r k row kept/\(∀S,S∈Ts↔Ae row S=true) /\
 ((v = .non/\¬Good row kept) \/ ∃(k2:Addr) (other:List (Str×Str)),v = .ref k2/\HeldAt H T pos r k2 row other/\¬(Good row kept/\Good row other)) /\
 ∀H',Ai T pos qIn H'->But T H H'->Q (.bl true) H'
def nbL (row S:List Str):List (Str×List Str):=((dit row).filter λx=>Ae row (Ax S x)).map λx=>(x,Ax S x)
abbrev dN:Str×List Str:=(Str.empty,[])
def Nbs (H:Hp) (qs:List Addr) (xs:List (Str×List Str)):Prop:=qs.length=xs.length/\∀i,i<qs.length->∃p,H (qs.getD i 0)=some (.tup [.str (xs.getD i dN).1,.ref p])/\H p=some (.tup ((xs.getD i dN).2.map V.str))
theorem Nbs.keep{H H':Hp}{qs:List Addr}{xs:List (Str×List Str)}(h:Nbs H qs xs)(k:∀b w,H b=some (.tup w)->H' b=some (.tup w)):Nbs H' qs xs:=⟨h.1,λi hi=>let ⟨p,a,b⟩:=h.2 i hi; ⟨p,k _ _ a,k _ _ b⟩⟩
theorem Nbs.same{H H':Hp}{qs:List Addr}{xs:List (Str×List Str)}(h:Nbs H qs xs)(s:Same H H'):Nbs H' qs xs:=h.keep λ_ _ e=>s _ _ e
theorem Nbs.nil(H:Hp):Nbs H [] []:=⟨rfl,λi hi=>absurd hi (Mv _)⟩
theorem Nbs.snoc{H:Hp}{qs:List Addr}{xs:List (Str×List Str)}{q p:Addr}{x:Str×List Str}(h:Nbs H qs xs)(h1:H q=some (.tup [.str x.1,.ref p]))(h2:H p=some (.tup (x.2.map V.str))):Nbs H (qs++[q]) (xs++[x]):=by
 refine⟨by rw[Lj,Lj,h.1];rfl,λi hi=>?_⟩;rw[Lj] at hi;have hi:i<qs.length+1:=hi;by_cases z:i<qs.length
 ·have z2:i<xs.length:=by rw[<-h.1];exact z
  rw[List.getD,List.getD,Mu z,Mu z2];exact h.2 i z
 ·have e:i=qs.length:=by omega
  subst e;refine⟨p,?_,?_⟩
  ·rw[List.getD,Mm (K9 _),O0,List.getD,h.1,Mm (K9 _),O0];exact h1
  ·rw[List.getD,h.1,Mm (K9 _),O0];exact h2
theorem Xey{cap:List (Option Nat)}{g:TG}{tt:TT}{te:TE}{J:It}{σ:L2.St}{H1:Hp}{F:Addr->Hp->Prop}(n:Nat)(hn:n<sizeLine)(vs:Nat->V)(ok:Nat->Bool)(Us:Nat->Str×List Str)(Es:L2.St->Prop)(h0:Es (Bk cap σ))
  (hgo:∀i H2,i<n->Same H1 H2->J.go i H2/\∀x H3,J.yld i H2 x H3->H3=H2/\x=vs i)
  (hst:∀H2,Same H1 H2->J.stop n H2)
  (step:∀i σ1 H2 (Q1:L2.St->V->Hp->Prop) (Q0:L2.St->Hp->Prop),i<n->Es σ1->Same H1 H2->(∀σ2 t p H6,ok i=true->Es σ2->H6 t=some (.tup [.str (Us i).1,.ref p])->H6 p=some (.tup ((Us i).2.map V.str))->Same H2 H6->Q1 σ2 (.ref t) H6)->(∀σ2 H6,ok i=false->Es σ2->Same H2 H6->Q0 σ2 H6) ->
   g (vs i) σ1 H2 fun σ2 H4=>tt σ2 H4 λb H5=>if b=true then te σ2 H5 λy H6=>Q1 σ2 y H6 else Q0 σ2 H5)
  (hd:∀D ps H2,H1 D=none->Same H1 H2->H2 D=some (.lst (ps.map V.ref))->Nbs H2 ps (((List.range n).filter ok).map Us)->F D H2):Dj cap g tt te J σ H1 F:=by
 refine Fj n vs (λD i σ2 H2=>Es σ2/\Same H1 H2/\∃ps:List Addr,ps.length<=i/\H2 D=some (.lst (ps.map V.ref))/\Nbs H2 ps (((List.range i).filter ok).map Us)) ?_ ?_ ?_ ?_ ?_
 ·intro D hD;exact⟨h0,(Same.refl H1).step hD,[],K9 _,Ab,Nbs.nil _⟩
 ·rintro D i σ2 H2 hD hi ⟨_,s2,_⟩;exact hgo i H2 hi s2
 ·rintro D σ2 H2 hD ⟨_,s2,_⟩;exact hst H2 s2
 ·rintro D i σ2 H2 hD hi ⟨e,s2,ps,hl,hb,ht⟩;refine step i σ2 H2 _ _ hi e s2 (fun σ3 t p H4 hok e3 h4 h5 s4=>?_) (fun σ3 H4 hok e3 s4=>?_)
  ·have hb4:=s4 _ _ hb;have ht4:=ht.same s4;have keep:∀b w,H4 b=some (.tup w)->upd H4 D (.lst (ps.map V.ref++[.ref t])) b=some (.tup w):=λb w e=>by
    rw[Ad (λz=>by rw[z,hb4] at e;cases e)];exact e
   refine wput hi hb4 (by rw[K8];omega) ⟨e3,λb u e'=>?_,ps++[t],by rw[Lj];show ps.length+1<=i+1;omega,by rw[Ab,Lo];rfl,?_⟩
   ·rw[Ad (Aq e' hD)];exact s4 _ _ (s2 b u e')
   ·rw[Md,Ls,Lo];simp only[L7,hok,if_true,Ou,L5,Oy];exact(ht4.keep keep).snoc (keep _ _ h4) (keep _ _ h5)
  ·refine wskip hi ⟨e3,s2.trans s4,ps,by omega,s4 _ _ hb,?_⟩;rw[Md,Ls,Lo];simp only[L7,hok,Ou,L4,if_false,Oy,Mj];exact ht.same s4
 ·rintro D σ2 H2 hD ⟨_,s2,ps,_,hb,ht⟩;exact hd D ps H2 hD s2 hb ht
def spNbs (T:Addr) (pos:Pos):Sp:=λvs H Q _=>∃(r p:Addr) (row S:List Str),vs=[.ref r,.ref p]/\H r=some (.lst (row.map V.str))/\Row2 row/\Bs row/\(dit row).length<=13/\Ai T pos qIn H/\H p=some (.tup (S.map V.str))/\Ae row S=true /\
 ∀(D:Addr) (qs:List Addr) (H':Hp),H D=none->H' D=some (.lst (qs.map V.ref))->Nbs H' qs (nbL row S)->qs.length<=14->Ai T pos qIn H'->But T H H'->Q (.ref D) H'
abbrev NNb:List Str:=["row", "plot", "there", "sides"]
abbrev NNb1:List Str:=["name", "plot"]
abbrev NNb2:List Str:=["name", "over", "there"]
theorem Xmu{row S:List Str}{x:Str}(ok:∀y∈row,okN y)(hS:Ae row S=true)(hx:x∈row):∀y∈Ax S x,okN y:=λy hy=>by
 rw[<-Kz] at hy;rcases E5.mp hy with h | h
 ·exact ok y ((Bo hS).1 y h.1)
 ·rw[Lf.mp h.1];exact ok x hx
theorem E6{row S:List Str}{q:Str×List Str}:q∈nbL row S↔q.1∈row/\q.2=Ax S q.1/\Ae row q.2=true:=by
 unfold nbL;rw[Lw];constructor
 ·rintro ⟨x,hx,rfl⟩;obtain⟨h1,h2⟩:=Lc.mp hx;exact⟨Ak.mp h1,rfl,h2⟩
 ·rintro ⟨h1,h2,h3⟩;refine⟨q.1,Lc.mpr ⟨Ak.mpr h1,by rw[<-h2];exact h3⟩,?_⟩;rw[<-h2]
theorem Hm{S W:List Str}{x y:Str}:ne2 W (Ax S x) y=if y=x then !ne2 W S y else ne2 W S y:=by
 have e:decide (y∈Ax S x)=if y=x then !decide (y∈S) else decide (y∈S):=by
  by_cases z:y=x
  ·subst z;rw[Pc rfl];by_cases h:y∈S
   ·rw[Pd h,Pe];rfl;intro q;rcases D0.mp q with ⟨_,n⟩ | ⟨n,_⟩
    ·exact n rfl
    ·exact n h
   ·rw[Pe h,Pd (D0.mpr (.inr ⟨h,rfl⟩))];rfl
  ·rw[Pb z];by_cases h:y∈S
   ·rw[Pd h,Pd (D0.mpr (.inl ⟨h,z⟩))]
   ·rw[Pe h,Pe];intro q;rcases D0.mp q with ⟨n,_⟩ | ⟨_,n⟩
    ·exact h n
    ·exact z n
 unfold ne2;rw[e];by_cases z:y=x
 ·rw[Pc z,Pc z];cases decide (y∈W)<;>cases decide (y∈S)<;>rfl
 ·rw[Pb z,Pb z]
theorem Xez{W S:List Str}{x:Str}:∀{l:List Str},l.Nodup->x∈l->(ne2 W S x=true->l.countP (ne2 W (Ax S x))+1=l.countP (ne2 W S))/\(ne2 W S x=false->l.countP (ne2 W (Ax S x))=l.countP (ne2 W S)+1):=by
 have off:∀{l:List Str},x∉l->l.countP (ne2 W (Ax S x))=l.countP (ne2 W S):=λ{l} h=>by
  refine List.countP_congr λy hy=>?_;rw[Hm,Pb (λz:y=x=>h (z ▸ hy))]
 intro l
 induction l with
 | nil=>intro _ h;cases h
 | cons a l ih=>
  intro nd hx;rw[Ma] at nd;rw[Mn,Mn];by_cases z:a=x
  ·subst z;rw[off nd.1,Hm,Pc rfl];exact⟨λe=>by rw[e];rfl,λe=>by rw[e];rfl⟩
  ·have hx':x∈l:=(Lk.mp hx).resolve_left λq=>z q.symm;obtain⟨i1,i2⟩:=ih nd.2 hx';rw[Hm,Pb z];exact⟨λe=>by have:=i1 e;omega,λe=>by have:=i2 e;omega⟩
theorem Xmv{row W S:List Str}{x:Str}(hW:Ae row W=true)(hS:Ae row S=true)(hF:Ae row (Ax S x)=true)(hx:x∈row):(A7 W (Ax S x)).length+1=(A7 W S).length\/(A7 W (Ax S x)).length=(A7 W S).length+1:=by
 obtain⟨i1,i2⟩:=Xez (W:=W) (S:=S) (x:=x) (Eb row) (Ak.mpr hx);rw[Ek hW hF,Ek hW hS];cases e:ne2 W S x with
 | true=>exact .inl (i1 e)
 | false=>exact .inr (i2 e)
theorem Xe0{row W S:List Str}(hW:Ae row W=true)(hS:Ae row S=true):(A7 W S).length<=(dit row).length:=by
 rw[Ek hW hS];exact List.countP_le_length
theorem Xmw{row W S:List Str}(R2:Row2 row)(hW:Ae row W=true)(hS:Ae row S=true)(n:S≠W):∃x c,Ae row c=true/\x∈row/\Ax c x=S/\(A7 W c).length+1=(A7 W S).length:=by
 obtain⟨x,c,hc,hx,hm⟩:=Xmr R2.two hS hW n;have xr:x∈row:=by
  rcases Ej.mp hx with z | z
  ·exact(Bo hS).1 x z.1
  ·exact(Bo hW).1 x z.1
 have ef:Ax S x=c:=by
  refine lt_uniq (K0 x (Eh hS)) (Bo hc).2 λy=>?_;rw[D0,hm];by_cases z:y=x
  ·subst z;rw[Pc rfl];rcases Ej.mp hx with q | q
   ·exact⟨λh=>h.elim (λh=>absurd rfl h.2) λh=>absurd q.1 h.1,λh=>absurd h q.2⟩
   ·exact⟨λ_=>q.1,λ_=>.inr ⟨q.2,rfl⟩⟩
  ·rw[Pb z];exact⟨λh=>h.elim (λh=>h.1) λh=>absurd h.2 z,λh=>.inl ⟨h,z⟩⟩
 have eb:Ax c x=S:=by
  rw[<-ef];refine lt_uniq (K0 x (Dv (K0 x (Eh hS)))) (Bo hS).2 λy=>?_;rw[D0,D0,D0];by_cases z:y=x
  ·subst z;by_cases h:y∈S<;>simp[h]
  ·simp[z]
 refine⟨x,c,hc,xr,eb,?_⟩;obtain⟨i1,_⟩:=Xez (W:=W) (S:=S) (x:=x) (Eb row) (Ak.mpr xr);have hx':ne2 W S x=true:=by
  have:ne2 W S x=ne2 S W x:=by unfold ne2;cases decide (x∈W)<;>cases decide (x∈S)<;>rfl
  rw[this];exact hx
 rw[<-ef] at hc ⊢;rw[Ek hW hc,Ek hW hS];exact i1 hx'
def atK (row W:List Str) (k:Nat) (S:List Str):Prop:=Ae row S=true/\(A7 W S).length=k
def upK (row W:List Str) (k:Nat) (S:List Str):Prop:=Ae row S=true/\(A7 W S).length<=k
theorem Xmx{row W:List Str}{k:Nat}{Me Fr La:List (List Str)}(R2:Row2 row)(hW:Ae row W=true)(hMe:∀S,S∈Me↔upK row W k S)(hLa:∀S,S∈La↔atK row W k S)
  (hFr:∀S∈Fr,∃L∈La,∃q∈nbL row L,q.2=S) (dis:∀S∈Fr,S∉Me) (all:∀L∈La,∀q∈nbL row L,q.2∈Me++Fr):(∀S,S∈Fr↔atK row W (k+1) S)/\∀S,S∈Me++Fr↔upK row W (k+1) S:=by
 have fr:∀S,S∈Fr↔atK row W (k+1) S:=λS=>by
  constructor
  ·intro h;obtain⟨L,hL,q,hq,rfl⟩:=hFr S h;obtain⟨h1,h2,h3⟩:=E6.mp hq;obtain⟨a1,a2⟩:=(hLa L).mp hL;have h4:=h3;rw[h2] at h4;have n:=dis _ h;rw[hMe] at n;refine⟨h3,?_⟩;rw[h2];rcases Xmv hW a1 h4 h1 with z | z
   ·exact absurd ⟨h3,by rw[h2];omega⟩ n
   ·omega
  ·rintro ⟨h1,h2⟩;have n:S≠W:=λz=>by
    rw[z] at h2;rw[Ek hW hW] at h2;have:(dit row).countP (ne2 W W)=0:=Xes.mpr λx _=>by unfold ne2;cases decide (x∈W)<;>rfl
    omega
   obtain⟨x,c,hc,hx,e,hl⟩:=Xmw R2 hW h1 n;have cL:c∈La:=(hLa c).mpr ⟨hc,by omega⟩;have:=all c cL (x,S) (E6.mpr ⟨hx,e.symm,h1⟩);rcases Ll.mp this with z | z
   ·have:=((hMe S).mp z).2;omega
   ·exact z
 refine⟨fr,λS=>?_⟩;rw[Ll,hMe,fr];constructor
 ·rintro (h | h)
  ·exact⟨h.1,by have:=h.2;omega⟩
  ·exact⟨h.1,by rw[h.2];exact K9 _⟩
 ·rintro ⟨h1,h2⟩;by_cases z:(A7 W S).length<=k
  ·exact .inl ⟨h1,z⟩
  ·exact .inr ⟨h1,by omega⟩
theorem Xmy{A B:List (List Str)}(ha:A.Nodup)(hb:B.Nodup)(h:∀S,S∈A↔S∈B):A.length=B.length:=by
 have key:∀{A B:List (List Str)},A.Nodup->(∀S∈A,S∈B)->A.length<=B.length:=by
  intro A
  induction A with
  | nil=>intro B _ _;exact L6 _
  | cons a A ih=>
   intro B nd hs;obtain⟨l1,l2,rfl⟩:=List.append_of_mem (hs a Ld);rw[Ma] at nd;have:=ih (B:=l1++l2) nd.2 λS hS=>by
    have:=hs S (Lb _ hS);rcases Ll.mp this with z | z
    ·exact Ll.mpr (.inl z)
    ·rcases Lk.mp z with z | z
     ·rw[z] at hS;exact absurd hS nd.1
     ·exact Ll.mpr (.inr z)
   rw[Lj] at this ⊢;rw[Lp,Lp];omega
 exact Nat.le_antisymm (key ha λS hS=>(h S).mp hS) (key hb λS hS=>(h S).mpr hS)
def F7 (W S:List Str) (ss:List Str):Prop:=∀x,ne2 W S x=decide (ss.count x % 2=1)
theorem Xmz(W:List Str):F7 W W []:=λx=>by
 unfold ne2;cases decide (x∈W)<;>rfl
theorem Xm0{W S ss:List Str}{x:Str}(h:F7 W S ss):F7 W (Ax S x) (ss++[x]):=λy=>by
 rw[Hm,h y,M8];by_cases z:y=x
 ·subst z;rw[Pc rfl,List.count_singleton_self];rcases Nat.mod_two_eq_zero_or_one (ss.count y) with e | e
  ·rw[Pe (by omega),Pd (by omega)];rfl
  ·rw[Pd e,Pe (by omega)];rfl
 ·rw[Pb z];have:([x]:List Str).count y=0:=by
   rw[Nh];intro q;exact z (Lf.mp q)
  rw[this];rfl
def dNb (q:Str×List Str):PyData:=.tuple [.str q.1,A6 q.2]
theorem Xe1{H:Hp}:∀{qs:List Addr} {xs:List (Str×List Str)},Nbs H qs xs->DAll H (xs.map dNb) (qs.map V.ref)
 | [],[],_=>Cy
 | [],x::xs,h=>by have:=h.1;simp at this
 | q::qs,[],h=>by have:=h.1;simp at this
 | q::qs,x::xs,h=>by
  obtain⟨p,h1,h2⟩:=h.2 0 (by simp);have h1:H q=some (.tup [.str x.1,.ref p]):=h1;have h2:H p=some (.tup (x.2.map V.str)):=h2;refine Dq ?_ (Xe1 ⟨by simpa using h.1,λi hi=>h.2 (i+1) (by simpa using hi)⟩);unfold dNb DAt;exact⟨q,_,rfl,h1,Dq (by unfold DAt;rfl) (Dq (Ef h2) Cy)⟩
theorem Xm1{H:Hp}{l:Addr}{qs:List Addr}{xs:List (Str×List Str)}(h:H l=some (.lst (qs.map V.ref)))(n:Nbs H qs xs):DAt H (.list (xs.map dNb)) (.ref l):=Jp h (Xe1 n)
theorem E7{xs:List (Str×List Str)}(h:∀q∈xs,okN q.1/\∀y∈q.2,okN y):Bh (.list (xs.map dNb))=true:=plainAll_map dNb xs λq hq=>by
 show (Bh (.str q.1)&&(Bh (A6 q.2)&&true))=true;have a:(Bh (.str q.1)&&true)=true:=Xj1 (ss:=[q.1]) λy hy=>by rw[Lf.mp hy];exact(h q hq).1
 rw[Bool.and_true] at a;have b:Bh (A6 q.2)=true:=Dw (h q hq).2;rw[a,b];rfl
theorem Xm2{row S:List Str}(R2:Row2 row):∀q∈nbL row S,okN q.1/\∀y∈q.2,okN y:=λq hq=>by
 obtain⟨h1,_,h3⟩:=E6.mp hq;exact⟨R2.ok q.1 h1,λy hy=>R2.ok y ((Bo h3).1 y hy)⟩
theorem Nbs.at{H:Hp}{qs:List Addr}{xs:List (Str×List Str)}(h:Nbs H qs xs){i:Nat}(hi:i<qs.length):∃q∈xs,∃p,H (qs.getD i 0)=some (.tup [.str q.1,.ref p])/\H p=some (.tup (q.2.map V.str)):=by
 obtain⟨p,a,b⟩:=h.2 i hi;have hi':i<xs.length:=by rw[<-h.1];exact hi
 exact⟨xs.getD i dN,by rw[show xs.getD i dN=xs[i] by simp[List.getD,hi']];exact L8 hi',p,a,b⟩
def But2 (T dr:Addr) (H H':Hp):Prop:=∀b o,H b=some o->b≠T->b≠dr->H' b=some o
theorem But2.refl(T dr:Addr)(H:Hp):But2 T dr H H:=λ_ _ e _ _=>e
theorem But2.same{T dr:Addr}{H H1 H2:Hp}(a:But2 T dr H H1)(s:Same H1 H2):But2 T dr H H2:=λb o e n m=>s _ _ (a b o e n m)
theorem But2.t{T dr:Addr}{H H1 H2:Hp}(a:But2 T dr H H1)(s:But T H1 H2):But2 T dr H H2:=λb o e n m=>s _ _ (a b o e n m) n
theorem But2.d{T dr:Addr}{H H1 H2:Hp}(a:But2 T dr H H1)(s:But dr H1 H2):But2 T dr H H2:=λb o e n m=>s _ _ (a b o e n m) m
theorem But2.upd{T dr:Addr}{H H1:Hp}{D:Addr}{o:HO}(a:But2 T dr H H1)(h:H D=none):But2 T dr H (L2.upd H1 D o):=λb u e n m=>by
 rw[Ad (Aq e h)];exact a b u e n m
theorem _root_.SH.DrawOk.butT{H H':Hp}{T dr sc:Addr}{pos:Pos}(d:DrawOk H dr sc)(t:Ai T pos qIn H)(b:But T H H'):DrawOk H' dr sc:=by
 obtain⟨ns,p,c,m,k,h1,h2,r⟩:=d.ex;exact⟨ns,p,c,m,k,b _ _ h1 (Ai.ne t h1 λz=>by simp),b _ _ h2 (Ai.ne t h2 λz=>by simp),r⟩
theorem _root_.SH.Ai.butD{H H':Hp}{T dr sc:Addr}{pos:Pos}(t:Ai T pos qIn H)(d:DrawOk H dr sc)(b:But dr H H'):Ai T pos qIn H':=by
 obtain⟨xs,h⟩:=d.at;exact SH.Ai.but t h b
theorem _root_.SH.Ai.put{H:Hp}{T D:Addr}{pos:Pos}{xs:List V}{o:HO}(t:Ai T pos qIn H)(h:H D=some (.lst xs)):Ai T pos qIn (L2.upd H D o):=SH.Ai.but t h λb u e n=>by rw[Ad n];exact e
def K2 (T:Addr) (pos:Pos):Sp:=λvs H Q _=>∃(dr sc r p:Addr) (row W:List Str) (m:Nat),vs=[.ref dr,.ref r,.ref p,.int m]/\DrawOk H dr sc/\H r=some (.lst (row.map V.str))/\r≠dr/\Row2 row/\Bs row/\(dit row).length<=13/\Ai T pos qIn H/\H p=some (.tup (W.map V.str))/\Ae row W=true/\m<=24 /\
 ∀(t h st:Addr) (S ss:List Str) (H':Hp),H' t=some (.tup [.ref h,.ref st])->H' h=some (.tup (S.map V.str))->H' st=some (.lst (ss.map V.str))->Ae row S=true->F7 W S ss->ss.length<=24->Ai T pos qIn H'->DrawOk H' dr sc->But2 T dr H H'->Q (.ref t) H'
abbrev NWa:List Str:=["_law_draw", "_law_row_here", "_law_one_here", "_law_many", "_law_here", "_law_steps", "_law_k", "_law_ways", "_law_name"]
theorem Xe2{A B:List (List Str)}(nd:A.Nodup)(hs:∀S∈A,S∈B):A.length<=B.length:=by
 induction A generalizing B with
 | nil=>exact L6 _
 | cons a A ih=>
  obtain⟨l1,l2,rfl⟩:=List.append_of_mem (hs a Ld);rw[Ma] at nd;have:=ih (B:=l1++l2) nd.2 λS hS=>by
   have:=hs S (Lb _ hS);rcases Ll.mp this with z | z
   ·exact Ll.mpr (.inl z)
   ·rcases Lk.mp z with z | z
    ·rw[z] at hS;exact absurd hS nd.1
    ·exact Ll.mpr (.inr z)
  rw[Lj] at this ⊢;rw[Lp,Lp];omega
def kvB (Ts:List (List Str)) (ds:List Addr):List (List Key×V):=(List.range Ts.length).map λi=>(kOf (Ts.getD i []),V.ref (ds.getD i 0))
theorem Xe3{α : Type}[DecidableEq α]:∀{l:List (α × V)} {i:Nat} {q : α × V},(l.map (·.1)).Nodup->l[i]? = some q->Ao l q.1=some q.2
 | [],i,q,_,h=>by simp at h
 | a::l,0,q,_,h=>by
  simp at h;subst h;unfold Ao;simp
 | a::l,i+1,q,nd,h=>by
  rw[L5,Ma] at nd;have h':l[i]? = some q:=by simpa using h
  have ih:=Xe3 (i:=i) nd.2 h';have ne:a.1≠q.1:=λz=>nd.1 (z ▸ Lw.mpr ⟨q,N2 h',rfl⟩);unfold Ao at ih ⊢;rw[Nl,Pe ne];exact ih
theorem Xm3(Ts:List (List Str))(ds:List Addr):(kvB Ts ds).map (·.1)=Ts.map kOf:=by
 unfold kvB;rw[L9];have q:=congrArg (List.map kOf) (Cw ([]:List Str) (λ_=>true) Ts);rw[Lv.mpr (λ_ _=>rfl),Lv.mpr (λ_ _=>rfl),L9] at q;exact q
theorem Xe4{Ts:List (List Str)}(nd:Ts.Nodup)(ds:List Addr):((kvB Ts ds).map (·.1)).Nodup:=by
 rw[Xm3];exact List.Pairwise.map kOf (λa b n e=>n (Xmh e)) nd
theorem Xm4:∀(n:Nat) {prs:List (List Key×V)},prs.length=n->(prs.map (·.1)).Nodup->B7 prs=prs:=by
 intro n
 induction n with
 | zero=>intro prs h _;rw[Mc.mp h];rfl
 | succ n ih=>
  intro prs h nd;obtain⟨l,q,rfl⟩:∃l q,prs=l++[q]:=⟨prs.dropLast,prs.getLast (λe=>by rw[e] at h;cases h),(Nv _).symm⟩;rw[Lo,Mr] at nd;rw[Ky,ih (by simpa using h) nd.1,Fh];unfold Ao;rw[Option.map_eq_none_iff,List.find?_eq_none];intro x hx e;exact nd.2.2 x.1 (Lw.mpr ⟨x,hx,rfl⟩) q.1 (by simp) (by simpa using e)
structure ByAt (H:Hp) (by_:Addr) (row:List Str) (Ts:List (List Str)):Prop where
 ex:∃ds:List Addr,H by_=some (.dT (kvB Ts ds))/\∀i,i<Ts.length->∃qs:List Addr,H (ds.getD i 0)=some (.lst (qs.map V.ref))/\Nbs H qs (nbL row (Ts.getD i []))/\qs.length<=14
theorem Xm5{cap:List (Option Nat)}{g:TG}{tt:TT}{te:TE}{J:It}{σ:L2.St}{H1:Hp}{F:Addr->Hp->Prop}{T:Addr}{pos:Pos}{row:List Str}{ps:List Addr}{Ts:List (List Str)}(n:Nat)(hn:n<sizeLine)(vs:Nat->V)(Es:L2.St->Prop)(h0:Es (Bk cap σ))(t1:Ai T pos qIn H1)
  (hgo:∀i H2,i<n->But T H1 H2->J.go i H2/\∀x H3,J.yld i H2 x H3->H3=H2/\x=vs i)
  (hst:∀H2,But T H1 H2->J.stop n H2)
  (step:∀i σ1 H2 (Q1:L2.St->V->Hp->Prop) (Q0:L2.St->Hp->Prop),i<n->Es σ1->Ai T pos qIn H2->But T H1 H2->(∀σ2 t D qs H6,Es σ2->H2 D=none->H2 t=none->H6 t=some (.tup [.ref (ps.getD i 0),.ref D])->H6 D=some (.lst (qs.map V.ref))->Nbs H6 qs (nbL row (Ts.getD i []))->qs.length<=14->Ai T pos qIn H6->But T H2 H6->Q1 σ2 (.ref t) H6) ->
   g (vs i) σ1 H2 fun σ2 H4=>tt σ2 H4 λb H5=>if b=true then te σ2 H5 λy H6=>Q1 σ2 y H6 else Q0 σ2 H5)
  (hd:∀(O:Addr) (ts ds:List Addr) (H2:Hp),H1 O=none->Ai T pos qIn H2->But T H1 H2->ts.length=n->H2 O=some (.lst (ts.map V.ref))->(∀i,i<n->H2 (ts.getD i 0)=some (.tup [.ref (ps.getD i 0),.ref (ds.getD i 0)])/\∃qs:List Addr,H2 (ds.getD i 0)=some (.lst (qs.map V.ref))/\Nbs H2 qs (nbL row (Ts.getD i []))/\qs.length<=14)->F O H2):Dj cap g tt te J σ H1 F:=by
 refine Fj n vs (λO i σ2 H2=>Es σ2/\Ai T pos qIn H2/\But T H1 H2/\∃ts ds:List Addr,ts.length=i/\ds.length=i/\H2 O=some (.lst (ts.map V.ref))/\∀j,j<i->ds.getD j 0≠O/\H2 (ts.getD j 0)=some (.tup [.ref (ps.getD j 0),.ref (ds.getD j 0)])/\∃qs:List Addr,H2 (ds.getD j 0)=some (.lst (qs.map V.ref))/\Nbs H2 qs (nbL row (Ts.getD j []))/\qs.length<=14) ?_ ?_ ?_ ?_ ?_
 ·intro O hO;have s:=(Same.refl H1).step (o:=.lst []) hO;exact⟨h0,SH.Ai.same t1 s,λb o e _=>s _ _ e,[],[],rfl,rfl,Ab,λj hj=>absurd hj (Mv _)⟩
 ·rintro O i σ2 H2 hO hi ⟨_,_,b2,_⟩;exact hgo i H2 hi b2
 ·rintro O σ2 H2 hO ⟨_,_,b2,_⟩;exact hst H2 b2
 ·rintro O i σ2 H2 hO hi ⟨e,t2,b2,ts,ds,lt,ld,hb,hall⟩;refine step i σ2 H2 _ _ hi e t2 b2 fun σ3 t D qs H4 e3 nD nt h4 hD4 hnb hql t4 b4=>?_
  have k4:∀{b:Addr} {o:HO},H2 b=some o->(∀z,o ≠ .tbl z)->H4 b=some o:=λe n=>b4 _ _ e (Ai.ne t2 e n);have hb4:=k4 hb λz=>by simp
  have nDO:D≠O:=(Aq hb nD).symm;have kt:∀b w,H4 b=some (.tup w)->upd H4 O (.lst (ts.map V.ref++[.ref t])) b=some (.tup w):=λb w e=>by
   rw[Ad (λz=>by rw[z,hb4] at e;cases e)];exact e
  refine wput hi hb4 (by rw[K8];omega) ⟨e3,SH.Ai.put t4 hb4,λb u e' n'=>?_,ts++[t],ds++[D],by rw[Lj,lt];rfl,by rw[Lj,ld];rfl,by rw[Ab,Lo];rfl,λj hj=>?_⟩
  ·rw[Ad (Aq e' hO)];exact b4 _ _ (b2 b u e' n') n'
  ·by_cases z:j<i
   ·obtain⟨a0,a1,qs',a2,a3,a4⟩:=hall j z;have e1:(ts++[t]).getD j 0=ts.getD j 0:=by rw[List.getD,Mu (by omega)];rfl
    have e2:(ds++[D]).getD j 0=ds.getD j 0:=by rw[List.getD,Mu (by omega)];rfl
    rw[e1,e2];refine⟨a0,kt _ _ (k4 a1 λz=>by simp),qs',?_,(a3.keep λb w e=>k4 e λz=>by simp).keep kt,a4⟩;rw[Ad a0];exact k4 a2 λz=>by simp
   ·have ej:j=i:=by omega
    subst ej;have e1:(ts++[t]).getD j 0=t:=by rw[List.getD,Mm (by omega),lt,O0];rfl
    have e2:(ds++[D]).getD j 0=D:=by rw[List.getD,Mm (by omega),ld,O0];rfl
    rw[e1,e2];refine⟨nDO,kt _ _ h4,qs,?_,hnb.keep kt,hql⟩;rw[Ad nDO];exact hD4
 ·rintro O σ2 H2 hO ⟨_,t2,b2,ts,ds,lt,ld,hb,hall⟩;exact hd O ts ds H2 hO t2 b2 lt hb λi hi=>(hall i hi).2
structure Bf (H0 H:Hp) (mt fr ly:Addr) (Me Fr La:List (List Str)) (ls:List Addr):Prop where
 s:Same H0 H
 hm:∃ms:List Addr,H mt=some (.lst (ms.map V.ref))/\Tups H ms (Me++Fr)
 hf:∃fs:List Addr,H fr=some (.lst (fs.map V.ref))/\Tups H fs Fr
 hl:H ly=some (.lst (ls.map V.ref))
 ht:Tups H ls La
abbrev NL0:List Str:=["_law_script", "_law_draw", "_law_row_here", "_law_some", "_law_one_here", "_law_by", "_law_met", "_law_layer", "_law_k", "_law_fresh", "_law_plot", "_law_name", "_law_over", "_law_here", "_law_steps", "_law_apart"]
abbrev NL01:List Str:=["_law_plot", "_law_row_here"]
abbrev NL02:List Str:=["_law_plot", "_law_k", "_law_one_here", "_law_row_here"]
abbrev NL03:List Str:=["_law_name", "_law_apart", "_law_steps"]
end SH
namespace K20
open PySem PySem.Spec PyProof.Rows L2 SH
def top (i:Nat):Stmt:=PySem.Challenge.pw_shoretold_k20_whole_no_walk_is_shorter.main.body.getD i (.Pass ⟨0,0,0,0⟩)
abbrev sAsk:Stmt:=top 5
abbrev sDitches:Stmt:=top 6
abbrev sEnds:Stmt:=top 7
abbrev sSpans:Stmt:=top 8
abbrev sLieOf:Stmt:=top 9
abbrev sCross:Stmt:=top 10
abbrev sTold:Stmt:=top 12
abbrev s_in_order:Stmt:=top 13
abbrev sAllows:Stmt:=top 14
abbrev sIsPlot:Stmt:=top 15
abbrev s_ask_plot:Stmt:=top 16
abbrev s_plots:Stmt:=top 17
abbrev s_parting:Stmt:=top 19
abbrev s_across:Stmt:=top 20
abbrev s_neighbours:Stmt:=top 21
abbrev s_between:Stmt:=top 23
abbrev s_far:Stmt:=top 24
abbrev sPick:Stmt:=top 26
abbrev sBegin:Stmt:=top 27
abbrev sPut:Stmt:=top 28
abbrev sWhere:Stmt:=top 29
abbrev sWord:Stmt:=top 30
abbrev sBarred:Stmt:=top 31
abbrev sRow:Stmt:=top 32
abbrev sNames:Stmt:=top 33
abbrev sIsland:Stmt:=top 34
abbrev s__law_one:Stmt:=top 35
abbrev s__law_wander:Stmt:=top 36
abbrev s_law:Stmt:=top 37
abbrev NWo:List Str:=["_law_where_here", "_law_one_here", "_law_other", "_law_low", "_law_high", "_law_inner"]
abbrev NBc:List Str:=["_law_one_here", "_law_name", "_law_where_here"]
abbrev NFl1:List Str:=["_law_one_here", "_law_name"]
abbrev NFi:List Str:=["_law_bars_here", "_law_plot", "_law_one_here", "_law_other", "_law_word_here"]
abbrev NBr:List Str:=["_law_row_here", "_law_where_here", "_law_told", "_law_one_here", "_law_other", "_law_word_here"]
section
variable {P:Program}{w:World}{K:PySem.W.Frag}{mg:Str->Option Value}{base:Heap}
theorem Xm6:FnScope ["row", "name"] ["row", "name"] (Aj sAsk):=⟨rfl,rfl,rfl,by decide +kernel,rfl,by decide +kernel,by decide +kernel⟩
theorem Xm7{f C:Addr}{fd:FuncData}(F:Fun K "ask_ditch" "ask_ditch" sAsk f fd)(hC:mg "NoDitch" = some (.ref C))(hc:PySem.W.excIn K C bmV "ValueError.__new__" = true):
  FnOk P w K mg base (CX1 P w) 1 f fd ["row", "name"] (J6 C):=by
 refine F.ok1 Xm6 (λvs H Q E h=>?_) (λcdv A outer s H vs Q E hr h=>?_)
 ·obtain⟨r,row,x,rfl,_⟩:=h;rfl
 ·obtain⟨r,row,x,rfl,hR,⟨hx1,hx2⟩,kq,ke⟩:=h;refine⟨_,Al (Bj (Bb Xgn (pv 1) (pv 0) (by rfl))
   (Al (Xbl (C:=C) (E:=E) hc rfl leaves1 (by rfl) hC (Aa (Xbq (Gk (by decide +kernel) (Xim (pv 1) (Gk (by decide +kernel) Xbp)))) Ac))) Bn),?_⟩
  refine⟨_,rfl,_,rfl,r,_,rfl,.inl (SqL.of hR),rfl,Ex row,_,rfl,?_⟩;rw[Ft];by_cases hx:x∈row
  ·refine Xha hx ?_;exact kq hx H (Same.refl H)
  ·rw[Pe hx];refine Di ?_;refine⟨_,rfl,x,rfl,by omega,(λc h=>Np (hx2 c h) (by decide)),λz=>?_⟩;exact⟨by show 1<=sizeLine;decide,ke hx H (Same.refl H)⟩
theorem Xm8:FnScope ["row"] ["row"] (Aj sDitches):=⟨rfl,rfl,rfl,by decide +kernel,rfl,by decide +kernel,by decide +kernel⟩
theorem Xm9{f:Addr}{fd:FuncData}(F:Fun K "ditches" "ditches" sDitches f fd)(T:Bl mg):FnOk P w K mg base CX0 1 f fd ["row"] spDitches:=by
 refine F.ok Xm8 (λvs H Q E h=>?_) (λcdv A outer s H vs Q E hr h=>?_)
 ·obtain⟨r,row,rfl,_⟩:=h;rfl
 ·obtain⟨r,row,rfl,hR,hl,k⟩:=h;refine⟨_,Al (Au (Be (Gq rfl) (by rfl) T.sorted (by rfl) (Aa (C3 (Fo rfl) (by rfl) T.set (by rfl) (Aa (pv 0) Ac)) Ac))),?_⟩;refine⟨_,rfl,r,row,rfl,.inl (SqL.of hR),by unfold scanBound;omega,λa na=>?_⟩;have hdl:=Fm row;refine⟨a,ddup row,rfl,Ab,by omega,λl ls nl hp hs=>?_⟩;have s1:Same H (upd H a (Dn P w a (ddup row))):=(Same.refl H).step na;refine k l _ (s1.free nl) ?_ (s1.step nl);rw[Ab,Gu hp hs];rfl
theorem Xe5:FnScope NEn ["row", "name"] (Aj sEnds):=⟨rfl,rfl,rfl,by decide +kernel,rfl,by decide +kernel,by decide +kernel⟩
theorem Xna{f C:Addr}{fd:FuncData}(F:Fun K "ends" "ends" sEnds f fd)(T:Bl mg)(FA:Fn P w K mg base (CX1 P w) 1 "ask_ditch" ["row", "name"] (J6 C)):
  FnOk P w K mg base (CX1 P w) 2 f fd ["row", "name"] (J7 C):=by
 refine F.ok1 Xe5 (λvs H Q E h=>?_) (λcdv A outer s H vs Q E hr h=>?_)
 ·obtain⟨r,row,x,rfl,_⟩:=h;rfl
 ·obtain⟨r,row,x,rfl,hR,hx,hl,kq,ke⟩:=h;refine⟨_,Af (Df (Am FA hr rfl pass1 (Aa (pv 0) (Aa (pv 1) Ac))))
   (Af (G0 (i:=2) (N:=NEc) (cap:=[none,none,some 1]) (CompScope.of (Aj sEnds) NEn rfl rfl rfl (by decide +kernel)) rfl Xe5.nd rfl rfl
    (Xik (by rfl) T.enum (Aa (pv 0) Ac))
    (λ_ _ _=>Ey K 2 rfl rfl (Bx (Aw (i:=0) (show NEc.Nodup by decide +kernel) rfl (Or.inl rfl) (Or.inr rfl)) (Bx (Aw (i:=1) (show NEc.Nodup by decide +kernel) rfl (Or.inl rfl) (Or.inr rfl)) D3)))
    (λ_ _ _=>Ev (Bb Ck (pv 1) (pv 2) (A8 _))) (λ_ _ _=>pv 0))
   (Al (Au (Cd (Aa (Ay Bg (pv 2) Ah (λ_ _=>rfl)) (Aa (Ay Bg (pv 2) Ah (λ_ _=>rfl)) Ac)))))),?_⟩
  refine⟨_,rfl,_,rfl,r,row,x,rfl,hR,hx,λhin H1 s1=>?_,ke⟩;obtain⟨a,b,hab,kq⟩:=kq hin;refine⟨_,rfl,r,rfl,⟨_,SqL.of (s1 _ _ hR)⟩,?_⟩;refine Xit (K:=K) (p:=0) (q:=1) (by decide) (SqL.of (s1 _ _ hR)) (by rw[K8,Pa];omega) (λi=>decide (row.getD i Str.empty=x)) (λi=>.int i) ?_ ?_ ?_
  ·intro i v H2 Q' hv s2 k;obtain⟨y,rfl,hy⟩:∃y,v=V.str y/\row.getD i Str.empty=y:=by
    rw[Lx] at hv;cases q:row[i]? with
    | none=>rw[q] at hv;cases hv
    | some y=>rw[q] at hv;exact⟨y,(Ly hv).symm,by simp[List.getD,q]⟩
   refine⟨_,rfl,_,rfl,rfl,_,rfl,?_⟩;have:=k H2 (Same.refl _);rw[hy] at this;have e:decide (V.str y=V.str x)=decide (y=x):=by
    by_cases z:y=x
    ·rw[z];simp
    ·rw[Pe z,Pe (λq=>z (by injection q))]
   rw[e];exact this
  ·intro i v H2 Q' hv hk s2 k;exact⟨_,rfl,k H2 (Same.refl _)⟩
  ·intro D H2 nD s2 hD;have hD':H2 D=some (.lst [.int a,.int b]):=by
    rw[hD,K8];have:=congrArg (List.map V.int) ((J5 row x).trans hab);rw[L9] at this;rw[show ((List.range row.length).filter λi=>decide (row.getD i Str.empty=x)).map (λi:Nat=>V.int (i:Int))=_ from this];rfl
   refine⟨_,rfl,_,_,_,_,rfl,rfl,SqL.of hD',rfl,_,rfl,_,_,_,_,rfl,rfl,SqL.of hD',rfl,by show 2<=sizeLine;decide,λp np=>?_⟩;have s3:=s1.trans s2;exact kq p _ (s3.free np) Ab (s3.step np)
theorem Xnb:FnScope ["row"] ["row"] (Aj sSpans):=⟨rfl,rfl,rfl,by decide +kernel,rfl,by decide +kernel,by decide +kernel⟩
theorem Xnc{f C:Addr}{fd:FuncData}(F:Fun K "spans" "spans" sSpans f fd)(FD:Fn P w K mg base CX0 1 "ditches" ["row"] spDitches)(FE:Fn P w K mg base (CX1 P w) 2 "ends" ["row", "name"] (J7 C)):
  FnOk P w K mg base CX0 3 f fd ["row"] spSpans:=by
 refine F.ok Xnb (λvs H Q E h=>?_) (λcdv A outer s H vs Q E hr h=>?_)
 ·obtain⟨r,row,rfl,_⟩:=h;rfl
 ·obtain⟨r,row,rfl,hR,R2,k⟩:=h;have hr1:Room 1 _:=hr.mono (by decide);refine⟨_,Al (Au (Xck (N:=NSp) (cap:=[none,some 0]) (CompScope.of (Aj sSpans) ["row"] rfl rfl rfl (by decide +kernel)) rfl
   (Ca (Am FD hr1 (by rfl) Ap (Aa (pv 0) Ac))) (λ_ _ _=>Aw (i:=0) (show NSp.Nodup by decide +kernel) rfl (Or.inl rfl) (Or.inr rfl)) (λ_ _ _=>Cg)
   (λ_ _ _=>pv 0) (λ_ _ _=>Am (by exact FE) (by exact hr) (by rfl) Fs (Aa (pv 1) (Aa (pv 0) Ac))))),?_⟩
  have hl:=R2.len;refine⟨_,rfl,r,row,rfl,hR,hl,λdi H1 ndi hdi s1=>?_⟩;refine⟨di,rfl,⟨_,SqL.of hdi⟩,λD nD=>?_⟩;have hn:∀i,i<(dit row).length->((dit row).map V.str).getD i .non = .str ((dit row).getD i Str.empty):=λi hi=>Co V.str Str.empty _ hi;have hR1:=s1 _ _ hR;have hdl:=Gv row;refine⟨wN (dit row).length λi σ2 H2=>(∃v, σ2=[v,some (.ref r)])/\Same H1 H2/\∃kvs,H2 D=some (.dK kvs)/\Spn H2 kvs row ((dit row).take i),⟨(dit row).length,by simp,L6 _,⟨none,rfl⟩,(Same.refl H1).step nD,[],Ab,⟨rfl,λx hx=>by simp at hx⟩⟩,?_⟩;rintro i m σ1 H2 ⟨rfl,hi,⟨v,rfl⟩,s2,kvs,hD,sp⟩;by_cases hlt:i<(dit row).length
  ·have hlt':i<((dit row).map V.str).length:=by rw[K8];exact hlt
   obtain⟨g1,g2⟩:=Dk (K:=K) (SqL.of (s2 _ _ hdi)) hlt';refine .inr ⟨g1,λx H3 y=>?_⟩;obtain⟨e1,e2⟩:=g2 x H3 y;subst e1 e2;rw[hn i hlt];generalize hx:(dit row).getD i Str.empty=x;have hxd:x∈dit row:=by rw[<-hx];exact Cp hlt
   have hxr:=Ak.mp hxd;have htk:(dit row).take (i+1)=(dit row).take i++[x]:=by
    rw[Lu hlt,<-hx];simp[List.getD,hlt]
   have hnx:x∉(dit row).take i:=by
    have nd:=Eb row;have h2:((dit row).take (i+1)).Nodup:=nd.sublist (Nj ..);rw[htk] at h2;exact λz=>(Mr.mp h2).2.2 x z x (by simp) rfl
   refine⟨_,rfl,_,rfl,_,rfl,r,row,x,rfl,s2 _ _ hR1,R2.ok x hxr,by omega,λ_=>⟨_,_,E3 (R2.two x hxr),λl H4 nl hl4 s4=>?_⟩,λz=>absurd hxr z⟩;have hD4:=s4 _ _ hD;have kl:kvs.length<=60:=by
    have:=sp.len;rw[Mf] at this;omega
   refine⟨kvs,Sum.inr x,rfl,hD4,by rw[Pa];omega,?_⟩;refine wskip hlt ⟨⟨_,rfl⟩,λb u e=>?_,_,Ab,?_⟩
   ·rw[Ad (Aq e nD)];exact s4 _ _ (s2 b u e)
   ·rw[htk];refine sp.snoc hnx ?_ λb xs e=>?_
    ·rw[Ad (λz=>by rw[z,hD4] at hl4;cases hl4)];exact hl4
    ·have e4:=s4 _ _ e;rw[Ad (λz=>by rw[z,hD4] at e4;cases e4)];exact e4
  ·have ei:i=(dit row).length:=by omega
   subst ei;refine .inl ⟨by have:=Dl (K:=K) (SqL.of (s2 _ _ hdi));rwa [K8] at this,?_⟩;rw[Mq] at sp;exact k D kvs H2 (s1.free nD) hD sp (s1.trans s2)
theorem K3:FnScope NLo ["here", "there"] (Aj sLieOf):=⟨rfl,rfl,rfl,by decide +kernel,rfl,by decide +kernel,by decide +kernel⟩
theorem Xnd{f:Addr}{fd:FuncData}(F:Fun K "lie_of" "lie_of" sLieOf f fd):FnOk P w K mg base CX0 2 f fd ["here", "there"] spLieOf:=by
 refine F.ok K3 (λvs H Q E h=>?_) (λcdv A outer s H vs Q E hr h=>?_)
 ·obtain⟨p,q,a,b,c,e,rfl,_⟩:=h;rfl
 ·obtain⟨p,q,a,b,c,e,rfl,hp,hq,l4,k⟩:=h;refine⟨_,Af (Bj (Bb (Xi3 (hu3 hr)) (pv 0) (pv 1) (A8 _)) (Al (Au Bi)) Bn)
   (Af (Ar (i:=2) K3.nd rfl (Or.inl rfl) (Xaq Cb Cb (Ay (C8 K (by rfl)) (pv 1) Ah (λ_ _=>rfl)) (Ay (C8 K (by rfl)) (pv 0) Ah (λ_ _=>rfl)) (Ay (C8 K (by rfl)) (pv 1) Ah (λ_ _=>rfl))))
   (Af (Ar (i:=3) K3.nd rfl (Or.inl rfl) (Xaq Cb Cb (Ay (C8 K (by rfl)) (pv 1) Ah (λ_ _=>rfl)) (Ay (C8 K (by rfl)) (pv 0) Ah (λ_ _=>rfl)) (Ay (C8 K (by rfl)) (pv 1) Ah (λ_ _=>rfl))))
   (Af (Bj (Bb Ic (pv 2) (pv 3) (A8 _)) (Al (Au Bi)) Bn)
   (Af (Bj (Em (pv 2)) (Al (Au Bi)) Bn)
   (Al (Au (Ht (Xf5 Cb Cb (Ay (C8 K (by rfl)) (pv 0) Ah (λ_ _=>rfl)) (Ay (C8 K (by rfl)) (pv 1) Ah (λ_ _=>rfl)) (Ay (C8 K (by rfl)) (pv 0) Ah (λ_ _=>rfl))) Bi Bi))))))),?_⟩
  have d2:∀{r:Addr} {x y:Int},H r=some (.tup [.int x,.int y])->DAt H (.tuple [.int x,.int y]) (.ref r):=λ{r x y} h=>Jo h (Xi1 [x,y]);refine⟨_,rfl,_,rfl,.tuple [.int a,.int b],.tuple [.int c,.int e],d2 hp,d2 hq,rfl,rfl,(by show min (max 0 (max 0 0)+1) (max 0 (max 0 0)+1)<=3;decide),_,rfl,?_⟩;have ee:PyData.eqv (.tuple [.int a,.int b]) (.tuple [.int c,.int e])=decide (a=c/\b=e):=by
   rw[Mx,Fx _ _ rfl rfl];simp
  rw[ee];have kk:=k H (Same.refl H);refine Bc (λh1=>?_) (λh1=>?_)
  ·unfold lieT at kk;rw[Pc (Pf h1)] at kk;exact kk
  ·have h1:=Pg h1;dsimp only[Hu,Hv,Hy,Ba];refine J9 (x:=c) (y:=a) (z:=e) (λQ' h=>⟨_,rfl,q,_,_,_,rfl,rfl,SqT.of hq,rfl,h⟩) (λQ' h=>⟨_,rfl,p,_,_,_,rfl,rfl,SqT.of hp,rfl,h⟩) (λQ' h=>⟨_,rfl,q,_,_,_,rfl,rfl,SqT.of hq,rfl,h⟩) ?_;refine J9 (x:=c) (y:=b) (z:=e) (λQ' h=>⟨_,rfl,q,_,_,_,rfl,rfl,SqT.of hq,rfl,h⟩) (λQ' h=>⟨_,rfl,p,_,_,_,rfl,rfl,SqT.of hp,rfl,h⟩) (λQ' h=>⟨_,rfl,q,_,_,_,rfl,rfl,SqT.of hq,rfl,h⟩) ?_;refine⟨_,rfl,_,rfl,rfl,_,rfl,?_⟩;rw[Ib];refine Bc (λh2=>?_) (λh2=>?_)
   ·rw[Xjv h1 (by simpa using h2)] at kk;exact kk
   ·refine⟨_,rfl,_,rfl,?_⟩;refine Bc (λh3=>?_) (λh3=>?_)
    ·rw[Xjw h1 (by simpa using h2) h3] at kk;exact kk
    ·rw[Xjx l4 h1 (by simpa using h2) h3] at kk;dsimp only[Hu,Xag,tIf,Ie];refine J9 (x:=a) (y:=c) (z:=b) (λQ' h=>⟨_,rfl,p,_,_,_,rfl,rfl,SqT.of hp,rfl,h⟩) (λQ' h=>⟨_,rfl,q,_,_,_,rfl,rfl,SqT.of hq,rfl,h⟩) (λQ' h=>⟨_,rfl,p,_,_,_,rfl,rfl,SqT.of hp,rfl,h⟩) ⟨_,rfl,?_⟩;refine Bc (λh4=>?_) (λh4=>?_)
     ·rw[Pc h4] at kk;exact kk
     ·rw[Pb (by rw[h4];exact Lq)] at kk;exact kk
theorem Xe6:FnScope NCr ["row"] (Aj sCross):=⟨rfl,rfl,rfl,by decide +kernel,rfl,by decide +kernel,by decide +kernel⟩
theorem Xne{f:Addr}{fd:FuncData}(F:Fun K "crossings" "crossings" sCross f fd)(FS:Fn P w K mg base CX0 3 "spans" ["row"] spSpans)(FO:Fn P w K mg base CX0 2 "lie_of" ["here", "there"] spLieOf):
  FnOk P w K mg base CX0 4 f fd ["row"] Ka:=by
 refine F.ok Xe6 (λvs H Q E h=>?_) (λcdv A outer s H vs Q E hr h=>?_)
 ·obtain⟨r,row,rfl,_⟩:=h;rfl
 ·obtain⟨r,row,rfl,hR,R2,k⟩:=h;have hu:=D9 hr;have hr2:Room 2 _:=hr.mono (by decide);refine⟨_,Af (Ar (i:=1) Xe6.nd rfl (Or.inr rfl) (Am FS hr (by rfl) Ap (Aa (pv 0) Ac)))
   (Al (Au (Xcl (N:=NCc) (cap:=[none,none,some 1]) (CompScope.of (Aj sCross) NCr rfl rfl rfl (by decide +kernel)) rfl
    (E1 (pv 1)) (λ_ _ _=>Aw (i:=0) (show NCc.Nodup by decide +kernel) rfl (Or.inl rfl) (Or.inr rfl)) (λ_ _ _=>Cg)
    (λ_ _ _=>E1 (pv 2)) (λ_ _ _=>Aw (i:=1) (show NCc.Nodup by decide +kernel) rfl (Or.inl rfl) (Or.inr rfl))
    (λ_ _ _=>Ev (Gb (Bb Xf4 (pv 0) (pv 1) (A8 _)) (Ga (Bb Ck (Am (by exact FO) (by exact hr2) (by rfl) Ap (Aa (B1 hu (pv 2) (pv 0) (λ_ _=>rfl)) (Aa (B1 hu (pv 2) (pv 1) (λ_ _=>rfl)) Ac))) Bi (A8 _)))).pt)
    (λ_ _ _=>Cd (Aa (pv 0) (Aa (pv 1) Ac)))))),?_⟩
  have hl:=R2.len;have hdl:=Gv row;refine⟨_,rfl,r,row,rfl,hR,R2,λd kvs H1 nd hd sp s1=>?_⟩;refine⟨_,rfl,d,kvs,rfl,.inl ⟨hd,λo D nD=>?_⟩⟩;generalize hH2:upd H1 d (.frz o (.dK kvs))=H2 at nD;have s2:Same H H2:=λb u e=>by rw[<-hH2,Ad (Aq e nd)];exact s1 b u e
  have hd2:H2 d=some (.frz o (.dK kvs)):=by rw[<-hH2];exact Ab
  have sp2:Spn H2 kvs row (dit row):=⟨sp.keys,λx hx=>let ⟨l,h1,h2⟩:=sp.val x hx; ⟨l,h1,by rw[<-hH2,Ad (λz=>by rw[z,hd] at h2;cases h2)];exact h2⟩⟩;have kl:=sp2.len;have go:∀i H3,i<(dit row).length->Same H2 H3->(Itd d o kvs).go i H3/\∀x H4,(Itd d o kvs).yld i H3 x H4->H4=H3/\x = .str ((dit row).getD i Str.empty):=λi H3 hi s3=>by
   have:=Fk (kvs:=kvs) (s3 _ _ hd2) (by omega:i<kvs.length);rw[sp2.at i hi] at this;exact this
  have stp:∀H3,Same H2 H3->(Itd d o kvs).stop (dit row).length H3:=λH3 s3=>by
   have:=Fl (kvs:=kvs) (s3 _ _ hd2)
   rwa [kl] at this
  let ns:=dit row
  let ok:Nat->Nat->Bool:=λi j=>decide (ltS (ns.getD i Str.empty) (ns.getD j Str.empty))&&decide (lieR row (ns.getD i Str.empty) (ns.getD j Str.empty) = "cross")
  let part:Nat->List PyData:=λi=>((List.range ns.length).filter (ok i)).map λj=>prD (ns.getD i Str.empty,ns.getD j Str.empty)
  have hpl:∀i,(part i).length<=60:=λi=>by
   show (List.map _ _).length<=60;rw[K8];refine L0 (Mw ..) ?_;rw[Ms];show (dit row).length<=60;omega
  have hacc:∀i,((List.range i).flatMap part).length<=60 * i:=λi=>by
   induction i with
   | zero=>simp
   | succ i ih=>
    rw[Md,N5,Lj];have:=hpl i;simp only[N0,Oi,Mj];omega
  refine Xi8 (H0:=H2) (xs0:=[]) (n:=ns.length) (λi=>.str (ns.getD i Str.empty)) (λi=>(List.range i).flatMap part) nD ((Same.refl H2).step nD) Ab Cy (fun σ1=>∃v0 v1, σ1=[v0,v1,some (.ref d)]) ⟨none,none,rfl⟩ go stp ?_ ?_
  ·rintro i σ1 xs H3 Q' hi ⟨v0,v1,rfl⟩ s3 hD hal kk;have hxi:=Cp hi;refine⟨_,rfl,d,kvs,rfl,.inr ⟨o,s3 _ _ hd2,?_⟩⟩;refine Jt (H0:=H2) (n:=ns.length) (λj=>.str (ns.getD j Str.empty)) (ok i) (λj=>prD (ns.getD i Str.empty,ns.getD j Str.empty)) ((List.range i).flatMap part) nD s3 hD hal ?_ go stp ?_ ?_ ?_
   ·have:=hacc i;have h2:i<60:=by have:i<(dit row).length:=hi;omega
    have h3:ns.length<=60:=by show (dit row).length<=60;omega
    rw[Pa];omega
   ·intro j H4 Q2 hj s4 k2;have hxj:=Cp hj;refine⟨_,rfl,_,rfl,_,_,rfl,rfl,_,rfl,?_⟩;refine Bc (λq1=>?_) (λq1=>?_)
    ·obtain⟨l1,g1,t1⟩:=(sp2.mono s4).get (.inr ⟨o,s4 _ _ hd2⟩) hxi;obtain⟨l2,g2,t2⟩:=(sp2.mono s4).get (.inr ⟨o,s4 _ _ hd2⟩) hxj;refine⟨_,rfl,_,rfl,d,_,rfl,g1,_,rfl,_,rfl,d,_,rfl,g2,l1,l2,_,_,_,_,rfl,t1,t2,lie4 (R2.two _ (Ak.mp hxi)) (R2.two _ (Ak.mp hxj)),λH5 s5=>?_⟩;refine⟨rfl,_,rfl,?_⟩;rw[J8];have:=k2 H5 s5;have e1:ok i j=decide (lieR row (ns.getD i Str.empty) (ns.getD j Str.empty) = "cross"):=by
      show (decide _&&decide _)=_;have q1':decide (ltS (ns.getD i Str.empty) (ns.getD j Str.empty))=true:=q1;rw[q1',M7]
     rw[e1] at this;exact this
    ·have:=k2 H4 (Same.refl _);have e1:ok i j=false:=by
      show (decide _&&decide _)=_;have q1':decide (ltS (ns.getD i Str.empty) (ns.getD j Str.empty))=false:=q1;rw[q1',M4]
     rw[e1] at this;exact this
   ·intro j xs' H4 Q2 hj hk s4 hD4 k2;refine⟨_,rfl,_,rfl,by show 2<=sizeLine;decide,λp np=>?_⟩;exact k2 _ _ ((Same.refl H4).step np) (Xi7 hD4 np (Xco [ns.getD i Str.empty,ns.getD j Str.empty]))
   ·intro σ' H4 xs' e s4 hD4 hal4;refine kk σ' H4 xs' ?_ s4 hD4 ?_
    ·have l1 : σ'.length=3:=by
      have:=congrArg List.length (e none);simpa using this
     match σ',l1,e with
     | [w0,w1,w2],_,e=>
      have:=e none;simp at this;exact⟨w0,w1,by rw[this.2]⟩
    ·rw[Md,N5,N0,Oi,Mj];exact hal4
  ·intro σ' H3 xs s3 hD hal;refine k D xs H3 (s2.free nD) hD ?_ (s2.trans s3);have e:(List.range ns.length).flatMap part=(crs row).map prD:=by
    have e1:crs row=(List.range ns.length).flatMap λi=>((List.range ns.length).filter (ok i)).map λj=>(ns.getD i Str.empty,ns.getD j Str.empty):=by
     have em:dit row=(List.range ns.length).map λi=>ns.getD i Str.empty:=by
      have:=Cw Str.empty (λ_=>true) (dit row);rw[Lv.mpr (λ_ _=>rfl),Lv.mpr (λ_ _=>rfl)] at this;exact this.symm
     show (dit row).flatMap _=_
     conv=>lhs;rw[em]
     rw[List.flatMap_map];congr 1;funext i;have:=Cw Str.empty (λy=>decide (ltS (ns.getD i Str.empty) y)&&decide (lieR row (ns.getD i Str.empty) y = "cross")) (dit row);rw[<-em,<-this,L9];rfl
    rw[e1,List.map_flatMap];congr 1;funext i;rw[L9];rfl
   rw[<-e];exact hal
theorem Xnf:FnScope ["names"] ["names"] (Aj sTold):=⟨rfl,rfl,rfl,by decide +kernel,rfl,by decide +kernel,by decide +kernel⟩
theorem Xng{f:Addr}{fd:FuncData}(F:Fun K "told" "told" sTold f fd)(T:Bl mg):FnOk P w K mg base CX0 1 f fd ["names"] (spTold K):=by
 refine F.ok Xnf (λvs H Q E h=>?_) (λcdv A outer s H vs Q E hr h=>?_)
 ·obtain⟨p,ss,rfl,_⟩:=h;rfl
 ·obtain⟨p,ss,rfl,hR,hl,k⟩:=h;refine⟨_,Al (Au (C3 Xa2 (by rfl) T.tuple (by rfl) (Aa (Be (Gq rfl) (by rfl) T.sorted (by rfl) (Aa (C3 (Fo rfl) (by rfl) T.set (by rfl) (Aa (pv 0) Ac)) Ac)) Ac))),?_⟩;refine⟨_,rfl,p,ss,rfl,hR,by unfold scanBound;omega,λa na=>?_⟩;have hdl:=Fm ss;refine⟨a,ddup ss,rfl,Ab,by omega,λl ls nl hp hs=>?_⟩;have s1:Same H (upd H a (Dn P w a (ddup ss))):=(Same.refl H).step na;refine⟨l,_,rfl,.inl ⟨SqL.of Ab,λt nt=>?_⟩⟩;have s2:=s1.step (o:=.lst (ls.map V.str)) nl;refine k t _ (s2.free nt) ?_ (s2.step nt);rw[Ab,Gu hp hs];rfl
theorem Xnh:FnScope ["some"] ["some"] (Aj s_in_order):=⟨rfl,rfl,rfl,by decide +kernel,rfl,by decide +kernel,by decide +kernel⟩
theorem Xni{f T:Addr}{fd:FuncData}(F:FunT K "in_order" s_in_order f fd T)(B:Bl mg)(hbm:BmOk mg base):FnOk P w K mg base CX0 4 f fd ["some"] (spInOrder T (lamPos s_in_order)):=by
 refine F.ok Xnh (λvs H Q E h=>?_) (λc0 hhd A outer s H vs Q E hr h=>?_)
 ·obtain⟨l,ps,Ts,rfl,_⟩:=h;rfl
 ·obtain⟨l,ps,Ts,rfl,hl,hT,nd,h64,tab,k⟩:=h;refine⟨_,Al (Au (Xk9 (show (A.deeper (envOfC "in_order" (Aj s_in_order) s.heap.objs.size f (.ref c0))).units+1+1<cLine by have:=hr.un;omega) (by rfl) B.sorted (by rfl) (Aa (pv 0) Ac) (Xga (Xjl (T:=T) (c0:=c0) (q:=qIn) hbm rfl rfl rfl hhd rfl) Xf9))),?_⟩;refine⟨_,rfl,⟨tab,λf' c pm ctv H' nf hf hc tab' kp=>?_⟩⟩;have nlT:∀b o,H b=some o->(∀z,o ≠ .tbl z)->b≠T:=λb o e n z=>by
   rcases tab with q | ⟨_,q,_⟩<;>(rw[z,q] at e;cases e;exact n _ rfl)
  have hT':Tups H' ps Ts:=⟨hT.1,λi hi=>kp _ _ (hT.2 i hi) (nlT _ _ (hT.2 i hi) λz=>by simp)⟩;refine⟨l,f',ps,Ts,rfl,rfl,kp _ _ hl (nlT _ _ hl λz=>by simp),hT',nd,h64,?_,λD p H2 nD g so sm hD=>?_⟩
  ·refine Xla (k:=0) (x := "plot") hf hc ⟨rfl,rfl,rfl,by decide +kernel,rfl,by decide +kernel,by decide +kernel⟩ hr (λu=>rfl) λA1 outer1 s1 H1 i hi sm hr1=>?_;refine⟨_,Cd (Aa (Be Bv (by rfl) B.len boot_len (Aa (pv 0) Ac)) (Aa (pv 0) Ac)),λQ1 kk=>?_⟩;have hp:=sm _ _ (hT'.2 i hi);refine⟨_,rfl,ps.getD i 0,_,rfl,.inr (SqT.of hp),_,rfl,by show 2<=sizeLine;decide,λt nt=>?_⟩;refine kk t _ ?_ (Same.upd0 nt);rw[Ab,K8]
  ·obtain⟨pm',so'⟩:=Xl4 (Ts:=Ts) (by rw[<-hT.1];exact g) (by rw[<-hT.1];exact so);refine k D _ _ H2 ?_ hD ((Xl5 hT' g).same sm) pm' so' (SH.Ai.same tab' sm) λb o e n=>sm _ _ (kp b o e n);cases e:H D with
   | none=>rfl
   | some o=>
    by_cases z:D=T
    ·rcases tab' with q | ⟨_,q,_⟩<;>(rw[<-z,nD] at q;cases q)
    ·rw[kp D o e z] at nD;cases nD
theorem Xnj:FnScope ["how", "off"] ["how", "off"] (Aj sAllows):=⟨rfl,rfl,rfl,by decide +kernel,rfl,by decide +kernel,by decide +kernel⟩
theorem Xnk{f:Addr}{fd:FuncData}(F:Fun K "allows" "allows" sAllows f fd):FnOk P w K mg base CX0 1 f fd ["how", "off"] spAllows:=by
 refine F.ok Xnj (λvs H Q E h=>?_) (λcdv A outer s H vs Q E hr h=>?_)
 ·obtain⟨how,off,rfl,_⟩:=h;rfl
 ·obtain⟨how,off,rfl,k⟩:=h;refine⟨_,Af (Bj (Bb Ck (pv 0) Bi (A8 _)) (Al (Au (pv 1))) Bn)
   (Al (Au (Xfp (D7 Ic (pv 0) Bi (A8 _)) (Xfo (Xfq (pv 1)))))),?_⟩
  refine⟨_,rfl,rfl,_,rfl,?_⟩;rw[J8];unfold Bm at k;refine Bc (λq=>?_) (λq=>?_)
  ·rw[Pc (Pf q)] at k;exact⟨_,rfl,k⟩
  ·rw[Pb (Pg q)] at k;refine⟨_,rfl,rfl,_,rfl,?_⟩;rw[J8];refine Bc (λq2=>?_) (λq2=>?_)
   ·rw[q2,Bool.true_or] at k;exact k
   ·rw[q2,Bool.false_or] at k;exact⟨_,rfl,off,rfl,k⟩
theorem Xe7:FnScope NIp ["row", "plot"] (Aj sIsPlot):=⟨rfl,rfl,rfl,by decide +kernel,rfl,by decide +kernel,by decide +kernel⟩
theorem Xnl{f:Addr}{fd:FuncData}(F:Fun K "is_plot" "is_plot" sIsPlot f fd)(T:Bl mg)(FS:Fn P w K mg base CX0 3 "spans" ["row"] spSpans)(FO:Fn P w K mg base CX0 2 "lie_of" ["here", "there"] spLieOf)
  (FT:Fn P w K mg base CX0 1 "told" ["names"] (spTold K)) (FA:Fn P w K mg base CX0 1 "allows" ["how", "off"] spAllows):FnOk P w K mg base CX0 4 f fd ["row", "plot"] Kj:=by
 refine F.ok Xe7 (λvs H Q E h=>?_) (λcdv A outer s H vs Q E hr h=>?_)
 ·obtain⟨r,p,row,ss,rfl,_⟩:=h;rfl
 ·obtain⟨r,p,row,ss,rfl,hR,R2,hP,hok,hsl,k⟩:=h;have hu:=D9 hr;have hr1:Room 1 _:=hr.mono (by decide);have hr2:Room 2 _:=hr.mono (by decide);refine⟨_,Af (Ar (i:=2) Xe7.nd rfl (Or.inr rfl) (Am FS hr (by rfl) Ap (Aa (pv 0) Ac)))
   (Af (Bj (Hs (Bb (Jr (hu3 hr)) (pv 1) (Am FT hr1 (by rfl) Ap (Aa (pv 1) Ac)) (A8 _))
     (Hr (Em (Be (Xja rfl) (by rfl) T.any (by rfl) (Aa (Ez (N:=NI1) (cap:=[none,some 2]) (CompScope.of (Aj sIsPlot) NIp rfl rfl rfl (by decide +kernel)) rfl
      (Xai (pv 1)) (λ_ _ _=>Aw (i:=0) (show NI1.Nodup by decide +kernel) rfl (Or.inl rfl) (Or.inr rfl)) (λ_ _ _=>Cg) (λ_ _ _=>Xfm (Xgy (by exact hu) (pv 0) (pv 1)) (by rfl))) Ac))))).pt
    (Al (Au E8)) Bn)
   (Al (Au (Be (Ja rfl) (by rfl) T.all (by rfl) (Aa (Xcl (N:=NI2) (cap:=[none,none,some 1,some 2]) (CompScope.of (Aj sIsPlot) NIp rfl rfl rfl (by decide +kernel)) rfl
    (Xai (pv 1)) (λ_ _ _=>Aw (i:=0) (show NI2.Nodup by decide +kernel) rfl (Or.inl rfl) (Or.inr rfl)) (λ_ _ _=>Cg)
    (λ_ _ _=>E1 (pv 3)) (λ_ _ _=>Aw (i:=1) (show NI2.Nodup by decide +kernel) rfl (Or.inl rfl) (Or.inr rfl)) (λ_ _ _=>Cg)
    (λ_ _ _=>Am (by exact FA) (by exact hr1) (by rfl) Ap (Aa (Am (by exact FO) (by exact hr2) (by rfl) Ap (Aa (B1 (by exact hu) (pv 3) (pv 0) (λ_ _=>rfl)) (Aa (B1 (by exact hu) (pv 3) (pv 1) (λ_ _=>rfl)) Ac)))
     (Aa (D7 (Jj K (by rfl)) (pv 1) (pv 2) (by rfl)) Ac)))) Ac))))),?_⟩
  have hl:=R2.len;have hdl:=Gv row;refine⟨_,rfl,r,row,rfl,hR,R2,λd kvs H1 nd hd sp s1=>?_⟩;have hP1:=s1 _ _ hP;refine⟨_,rfl,_,rfl,p,ss,rfl,.inr (SqT.of hP1),hsl,λt H2 nt ht s2=>?_⟩;have s12:=s1.trans s2;have hP2:=s2 _ _ hP1;refine⟨_,_,Ef hP2,Ef ht,Db _ (Dw hok),Db _ (Dw (Xc6 hok)),Xj2 _ _,_,rfl,?_⟩;rw[Ki hok (Xc6 hok)];by_cases e1:ss=told ss
  ·rw[Pd e1];refine B5 ?_;refine⟨_,rfl,p,rfl,⟨_,SqT.of hP2⟩,?_⟩;have hd2:=s2 _ _ hd;have sp2:=sp.mono s2;refine Jk (n:=ss.length) (by rw[Pa];omega) (λi=>(ss.map V.str).getD i .non) (λi=>.bl (!decide (ss.getD i Str.empty∈row))) ?_ ?_ ?_ ?_
   ·intro i H3 hi s3;exact Xbr (SqT.of (s3 _ _ hP2)) (by rw[K8];exact hi)
   ·intro H3 s3;have:=Xbs (K:=K) (SqT.of (s3 _ _ hP2))
    rwa [K8] at this
   ·intro i H3 Q' hi s3 kk;rw[Co V.str Str.empty ss hi];refine⟨_,rfl,_,rfl,d,_,rfl,.inl ⟨kvs,Sum.inr _,.inl (s3 _ _ hd2),rfl,rfl⟩,?_⟩;rw[sp2.has];exact kk H3 (Same.refl _)
   ·intro D H3 nD s3 hD;have hD':H3 D=some (.lst (((List.range ss.length).map λi => !decide (ss.getD i Str.empty∈row)).map V.bl)):=by rw[hD,L9];rfl
    refine⟨D,_,rfl,hD',_,rfl,?_⟩;rw[Xj3 Str.empty (λx => !decide (x∈row)) ss];have s13:=s12.trans s3;have e2:(ss.any λx => !decide (x∈row)) = !(ss.all λx=>decide (x∈row)):=by rw[List.not_all_eq_any_not]
    rw[e2];cases e3:ss.all (λx=>decide (x∈row)) with
    | false=>
     refine Di ?_;have:=k H3 s13;unfold Ae at this;rw[e3,Bool.and_false,M4] at this;exact this
    | true=>
     refine B5 ?_;have hin:∀x∈ss,x∈row:=λx hx=>Pf (Lz.mp e3 x hx);have hP3:=s3 _ _ hP2;have hd3:=s3 _ _ hd2;have sp3:=sp2.mono s3;refine⟨_,rfl,p,rfl,⟨_,SqT.of hP3⟩,λD2 nD2=>?_⟩;have kl:=sp3.len;have npd:p≠d:=λz=>by rw[z,hd3] at hP3;cases hP3
     have nrd:D2≠d:=(Aq hd3 nD2).symm;have hH0D:hid d H3 D2=none:=by
      unfold hid;rw[Pb nrd];exact nD2
     have hpin:hid d H3 p=some (.tup (ss.map V.str)):=Dr hP3 npd
     let part:Nat->List Bool:=λi=>(dit row).map λy=>Bm (lieR row (ss.getD i Str.empty) y) (decide (y∈ss))
     refine Xi9 (H0:=hid d H3) (xs0:=[]) (n:=ss.length) (λi=>.str (ss.getD i Str.empty)) (λi=>((List.range i).flatMap part).map PyData.bool) (λH4=>Rd H4 d (.dK kvs)) hH0D ((G1 d H3).trans ((Same.refl H3).step nD2)) (.inl (ku hd3 nD2)) Ab Cy
      (fun σ1=>∃v0 v1, σ1=[v0,v1,some (.ref p),some (.ref d)]) ⟨none,none,rfl⟩ ?_ ?_ ?_ ?_
     ·intro i H4 hi s4;have:=Xbr (K:=K) (SqT.of (s4 _ _ hpin)) (show i<(ss.map V.str).length by rw[K8];exact hi)
      rwa [Co V.str Str.empty ss hi] at this
     ·intro H4 s4;have:=Xbs (K:=K) (SqT.of (s4 _ _ hpin))
      rwa [K8] at this
     ·rintro i σ1 xs H4 Q' hi ⟨v0,v1,rfl⟩ s4 g4 hD4 hal kk;have hxr:ss.getD i Str.empty∈row:=hin _ (Cp hi);have main:∀(te':TE) (o:Obj) (H5:Hp),(∀(j:Nat) (H6:Hp) (Q2:VK) (l1 l2:Addr),j<(dit row).length->DGet H6 d (.str (ss.getD i Str.empty)) (some (.ref l1))->H6 l1=some (.tup [.int (pl row (ss.getD i Str.empty)).1,.int (pl row (ss.getD i Str.empty)).2]) ->
        DGet H6 d (.str ((dit row).getD j Str.empty)) (some (.ref l2))->H6 l2=some (.tup [.int (pl row ((dit row).getD j Str.empty)).1,.int (pl row ((dit row).getD j Str.empty)).2])->H6 p=some (.tup (ss.map V.str))->(∀H',Same H6 H'->Q2 (.bl (Bm (lieR row (ss.getD i Str.empty) ((dit row).getD j Str.empty)) (decide ((dit row).getD j Str.empty∈ss)))) H') ->
        te' [some (.str (ss.getD i Str.empty)),some (.str ((dit row).getD j Str.empty)),some (.ref p),some (.ref d)] H6 Q2)->H5 d=some (.frz o (.dK kvs))->Same (hid d H3) H5->H5 D2=some (.lst xs)->DAll (hid D2 H5) (((List.range i).flatMap part).map PyData.bool) xs ->
        tLp (Ba 1) C7 (Fv te' D2) (Itd d o kvs) ([some (.str (ss.getD i Str.empty)),v1,some (.ref p),some (.ref d)]:L2.St) H5 Q':=λte' o H5 hte hd5 s5 hD5 hal5=>by
       have hpl:∀j,(part j).length<=60:=λj=>by
        show (List.map _ _).length<=60;rw[K8];omega
       have hacc:∀j,(((List.range j).flatMap part).map PyData.bool).length<=60 * j:=λj=>by
        rw[K8]
        induction j with
        | zero=>simp
        | succ j ih=>
         rw[Md,N5,Lj,N0,Oi,Mj];have:=hpl j;omega
       have hdin:hid D2 H5 d=some (.frz o (.dK kvs)):=Dr hd5 nrd.symm;have hsp:Spn (hid D2 H5) kvs row (dit row):=⟨sp3.keys,λx hx=>let ⟨l,h1,h2⟩:=sp3.val x hx; ⟨l,h1,Dr (s5 _ _ (Dr h2 (λz=>by rw[z,hd3] at h2;cases h2))) (λz=>by rw[z,nD2] at h2;cases h2)⟩⟩;have hpin5:hid D2 H5 p=some (.tup (ss.map V.str)):=Dr (s5 _ _ hpin) (λz=>by rw[z,nD2] at hP3;cases hP3);refine Jt (H0:=hid D2 H5) (n:=(dit row).length) (λj=>.str ((dit row).getD j Str.empty)) (λ_=>true) (λj=>.bool (Bm (lieR row (ss.getD i Str.empty) ((dit row).getD j Str.empty)) (decide ((dit row).getD j Str.empty∈ss)))) (((List.range i).flatMap part).map PyData.bool)
        (Pc rfl) (G1 D2 H5) hD5 hal5 (by have:=hacc i;have h2:i<60:=(by omega);rw[Pa];omega) ?_ ?_ ?_ ?_ ?_
       ·intro j H6 hj s6;have:=Fk (kvs:=kvs) (s6 _ _ hdin) (by omega:j<kvs.length)
        rwa [hsp.at j hj] at this
       ·intro H6 s6;have:=Fl (kvs:=kvs) (s6 _ _ hdin)
        rwa [kl] at this
       ·intro j H6 Q2 hj s6 k2;exact k2 H6 (Same.refl _)
       ·intro j xs' H6 Q2 hj _ s6 hD6 k2;have hyd:=Cp hj;obtain⟨l1,g1,t1⟩:=(hsp.mono s6).get (.inr ⟨o,s6 _ _ hdin⟩) (Ak.mpr hxr);obtain⟨l2,g2,t2⟩:=(hsp.mono s6).get (.inr ⟨o,s6 _ _ hdin⟩) hyd;exact hte j H6 Q2 l1 l2 hj g1 t1 g2 t2 (s6 _ _ hpin5) λH' s'=>k2 _ _ s' (by unfold DAt;rfl)
       ·intro σ' H6 xs' e6 s6 hD6 hal6;refine kk σ' H6 xs' ?_ (λb u e=>?_) (.inr ⟨o,s6 _ _ hdin⟩) hD6 ?_
        ·have l1 : σ'.length=4:=by
          have:=congrArg List.length (e6 none);simpa using this
         match σ',l1,e6 with
         | [w0,w1,w2,w3],_,e6=>
          have:=e6 none;simp at this;exact⟨w0,w1,by rw[this.2.1,this.2.2]⟩
        ·refine s6 _ _ (Dr (s5 _ _ e) (λz=>?_));rw[z,hH0D] at e;cases e
        ·rw[Lv.mpr (λ_ _=>rfl)] at hal6;have em:(List.range (dit row).length).map (λj=>PyData.bool (Bm (lieR row (ss.getD i Str.empty) ((dit row).getD j Str.empty)) (decide ((dit row).getD j Str.empty∈ss))))=(part i).map PyData.bool:=by
          show _=((dit row).map _).map _;have this:=Cw Str.empty (λ_=>true) (dit row);rw[Lv.mpr (λ_ _=>rfl),Lv.mpr (λ_ _=>rfl)] at this
          conv=>rhs;rw[<-this]
          rw[L9,L9];rfl
         rw[em] at hal6;rw[Md,N5,Lo,N0,Oi,Mj];exact hal6
      rcases g4 with g4 | ⟨o,g4⟩
      ·refine⟨_,rfl,d,kvs,rfl,.inl ⟨g4,λo=>?_⟩⟩;refine main _ o _ (λj H6 Q2 l1 l2 hj g1 t1 g2 t2 hp6 k2=>⟨_,rfl,_,rfl,d,_,rfl,g1,_,rfl,_,rfl,d,_,rfl,g2,l1,l2,_,_,_,_,rfl,t1,t2,lie4 (R2.two _ hxr) (R2.two _ (Ak.mp (Cp hj))),λH7 s7=>⟨_,rfl,_,rfl,p,_,rfl,.inr (SqT.of (s7 _ _ hp6)),rfl,Ex ss,_,_,rfl,by rw[Pb (by decide),Ft];exact k2 H7 s7⟩⟩) Ab (λb u e=>?_) (by rw[Ad nrd];exact hD4) ?_
       ·rw[Ad (λz=>by rw[z] at e;unfold hid at e;rw[Pc rfl] at e;cases e)];exact s4 _ _ e
       ·rw[Kh hal];have gb:∀bs:List Bool,DAll (hid D2 (upd H4 d (.frz o (.dK kvs)))) (bs.map PyData.bool) (bs.map V.bl):=λbs=>by
         induction bs with
         | nil=>exact Cy
         | cons b bs ih=>exact Dq (by unfold DAt;rfl) ih
        exact gb _
      ·exact⟨_,rfl,d,kvs,rfl,.inr ⟨o,g4,main _ o H4 (λj H6 Q2 l1 l2 hj g1 t1 g2 t2 hp6 k2=>⟨_,rfl,_,rfl,d,_,rfl,g1,_,rfl,_,rfl,d,_,rfl,g2,l1,l2,_,_,_,_,rfl,t1,t2,lie4 (R2.two _ hxr) (R2.two _ (Ak.mp (Cp hj))),λH7 s7=>⟨_,rfl,_,rfl,p,_,rfl,.inr (SqT.of (s7 _ _ hp6)),rfl,Ex ss,_,_,rfl,by rw[Pb (by decide),Ft];exact k2 H7 s7⟩⟩) g4 s4 hD4 hal⟩⟩
     ·intro σ' H4 xs s4 g4 hD4 hal;have hx:=Kh hal;subst hx;refine⟨D2,_,rfl,hD4,?_⟩;have ef:((List.range ss.length).flatMap part).all id=ss.all λx=>(dit row).all λy=>Bm (lieR row x y) (decide (y∈ss)):=by
       have e5:(List.range ss.length).flatMap part=ss.flatMap λx=>(dit row).map λy=>Bm (lieR row x y) (decide (y∈ss)):=Xj4 Str.empty (λx=>(dit row).map λy=>Bm (lieR row x y) (decide (y∈ss))) ss;rw[e5,Xc7];congr 1;funext x;rw[List.all_map];rfl
      rw[ef];have s04:Same H H4:=λb u e=>s4 _ _ (Dr (s13 _ _ e) (λz=>by rw[z,nd] at e;cases e));have:=k H4 s04;unfold Ae at this;rw[Pd e1,e3,M7,M7] at this;exact this
  ·rw[Pe e1];refine Di ?_;have:=k H2 s12;unfold Ae at this;rw[Pe e1,M4,M4] at this;exact this
theorem Xnm:FnScope ["row", "plot"] ["row", "plot"] (Aj s_ask_plot):=⟨rfl,rfl,rfl,by decide +kernel,rfl,by decide +kernel,by decide +kernel⟩
theorem Xnn{f C:Addr}{fd:FuncData}(F:Fun K "ask_plot" "ask_plot" s_ask_plot f fd)(hC:mg "NoPlot" = some (.ref C))(hc:PySem.W.excIn K C bmV "ValueError.__new__" = true)(FX:Fn P w K mg base CX0 4 "is_plot" ["row", "plot"] Kj):
  FnOk P w K mg base (CX1 P w) 5 f fd ["row", "plot"] (spAskPlot C):=by
 refine F.ok1 Xnm (λvs H Q E h=>?_) (λcdv A outer s H vs Q E hr h=>?_)
 ·obtain⟨r,p,row,ss,rfl,_⟩:=h;rfl
 ·obtain⟨r,p,row,ss,rfl,hR,R2,hP,hok,hsl,kq,ke⟩:=h;refine⟨_,Al (Bj (Xaf (Em (Am FX hr (by rfl) Ap (Aa (pv 0) (Aa (pv 1) Ac)))))
   (Al (Xbl (C:=C) (E:=E) hc rfl leaves1 (by rfl) hC (Aa (Xbq (Gk (by decide +kernel) (Xjg hr (pv 1) (Gk (by decide +kernel) Xbp)))) Ac))) Bn),?_⟩
  refine⟨_,rfl,_,rfl,r,p,row,ss,rfl,hR,R2,hP,hok,by omega,λH1 s1=>⟨_,rfl,?_⟩⟩;cases e:Ae row ss with
  | true=>exact B5 (kq e H1 s1)
  | false=>
   refine Di ⟨_,rfl,p,ss,rfl,s1 _ _ hP,hsl,Xj8 hok,λz=>?_⟩;exact⟨by show 1<=sizeLine;decide,ke e H1 s1⟩
theorem F8:FnScope NPp ["row"] (Aj s_plots):=⟨rfl,rfl,rfl,by decide +kernel,rfl,by decide +kernel,by decide +kernel⟩
theorem Xno{f T:Addr}{fd:FuncData}(F:Fun K "plots" "plots" s_plots f fd)(FS:Fn P w K mg base CX0 3 "spans" ["row"] spSpans)(FO:Fn P w K mg base CX0 2 "lie_of" ["here", "there"] spLieOf)(FT:Fn P w K mg base CX0 1 "told" ["names"] (spTold K))(FC:Fn P w K mg base CX0 4 "crossings" ["row"] Ka)
  (FI:Fn P w K mg base CX0 4 "in_order" ["some"] (spInOrder T (lamPos s_in_order))):FnOk P w K mg base CX0 5 f fd ["row"] (spPlotsA T (lamPos s_in_order)):=by
 refine F.ok F8 (λvs H Q E h=>?_) (λcdv A outer s H vs Q E hr h=>?_)
 ·obtain⟨r,row,rfl,_⟩:=h;rfl
 ·obtain⟨r,row,rfl,hR,R2,h3,h14,tab,k⟩:=h;have hu:=D9 hr;have hr1:Room 1 _:=hr.mono (by decide);have hr2:Room 2 _:=hr.mono (by decide);have hr3:Room 3 _:=hr.mono (by decide);refine⟨_,Af (Ar (i:=1) F8.nd rfl (Or.inr rfl) (Am FS hr3 (by rfl) Ap (Aa (pv 0) Ac)))
   (Af (Ar (i:=2) F8.nd rfl (Or.inr rfl) (Xck (N:=NPo) (cap:=[none,some 1]) (CompScope.of (Aj s_plots) NPp rfl rfl rfl (by decide +kernel)) rfl
    (E1 (pv 1)) (λ_ _ _=>Aw (i:=0) (show NPo.Nodup by decide +kernel) rfl (Or.inr rfl) (Or.inl rfl)) (λ_ _ _=>Cg) (λ_ _ _=>pv 0)
    (λs0 H0 ex=>Ez (N:=NPi) (cap:=[none,some 0,some 1]) (CompScope.of _ NPo rfl rfl rfl (by kernel_rfl)) rfl
     (E1 (pv 1)) (λ_ _ _=>Aw (i:=0) (show NPi.Nodup by decide +kernel) rfl (Or.inl rfl) (Or.inr rfl))
     (λ_ _ _=>Ev (Bb (Jj K (by rfl)) (Am (by exact FO) (by exact hr2) (by rfl) Ap (Aa (B1 hu (pv 2) (pv 1) (λ_ _=>rfl)) (Aa (B1 hu (pv 2) (pv 0) (λ_ _=>rfl)) Ac))) (Cd (Aa Bi (Aa Bi Ac))) (by rfl)))
     (λ_ _ _=>pv 0))))
   (Af (Xeo (i:=3) (N:=NPs) (cap:=[none,some 2]) (CompScope.of (Aj s_plots) NPp rfl rfl rfl (by decide +kernel)) rfl F8.nd rfl rfl
    (E1 (pv 2)) (λ_ _ _=>Aw (i:=0) (show NPs.Nodup by decide +kernel) rfl (Or.inl rfl) (Or.inr rfl)) (λ_ _ _=>Cg)
    (λ_ _ _=>Am (by exact FT) (by exact hr1) (by rfl) Ap (Aa (B1 hu (pv 1) (pv 0) (λ_ _=>rfl)) Ac)))
   (Af (Xeo (i:=4) (N:=NPd) (cap:=[none,none,some 2]) (CompScope.of (Aj s_plots) NPp rfl rfl rfl (by decide +kernel)) rfl F8.nd rfl rfl
    (Ca (Am FC hr (by rfl) Ap (Aa (pv 0) Ac))) (λ_ _ _=>Ey K 2 rfl rfl (Bx (Aw (i:=0) (show NPd.Nodup by decide +kernel) rfl (Or.inl rfl) (Or.inr rfl)) (Bx (Aw (i:=1) (show NPd.Nodup by decide +kernel) rfl (Or.inl rfl) (Or.inr rfl)) D3))) (λ_ _ _=>Cg)
    (λ_ _ _=>Am (by exact FT) (by exact hr1) (by rfl) Ap (Aa (An Cf (B1 hu (pv 2) (pv 0) (λ_ _=>rfl)) (B1 hu (pv 2) (pv 1) (λ_ _=>rfl))) Ac)))
   (Al (Au (Am FI hr (by rfl) Ap (Aa (An Cf (An Cf (Bu (Aa (Cd Ac) Ac)) (pv 3)) (pv 4)) Ac))))))),?_⟩
  have hl:=R2.len;have hdl:=Gv row;refine⟨_,rfl,r,row,rfl,hR,R2,λd kvs H1 nd hd sp s1=>?_⟩;refine⟨_,rfl,d,kvs,rfl,.inl ⟨hd,λo D nD=>?_⟩⟩;generalize hH2:upd H1 d (.frz o (.dK kvs))=H2 at nD;have s2:Same H H2:=λb u e=>by rw[<-hH2,Ad (Aq e nd)];exact s1 b u e
  have hd2:H2 d=some (.frz o (.dK kvs)):=by rw[<-hH2];exact Ab
  have sp2:Spn H2 kvs row (dit row):=⟨sp.keys,λx hx=>let ⟨l,h1,h2⟩:=sp.val x hx; ⟨l,h1,by rw[<-hH2,Ad (λz=>by rw[z,hd] at h2;cases h2)];exact h2⟩⟩;have kl:=sp2.len;have go:∀i H3,i<(dit row).length->Same H2 H3->(Itd d o kvs).go i H3/\∀x H4,(Itd d o kvs).yld i H3 x H4->H4=H3/\x = .str ((dit row).getD i Str.empty):=λi H3 hi s3=>by
   have:=Fk (kvs:=kvs) (s3 _ _ hd2) (by omega:i<kvs.length);rw[sp2.at i hi] at this;exact this
  have stp:∀H3,Same H2 H3->(Itd d o kvs).stop (dit row).length H3:=λH3 s3=>by
   have:=Fl (kvs:=kvs) (s3 _ _ hd2)
   rwa [kl] at this
  refine⟨wN (dit row).length λi σ2 H3=>(∃v, σ2=[v,some (.ref d)])/\Same H2 H3/\∃kv2,H3 D=some (.dK kv2)/\Offs H3 kv2 row ((dit row).take i),⟨(dit row).length,by simp,L6 _,⟨none,rfl⟩,(Same.refl H2).step nD,[],Ab,⟨rfl,λx hx=>by simp at hx⟩⟩,?_⟩;rintro i m σ1 H3 ⟨rfl,hi,⟨v,rfl⟩,s3,kv2,hD,ofs⟩;by_cases hlt:i<(dit row).length
  ·obtain⟨g1,g2⟩:=go i H3 hlt s3;refine .inr ⟨g1,λx H4 y=>?_⟩;obtain⟨e1,e2⟩:=g2 x H4 y;subst e1 e2;generalize hx:(dit row).getD i Str.empty=x;have hxd:x∈dit row:=by rw[<-hx];exact Cp hlt
   have hxr:=Ak.mp hxd;have htk:(dit row).take (i+1)=(dit row).take i++[x]:=by
    rw[Lu hlt,<-hx];simp[List.getD,hlt]
   have hnx:x∉(dit row).take i:=by
    have nd:=Eb row;have h2:((dit row).take (i+1)).Nodup:=nd.sublist (Nj ..);rw[htk] at h2;exact λz=>(Mr.mp h2).2.2 x z x (by simp) rfl
   refine⟨_,rfl,_,rfl,d,kvs,rfl,.inr ⟨o,s3 _ _ hd2,?_⟩⟩;refine Xca (n:=(dit row).length) (by rw[Pa];omega) (λj=>.str ((dit row).getD j Str.empty)) (λj=>upB row x ((dit row).getD j Str.empty)) (λj=>.str ((dit row).getD j Str.empty)) ?_ ?_ ?_ ?_ ?_
   ·exact λj H5 hj s5=>go j H5 hj (s3.trans s5)
   ·exact λH5 s5=>stp H5 (s3.trans s5)
   ·intro j H5 Q' hj s5 kk;have s25:=s3.trans s5;have hxj:=Cp hj;obtain⟨l1,gg1,t1⟩:=(sp2.mono s25).get (.inr ⟨o,s25 _ _ hd2⟩) hxd;obtain⟨l2,gg2,t2⟩:=(sp2.mono s25).get (.inr ⟨o,s25 _ _ hd2⟩) hxj;refine⟨_,rfl,_,rfl,d,_,rfl,gg1,_,rfl,_,rfl,d,_,rfl,gg2,l1,l2,_,_,_,_,rfl,t1,t2,lie4 (R2.two x hxr) (R2.two _ (Ak.mp hxj)),λH6 s6=>?_⟩;refine⟨by show 2<=sizeLine;decide,λt nt=>?_⟩;refine⟨t,[Str.ofString "same",Str.ofString "within"].map V.str,rfl,.inr (SqT.of Ab),rfl,Ex _,_,rfl,?_⟩;rw[Pb (by decide),Ft];have e:=Xme (row:=row) (x:=x) (y:=(dit row).getD j Str.empty) (R2.two x hxr) (R2.two _ (Ak.mp hxj));unfold lieR at e;rw[e];exact kk _ (s6.step nt)
   ·intro j H5 Q' hj hk s5 kk;exact⟨_,rfl,kk H5 (Same.refl _)⟩
   ·intro l H5 nl s5 hl5;have hl5':H5 l=some (.lst (((dit row).filter (upB row x)).map V.str)):=by
     rw[hl5,<-Cw Str.empty (upB row x) (dit row),L9];rfl
    have hD5:=s5 _ _ hD;have kl2:kv2.length<=60:=by
     have:=ofs.len;rw[Mf] at this;omega
    refine⟨kv2,Sum.inr x,rfl,hD5,by rw[Pa];omega,?_⟩;refine wskip hlt ⟨⟨_,rfl⟩,λb u e=>?_,_,Ab,?_⟩
    ·rw[Ad (Aq e nD)];exact s5 _ _ (s3 b u e)
    ·rw[htk];refine ofs.snoc hnx ?_ λb xs e=>?_
     ·rw[Ad (λz=>by rw[z,hD5] at hl5';cases hl5')];exact hl5'
     ·have e4:=s5 _ _ e;rw[Ad (λz=>by rw[z,hD5] at e4;cases e4)];exact e4
  ·have ei:i=(dit row).length:=by omega
   subst ei;refine .inl ⟨stp H3 s3,?_⟩;rw[Mq] at ofs;have s03:=s2.trans s3;refine⟨_,rfl,D,kv2,rfl,.inl ⟨hD,λo2 L nL=>?_⟩⟩;generalize hH4:upd H3 D (.frz o2 (.dK kv2))=H4 at nL;have nD0:H D=none:=s2.free nD;have s4:Same H H4:=λb u e=>by rw[<-hH4,Ad (Aq e nD0)];exact s03 b u e
   have hD4:H4 D=some (.frz o2 (.dK kv2)):=by rw[<-hH4];exact Ab
   have of4:Offs H4 kv2 row (dit row):=⟨ofs.keys,λx hx=>let ⟨l,h1,h2⟩:=ofs.val x hx; ⟨l,h1,by rw[<-hH4,Ad (λz=>by rw[z,hD] at h2;cases h2)];exact h2⟩⟩;have kl2:=of4.len;have fl:∀x,((dit row).filter (upB row x)).length<=14:=λx=>L0 (Mw ..) (by omega);refine Jt (H0:=H4) (xs0:=[]) (n:=(dit row).length) (λj=>.str ((dit row).getD j Str.empty)) (λ_=>true) (λj=>A6 ((dit row).filter (upB row ((dit row).getD j Str.empty)))) [] nL ((Same.refl H4).step nL) Ab Cy (by rw[Pa,M9];omega) ?_ ?_ ?_ ?_ ?_
   ·intro j H5 hj s5;have:=Fk (kvs:=kv2) (s5 _ _ hD4) (by omega:j<kv2.length);rw[of4.at j hj] at this;exact this
   ·intro H5 s5;have:=Fl (kvs:=kv2) (s5 _ _ hD4)
    rwa [kl2] at this
   ·exact λj H5 Q' hj s5 kk=>kk H5 (Same.refl _)
   ·intro j xs H5 Q' hj _ s5 hL5 kk;obtain⟨l,gg,hl5⟩:=(of4.mono s5).get (.inr ⟨o2,s5 _ _ hD4⟩) (Cp hj);refine⟨_,rfl,_,rfl,D,_,rfl,gg,l,_,rfl,.inl (SqL.of hl5),by have:=fl ((dit row).getD j Str.empty);omega,λt H6 nt ht s6=>?_⟩;rw[G4 ((Cv row).filter _)] at ht;refine kk _ H6 s6 (Ef ?_);have hL6:=s6 _ _ hL5;unfold hid;rw[Pb (λz=>by rw[z,hL6] at ht;cases ht)];exact ht
   ·intro σ' H5 xs e s5 hL5 hal;have e1:([]:List PyData)++((List.range (dit row).length).filter λ_=>true).map (λj=>A6 ((dit row).filter (upB row ((dit row).getD j Str.empty))))=((dit row).map λa=>(dit row).filter (upB row a)).map A6:=by
     have:=Cw Str.empty (λ_=>true) (dit row);rw[Lv.mpr (λ_ _=>rfl),Lv.mpr (λ_ _=>rfl)] at this;have q:=congrArg (List.map λa=>A6 ((dit row).filter (upB row a))) this;rw[L9] at q;rw[N9,Lv.mpr (λ_ _=>rfl),L9];exact q
    rw[e1] at hal;obtain⟨ps1,rfl,ht1⟩:=Xdz hal;have ht1:Tups H5 ps1 _:=ht1.same (G1 L H5);have s05:=s4.trans s5;refine⟨_,rfl,r,row,rfl,s05 _ _ hR,R2,λcl xs2 H6 ncl hcl hal6 s6=>?_⟩;refine⟨cl,rfl,⟨_,SqL.of hcl⟩,λM nM=>?_⟩;have hxl:xs2.length=(crs row).length:=by
     have:=Jn hal6;simpa using this
    have of6:=(of4.mono s5).mono s6;have hD6:=s6 _ _ (s5 _ _ hD4);have c49:=Xkk R2.two h3 (by omega);refine⟨wN (crs row).length λi σ2 H7=>(∃u v, σ2=[u,v,some (.ref D)])/\Same H6 H7/\∃qs:List Addr,H7 M=some (.lst (qs.map V.ref))/\Tups H7 qs (((crs row).take i).map λq=>(dit row).filter λy=>upB row q.1 y||upB row q.2 y),⟨(crs row).length,by simp,L6 _,⟨none,none,rfl⟩,(Same.refl H6).step nM,[],Ab,Tups.nil _⟩,?_⟩;rintro i m σ1 H7 ⟨rfl,hi,⟨u,v,rfl⟩,s7,qs,hM,htq⟩;by_cases hlt:i<(crs row).length
    ·obtain⟨g1,g2⟩:=Dk (K:=K) (SqL.of (s7 _ _ hcl)) (by omega:i<xs2.length);refine .inr ⟨g1,λx H8 y=>?_⟩;obtain⟨e1,e2⟩:=g2 x H8 y;subst e1 e2;obtain⟨v1,hv,hdat⟩:=Xcn (i:=i) (d:=prD ((crs row)[i])) hal6 (by rw[Lx,Li hlt];rfl);have hq:=L8 hlt;generalize hqe:(crs row)[i]=q at hdat hq;obtain⟨hq1,hq2,_,_⟩:=F6 hq;have ev:xs2.getD i .non=v1:=by simp[List.getD,hv]
     rw[ev];unfold prD DAt at hdat;obtain⟨pp,ys,rfl,hpp,hys⟩:=hdat;obtain rfl:=Kb (ss:=[q.1,q.2]) hys;have hpp6:=G1 cl H6 _ _ hpp;have htk:(crs row).take (i+1)=(crs row).take i++[q]:=by
      rw[Lu hlt,hqe]
     obtain⟨l1,gg1,hl1⟩:=(of6.mono s7).get (.inr ⟨o2,s7 _ _ hD6⟩) (Ak.mpr hq1);obtain⟨l2,gg2,hl2⟩:=(of6.mono s7).get (.inr ⟨o2,s7 _ _ hD6⟩) (Ak.mpr hq2);have f1:=fl q.1;have f2:=fl q.2;refine⟨pp,_,rfl,SqT.of (s7 _ _ hpp6),rfl,_,_,rfl,_,_,rfl,rfl,?_⟩;refine⟨_,rfl,_,rfl,D,_,rfl,gg1,_,rfl,_,rfl,D,_,rfl,gg2,l1,l2,_,_,rfl,rfl,hl1,hl2,by rw[K8,K8,Pa];omega,λc nc=>?_⟩;refine⟨c,(dit row).filter (upB row q.1)++(dit row).filter (upB row q.2),rfl,.inl (by rw[Lo];exact SqL.of Ab),by rw[Lj];omega,λt H9 nt ht s9=>?_⟩;have s79:Same H8 H9:=((Same.refl H8).step nc).trans s9;have hM9:=s79 _ _ hM;have et:told ((dit row).filter (upB row q.1)++(dit row).filter (upB row q.2))=(dit row).filter λy=>upB row q.1 y||upB row q.2 y:=by
      refine lt_uniq (Kg _) ((Cv row).filter _) λz=>?_;rw[Xc2,Ll,Lc,Lc,Lc,Na,<-and_or_left]
     rw[et] at ht;have hql:qs.length<=49:=by
      have:=htq.1;rw[K8,Mf] at this;omega
     refine⟨_,hM9,by rw[K8,Pa];omega,?_⟩;have keepM:∀b w,H9 b=some (.tup w)->upd H9 M (.lst (qs.map V.ref++[.ref t])) b=some (.tup w):=λb w e=>by
      rw[Ad (λz=>by rw[z,hM9] at e;cases e)];exact e
     refine wskip hlt ⟨⟨_,_,rfl⟩,λb w e=>?_,qs++[t],by rw[Ab,Lo];rfl,?_⟩
     ·rw[Ad (Aq e nM)];exact s79 _ _ (s7 b w e)
     ·rw[htk,Lo];refine Tups.app ⟨htq.1,λj hj=>keepM _ _ (s79 _ _ (htq.2 j hj))⟩ (Tups.cons (keepM _ _ ht) (Tups.nil _))
    ·have ei:i=(crs row).length:=by omega
     subst ei;refine .inl ⟨by have:=Dl (K:=K) (SqL.of (s7 _ _ hcl));rwa [hxl] at this,?_⟩;rw[Mq] at htq;have s57:=s6.trans s7;have hL7:=s57 _ _ hL5;have ht7:=ht1.same s57;have s07:=s05.trans s57;refine⟨L6 _,λe0 ne0=>⟨by show 1<=sizeLine;decide,λz nz=>?_⟩⟩;generalize hHa:upd H7 e0 (.tup [])=Ha at nz;have sa:Same H7 Ha:=by rw[<-hHa];exact(Same.refl H7).step ne0
     have he0:Ha e0=some (.tup (([]:List Str).map V.str)):=by rw[<-hHa];exact Ab
     generalize hHb:upd Ha z (.lst [.ref e0])=Hb;have sb:Same Ha Hb:=by rw[<-hHb];exact(Same.refl Ha).step nz
     have hz:Hb z=some (.lst [.ref e0]):=by rw[<-hHb];exact Ab
     have l1:ps1.length=(dit row).length:=by have:=ht1.1;simpa using this
     have l2:qs.length=(crs row).length:=by have:=htq.1;simpa using this
     have s7b:=sa.trans sb;refine⟨_,rfl,z,L,_,_,rfl,rfl,hz,s7b _ _ hL7,by rw[K8,Ml,Pa];omega,λc1 n1=>?_⟩;generalize hHc:upd Hb c1 (.lst ([.ref e0]++ps1.map V.ref))=Hc;have sc:Same Hb Hc:=by rw[<-hHc];exact(Same.refl Hb).step n1
     have hc1:Hc c1=some (.lst ([.ref e0]++ps1.map V.ref)):=by rw[<-hHc];exact Ab
     have s7c:=s7b.trans sc;refine⟨_,rfl,c1,M,_,_,rfl,rfl,hc1,s7c _ _ hM,by rw[Lj,K8,K8,Ml,Pa];omega,λc2 n2=>?_⟩;generalize hHd:upd Hc c2 (.lst (([.ref e0]++ps1.map V.ref)++qs.map V.ref))=Hd;have sd:Same Hc Hd:=by rw[<-hHd];exact(Same.refl Hc).step n2
     have hc2:Hd c2=some (.lst ((e0::(ps1++qs)).map V.ref)):=by
      rw[<-hHd,Ab,L5,Lo];rfl
     have s7d:=s7c.trans sd;have s0d:=s07.trans s7d;have hTs:Tups Hd (e0::(ps1++qs)) ([]::cands row):=Tups.cons ((sb.trans (sc.trans sd)) _ _ he0) (Tups.app (ht7.same s7d) (htq.same s7d));refine⟨c2,e0::(ps1++qs),[]::cands row,rfl,hc2,hTs,Xmd R2.two,by rw[Lp,Lj];omega,SH.Ai.same tab s0d,λD' ps' Ts' H' nD' hD' hT' pm so tab' bt=>?_⟩;refine k D' ps' Ts' H' (s0d.free nD') hD' hT' (λS=>(pm.mem_iff).trans (Xmb R2.two h3 S)) so ?_ tab' λb w e n=>bt _ _ (s0d _ _ e) n;rw[hT'.1,pm.length_eq,<-hTs.1,Lp,Lj];omega
theorem Xnp:FnScope ["one", "other"] ["one", "other"] (Aj s_parting):=⟨rfl,rfl,rfl,by decide +kernel,rfl,by decide +kernel,by decide +kernel⟩
theorem Xnq{f:Addr}{fd:FuncData}(F:Fun K "parting" "parting" s_parting f fd)(T:Bl mg):FnOk P w K mg base CX0 1 f fd ["one", "other"] spParting:=by
 refine F.ok Xnp (λvs H Q E h=>?_) (λcdv A outer s H vs Q E hr h=>?_)
 ·obtain⟨p,q,a,b,rfl,_⟩:=h;rfl
 ·obtain⟨p,q,a,b,rfl,hP,hQ,na,nb,la,lb,k⟩:=h;refine⟨_,Al (Au (Be (Gq rfl) (by rfl) T.sorted (by rfl) (Aa (An Xl3 (C3 (Fo rfl) (by rfl) T.set (by rfl) (Aa (pv 0) Ac)) (C3 (Fo rfl) (by rfl) T.set (by rfl) (Aa (pv 1) Ac))) Ac))),?_⟩;refine⟨_,rfl,p,a,rfl,.inr (SqT.of hP),by unfold scanBound;omega,λa1 n1=>?_⟩;refine⟨_,rfl,q,b,rfl,.inr (SqT.of (ku hQ n1)),by unfold scanBound;omega,λa2 n2=>?_⟩;have pa:=Kf na;have pb:=Kf nb;refine⟨a1,a2,_,_,rfl,rfl,ku Ab n2,Ab,Gn a,Gn b,by rw[pa.length_eq];exact la,by rw[pb.length_eq];exact lb,λc zs nc ndz lz mz=>?_⟩;refine⟨c,zs,rfl,Ab,by omega,λl ls nl pl so=>?_⟩;refine k l _ ?_ ?_ ?_
  ·exact(((Same.refl H).step n1).step n2).free ((Same.refl _).step nc |>.free nl)
  ·rw[Ab,Gu pl so,xor_srt na nb ndz λy=>by rw[mz,pa.mem_iff,pb.mem_iff]]
  ·exact((((Same.refl H).step n1).step n2).step nc).step nl
theorem Xnr:FnScope ["plot", "name"] ["plot", "name"] (Aj s_across):=⟨rfl,rfl,rfl,by decide +kernel,rfl,by decide +kernel,by decide +kernel⟩
theorem Xns{f:Addr}{fd:FuncData}(F:Fun K "across" "across" s_across f fd)(B:Bl mg)(FP:Fn P w K mg base CX0 1 "parting" ["one", "other"] spParting):FnOk P w K mg base CX0 2 f fd ["plot", "name"] K1:=by
 refine F.ok Xnr (λvs H Q E h=>?_) (λcdv A outer s H vs Q E hr h=>?_)
 ·obtain⟨p,ss,x,rfl,_⟩:=h;rfl
 ·obtain⟨p,ss,x,rfl,hp,nd,hl,k⟩:=h;have hr1:Room 1 _:=hr.mono (by decide);refine⟨_,Al (Au (C3 Xa2 (by rfl) B.tuple (by rfl) (Aa (Am FP hr1 (by rfl) Ap (Aa (pv 0) (Aa (Cd (Aa (pv 1) Ac)) Ac))) Ac))),?_⟩;refine⟨_,rfl,_,rfl,by show 1<=sizeLine;decide,λt nt=>?_⟩;refine⟨p,t,ss,[x],rfl,ku hp nt,Ab,nd,by simp,hl,by show 1<16;decide,λl H1 nl hl1 s1=>?_⟩;rw[Kz] at hl1;refine⟨l,_,rfl,.inl ⟨SqL.of hl1,λq nq=>?_⟩⟩;have s0:=((Same.refl H).step nt (o:=.tup [.str x])).trans s1;exact k q _ (s0.free nq) Ab (s0.step nq)
theorem K4:FnScope NNb ["row", "plot"] (Aj s_neighbours):=⟨rfl,rfl,rfl,by decide +kernel,rfl,by decide +kernel,by decide +kernel⟩
theorem Xnt{f C T:Addr}{fd:FuncData}(F:Fun K "neighbours" "neighbours" s_neighbours f fd)(FA:Fn P w K mg base (CX1 P w) 5 "ask_plot" ["row", "plot"] (spAskPlot C))(FP:Fn P w K mg base CX0 5 "plots" ["row"] (spPlotsA T (lamPos s_in_order)))(FD:Fn P w K mg base CX0 1 "ditches" ["row"] spDitches)(FX:Fn P w K mg base CX0 2 "across" ["plot", "name"] K1):
  FnOk P w K mg base (CX1 P w) 6 f fd ["row", "plot"] (spNbs T (lamPos s_in_order)):=by
 refine F.ok1 K4 (λvs H Q E h=>?_) (λcdv A outer s H vs Q E hr h=>?_)
 ·obtain⟨r,p,row,S,rfl,_⟩:=h;rfl
 ·obtain⟨r,p,row,S,rfl,hR,R2,h3,hd,tab,hp,hS,k⟩:=h;have hr1:Room 1 _:=hr.mono (by decide);have hr2:Room 2 _:=hr.mono (by decide);have hu4':=hu4 hr;refine⟨_,Af (Df (Am FA hr (by rfl) pass1 (Aa (pv 0) (Aa (pv 1) Ac))))
   (Af (Ar (i:=2) K4.nd rfl (Or.inr rfl) (Am FP hr (by rfl) Ap (Aa (pv 0) Ac)))
   (Af (G0 (i:=3) (N:=NNb1) (cap:=[none,some 1]) (CompScope.of (Aj s_neighbours) NNb rfl rfl rfl (by decide +kernel)) rfl K4.nd rfl rfl (Ca (Am FD hr1 (by rfl) Ap (Aa (pv 0) Ac))) (λ_ _ _=>Aw (i:=0) (show NNb1.Nodup by decide +kernel) rfl (Or.inl rfl) (Or.inr rfl)) (λ_ _ _=>Cg)
    (λ_ _ _=>Cd (Aa (pv 0) (Aa (Am (by exact FX) (by exact hr2) (by rfl) Ap (Aa (pv 1) (Aa (pv 0) Ac))) Ac))))
   (Al (Au (Ez (N:=NNb2) (cap:=[none,none,some 2]) (CompScope.of (Aj s_neighbours) NNb rfl rfl rfl (by decide +kernel)) rfl (Ca (pv 3))
    (λ_ _ _=>Ey K 2 rfl rfl (Bx (Aw (i:=0) (show NNb2.Nodup by decide +kernel) rfl (Or.inl rfl) (Or.inr rfl)) (Bx (Aw (i:=1) (show NNb2.Nodup by decide +kernel) rfl (Or.inl rfl) (Or.inr rfl)) D3))) (λ_ _ _=>Ev (Bb (Xi4 (by exact hu4')) (pv 1) (pv 2) (by rfl)))
    (λ_ _ _=>Cd (Aa (pv 0) (Aa (pv 1) Ac)))))))),?_⟩
  have hl:=He hS;have okS:∀y∈S,okN y:=λy hy=>R2.ok y ((Bo hS).1 y hy);refine⟨_,rfl,_,rfl,r,p,row,S,rfl,hR,R2,hp,okS,by omega,λ_ H1 s1=>?_,λe=>by rw[hS] at e;cases e⟩;refine⟨_,rfl,r,row,rfl,s1 _ _ hR,R2,h3,hd,SH.Ai.same tab s1,λl ps Ts H2 nl hl2 hT2 hPL pw hps tab2 b2=>?_⟩;have b2:But T H1 H2:=b2;have tab1:=SH.Ai.same tab s1;have k2:∀{b:Addr} {o:HO},H b=some o->(∀z,o ≠ .tbl z)->H2 b=some o:=λe n=>b2 _ _ (s1 _ _ e) (Ai.ne tab1 (s1 _ _ e) n);have hR2:=k2 hR λz=>by simp
  have hp2:=k2 hp λz=>by simp
  have hrl:=R2.len;have okT:∀S∈Ts,∀y∈S,okN y:=λS' hS' y hy=>R2.ok y ((Bo ((hPL S').mp hS')).1 y hy);dsimp only[Ba];refine⟨_,rfl,r,row,rfl,hR2,by omega,λnl' H3 nnl hnl s3=>?_⟩;have hp3:=s3 _ _ hp2;have hl3:=s3 _ _ hl2;have hT3:=hT2.same s3;refine⟨nl',rfl,⟨_,SqL.of hnl⟩,?_⟩;refine Xey (n:=(dit row).length) (by rw[Pa];omega) (λj=>.str ((dit row).getD j Str.empty)) (λ_=>true) (λj=>((dit row).getD j Str.empty,Ax S ((dit row).getD j Str.empty))) (fun σ=>∃v, σ=[v,some (.ref p)]) ⟨_,rfl⟩ ?_ ?_ ?_ ?_
  ·intro j H5 hj s5;have:=Dk (K:=K) (SqL.of (s5 _ _ hnl)) (by rw[K8];exact hj);rw[Co V.str Str.empty (dit row) hj] at this;exact this
  ·intro H5 s5;have:=Dl (K:=K) (SqL.of (s5 _ _ hnl))
   rwa [K8] at this
  ·rintro j σ1 H5 Q1 Q0 hj ⟨v,rfl⟩ s5 kk _;generalize (dit row).getD j Str.empty=x at kk ⊢;dsimp only[Ba,C7];rw[Pc rfl];refine⟨_,rfl,_,rfl,_,rfl,p,S,x,rfl,s5 _ _ hp3,Eh hS,by omega,λq H6 nq hq s6=>?_⟩;refine⟨by show 2<=sizeLine;decide,λt nt=>?_⟩;exact kk _ t q _ rfl ⟨_,rfl⟩ Ab (ku hq nt) (s6.step nt)
  intro sd qs H4 nsd s4 hsd hnb;have eN:(((List.range (dit row).length).filter λ_=>true).map λj=>((dit row).getD j Str.empty,Ax S ((dit row).getD j Str.empty)))=(dit row).map λx=>(x,Ax S x):=by
   have q:=congrArg (List.map λx=>(x,Ax S x)) (Cw Str.empty (λ_=>true) (dit row));rw[L9,Lv.mpr (λ_ _=>rfl),Lv.mpr (λ_ _=>rfl)] at q;rw[Lv.mpr (λ_ _=>rfl)];exact q
  rw[eN] at hnb;have hql:qs.length=(dit row).length:=by rw[hnb.1,K8]
  have hl4:=s4 _ _ hl3;have hT4:=hT3.same s4;dsimp only[Ba];refine⟨_,rfl,sd,rfl,⟨_,SqL.of hsd⟩,?_⟩;refine Xey (n:=qs.length) (by rw[Pa];omega) (λj=>.ref (qs.getD j 0)) (λj=>Ae row (Ax S ((dit row).getD j Str.empty))) (λj=>((dit row).getD j Str.empty,Ax S ((dit row).getD j Str.empty))) (fun σ=>∃u v, σ=[u,v,some (.ref l)]) ⟨_,_,rfl⟩ ?_ ?_ ?_ ?_
  ·intro j H5 hj s5;have:=Dk (K:=K) (SqL.of (s5 _ _ hsd)) (by rw[K8];exact hj);rw[Co V.ref 0 qs hj] at this;exact this
  ·intro H5 s5;have:=Dl (K:=K) (SqL.of (s5 _ _ hsd))
   rwa [K8] at this
  ·rintro j σ1 H5 Q1 Q0 hj ⟨u,v,rfl⟩ s5 k1 k0;obtain⟨q,h1,h2⟩:=hnb.2 j hj;have hj':j<(dit row).length:=by omega
   have ex:((dit row).map λx=>(x,Ax S x)).getD j dN=((dit row).getD j Str.empty,Ax S ((dit row).getD j Str.empty)):=by
    rw[List.getD,Lx,Li hj',List.getD,Li hj'];rfl
   rw[ex] at h1 h2;have hx:(dit row).getD j Str.empty∈row:=Ak.mp (Cp hj');generalize (dit row).getD j Str.empty=x at *;have okF:=Xmu R2.ok hS hx;have h15:=s5 _ _ h1;have h25:=s5 _ _ h2;refine⟨_,_,rfl,SqT.of h15,rfl,_,_,rfl,_,_,rfl,rfl,?_⟩;refine⟨_,rfl,_,rfl,A6 (Ax S x),Ts.map A6,Ef h25,Hk (s5 _ _ hl4) (hT4.same s5),Db _ (Dw okF),Fw _ (Kx okT),by show PyData.depthAll ((Ax S x).map PyData.str)+1<=3;rw[F2];decide,_,rfl,?_⟩;rw[isin okT okF];cases e:Ae row (Ax S x) with
   | true=>
    rw[Pd ((hPL _).mpr e)];refine Di ⟨_,rfl,_,rfl,by show 2<=sizeLine;decide,λt nt=>?_⟩;exact k1 _ t q _ e ⟨_,_,rfl⟩ Ab (ku h25 nt) ((Same.refl H5).step nt)
   | false=>
    rw[Pe (λz=>by rw[(hPL _).mp z] at e;cases e)];exact B5 (k0 _ _ e ⟨_,_,rfl⟩ (Same.refl H5))
  ·intro L us H5 nL s5 hL hus;have e2:(((List.range qs.length).filter λj=>Ae row (Ax S ((dit row).getD j Str.empty))).map λj=>((dit row).getD j Str.empty,Ax S ((dit row).getD j Str.empty)))=nbL row S:=by
    have q:=congrArg (List.map λx=>(x,Ax S x)) (Cw Str.empty (λx=>Ae row (Ax S x)) (dit row));rw[L9] at q;rw[hql];exact q
   rw[e2] at hus;have s25:=(s3.trans s4).trans s5;refine k L us H5 ?_ hL hus ?_ (SH.Ai.same tab2 s25) λb o e n=>s25 _ _ (b2 _ _ (s1 _ _ e) n)
   ·cases q:H L with
    | none=>rfl
    | some o=>
     by_cases z:L=T
     ·have t4:=SH.Ai.same tab2 (s3.trans s4);rcases t4 with t | ⟨_,t,_⟩<;>(rw[<-z,nL] at t;cases t)
     ·rw[(s3.trans s4) _ _ (b2 _ _ (s1 _ _ q) z)] at nL;cases nL
   ·rw[hus.1];unfold nbL;rw[K8];exact L0 (Mw ..) (by omega)
theorem Xnu:FnScope ["row", "one", "other"] ["row", "one", "other"] (Aj s_between):=⟨rfl,rfl,rfl,by decide +kernel,rfl,by decide +kernel,by decide +kernel⟩
theorem Xnv{f C:Addr}{fd:FuncData}(F:Fun K "between" "between" s_between f fd)(FA:Fn P w K mg base (CX1 P w) 5 "ask_plot" ["row", "plot"] (spAskPlot C))(FP:Fn P w K mg base CX0 1 "parting" ["one", "other"] spParting):
  FnOk P w K mg base (CX1 P w) 6 f fd ["row", "one", "other"] (Hi C):=by
 refine F.ok1 Xnu (λvs H Q E h=>?_) (λcdv A outer s H vs Q E hr h=>?_)
 ·obtain⟨r,p,q,row,a,b,rfl,_⟩:=h;rfl
 ·obtain⟨r,p,q,row,a,b,rfl,t,kq,ke⟩:=h;have hr1:Room 1 _:=hr.mono (by decide);refine⟨_,Af (Df (Am FA hr (by rfl) pass1 (Aa (pv 0) (Aa (pv 1) Ac))))
   (Af (Df (Am FA hr (by rfl) pass1 (Aa (pv 0) (Aa (pv 2) Ac))))
   (Al (Au (Am FP hr1 (by rfl) Ap (Aa (pv 1) (Aa (pv 2) Ac)))))),?_⟩
  refine⟨_,rfl,_,rfl,r,p,row,a,rfl,t.hr,t.r2,t.hp,t.oa,t.la,λe1 H1 s1=>?_,λe1 H1 s1=>ke (λz=>by rw[e1] at z;cases z.1) H1 s1⟩;refine⟨_,rfl,_,rfl,r,q,row,b,rfl,s1 _ _ t.hr,t.r2,s1 _ _ t.hq,t.ob,t.lb,λe2 H2 s2=>?_,λe2 H2 s2=>ke (λz=>by rw[e2] at z;cases z.2) H2 (s1.trans s2)⟩;have s12:=s1.trans s2;have l1:=He e1;have l2:=He e2;have:=t.hd;exact⟨_,rfl,_,rfl,p,q,a,b,rfl,s12 _ _ t.hp,s12 _ _ t.hq,Eh e1,Eh e2,by omega,by omega,λl H3 nl hl s3=>kq ⟨e1,e2⟩ l H3 (s12.free nl) hl (s12.trans s3)⟩
theorem Xnw:FnScope ["row", "one", "other"] ["row", "one", "other"] (Aj s_far):=⟨rfl,rfl,rfl,by decide +kernel,rfl,by decide +kernel,by decide +kernel⟩
theorem Xnx{f C:Addr}{fd:FuncData}(F:Fun K "far" "far" s_far f fd)(T:Bl mg)(FB:Fn P w K mg base (CX1 P w) 6 "between" ["row", "one", "other"] (Hi C)):
  FnOk P w K mg base (CX1 P w) 7 f fd ["row", "one", "other"] (spFar C):=by
 refine F.ok1 Xnw (λvs H Q E h=>?_) (λcdv A outer s H vs Q E hr h=>?_)
 ·obtain⟨r,p,q,row,a,b,rfl,_⟩:=h;rfl
 ·obtain⟨r,p,q,row,a,b,rfl,t,kq,ke⟩:=h;refine⟨_,Al (Au (Be Bv (by rfl) T.len boot_len (Aa (Am FB hr (by rfl) pass1 (Aa (pv 0) (Aa (pv 1) (Aa (pv 2) Ac)))) Ac))),?_⟩;refine⟨_,rfl,_,rfl,_,rfl,r,p,q,row,a,b,rfl,t,λe l H1 nl hl s1=>?_,ke⟩;refine⟨l,_,rfl,.inl (SqL.of hl),?_⟩;rw[K8];exact kq e H1 s1
theorem K5:FnScope NP ["_law_draw", "_law_many"] (Aj sPick):=⟨rfl,rfl,rfl,by decide +kernel,rfl,by decide +kernel,by decide +kernel⟩
theorem Xny{f:Addr}{fd:FuncData}(F:Fun K "_law_pick" "_law_pick" sPick f fd)(T:Bl mg):FnOk P w K mg base CX0 1 f fd ["_law_draw", "_law_many"] Xcv:=by
 refine F.ok K5 (λvs H Q E h=>?_) (λcdv A outer s H vs Q E hr h=>?_)
 ·obtain⟨dr,sc,n,rfl,_⟩:=h;rfl
 ·obtain⟨dr,sc,n,rfl,hn0,hn1,⟨ns,p,c,m,k,hd,hs,hp,hl,hm0,hm1⟩,kk⟩:=h;have nds:dr≠sc:=by
   intro e;subst e;rw[hd] at hs;cases ns with
   | nil=>cases hs
   | cons a r=>cases hs
  refine Xir (fun σ' H'=>∃x y p c m, σ'=[some (.ref dr),some (.int n),x,y]/\H' dr=some (.lst [.ref sc,.int (p:Nat),.int c,.int m,.int k])/\p<=ns.length/\0<=m/\m<1000000007/\∀b o,H b=some o->b≠dr->H' b=some o) ?_ ?_
  ·-- the rest
   refine⟨_,Af (Bj (Bb Xap (Ay Bg (pv 0) Ah (λ_ _=>rfl)) (pv 1) (A8 _))
     (Af (Ar (i:=3) K5.nd rfl (Or.inl rfl) (An D6 (Ay Bg (pv 0) Ah (λ_ _=>rfl)) (pv 1)))
     (Af (Cs (An Ia (Ay Bg (pv 0) Ah (λ_ _=>rfl)) (pv 1)) (D4 (pv 0) Ah D8))
     (Al (Au (pv 3))))) Bn)
    (Af (Cs (An Bt (Ay Bg (pv 0) Ah (λ_ _=>rfl)) Ah) (D4 (pv 0) Ah D8))
    (Af (Cs (An D6 (An Bt (An Bt (An Xal (Ay Bg (pv 0) Ah (λ_ _=>rfl)) Ah) (An Xak Ah (Ay Bg (pv 0) Ah (λ_ _=>rfl)))) Ah) Ah) (D4 (pv 0) Ah D8))
    (Al (Au (An D6 (An Ia (Ay Bg (pv 0) Ah (λ_ _=>rfl)) Ah) (pv 1)))))),?_⟩
   rintro σ' H' ⟨x,y,p,c,m,rfl,hd',hp',hm0',hm1',kp⟩;refine⟨_,rfl,dr,_,_,_,rfl,rfl,SqL.of hd',rfl,_,rfl,_,_,rfl,rfl,_,rfl,?_⟩;refine Bc (λhc=>?_) (λhc=>?_)
   ·-- got
    refine⟨_,rfl,dr,_,_,_,rfl,rfl,SqL.of hd',rfl,_,rfl,_,_,rfl,rfl,hn0,?_⟩;refine⟨_,rfl,dr,_,_,_,rfl,rfl,SqL.of hd',rfl,_,rfl,_,_,rfl,rfl,⟨hn0,by omega⟩,?_⟩;refine⟨_,rfl,dr,_,_,2,rfl,rfl,hd',rfl,?_⟩;refine⟨_,rfl,?_⟩;refine kk _ _ (Ob _ (by omega)) (Nw _ hn0) ⟨⟨ns,p,c / n,m,k,Ab,?_,hp',hl,hm0',hm1'⟩⟩ λb o e hb=>by rw[Ad hb];exact kp b o e hb
    rw[Ad nds.symm];exact kp _ _ hs nds.symm
   ·refine⟨_,rfl,dr,_,_,_,rfl,rfl,SqL.of hd',rfl,_,_,rfl,rfl,?_⟩;refine⟨_,rfl,dr,_,_,4,rfl,rfl,hd',rfl,?_⟩;refine⟨_,rfl,dr,_,_,_,rfl,rfl,SqL.of Ab,rfl,_,_,rfl,rfl,cpow3 hm0' hm1',?_⟩;refine⟨_,rfl,dr,_,_,_,rfl,rfl,SqL.of Ab,rfl,_,_,rfl,rfl,.inl ⟨by decide,by decide⟩,_,_,rfl,rfl,_,_,rfl,rfl,_,_,rfl,rfl,(by show (0:Int)<1000000007;decide),?_⟩;refine⟨_,rfl,dr,_,_,3,rfl,rfl,Ab,rfl,?_⟩;refine⟨_,rfl,dr,_,_,_,rfl,rfl,SqL.of Ab,rfl,_,_,rfl,rfl,⟨by decide,by decide⟩,_,rfl,_,_,rfl,rfl,hn0,?_⟩;refine kk _ _ (Ob _ (by omega)) (Nw _ hn0) ⟨⟨ns,p,c,_,k+1,Ab,?_,hp',hl,Ob _ (by decide),Nw _ (by decide)⟩⟩ λb o e hb=>by rw[Ad hb,Ad hb];exact kp b o e hb
    rw[Ad nds.symm,Ad nds.symm];exact kp _ _ hs nds.symm
  ·intro nx hnx;refine⟨_,Bj (Gb (Bb Cb (Ay Bg (pv 0) Ah (λ_ _=>rfl)) (pv 1) (A8 _)) (Ga (Bb Cb (Ay Bg (pv 0) Ah (λ_ _=>rfl)) (Be Bv (by rfl) T.len boot_len (Aa (Ay Bg (pv 0) Ah (λ_ _=>rfl)) Ac)) (A8 _)))).pt
     (Af (Ar (i:=2) K5.nd rfl (Or.inl rfl) (Ay Bg (Ay Bg (pv 0) Ah (λ_ _=>rfl)) (Ay Bg (pv 0) Ah (λ_ _=>rfl)) (λ_ _=>rfl)))
     (Af (Cs (An Bt (Ay Bg (pv 0) Ah (λ_ _=>rfl)) Ah) (D4 (pv 0) Ah D8))
     (Af (Cs Ah (D4 (pv 0) Ah D8))
     (Al (Bj (Bb Xap (pv 2) (An Xal Ah Ah) (A8 _))
      (Al (Cs (pv 2) (D4 (pv 0) Ah D8)))
      (Al (Cs (An D6 (An Bt (Ay Bg (pv 0) Ah (λ_ _=>rfl)) (pv 2)) Ah) (D4 (pv 0) Ah D8)))))))) Bn,?_⟩
   refine⟨_,rfl,dr,_,_,_,rfl,rfl,SqL.of hd,rfl,_,rfl,_,_,rfl,rfl,_,rfl,?_⟩;have skip:nx [some (.ref dr),some (.int n),none,none] H:=hnx _ _ ⟨none,none,p,c,m,rfl,hd,hp,hm0,hm1,λb o e _=>e⟩;refine Bc (λ_=>?_) (λ_=>B5 skip);refine⟨_,rfl,dr,_,_,_,rfl,rfl,SqL.of hd,rfl,_,rfl,dr,_,_,_,rfl,rfl,SqL.of hd,rfl,sc,_,rfl,.inl (SqL.of hs),_,_,rfl,rfl,_,rfl,?_⟩;refine Bc (λhlt=>?_) (λ_=>skip);have hlt':(p:Int)<((ns.map V.int).length:Nat):=Pf hlt;rw[K8] at hlt';have hpl:p<ns.length:=by omega
   have hat:(ns.map V.int)[p]? = some (.int (ns[p]'hpl)):=by rw[Lx,Li hpl];rfl
   refine⟨_,rfl,dr,_,_,_,rfl,rfl,SqL.of hd,rfl,_,rfl,dr,_,_,_,rfl,rfl,SqL.of hd,rfl,sc,_,_,_,rfl,rfl,SqL.of hs,En hat,?_⟩;refine⟨_,rfl,dr,_,_,_,rfl,rfl,SqL.of hd,rfl,_,_,rfl,rfl,?_⟩;refine⟨_,rfl,dr,_,_,1,rfl,rfl,hd,rfl,?_⟩;refine⟨_,rfl,dr,_,_,2,rfl,rfl,Ab,rfl,?_⟩;refine⟨_,rfl,_,_,rfl,rfl,⟨by decide,by decide,by decide⟩,_,_,rfl,rfl,_,rfl,?_⟩;refine Bc (λ_=>?_) (λ_=>?_)
   ·refine⟨_,rfl,_,rfl,dr,_,_,2,rfl,rfl,Ab,rfl,?_⟩;refine hnx _ _ ⟨_,none,p+1,_,m,rfl,Ab,hpl,hm0,hm1,λb o e hb=>by rw[Ad hb,Ad hb,Ad hb];exact e⟩
   ·refine⟨_,rfl,dr,_,_,_,rfl,rfl,SqL.of Ab,rfl,_,rfl,_,_,rfl,rfl,_,_,rfl,rfl,(by show (0:Int)<1000000007;decide),?_⟩;refine⟨_,rfl,dr,_,_,3,rfl,rfl,Ab,rfl,?_⟩;refine hnx _ _ ⟨_,none,p+1,_,_,rfl,Ab,hpl,Ob _ (by decide),Nw _ (by decide),λb o e hb=>by rw[Ad hb,Ad hb,Ad hb];exact e⟩
theorem Xnz:FnScope ["_law_script"] ["_law_script"] (Aj sBegin):=⟨rfl,rfl,rfl,by decide +kernel,rfl,by decide +kernel,by decide +kernel⟩
theorem Xn0{f:Addr}{fd:FuncData}(F:Fun K "_law_begin" "_law_begin" sBegin f fd)(T:Bl mg):FnOk P w K mg base CX0 1 f fd ["_law_script"] (Ju K):=by
 refine F.ok Xnz (λvs H Q E h=>?_) (λcdv A outer s H vs Q E hr h=>?_)
 ·obtain⟨a,ns,rfl,_⟩:=h;rfl
 ·obtain⟨a,ns,rfl,hS,hl,k⟩:=h;refine⟨_,Al (Au (Bu (Aa (C3 Xgo rfl T.list boot_list (Aa (C4 C5 (pv 0) Dg (Cu Ah)) Ac)) (Aa Ah (Aa Ah (Aa Ah (Aa Ah Ac))))))),?_⟩;refine⟨_,rfl,_,rfl,a,_,rfl,hS,λp hp=>?_⟩;have cut:B3 (ns.map V.int) none (some 63)=ns.map V.int:=by
   unfold B3;rw[HT.sIx_none,List.drop_zero,show (some (63:Int))=some ((63:Nat):Int) from rfl,HT.sIx_nat];exact Oc (by rw[K8];omega)
  rw[cut];refine⟨p,_,rfl,.inl (SqL.of Ab),λq hq=>?_⟩;refine⟨by show 5<=sizeLine;decide,λdr hdr=>?_⟩;have npq:p≠q:=Aq (o:=.lst (ns.map V.int)) Ab hq;have nqd:q≠dr:=Aq (o:=.lst (ns.map V.int)) Ab hdr;have hqH:H q=none:=by rw[Ad npq.symm] at hq;exact hq
  have hpd:p≠dr:=Aq (H:=upd (upd H p (.lst (ns.map V.int))) q (.lst (ns.map V.int))) (o:=.lst (ns.map V.int)) (by rw[Ad npq,Ab]) hdr;have hdH:H dr=none:=by rw[Ad nqd.symm,Ad hpd.symm] at hdr;exact hdr
  refine k dr q _ hdH hqH ⟨⟨ns,0,0,1,0,Ab,by rw[Ad nqd,Ab],L6 _,hl,by decide,by decide⟩⟩ ((((Same.refl H).upd hp).upd hqH).upd hdH)
theorem Xe8:FnScope NPut ["_law_row_here", "_law_name", "_law_at", "_law_to"] (Aj sPut):=⟨rfl,rfl,rfl,by decide +kernel,rfl,by decide +kernel,by decide +kernel⟩
theorem Xn1{f:Addr}{fd:FuncData}(F:Fun K "_law_put" "_law_put" sPut f fd):FnOk P w K mg base CX0 1 f fd ["_law_row_here", "_law_name", "_law_at", "_law_to"] Jv:=by
 refine F.ok Xe8 (λvs H Q E h=>?_) (λcdv A outer s H vs Q E hr h=>?_)
 ·obtain⟨r,row,x,a,b,rfl,_⟩:=h;rfl
 ·obtain⟨r,row,x,a,b,rfl,hR,hl,hab,hb,k⟩:=h;refine⟨_,Af (Ar (i:=4) Xe8.nd rfl (Or.inl rfl) (An Cf (An Cf (C4 C5 (pv 0) Dg (Cu (pv 2))) (Bu (Aa (pv 1) Ac))) (C4 C5 (pv 0) (Cu (pv 2)) (Cu (pv 3)))))
   (Al (Au (An Cf (An Cf (pv 4) (Bu (Aa (pv 1) Ac))) (C4 C5 (pv 0) (Cu (pv 3)) Dg)))),?_⟩
  have h24:∀n,n<=100000->n<=sizeLine:=λn h=>by rw[Pa];omega
  refine⟨_,rfl,_,rfl,_,rfl,r,_,rfl,SqL.of hR,λp1 n1=>?_⟩;rw[Ji _ _ _ (by omega)];refine⟨_,rfl,by show 1<=sizeLine;decide,λp2 n2=>?_⟩;refine⟨p1,p2,_,_,rfl,rfl,ku Ab n2,Ab,h24 _ (by simp;omega),λp3 n3=>?_⟩;refine⟨_,rfl,_,rfl,_,rfl,_,rfl,_,rfl,r,_,rfl,SqL.of (ku (ku (ku hR n1) n2) n3),λp4 n4=>?_⟩;rw[Xis _ _ _ _ hab hb];refine⟨p3,p4,_,_,rfl,rfl,ku Ab n4,Ab,h24 _ (by simp;omega),λp5 n5=>?_⟩;refine⟨_,rfl,_,rfl,by show 1<=sizeLine;decide,λp6 n6=>?_⟩;refine⟨p5,p6,_,_,rfl,rfl,ku Ab n6,Ab,h24 _ (by simp;omega),λp7 n7=>?_⟩;refine⟨_,rfl,_,rfl,_,rfl,r,_,rfl,SqL.of (ku (ku (ku (ku (ku (ku (ku hR n1) n2) n3) n4) n5) n6) n7),λp8 n8=>?_⟩;rw[Gx _ _ _ hb];refine⟨p7,p8,_,_,rfl,rfl,ku Ab n8,Ab,h24 _ (by simp;omega),λp9 n9=>?_⟩;have s8:=((((((((Same.refl H).go n1 n2).go n2 n3).go n3 n4).go n4 n5).go n5 n6).go n6 n7).go n7 n8).go n8 n9;refine k p9 _ (s8.free n9) (Ab.trans ?_) (s8.step n9);unfold Du;simp
theorem K6:FnScope NWh ["_law_row_here"] (Aj sWhere):=⟨rfl,rfl,rfl,by decide +kernel,rfl,by decide +kernel,by decide +kernel⟩
theorem Xn2{f:Addr}{fd:FuncData}(F:Fun K "_law_where" "_law_where" sWhere f fd)(T:Bl mg):FnOk P w K mg base CX0 1 f fd ["_law_row_here"] Jy:=by
 refine F.ok K6 (λvs H Q E h=>?_) (λcdv A outer s H vs Q E hr h=>?_)
 ·obtain⟨r,row,rfl,_⟩:=h;rfl
 ·obtain⟨r,row,rfl,hR,hl,k⟩:=h;have hu:=D9 hr;refine⟨_,Af (Ar (i:=1) K6.nd rfl (Or.inl rfl) Xg1)
   (Af (C2 PassesOwn.never rfl (Fa rfl T.range (Aa (Be Bv (by rfl) T.len boot_len (Aa (pv 0) Ac)) Ac)) (Aw (i:=2) K6.nd rfl (Or.inl rfl))
    (Al (Xgz hu (pv 1) (Ay Bg (pv 0) (pv 2) (λ_ _=>rfl))
     (An Cf (Xg6 hu (pv 1) (Ay Bg (pv 0) (pv 2) (λ_ _=>rfl)) (Bu Ac) ⟨rfl,rfl,rfl,rfl⟩) (Bu (Aa (pv 2) Ac))) rfl)))
   (Al (Au (pv 1)))),?_⟩
  intro d nd;have s0:Same H (upd H d (.dK [])):=(Same.refl H).step nd;refine⟨_,rfl,r,_,rfl,.inl (SqL.of (s0 _ _ hR)),((row.map V.str).length:Int),rfl,by omega,by rw[K8];omega,?_⟩;have hn:((row.map V.str).length:Int).toNat=row.length:=by rw[K8];simp
  rw[hn];refine Fc (lo:=0) (n:=row.length) (λi σ H2=>∃kvs v, σ=[some (.ref r),some (.ref d),v]/\Same H H2/\H2 d=some (.dK kvs)/\Wh H2 kvs (row.take i)) ?_ ?_ ?_
  ·exact⟨[],none,rfl,s0,Ab,⟨λk hk=>by simp at hk,λx hx=>by simp at hx,λ_ _=>rfl,by simp,by simp⟩⟩
  ·rintro i σ H2 hi ⟨kvs,v,rfl,s2,hd,wh⟩;have hat:(row.map V.str)[i]? = some (.str (row[i]'hi)):=by rw[Lx,Li hi];rfl
   have hat':atI (row.map V.str) (0+(i:Int))=some (.str (row[i]'hi)):=by rw[O7];exact En hat
   have tk:row.take (i+1)=row.take i++[row[i]'hi]:=by rw[Lu hi]
   have kl:=wh.len;rw[Mf] at kl;have ll:(plc (row.take i) (row[i]'hi)).length<=1000:=by
    rw[Jw];have:=List.count_le_length (a:=row[i]'hi) (l:=row.take i);rw[Mf] at this;omega
   have h24:∀n,n<=100000->n<=sizeLine:=λn h=>by rw[Pa];omega
   refine⟨_,rfl,d,rfl,.inl ⟨kvs,.inl hd⟩,_,rfl,_,rfl,r,_,_,_,rfl,rfl,SqL.of (s2 _ _ hR),hat',by show 0<=sizeLine;decide,λp1 n1=>?_⟩;refine⟨_,DGet.k (k:=Sum.inr (row[i]'hi)) (ku hd n1),?_⟩;obtain⟨q,xs,e1,hq,hxs⟩:∃q xs,(Ao kvs (Sum.inr (row[i]'hi):Key)).getD (V.ref p1)=V.ref q/\upd H2 p1 (.lst []) q=some (.lst (xs.map V.int))/\plc (row.take i) (row[i]'hi)=xs:=by
    by_cases hx:row[i]'hi∈row.take i
    ·obtain⟨l,e1,e2⟩:=wh.val _ hx;exact⟨l,_,by rw[e1];rfl,ku e2 n1,rfl⟩
    ·refine⟨p1,[],by rw[wh.none _ hx];rfl,Ab,?_⟩;have:(plc (row.take i) (row[i]'hi)).length=0:=by rw[Jw];exact Nh.mpr hx
     exact Mc.mp this
   have hlx:xs.length<=1000:=by rw[<-hxs];exact ll
   rw[e1];refine⟨_,rfl,by show 1<=sizeLine;decide,λp2 n2=>?_⟩;refine⟨q,p2,_,_,rfl,rfl,ku hq n2,Ab,h24 _ (by simp;omega),λp3 n3=>?_⟩;refine⟨_,rfl,_,rfl,_,rfl,r,_,_,_,rfl,rfl,SqL.of (ku (ku (ku (s2 _ _ hR) n1) n2) n3),hat',?_⟩;have hd2:=ku (u:=.lst [V.int (0+(i:Int))]) (ku (u:=.lst []) hd n1) n2;have hd3:=ku (u:=.lst (xs.map V.int++[V.int (0+(i:Int))])) hd2 n3;refine⟨d,_,rfl,DPut.k (k:=Sum.inr (row[i]'hi)) hd3 (by rw[Pa];omega),_,_,rfl,?_,Ab,?_⟩
   ·have s3:=((s2.go n1 n2).go n2 n3).step (o:=.lst (xs.map V.int++[V.int (0+(i:Int))])) n3;exact s3.upd nd
   ·rw[tk];refine wh.snoc _ p3 ?_ λb ys e=>?_
    ·have ne:p3≠d:=(Aq hd2 n3).symm;rw[Ad ne,Ab,Jx,Pc rfl,hxs,Lo,Mf,Nz (Nx hi)];simp
    ·have ne:b≠d:=λz=>by rw[z,hd] at e;cases e
     rw[Ad ne];exact ku (ku (ku e n1) n2) n3
  ·rintro σ H2 ⟨kvs,v,rfl,s2,hd,wh⟩;rw[Mq] at wh;exact⟨_,rfl,k d kvs H2 nd hd wh s2⟩
theorem Hn:FnScope NWo ["_law_where_here", "_law_one_here", "_law_other"] (Aj sWord):=⟨rfl,rfl,rfl,by decide +kernel,rfl,by decide +kernel,by decide +kernel⟩
theorem Xn3{f:Addr}{fd:FuncData}(F:Fun K "_law_word" "_law_word" sWord f fd)(T:Bl mg):FnOk P w K mg base CX0 1 f fd ["_law_where_here", "_law_one_here", "_law_other"] spWord:=by
 refine F.ok Hn (λvs H Q E h=>?_) (λcdv A outer s H vs Q E hr h=>?_)
 ·obtain⟨d,l1,l2,kvs,x,y,a,b,c,e,rfl,_⟩:=h;rfl
 ·obtain⟨d,l1,l2,kvs,x,y,a,b,c,e,rfl,hd,v1,v2,h1,h2,k⟩:=h;have hu:=D9 hr;refine⟨_,Af (Cs (B1 hu (pv 0) (pv 1) (λ_ _=>rfl)) (Xhk rfl (Bx (Aw (i:=3) Hn.nd rfl (Or.inr rfl)) (Bx (Aw (i:=4) Hn.nd rfl (Or.inr rfl)) D3))))
   (Af (G0 (i:=5) (N:=["_law_at", "_law_high", "_law_low"]) (cap:=[none,some 4,some 3]) (CompScope.of (Aj sWord) NWo rfl rfl rfl (by decide +kernel)) rfl Hn.nd rfl rfl
     (Ca (B1 hu (pv 0) (pv 2) (λ_ _=>rfl))) (λ_ _ _=>Aw (i:=0) (show (["_law_at", "_law_high", "_law_low"]:List Str).Nodup by decide +kernel) rfl (Or.inl rfl) (Or.inr rfl))
     (λ_ _ _=>Ev (Gb (Bb Cb (pv 2) (pv 0) (A8 _)) (Ga (Bb Cb (pv 0) (pv 1) (A8 _)))).pt) (λ_ _ _=>pv 0))
   (Af (Bj (Hs (Bb Ck (pv 1) (pv 2) (A8 _)) (Hr (Bb Xf3 (Be Bv (by rfl) T.len boot_len (Aa (pv 5) Ac)) Ah (A8 _)))).pt
    (Al (Au (Ay Io (Cd (Aa Bi (Aa Bi (Aa Bi Ac)))) (Be Bv (by rfl) T.len boot_len (Aa (pv 5) Ac)) (λ_ _=>rfl)))) Bn)
   (Al (Au (Ht (Gb (Bb Cb (Ay Bg (B1 hu (pv 0) (pv 2) (λ_ _=>rfl)) Ah (λ_ _=>rfl)) (pv 3) (A8 _)) (Ga (Bb Cb (pv 4) (Ay Bg (B1 hu (pv 0) (pv 2) (λ_ _=>rfl)) Ah (λ_ _=>rfl)) (A8 _)))).pt Bi Bi))))),?_⟩
  refine⟨_,rfl,_,rfl,d,_,rfl,DGet.rd hd v1,l1,_,rfl,SqL.of h1,rfl,?_⟩;refine⟨_,_,rfl,_,_,rfl,rfl,?_⟩;refine⟨_,rfl,_,rfl,d,_,rfl,DGet.rd hd v2,l2,rfl,⟨_,SqL.of h2⟩,?_⟩;refine Fj (n:=2) (λi=>([V.int c,V.int e]:List V).getD i .non) (λD i σ2 H2=>∃v, σ2=[v,some (.int b),some (.int a)]/\Same H H2/\H2 D=some (.lst ((inn a b (([c,e]:List Int).take i)).map V.int))) ?_ ?_ ?_ ?_ ?_
  ·intro D hD;exact⟨none,rfl,(Same.refl H).step hD,Ab⟩
  ·rintro D i σ2 H2 hD hi ⟨v,rfl,s2,hl⟩;exact Dk (SqL.of (s2 _ _ h2)) hi
  ·rintro D σ2 H2 hD ⟨v,rfl,s2,hl⟩;exact Dl (SqL.of (s2 _ _ h2))
  ·rintro D i σ2 H2 hD hi ⟨v,rfl,s2,hl⟩;obtain⟨t,ht1,ht2⟩:∃t,([V.int c,V.int e]:List V).getD i .non = .int t/\([c,e]:List Int).take (i+1)=([c,e]:List Int).take i++[t]:=by
    match i,hi with
    | 0,_=>exact⟨c,rfl,rfl⟩
    | 1,_=>exact⟨e,rfl,rfl⟩
   rw[ht1];have hil:(inn a b (([c,e]:List Int).take i)).length<=2:=L0 (Jz ..) (by rw[Mf];simp;omega);refine⟨_,rfl,_,rfl,_,_,rfl,rfl,_,rfl,?_⟩;refine Bc (λq1=>?_) (λq1=>B5 (wskip hi ⟨_,rfl,s2,?_⟩))
   ·refine⟨_,rfl,_,rfl,_,_,rfl,rfl,_,rfl,?_⟩;refine Bc (λq2=>?_) (λq2=>wskip hi ⟨_,rfl,s2,?_⟩)
    ·refine⟨_,rfl,wput hi hl (by rw[K8,Pa];omega) ⟨_,rfl,?_,?_⟩⟩
     ·intro b' o e';rw[Ad (Aq e' hD)];exact s2 b' o e'
     ·rw[Ab,ht2];unfold inn;rw[Ls,Lo,L7,Pc (by rw[q1,q2];rfl)];rfl
    ·rw[hl,ht2];unfold inn;rw[Ls,L7,Pb (by rw[q1,q2];decide)];simp
   ·rw[hl,ht2];unfold inn;rw[Ls,L7,Pb (by rw[q1];simp)];simp
  ·rintro D σ2 H2 hD ⟨v,rfl,s2,hl⟩;have hl':H2 D=some (.lst ((inn a b [c,e]).map V.int)):=hl;have hil:(inn a b [c,e]).length<=2:=Jz ..;have three:∀p,H2 p=none->atI ([V.str "same",V.str "cross",V.str "around"]:List V) (((inn a b [c,e]).map V.int).length:Int)=some (.str (words3.getD (inn a b [c,e]).length "apart")):=λp _=>by
    rw[K8];generalize (inn a b [c,e]).length=n at hil
    match n,hil with
    | 0,_=>rfl
    | 1,_=>rfl
    | 2,_=>rfl
   have ret3:(decide (x=y)||decide (0<(inn a b [c,e]).length))=true->∀p,H2 p=none->∀H',Same H H'->Q (.str (words3.getD (inn a b [c,e]).length "apart")) H':=λhc p _ H' s'=>by
    have:=k H' s';unfold Cz at this;rw[Pc hc] at this;exact this
   refine⟨_,rfl,_,rfl,rfl,_,rfl,?_⟩;refine Bc (λq1=>?_) (λq1=>?_)
   ·refine Di ⟨by show 3<=sizeLine;decide,λp hp=>?_⟩;refine⟨_,rfl,D,_,rfl,.inl (SqL.of (ku hl' hp)),p,_,_,_,rfl,rfl,SqT.of Ab,three p hp,?_⟩;refine ret3 ?_ p hp _ (s2.step hp);have q1':decide (x=y)=true:=by
     have:=Pf q1;injection this with this
     exact Pd this
    rw[q1'];rfl
   ·refine⟨_,rfl,D,_,rfl,.inl (SqL.of hl'),_,_,rfl,rfl,_,rfl,?_⟩;have q1':decide (x=y)=false:=by
     have:=Pg q1;exact Pe λz=>this (by rw[z])
    refine Bc (λq2=>?_) (λq2=>?_)
    ·have q2':0<(inn a b [c,e]).length:=by
      have:=Pf q2;rw[K8] at this;omega
     refine⟨by show 3<=sizeLine;decide,λp hp=>?_⟩;refine⟨_,rfl,D,_,rfl,.inl (SqL.of (ku hl' hp)),p,_,_,_,rfl,rfl,SqT.of Ab,three p hp,?_⟩;exact ret3 (by rw[Pd q2',Bool.or_true]) p hp _ (s2.step hp)
    ·have q2':¬ 0<(inn a b [c,e]).length:=by
      have:=Pg q2;rw[K8] at this;omega
     have last:∀z:Str,(if c<a/\b<e then ("within" : Str) else "apart")=z->Q (.str z) H2:=λz hz=>by
      have:=k H2 s2;unfold Cz at this;rw[Pb (by rw[q1',Pe q2'];decide),hz] at this;exact this
     refine⟨_,rfl,_,rfl,d,_,rfl,DGet.rd (Rd.same hd s2) v2,l2,_,_,_,rfl,rfl,SqL.of (s2 _ _ h2),rfl,_,rfl,_,_,rfl,rfl,_,rfl,?_⟩;refine Bc (λq3=>?_) (λq3=>?_)
     ·refine⟨_,rfl,_,rfl,_,rfl,d,_,rfl,DGet.rd (Rd.same hd s2) v2,l2,_,_,_,rfl,rfl,SqL.of (s2 _ _ h2),rfl,_,_,rfl,rfl,_,rfl,?_⟩;refine Bc (λq4=>?_) (λq4=>?_)
      ·exact last _ (Pc ⟨Pf q3,Pf q4⟩)
      ·exact last _ (Pb λz=>Pg q4 z.2)
     ·exact B5 (last _ (Pb λz=>Pg q3 z.1))
theorem F9:FnScope NBa ["_law_row_here", "_law_name"] (Aj sBarred):=⟨rfl,rfl,rfl,by decide +kernel,rfl,by decide +kernel,by decide +kernel⟩
theorem Xn4{f:Addr}{fd:FuncData}(F:Fun K "_law_barred" "_law_barred" sBarred f fd)(T:Bl mg)(FW:Fn P w K mg base CX0 1 "_law_where" ["_law_row_here"] Jy)
  (FO:Fn P w K mg base CX0 1 "_law_word" ["_law_where_here", "_law_one_here", "_law_other"] spWord):FnOk P w K mg base CX0 2 f fd ["_law_row_here", "_law_name"] spBarredN:=by
 refine F.ok F9 (λvs H Q E h=>?_) (λcdv A outer s H vs Q E hr h=>?_)
 ·obtain⟨r,row,x,rfl,_⟩:=h;rfl
 ·obtain⟨r,row,x,rfl,hR,hl,h2,hx,k⟩:=h;have hu:=D9 hr;refine⟨_,Af (Ar (i:=2) F9.nd rfl (Or.inr rfl) (Am FW hr rfl Ap (Aa (pv 0) Ac)))
   (Af (G0 (i:=3) (N:=NBc) (cap:=[none,some 1,some 2]) (CompScope.of (Aj sBarred) NBa rfl rfl rfl (by decide +kernel)) rfl F9.nd rfl rfl
     (Xhq (pv 2)) (λ_ _ _=>Aw (i:=0) (show NBc.Nodup by decide +kernel) rfl (Or.inl rfl) (Or.inr rfl))
     (λ_ _ _=>Ev (Bb Ck (Am FO hr rfl Ap (Aa (pv 2) (Aa (pv 1) (Aa (pv 0) Ac)))) Bi (A8 _))) (λ_ _ _=>pv 0))
   (Af (C2 PassesOwn.never rfl (Fa rfl T.range (Aa (Be Bv (by rfl) T.len boot_len (Aa (pv 3) Ac)) Ac)) (Aw (i:=4) F9.nd rfl (Or.inl rfl))
    (Al (C2 PassesOwn.never rfl (Ca (C4 C5 (pv 3) (Cu (An Bt (pv 4) Ah)) Dg)) (Aw (i:=5) F9.nd rfl (Or.inl rfl))
     (Al (Bj (Bb Ck (Am FO hr rfl Ap (Aa (pv 2) (Aa (Ay Bg (pv 3) (pv 4) (λ_ _=>rfl)) (Aa (pv 5) Ac)))) Bi (A8 _)) (Al (Au E8)) Bn)))))
   (Al (Au E8)))),?_⟩
  refine⟨_,rfl,r,row,rfl,hR,hl,λd kvs H1 nd hd wh s1=>?_⟩;refine⟨_,rfl,d,kvs,rfl,hd,λo=>?_⟩;generalize hH2:upd H1 d (.frz o (.dK kvs))=H2;have s2:Same H H2:=λb u e=>by rw[<-hH2,Ad (Aq e nd)];exact s1 b u e
  have hd2:H2 d=some (.frz o (.dK kvs)):=by rw[<-hH2];exact Ab
  have wh2:Wh H2 kvs row:=⟨wh.keys,λy hy=>let ⟨l,e1,e2⟩:=wh.val y hy; ⟨l,e1,by rw[<-hH2,Ad (λz=>by rw[z,hd] at e2;cases e2)];exact e2⟩,wh.none,wh.nd,wh.len⟩;have hkl:=wh.len;refine Fj (n:=kvs.length) (λi=>(kvs.map λp=>kV p.1).getD i .non) (λD i σ2 H3=>∃(v:Option V) (ms:List Str), σ2=[v,some (.str x),some (.ref d)]/\Same H2 H3/\H3 D=some (.lst (ms.map V.str))/\(∀m∈ms,m∈row)/\ms.length<=i/\∀(j:Nat) (y:Str),j<i->(kvs.map λp=>kV p.1).getD j .non = .str y->Av row x y->y∈ms) ?_ ?_ ?_ ?_ ?_
  ·intro D hD;exact⟨none,[],rfl,(Same.refl H2).step hD,Ab,by simp,K9 _,λj y h=>absurd h (Mv _)⟩
  ·rintro D i σ2 H3 hD hi ⟨v,ms,rfl,s3,hm,hin,hml,hall⟩;exact Fk (s3 _ _ hd2) hi
  ·rintro D σ2 H3 hD ⟨v,ms,rfl,s3,hm,hin,hml,hall⟩;exact Fl (s3 _ _ hd2)
  ·rintro D i σ2 H3 hD hi ⟨v,ms,rfl,s3,hm,hin,hml,hall⟩;obtain⟨y,hy1,hy2⟩:∃y,(kvs.map λp=>kV p.1).getD i .non = .str y/\y∈row:=by
    obtain⟨y,e1,e2⟩:=wh.keys (kvs[i]'hi).1 (Lw.mpr ⟨kvs[i]'hi,L8 hi,rfl⟩);refine⟨y,?_,e2⟩;simp only[List.getD,Lx,Li hi,Nm,Option.getD_some];rw[e1];rfl
   rw[hy1];obtain⟨l1,e1,g1⟩:=wh2.pl hx (h2 x hx);obtain⟨l2,e2,g2⟩:=wh2.pl hy2 (h2 y hy2);refine⟨_,rfl,_,rfl,_,rfl,d,l1,l2,kvs,x,y,_,_,_,_,rfl,.inr ⟨o,s3 _ _ hd2⟩,e1,e2,s3 _ _ g1,s3 _ _ g2,λH4 s4=>?_⟩;have s24:=s3.trans s4;refine⟨rfl,_,rfl,?_⟩;rw[<-Fz (h2 x hx) (h2 y hy2)];refine Bc (λhc=>?_) (λhc=>wskip hi ⟨_,ms,rfl,s24,s4 _ _ hm,hin,by omega,λj z hj hz kz=>?_⟩);rotate_left
   ·by_cases ej:j=i
    ·subst ej;rw[hy1] at hz;injection hz with hz
     subst hz;exact absurd (by rw[show lieR row x y = "cross" from kz]) (Xdc hc)
    ·exact hall j z (by omega) hz kz
   refine⟨_,rfl,wput hi (s4 _ _ hm) (by rw[K8,Pa];omega) ⟨_,ms++[y],rfl,?_,by rw[Ab,Lo];rfl,?_,by rw[Lj,Ml];omega,λj z hj hz kz=>?_⟩⟩
   ·intro b u e;rw[Ad (Aq e hD)];exact s24 b u e
   ·intro m hm;rcases Ll.mp hm with z | z
    ·exact hin m z
    ·rw[Lf.mp z];exact hy2
   ·by_cases ej:j=i
    ·subst ej;rw[hy1] at hz;injection hz with hz
     subst hz;simp
    ·exact Mz _ (hall j z (by omega) hz kz)
  ·rintro D σ2 H3 hD ⟨v,ms,rfl,s3,hm,hin,hml,hall⟩;refine⟨_,rfl,D,_,rfl,.inl (SqL.of hm),((ms.map V.str).length:Int),rfl,by omega,by rw[K8];omega,?_⟩;have hn:((ms.map V.str).length:Int).toNat=ms.length:=by rw[K8];simp
   rw[hn];refine Fc (lo:=0) (n:=ms.length) (λi σ H4=>∃v1 v2, σ=[some (.ref r),some (.str x),some (.ref d),some (.ref D),v1,v2]/\Same H3 H4/\∀(p q:Nat) (y z:Str),p<i->p<q->ms[p]? = some y->ms[q]? = some z->¬Av row y z) ?_ ?_ ?_
   ·exact⟨none,none,rfl,Same.refl _,λp q y z h=>absurd h (Mv _)⟩
   ·rintro i σ H4 hi ⟨v1,v2,rfl,s4,ho⟩;refine⟨_,rfl,_,rfl,_,_,rfl,rfl,_,rfl,D,_,rfl,SqL.of (s4 _ _ hm),λp np=>?_⟩;have e0:(0:Int)+(i:Int)+1=((i+1:Nat):Int):=by omega
    rw[e0,Gx _ _ _ (by omega)];have s5:Same H3 (upd H4 p (.lst ((ms.drop (i+1)).map V.str))):=s4.step np;refine⟨p,rfl,⟨_,SqL.of Ab⟩,?_⟩;refine Gf (K:=K) (a:=p) (xs:=(ms.drop (i+1)).map V.str) (λj σ H5=>∃v2, σ=[some (.ref r),some (.str x),some (.ref d),some (.ref D),some (.int (0+(i:Int))),v2]/\Same (upd H4 p (.lst ((ms.drop (i+1)).map V.str))) H5/\∀(q:Nat) (z:Str),q<j->ms[i+1+q]? = some z->¬Av row (ms[i]'hi) z) ?_ ?_ ?_ ?_
    ·exact⟨_,rfl,Same.refl _,λq z h=>absurd h (Mv _)⟩
    ·rintro j σ H5 _ ⟨v2,rfl,s6,hi2⟩;exact SqL.of (s6 _ _ Ab)
    ·rintro j y σ H5 hj ⟨v2,rfl,s6,hi2⟩;obtain⟨z,rfl,hz,hzj⟩:∃z,y=V.str z/\z∈ms/\ms[i+1+j]? = some z:=by
      rw[Lx] at hj;cases q:(ms.drop (i+1))[j]? with
      | none=>rw[q] at hj;cases hj
      | some z=>
       rw[q] at hj;exact⟨z,(Ly hj).symm,Oj (N2 q),by rw[<-q,List.getElem?_drop]⟩
     have s36:=s5.trans s6;have hat:(ms.map V.str)[i]? = some (.str (ms[i]'hi)):=by rw[Lx,Li hi];rfl
     have hat':atI (ms.map V.str) (0+(i:Int))=some (.str (ms[i]'hi)):=by rw[O7];exact En hat
     obtain⟨l1,e1,g1⟩:=wh2.pl (hin _ (L8 hi)) (h2 _ (hin _ (L8 hi)));obtain⟨l2,e2,g2⟩:=wh2.pl (hin _ hz) (h2 _ (hin _ hz));have s26:=s3.trans s36;refine⟨_,rfl,_,rfl,_,rfl,D,_,_,_,rfl,rfl,SqL.of (s36 _ _ hm),hat',_,rfl,d,l1,l2,kvs,_,z,_,_,_,_,rfl,.inr ⟨o,s26 _ _ hd2⟩,e1,e2,s26 _ _ g1,s26 _ _ g2,λH6 s7=>?_⟩;refine⟨rfl,_,rfl,?_⟩;rw[<-Fz (h2 _ (hin _ (L8 hi))) (h2 _ (hin _ hz))];refine Bc (λ_=>?_) (λhc=>?_)
     ·exact k true H6 (λe=>by cases e) ((s2.trans s3).trans (s36.trans s7))
     ·refine⟨_,rfl,s6.trans s7,λq u hq hu=>?_⟩;by_cases eq:q=j
      ·subst eq;rw[hzj] at hu;have hu:=Ly hu;subst hu;exact λkz=>absurd (by rw[show lieR row (ms[i]'hi) z = "cross" from kz]) (Xdc hc)
      ·exact hi2 q u (by omega) hu
    ·rintro σ H5 ⟨v2,rfl,s6,hi2⟩;refine⟨_,_,rfl,s5.trans s6,λp q y z hp hpq hy hz=>?_⟩;by_cases ep:p=i
     ·subst ep;rw[Li hi] at hy;rw[<-Ly hy];refine hi2 (q - (p+1)) z ?_ (by rw[show p+1+(q - (p+1))=q by omega];exact hz);have:=(L3.mp hz).1;rw[K8,List.length_drop];omega
     ·exact ho p q y z (by omega) hpq hy hz
   ·rintro σ H4 ⟨v1,v2,rfl,s4,ho⟩;refine k false H4 (λ_ y hy z hz k1 k2 k3=>?_) ((s2.trans s3).trans s4);have mem:∀u∈row,Av row x u->u∈ms:=λu hu ku=>by
     obtain⟨l,e,_⟩:=wh.val u hu;obtain⟨j,hj,ej⟩:=Mt.mp (Gi e);rw[K8] at hj;refine hall j u hj ?_ ku;rw[N4] at ej;simp only[List.getD,Lx,Li hj,Nm,Option.getD_some];rw[ej];rfl
    obtain⟨p,hp,ep⟩:=Mt.mp (mem y hy k1);obtain⟨q,hq,eq⟩:=Mt.mp (mem z hz k2);have ep':ms[p]? = some y:=by rw[Li hp,ep]
    have eq':ms[q]? = some z:=by rw[Li hq,eq]
    rcases Nat.lt_trichotomy p q with h | h | h
    ·exact ho p q y z hp h ep' eq' k3
    ·subst h;rw[ep'] at eq';have e:=Ly eq';subst e;exact Dx (h2 y hy) k3
    ·exact ho q p z y hq h eq' ep' (C0 (h2 y hy) (h2 z hz) k3)
theorem De:FnScope NRo ["_law_draw", "_law_names_here"] (Aj sRow):=⟨rfl,rfl,rfl,by decide +kernel,rfl,by decide +kernel,by decide +kernel⟩
theorem Xn5{f:Addr}{fd:FuncData}(F:Fun K "_law_row" "_law_row" sRow f fd)(T:Bl mg)(FP:FnPick P w K mg base)(FPut:Fn P w K mg base CX0 1 "_law_put" ["_law_row_here", "_law_name", "_law_at", "_law_to"] Jv)
  (FB:Fn P w K mg base CX0 2 "_law_barred" ["_law_row_here", "_law_name"] spBarredN):FnOk P w K mg base CX0 3 f fd ["_law_draw", "_law_names_here"] spRowN:=by
 refine F.ok De (λvs H Q E h=>?_) (λcdv A outer s H vs Q E hr h=>?_)
 ·obtain⟨dr,sc,nl,ns,rfl,_⟩:=h;rfl
 ·obtain⟨dr,sc,nl,ns,rfl,dk,hN,nnd,hnd,hnl,k⟩:=h;have hr1:Room 1 _:=hr.mono (by decide);have h24:∀m,m<=100000->m<=sizeLine:=λm h=>by rw[Pa];omega
  refine⟨_,Af (Bj (Bb Ck (Am FP hr1 rfl Ap (Aa (pv 0) (Aa Ah Ac))) Ah (A8 _))
    (Af (Ar (i:=2) De.nd rfl (Or.inl rfl) (Am FP hr1 rfl Ap (Aa (pv 0) (Aa (An Bt (Be Bv (by rfl) T.len boot_len (Aa (pv 1) Ac)) Ah) Ac))))
    (Al (Au (An Cf (An Cf (pv 1) (Xbm (C4 C5 (pv 1) Dg (Cu (pv 2))))) (Xbm (C4 C5 (pv 1) (Cu (pv 2)) Dg)))))) Bn)
   (Af (Ar (i:=3) De.nd rfl (Or.inl rfl) (Bu Ac))
   (Af (C2 PassesOwn.never rfl (Ca (pv 1)) (Aw (i:=4) De.nd rfl (Or.inl rfl))
    (Af (Ar (i:=5) De.nd rfl (Or.inl rfl) (Am FP hr1 rfl Ap (Aa (pv 0) (Aa (An Bt (Be Bv (by rfl) T.len boot_len (Aa (pv 3) Ac)) Ah) Ac))))
    (Af (Ar (i:=6) De.nd rfl (Or.inl rfl) (An Bt (pv 5) (Am FP hr1 rfl Ap (Aa (pv 0) (Aa (An Xf1 (An Bt (Be Bv (by rfl) T.len boot_len (Aa (pv 3) Ac)) Ah) (pv 5)) Ac)))))
    (Af (Ar (i:=7) De.nd rfl (Or.inl rfl) (Am FPut hr1 rfl Ap (Aa (pv 3) (Aa (pv 4) (Aa (pv 5) (Aa (pv 6) Ac))))))
    (Af (Bj (Em (Am FB hr rfl Ap (Aa (pv 7) (Aa (pv 4) Ac))))
     (Al (Ar (i:=7) De.nd rfl (Or.inl rfl) (An Cf (An Cf (C4 C5 (pv 3) Dg (Cu (pv 5))) (Bu (Aa (pv 4) (Aa (pv 4) Ac)))) (C4 C5 (pv 3) (Cu (pv 5)) Dg)))) Bn)
    (Al (Ar (i:=3) De.nd rfl (Or.inl rfl) (pv 7))))))))
   (Al (Au (pv 3))))),?_⟩
  refine⟨_,rfl,dr,sc,4,rfl,by decide,by decide,dk,λr1 H1 _ _ d1 b1=>?_⟩;refine⟨rfl,_,rfl,?_⟩;have b1:But dr H H1:=b1;have hN1:=b1 _ _ hN nnd;refine Bc (λ_=>?_) (λ_=>?_)
  ·-- the grid
   refine⟨_,rfl,_,rfl,nl,_,rfl,.inl (SqL.of hN1),_,_,rfl,rfl,dr,sc,_,rfl,by omega,by rw[K8];omega,d1,λc H2 c0 c1 d2 b2=>?_⟩;obtain⟨c,rfl⟩:=Mi c0;rw[K8] at c1;have hc:c<=ns.length:=by omega
   have b12:=But.trans b1 b2;have hN2:=b2 _ _ hN1 nnd;obtain⟨xs,hdr⟩:=d2.at;refine⟨_,rfl,_,rfl,_,rfl,_,rfl,nl,_,rfl,SqL.of hN2,λp1 n1=>?_⟩;rw[Ji _ _ _ hc];refine⟨p1,_,rfl,SqL.of Ab,λp2 n2=>?_⟩;refine⟨nl,p2,_,_,rfl,rfl,ku (ku hN2 n1) n2,Ab,h24 _ (by simp;omega),λp3 n3=>?_⟩;refine⟨_,rfl,_,rfl,_,rfl,nl,_,rfl,SqL.of (ku (ku (ku hN2 n1) n2) n3),λp4 n4=>?_⟩;rw[Gx _ _ _ hc];refine⟨p4,_,rfl,SqL.of Ab,λp5 n5=>?_⟩;refine⟨p3,p5,_,_,rfl,rfl,ku (ku Ab n4) n5,Ab,h24 _ (by simp;omega),λp6 n6=>?_⟩;have s5:=(((((Same.refl H2).go n1 n2).go n2 n3).go n3 n4).go n4 n5).go n5 n6;have f6:=s5.free n6;have hpm:(ns++(ns.take c).reverse++(ns.drop c).reverse).Perm (ns++ns):=by
    rw[Nn];refine List.Perm.append_left ns ?_;refine((List.reverse_perm _).append (List.reverse_perm _)).trans ?_;rw[Mh]
   refine k p6 (ns++(ns.take c).reverse++(ns.drop c).reverse) _ (b12.free hdr f6) (Ab.trans (by simp)) hpm (noThree_grid hnd c λz hz=>E2 hnd hpm z ?_) (d2.same (s5.step n6)) (b12.same (s5.step n6));exact hpm.mem_iff.mpr (Mz _ hz)
  ·-- dug one by one
   refine⟨by show 0<=sizeLine;decide,λp np=>?_⟩;obtain⟨xs1,hdr1⟩:=d1.at;have s0:Same H1 (upd H1 p (.lst [])):=(Same.refl H1).step np;refine⟨_,rfl,nl,rfl,⟨_,SqL.of (s0 _ _ hN1)⟩,?_⟩;refine Gf (K:=K) (a:=nl) (xs:=ns.map V.str) (λi σ H2=>∃(v2 v4 v5 v6 v7:Option V) (q:Addr) (row:List Str), σ=[some (.ref dr),some (.ref nl),v2,some (.ref q),v4,v5,v6,v7]/\H2 q=some (.lst (row.map V.str))/\H q=none/\q≠dr/\row.Perm (ns.take i++ns.take i)/\Bs row/\DrawOk H2 dr sc/\But dr H H2) ?_ ?_ ?_ ?_
   ·exact⟨_,_,_,_,_,p,[],rfl,Ab,b1.free hdr1 np,(Aq hdr1 np).symm,by simp,Xkd,d1.same s0,b1.same s0⟩
   ·rintro i σ H2 _ ⟨v2,v4,v5,v6,v7,q,row,rfl,hq,nq,nqd,hp,hno,d2,b2⟩;exact SqL.of (b2 _ _ hN nnd)
   ·rintro i y σ H2 hi ⟨v2,v4,v5,v6,v7,q,row,rfl,hq,nq,nqd,hp,hno,d2,b2⟩;have hil:i<ns.length:=by
     have:=(L3.mp hi).1
     rwa [K8] at this
    obtain⟨x,rfl,hx⟩:∃x,y=V.str x/\ns[i]? = some x:=by
     rw[Lx] at hi;cases z:ns[i]? with
     | none=>rw[z] at hi;cases hi
     | some x=>rw[z] at hi;exact⟨x,(Ly hi).symm,rfl⟩
    have tk:ns.take (i+1)=ns.take i++[x]:=by
     rw[Lu hil];rw[Li hil] at hx;rw[Ly hx]
    have hrl:row.length<=28:=by
     have:=hp.length_eq;rw[Lj,Mf] at this;omega
    have ndT:(ns.take i++[x]).Nodup:=by rw[<-tk];exact hnd.sublist (Nj ..)
    refine⟨_,rfl,_,rfl,q,_,rfl,.inl (SqL.of hq),_,_,rfl,rfl,dr,sc,_,rfl,by omega,by rw[K8];omega,d2,λa H3 a0 a1 d3 b3=>?_⟩;obtain⟨a,rfl⟩:=Mi a0;rw[K8] at a1;have hq3:=b3 _ _ hq nqd;refine⟨_,rfl,_,rfl,_,rfl,q,_,rfl,.inl (SqL.of hq3),_,_,rfl,rfl,_,rfl,_,_,rfl,rfl,dr,sc,_,rfl,by rw[K8];omega,by rw[K8];omega,d3,λc H4 c0 c1 d4 b4=>?_⟩;obtain⟨c,rfl⟩:=Mi c0;rw[K8] at c1;refine⟨_,_,rfl,rfl,?_⟩;have eac:(a:Int)+(c:Int)=((a+c:Nat):Int):=by omega
    dsimp only;rw[eac];have hac:a+c<=row.length:=by omega
    have hq4:=b4 _ _ hq3 nqd;have b24:=But.trans b2 (But.trans b3 b4);obtain⟨xs4,hdr4⟩:=d4.at;refine⟨_,rfl,_,rfl,_,rfl,_,rfl,q,row,x,a,a+c,rfl,hq4,by omega,by omega,hac,λl H5 nl5 hl5 s5=>?_⟩;have d5:=d4.same s5;have b25:=b24.same s5;have nlH:=b24.free hdr4 nl5;have nld:l≠dr:=(Aq hdr4 nl5).symm;have hperm:(Du row x a (a+c)).Perm ((ns.take i++[x])++(ns.take i++[x])):=Xcz hp (Xcw row x a (a+c) (by omega));have hll:(Du row x a (a+c)).length<=1000:=by
     have:=hperm.length_eq;rw[Lj,Lj,Mf,Ml] at this;omega
    refine⟨_,rfl,_,rfl,l,_,x,rfl,hl5,hll,E2 ndT hperm,hperm.mem_iff.mpr (by simp),λbb H6 hbb s6=>?_⟩;have d6:=d5.same s6;have b26:=b25.same s6;refine⟨bb,rfl,?_⟩;have two0:∀y∈row,row.count y=2:=E2 (hnd.sublist (Nj ..)) hp;refine Bc (λ_=>?_) (λhbf=>?_)
    ·have hq6:=s6 _ _ (s5 _ _ hq4);refine⟨_,rfl,_,rfl,_,rfl,q,_,rfl,SqL.of hq6,λp1 n1=>?_⟩;rw[Ji _ _ _ (by omega)];refine⟨_,rfl,_,rfl,by show 2<=sizeLine;decide,λp2 n2=>?_⟩;refine⟨p1,p2,_,_,rfl,rfl,ku Ab n2,Ab,h24 _ (by simp;omega),λp3 n3=>?_⟩;refine⟨_,rfl,_,rfl,_,rfl,q,_,rfl,SqL.of (ku (ku (ku hq6 n1) n2) n3),λp4 n4=>?_⟩;rw[Gx _ _ _ (by omega)];refine⟨p3,p4,_,_,rfl,rfl,ku Ab n4,Ab,h24 _ (by simp;omega),λp5 n5=>?_⟩;have s4':=((((Same.refl H6).go n1 n2).go n2 n3).go n3 n4).go n4 n5;have f5:=s4'.free n5;obtain⟨xs6,hdr6⟩:=d6.at;have pN:(row.take a++[x,x]++row.drop a).Perm (x::x::row):=by
      have e:row.take a++[x,x]++row.drop a=row.take a++x::x::row.drop a:=by simp
      rw[e];refine Nt.trans (List.Perm.cons x (Nt.trans (List.Perm.cons x ?_)));rw[Mh]
     have pM:=Xcz hp pN;have twoN:=E2 ndT pM;refine⟨_,rfl,_,_,_,_,_,p5,row.take a++[x,x]++row.drop a,rfl,Ab.trans (by simp),b26.free hdr6 f5,(Aq hdr6 f5).symm,by rw[tk];exact pM,?_,d6.same (s4'.step n5),b26.same (s4'.step n5)⟩;refine Xda (x:=x) hno two0 twoN (λy hy=>?_) (λp hp=>Xkg hp) (λy hy z hz ky=>absurd ky (Xkf (twoN x (by simp)) (twoN y hy)));have:=pN.mem_iff.mp hy;simp only[Lk] at this;rcases this with h | h | h
     ·exact .inl h
     ·exact .inl h
     ·exact .inr h
    ·refine⟨_,rfl,_,_,_,_,_,l,_,rfl,s6 _ _ hl5,nlH,nld,by rw[tk];exact hperm,?_,d6,b26⟩;refine Xda (x:=x) hno two0 (E2 ndT hperm) (λy hy=>?_) (λp hp=>Xke (by omega) hp) (hbb hbf);have:=(Xcw row x a (a+c) (by omega)).mem_iff.mp hy;simp only[Lk] at this;rcases this with h | h | h
     ·exact .inl h
     ·exact .inl h
     ·exact .inr h
   ·rintro σ H2 ⟨v2,v4,v5,v6,v7,q,row,rfl,hq,nq,nqd,hp,hno,d2,b2⟩;rw[K8,Mq] at hp;exact⟨_,rfl,k q row H2 nq hq hp hno d2 b2⟩
theorem D1:FnScope NNa ["_law_draw", "_law_many"] (Aj sNames):=⟨rfl,rfl,rfl,by decide +kernel,rfl,by decide +kernel,by decide +kernel⟩
theorem Xn6{f:Addr}{fd:FuncData}(F:Fun K "_law_names" "_law_names" sNames f fd)(T:Bl mg)(FP:FnPick P w K mg base):FnOk P w K mg base CX0 2 f fd ["_law_draw", "_law_many"] J4:=by
 refine F.ok D1 (λvs H Q E h=>?_) (λcdv A outer s H vs Q E hr h=>?_)
 ·obtain⟨dr,sc,n,rfl,_⟩:=h;rfl
 ·obtain⟨dr,sc,n,rfl,hn,dk,k⟩:=h;refine⟨_,Af (Ar (i:=2) D1.nd rfl (Or.inl rfl) Bi)
   (Af (Ar (i:=3) D1.nd rfl (Or.inl rfl) (Am FP hr rfl Ap (Aa (pv 0) (Aa Ah Ac))))
   (Af (Ar (i:=4) D1.nd rfl (Or.inl rfl) (D7 Ck (Am FP hr rfl Ap (Aa (pv 0) (Aa Ah Ac))) Ah (A8 _)))
   (Af (Ar (i:=5) D1.nd rfl (Or.inl rfl) (Bu Ac))
   (Af (C2 PassesOwn.never rfl (Fa rfl T.range (Aa (pv 1) Ac)) (Aw (i:=6) D1.nd rfl (Or.inl rfl))
    (Af (Ar (i:=7) D1.nd rfl (Or.inl rfl) (Ay Xgg (pv 2) (An D6 (An Bt (pv 3) (pv 6)) Ah) (λ_ _=>rfl)))
    (Af (Ar (i:=8) D1.nd rfl (Or.inl rfl) (An Xhn Bi (An D6 (An Bt (pv 3) (An Xak (pv 6) (pv 6))) Ah)))
    (Al (Df (Fe PySem.F.plainAttrs_list PySem.F.slot_list_append PySem.F.type_list_append Ff (pv 5)
     (Aa (Ht (Em (pv 4)) (An Ih (An Ih (pv 8) (pv 7)) Bi) (An Ih (pv 7) (pv 8))) Ac)))))))
   (Al (Au (pv 5))))))),?_⟩
  refine⟨_,rfl,dr,sc,26,rfl,by decide,by decide,dk,λr1 H1 r10 r11 d1 b1=>?_⟩;refine⟨_,rfl,dr,sc,2,rfl,by decide,by decide,d1,λr2 H2 r20 r21 d2 b2=>?_⟩;refine⟨rfl,?_⟩;refine⟨by show 0<=sizeLine;decide,λl nl=>?_⟩;obtain⟨st,rfl⟩:=Mi r10;have hst:st<26:=by omega
  generalize hlt:decide (V.int r2=V.int 1)=late;have b12:But dr H H2:=But.trans b1 b2;obtain⟨xs,hdr⟩:=d2.at;have nlH:H l=none:=b12.free hdr nl;obtain⟨nld,nls⟩:=d2.ne nl;refine⟨_,rfl,(n:Int),rfl,by omega,by omega,?_⟩;rw[Nk];refine Fc (lo:=0) (n:=n) (λi σ H3=>∃v1 v2 v3, σ=[some (.ref dr),some (.int n),some (.str Ec),some (.int st),some (.bl late),some (.ref l),v1,v2,v3]/\H3 l=some (.lst ((Bd st late i).map V.str))/\DrawOk H3 dr sc/\But dr H H3) ?_ ?_ ?_
  ·exact⟨none,none,none,rfl,Ab,d2.upd nld nls,b12.upd nlH⟩
  ·rintro i σ H3 hi ⟨v1,v2,v3,rfl,hl3,d3,b3⟩;have e26:((st:Int)+(0+(i:Int))) % 26=(((st+i) % 26:Nat):Int):=by omega
   have h26:(st+i) % 26<26:=O4 _ (by decide);have eii:((0:Int)+(i:Int)) * (0+(i:Int))=((i * i:Nat):Int):=by rw[O7];exact(Int.natCast_mul i i).symm
   have h7:(st+i * i) % 7<7:=O4 _ (by decide);have e7:((st:Int)+((i * i:Nat):Int)) % 7=(((st+i * i) % 7:Nat):Int):=by
    generalize i * i=j;omega
   refine⟨_,rfl,_,rfl,_,rfl,_,_,rfl,rfl,_,_,rfl,rfl,(by show (0:Int)<26;decide),_,_,_,rfl,rfl,(by show 26<=sizeLine;decide),by rw[e26];exact Xjo h26,?_⟩;refine⟨_,rfl,_,rfl,_,rfl,_,_,rfl,rfl,.inl ⟨by omega,by omega⟩,_,_,rfl,rfl,_,_,rfl,rfl,(by show (0:Int)<7;decide),?_⟩;have e77:((st:Int)+((0:Int)+(i:Int)) * (0+(i:Int))) % 7=(((st+i * i) % 7:Nat):Int):=by rw[eii,e7]
   refine⟨_,_,rfl,rfl,by rw[e77];omega,by rw[e77];omega,by show 1<=1000;decide,?_⟩;rw[e77,Nk];have hrl:(repS "m" ((st+i * i) % 7)).length<=6:=by
    rw[I0];have:(Str.ofString "m").length=1:=rfl;rw[this];omega
   have hsl:(signOf ((st+i) % 26)).length=1:=rfl;have hnl:(Bd st late i).length=i:=by unfold Bd;simp
   have hsnoc:Bd st late (i+1)=Bd st late i++[Fy st late i]:=by unfold Bd;rw[Md,Lo];rfl
   have h24:∀m,m<=100000->m<=sizeLine:=λm h=>by rw[Pa];omega
   have fin:∀z:Str,Fy st late i=z->Xa3 (.ref l) [.str z] H3 λ_ H4=>∃v1 v2 v3,[some (V.ref dr),some (.int n),some (.str Ec),some (.int st),some (.bl late),some (.ref l),some (.int (0+(i:Int))),some (.str (signOf ((st+i) % 26))),some (.str (repS "m" ((st+i * i) % 7)))]=[some (.ref dr),some (.int n),some (.str Ec),some (.int st),some (.bl late),some (.ref l),v1,v2,v3]/\H4 l=some (.lst ((Bd st late (i+1)).map V.str))/\DrawOk H4 dr sc/\But dr H H4:=λz hz=>by
    refine⟨l,_,_,rfl,rfl,hl3,by rw[K8,hnl,Pa];omega,_,_,_,rfl,?_,d3.upd nld nls,b3.upd nlH⟩;rw[Ab,hsnoc,Lo,<-hz];rfl
   refine⟨_,rfl,.inl ⟨rfl,_,SqL.of hl3⟩,_,rfl,late,rfl,?_⟩;refine Bc (λhL=>?_) (λhL=>?_)
   ·refine⟨_,rfl,_,rfl,_,_,rfl,rfl,h24 _ (by show (repS "m" ((st+i * i) % 7)).length+1<=100000;omega),_,_,rfl,rfl,h24 _ ?_,fin _ (by unfold Fy;rw[Pc hL];rfl)⟩;rw[Ea];show (repS "m" ((st+i * i) % 7)).length+1+1<=100000;omega
   ·exact⟨_,rfl,_,rfl,_,_,rfl,rfl,h24 _ (by show 1+(repS "m" ((st+i * i) % 7)).length<=100000;omega),fin _ (by unfold Fy;rw[Pb (by rw[hL];decide)];rfl)⟩
  ·rintro σ H3 ⟨v1,v2,v3,rfl,hl3,d3,b3⟩;exact⟨_,rfl,k l st late H3 nlH hst hl3 nls d3 b3⟩
theorem K7:FnScope NIs ["_law_draw", "_law_most"] (Aj sIsland):=⟨rfl,rfl,rfl,by decide +kernel,rfl,by decide +kernel,by decide +kernel⟩
theorem Xn7{f:Addr}{fd:FuncData}(F:Fun K "_law_island" "_law_island" sIsland f fd)(T:Bl mg)(FP:FnPick P w K mg base)(FN:Fn P w K mg base CX0 2 "_law_names" ["_law_draw", "_law_many"] J4)
  (FR:Fn P w K mg base CX0 3 "_law_row" ["_law_draw", "_law_names_here"] spRowN):FnOk P w K mg base CX0 4 f fd ["_law_draw", "_law_most"] spIslandN:=by
 refine F.ok K7 (λvs H Q E h=>?_) (λcdv A outer s H vs Q E hr h=>?_)
 ·obtain⟨dr,sc,m,rfl,_⟩:=h;rfl
 ·obtain⟨dr,sc,m,rfl,hm,dk,k⟩:=h;have hr1:Room 1 _:=hr.mono (by decide);have hr2:Room 2 _:=hr.mono (by decide);refine⟨_,Af (Ar (i:=2) K7.nd rfl (Or.inl rfl) (An Bt Ah (Am FP hr1 rfl Ap (Aa (pv 0) (Aa Ah Ac)))))
   (Af (Ar (i:=3) K7.nd rfl (Or.inl rfl) (Ay Io (Cd (Aa (Am FP hr1 rfl Ap (Aa (pv 0) (Aa Ah Ac))) (Aa (pv 2) (Aa (Am FP hr1 rfl Ap (Aa (pv 0) (Aa (An Bt (pv 1) Ah) Ac))) Ac))))
    (Am FP hr1 rfl Ap (Aa (pv 0) (Aa Ah Ac))) (λ_ _=>rfl)))
   (Al (Au (Am FR hr rfl Ap (Aa (pv 0) (Aa (Am FN hr2 rfl Ap (Aa (pv 0) (Aa (Be (Xf6 rfl) (by rfl) T.min boot_min (Aa (pv 3) (Aa (pv 1) Ac))) Ac))) Ac)))))),?_⟩
  refine⟨_,rfl,dr,sc,5,rfl,by decide,by decide,dk,λr1 H1 r10 _ d1 b1=>⟨_,_,rfl,rfl,?_⟩⟩;refine⟨_,rfl,dr,sc,5,rfl,by decide,by decide,d1,λr2 H2 r20 _ d2 b2=>?_⟩;refine⟨_,rfl,_,rfl,_,rfl,_,_,rfl,rfl,dr,sc,_,rfl,by omega,by omega,d2,λr3 H3 r30 _ d3 b3=>?_⟩;have b1:But dr H H1:=b1;have b13:But dr H H3:=But.trans b1 (But.trans b2 b3);refine⟨by show 3<=sizeLine;decide,λp np=>?_⟩;obtain⟨ne1,ne2⟩:=d3.ne np;obtain⟨xs3,hdr3⟩:=d3.at;have npH:=b13.free hdr3 np;refine⟨_,rfl,dr,sc,3,rfl,by decide,by decide,d3.upd ne1 ne2,λr4 H4 r40 r41 d4 b4=>?_⟩;have b4:But dr (L2.upd H3 p (.tup [.int r2,.int (2+r1),.int r3])) H4:=b4;have hp4:=b4 p _ Ab ne1;have b14:But dr H H4:=But.trans (b13.upd npH) b4;obtain⟨mm,hmm0,hmm⟩:∃mm:Int,0<=mm/\atI ([.int r2,.int (2+r1),.int r3]:List V) r4=some (.int mm):=by
   obtain⟨i,rfl⟩:=Mi r40;have hi:i<3:=by omega
   match i,hi with
   | 0,_=>exact⟨r2,r20,rfl⟩
   | 1,_=>exact⟨2+r1,by omega,rfl⟩
   | 2,_=>exact⟨r3,r30,rfl⟩
  refine⟨p,_,_,_,rfl,rfl,SqT.of hp4,hmm,?_⟩;obtain⟨n,hn,hnm⟩:∃n:Nat,(if (m:Int)<mm then (m:Int) else mm)=(n:Int)/\n<=m:=by
   obtain⟨j,rfl⟩:=Mi hmm0;by_cases hj:(m:Int)<(j:Int)
   ·exact⟨m,Pc hj,K9 _⟩
   ·exact⟨j,Pb hj,by omega⟩
  refine⟨_,rfl,_,rfl,_,rfl,_,rfl,_,_,rfl,?_⟩;rw[hn];refine⟨dr,sc,n,rfl,by omega,d4,λl st late H5 nl hst hl5 nls d5 b5=>?_⟩;obtain⟨xs4,hdr4⟩:=d4.at;have nld:l≠dr:=(Aq hdr4 nl).symm;have b15:=But.trans b14 b5;refine⟨dr,sc,l,_,rfl,d5,hl5,nld,J3 hst (by omega),by unfold Bd;simp;omega,λl2 row H6 nl2 hl6 hp hno d6 b6=>?_⟩;obtain⟨xs5,hdr5⟩:=d5.at;exact k l2 row n st late H6 (b15.free hdr5 nl2) hnm hst hl6 hp hno d6 (But.trans b15 b6)
theorem Xn8:FnScope ["_law_draw", "_law_some"] ["_law_draw", "_law_some"] (Aj s__law_one):=⟨rfl,rfl,rfl,by decide +kernel,rfl,by decide +kernel,by decide +kernel⟩
theorem Xn9{f:Addr}{fd:FuncData}(F:Fun K "_law_one" "_law_one" s__law_one f fd)(T:Bl mg)(FP:FnPick P w K mg base):FnOk P w K mg base CX0 2 f fd ["_law_draw", "_law_some"] Kt:=by
 refine F.ok Xn8 (λvs H Q E h=>?_) (λcdv A outer s H vs Q E hr h=>?_)
 ·obtain⟨dr,sc,l,xs,rfl,_⟩:=h;rfl
 ·obtain⟨dr,sc,l,xs,rfl,d,hl,nld,h0,h1,k⟩:=h;have hr1:Room 1 _:=hr.mono (by decide);refine⟨_,Al (Au (Ay Bg (pv 1) (Am FP hr1 (by rfl) Ap (Aa (pv 0) (Aa (Be Bv (by rfl) T.len boot_len (Aa (pv 1) Ac)) Ac))) (λ_ _=>rfl))),?_⟩;refine⟨_,rfl,_,rfl,_,rfl,l,_,rfl,.inl (SqL.of hl),dr,sc,_,rfl,by omega,by omega,d,λgi H4 g0 g1 d4 b4=>?_⟩;have b4:But dr H H4:=b4;obtain⟨gi,rfl⟩:=Mi g0;have hgi:gi<xs.length:=by omega
  have hat:atI xs (gi:Int)=some (xs.getD gi .non):=En (by rw[Li hgi];simp[List.getD,hgi]);exact⟨l,_,_,_,rfl,rfl,SqL.of (b4 _ _ hl nld),hat,k gi H4 hgi d4 b4⟩
theorem El:FnScope NWa ["_law_draw", "_law_row_here", "_law_one_here", "_law_many"] (Aj s__law_wander):=⟨rfl,rfl,rfl,by decide +kernel,rfl,by decide +kernel,by decide +kernel⟩
theorem Xoa{f T:Addr}{fd:FuncData}(F:Fun K "_law_wander" "_law_wander" s__law_wander f fd)(B:Bl mg)(FP:FnPick P w K mg base)(FN:Fn P w K mg base (CX1 P w) 6 "neighbours" ["row", "plot"] (spNbs T (lamPos s_in_order))):
  FnOk P w K mg base CX0 7 f fd ["_law_draw", "_law_row_here", "_law_one_here", "_law_many"] (K2 T (lamPos s_in_order)):=by
 refine F.ok El (λvs H Q E h=>?_) (λcdv A outer s H vs Q E hr h=>?_)
 ·obtain⟨dr,sc,r,p,row,W,m,rfl,_⟩:=h;rfl
 ·obtain⟨dr,sc,r,p,row,W,m,rfl,d0,hR,nrd,R2,h3,hd,tab,hp,hW,hm,k⟩:=h;have hr1:Room 1 _:=hr.mono (by decide);refine⟨_,Af (Ar (i:=4) El.nd rfl (Or.inl rfl) (pv 2))
   (Af (Ar (i:=5) El.nd rfl (Or.inl rfl) (Bu Ac))
   (Af (C2 PassesOwn.never rfl (Fa rfl B.range (Aa (pv 3) Ac)) (Aw (i:=6) El.nd rfl (Or.inl rfl))
    (Af (Ar (i:=7) El.nd rfl (Or.inl rfl) (Am FN hr (by rfl) Fs (Aa (pv 1) (Aa (pv 4) Ac))))
    (Al (Bj (Bb (Jr (hu3 hr)) (pv 7) (Bu Ac) (A8 _))
     (Af (Cs (Ay Bg (pv 7) (Am FP hr1 (by rfl) Ap (Aa (pv 0) (Aa (Be Bv (by rfl) B.len boot_len (Aa (pv 7) Ac)) Ac))) (λ_ _=>rfl)) (Ey K 2 rfl rfl (Bx (Aw (i:=8) El.nd rfl (Or.inl rfl)) (Bx (Aw (i:=4) El.nd rfl (Or.inl rfl)) D3))))
     (Al (Df (Fe PySem.F.plainAttrs_list PySem.F.slot_list_append PySem.F.type_list_append Ff (pv 5) (Aa (pv 8) Ac))))) Bn))))
   (Al (Au (Cd (Aa (pv 4) (Aa (pv 5) Ac))))))),?_⟩
  refine⟨_,rfl,by show 0<=sizeLine;decide,λst nst=>?_⟩;obtain⟨n1,n2⟩:=d0.ne nst;have s1:Same H (upd H st (.lst [])):=(Same.refl H).step nst;have hst1:upd H st (.lst []) st=some (.lst (([]:List Str).map V.str)):=Ab;dsimp only[Ba];generalize upd H st (.lst [])=H1 at s1 hst1;refine⟨_,rfl,(m:Int),rfl,by omega,by omega,?_⟩;rw[Nk];refine Fc (lo:=0) (n:=m) (λi σ H'=>∃(h:Addr) (v6 v7 v8:Option V) (S ss:List Str), σ=[some (.ref dr),some (.ref r),some (.ref p),some (.int m),some (.ref h),some (.ref st),v6,v7,v8]/\H' h=some (.tup (S.map V.str))/\H' st=some (.lst (ss.map V.str))/\Ae row S=true/\F7 W S ss/\ss.length<=i/\Ai T (lamPos s_in_order) qIn H'/\DrawOk H' dr sc/\But2 T dr H H') ?_ ?_ ?_
  ·exact⟨p,none,none,none,W,[],rfl,s1 _ _ hp,hst1,hW,Xmz W,K9 _,SH.Ai.same tab s1,d0.same s1,(But2.refl T dr H).same s1⟩
  ·rintro i σ H2 hi ⟨h,v6,v7,v8,S,ss,rfl,hh,hst,hS,ho,hl,t2,d2,b2⟩;have hR2:H2 r=some (.lst (row.map V.str)):=b2 _ _ hR (Ai.ne tab hR λz=>by simp) nrd;refine⟨_,rfl,_,rfl,r,h,row,S,rfl,hR2,R2,h3,hd,t2,hh,hS,λD qs H3 nD hD hnb hql t3 b3=>?_⟩;have b3:But T H2 H3:=b3;have k3:∀{b:Addr} {o:HO},H2 b=some o->(∀z,o ≠ .tbl z)->H3 b=some o:=λe n=>b3 _ _ e (Ai.ne t2 e n);have hst3:=k3 hst λz=>by simp
   have hh3:=k3 hh λz=>by simp
   have d3:=d2.butT t2 b3;have nDd:D≠dr:=(d2.ne nD).1;have nDs:D≠st:=(Aq hst nD).symm;dsimp only[Ba];refine⟨_,rfl,by show 0<=sizeLine;decide,λe0 ne0=>?_⟩;have s4:Same H3 (upd H3 e0 (.lst [])):=(Same.refl H3).step ne0;have he:upd H3 e0 (.lst []) e0=some (.lst []):=Ab;dsimp only[Gg];generalize upd H3 e0 (.lst [])=H4 at s4 he;have ok:=Xm2 (S:=S) R2;refine⟨.list ((nbL row S).map dNb),.list (([]:List (Str×List Str)).map dNb),Xm1 (s4 _ _ hD) (hnb.same s4),Jp he Cy,Db _ (E7 ok),Db _ (E7 (xs:=[]) λ_ h=>(nomatch h)),L0 (Nat.min_le_right _ _) (by decide),_,rfl,?_⟩;have hD4:=s4 _ _ hD;have hnb4:=hnb.same s4;have hst4:=s4 _ _ hst3;have hh4:=s4 _ _ hh3;have d4:=d3.same s4;have t4:=SH.Ai.same t3 s4;have b4:=(b2.t b3).same s4;by_cases hemp:nbL row S=[]
   ·rw[(Fx _ _ (E7 ok) (E7 (xs:=[]) λ_ h=>(nomatch h))).mpr (by rw[hemp])];exact B5 ⟨h,_,_,_,S,ss,rfl,hh4,hst4,hS,ho,by omega,t4,d4,b4⟩
   have ef:PyData.eqv (.list ((nbL row S).map dNb)) (.list (([]:List (Str×List Str)).map dNb))=false:=by
    cases hq:PyData.eqv (.list ((nbL row S).map dNb)) (.list (([]:List (Str×List Str)).map dNb)) with
    | false=>rfl
    | true=>
     have:=(Fx _ _ (E7 ok) (E7 (xs:=[]) λ_ h=>(nomatch h))).mp hq;injection this with this
     exact absurd (List.map_eq_nil_iff.mp this) hemp
   rw[ef];refine Di ?_;have hq0:0<qs.length:=by rw[hnb.1];exact List.length_pos_iff.mpr hemp
   refine⟨_,rfl,_,rfl,_,rfl,D,_,rfl,.inl (SqL.of hD4),dr,sc,_,rfl,by rw[K8];omega,by rw[K8];omega,d4,λj H5 j0 j1 d5 b5=>?_⟩;have b5:But dr H4 H5:=b5;rw[K8] at j1;obtain⟨j,rfl⟩:=Mi j0;have hj:j<qs.length:=by omega
   have hD5:=b5 _ _ hD4 nDd;obtain⟨q,hq,p',h1,h2⟩:=hnb4.at hj;obtain⟨x1,x2,x3⟩:=E6.mp hq;have h15:=b5 _ _ h1 (d4.ntup _ _ h1);have h25:=b5 _ _ h2 (d4.ntup _ _ h2);have hst5:=b5 _ _ hst4 n1;refine⟨D,_,_,.ref (qs.getD j 0),rfl,rfl,SqL.of hD5,En (by rw[Lx,Li hj];simp[List.getD,hj]),_,_,rfl,SqT.of h15,rfl,_,_,rfl,_,_,rfl,rfl,?_⟩;refine⟨_,rfl,.inl ⟨rfl,_,SqL.of hst5⟩,_,rfl,st,_,_,rfl,rfl,hst5,by rw[K8,Pa];omega,?_⟩;refine⟨p',_,_,_,q.2,ss++[q.1],rfl,?_,by rw[Ab,Lo];rfl,x3,by rw[x2];exact Xm0 ho,by rw[Lj];show ss.length+1<=i+1;omega,SH.Ai.put (SH.Ai.butD t4 d4 b5) hst5,d5.upd n1 n2,(b4.d b5).upd nst⟩;rw[Ad (λz=>by rw[z,hst5] at h25;cases h25)];exact h25
  ·rintro σ H2 ⟨h,v6,v7,v8,S,ss,rfl,hh,hst,hS,ho,hl,t2,d2,b2⟩;refine⟨_,rfl,_,rfl,by show 2<=sizeLine;decide,λt nt=>?_⟩;have s3:Same H2 (upd H2 t (.tup [.ref h,.ref st])):=(Same.refl H2).step nt;exact k t h st S ss _ Ab (s3 _ _ hh) (s3 _ _ hst) hS ho (by omega) (SH.Ai.same t2 s3) (d2.same s3) (b2.same s3)
end
end K20
set_option maxHeartbeats 8000000
namespace K20
open PySem PySem.Spec PyProof.Rows L2 SH
def Ho (K:PySem.W.Frag) (T:Addr):Sp:=λvs H Q _=>∃(a:Addr) (ns:List Int),vs=[.ref a]/\SqL K H a (ns.map V.int)/\ns.length<=63/\H T=some (.tbl #[])/\∀H',Q (.bl true) H'
theorem get2{H0 H:Hp}{by_:Addr}{row:List Str}{Ts:List (List Str)}(h:ByAt H0 by_ row Ts)(s:Same H0 H)(nd:Ts.Nodup){S:List Str}(hS:S∈Ts){b:Addr}(hb:H b=some (.tup (S.map V.str))):
  ∃(D:Addr) (qs:List Addr),DGet H by_ (.ref b) (some (.ref D))/\H0 D=some (.lst (qs.map V.ref))/\Nbs H0 qs (nbL row S)/\qs.length<=14:=by
 obtain⟨ds,h1,h2⟩:=h.ex;obtain⟨i,hi,rfl⟩:=Mt.mp hS;obtain⟨qs,a,b2,c⟩:=h2 i hi;have e:Ts.getD i []=Ts[i]:=by simp[List.getD,hi]
 rw[e] at b2;refine⟨ds.getD i 0,qs,.inr ⟨_,kOf Ts[i],b,.inl (s _ _ h1),rfl,by rw[Xet];exact hb,?_⟩,a,b2,c⟩;have:=Xe3 (i:=i) (q:=(kOf Ts[i],V.ref (ds.getD i 0))) (Xe4 nd ds) (by unfold kvB;rw[Lx,Ot hi];simp[List.getD,hi]);exact this.symm
theorem Xob{H0 H:Hp}{mt fr ly p:Addr}{Me Fr La:List (List Str)}{ls ms fs:List Addr}{S:List Str}(bf:Bf H0 H mt fr ly Me Fr La ls)(n0:H0 mt=none)(n1:H0 fr=none)(nfm:fr≠mt)(nlm:ly≠mt)(nfl:fr≠ly)(hm:H mt=some (.lst (ms.map V.ref)))(tm:Tups H ms (Me++Fr))(hf:H fr=some (.lst (fs.map V.ref)))(tf:Tups H fs Fr)(hp:H p=some (.tup (S.map V.str))):
  Bf H0 (upd (upd H mt (.lst (ms.map V.ref++[.ref p]))) fr (.lst (fs.map V.ref++[.ref p]))) mt fr ly Me (Fr++[S]) La ls:=by
 have kt:∀{b:Addr} {w:List V},H b=some (.tup w)->upd (upd H mt (.lst (ms.map V.ref++[.ref p]))) fr (.lst (fs.map V.ref++[.ref p])) b=some (.tup w):=λ{b w} e=>by
  rw[Ad (λz=>by rw[z,hf] at e;cases e),Ad (λz=>by rw[z,hm] at e;cases e)];exact e
 have ktt:∀{ps:List Addr} {Ts:List (List Str)},Tups H ps Ts->Tups (upd (upd H mt (.lst (ms.map V.ref++[.ref p]))) fr (.lst (fs.map V.ref++[.ref p]))) ps Ts:=λh=>⟨h.1,λi hi=>kt (h.2 i hi)⟩;refine⟨λb o e=>?_,⟨ms++[p],?_,?_⟩,⟨fs++[p],?_,?_⟩,?_,ktt bf.ht⟩
 ·rw[Ad (Aq e n1),Ad (Aq e n0)];exact bf.s _ _ e
 ·rw[Ad nfm.symm,Ab,Lo];rfl
 ·rw[<-Nn];exact Tups.app (ktt tm) (Tups.cons (kt hp) (Tups.nil _))
 ·rw[Ab,Lo];rfl
 ·exact Tups.app (ktt tf) (Tups.cons (kt hp) (Tups.nil _))
 ·rw[Ad nfl.symm,Ad nlm];exact bf.hl
section
variable {P:Program}{w:World}{K:PySem.W.Frag}{mg:Str->Option Value}{base:Heap}
theorem Bp:FnScope NL0 ["_law_script"] (Aj s_law):=⟨rfl,rfl,rfl,by decide +kernel,rfl,by decide +kernel,by decide +kernel⟩
theorem Xoc{f C T:Addr}{fd:FuncData}(F:Fun K "law" "law" s_law f fd)(B:Bl mg)(FB:Fn P w K mg base CX0 1 "_law_begin" ["_law_script"] (Ju K))(FP:FnPick P w K mg base)
  (FI:Fn P w K mg base CX0 4 "_law_island" ["_law_draw", "_law_most"] spIslandN) (FPl:Fn P w K mg base CX0 5 "plots" ["row"] (spPlotsA T (lamPos s_in_order))) (FOn:Fn P w K mg base CX0 2 "_law_one" ["_law_draw", "_law_some"] Kt)
  (FN:Fn P w K mg base (CX1 P w) 6 "neighbours" ["row", "plot"] (spNbs T (lamPos s_in_order))) (FW:Fn P w K mg base CX0 7 "_law_wander" ["_law_draw", "_law_row_here", "_law_one_here", "_law_many"] (K2 T (lamPos s_in_order)))
  (FFa:Fn P w K mg base (CX1 P w) 7 "far" ["row", "one", "other"] (spFar C)) (FBw:Fn P w K mg base (CX1 P w) 6 "between" ["row", "one", "other"] (Hi C)):
  FnOk P w K mg base CX0 8 f fd ["_law_script"] (Ho K T):=by
 refine F.ok Bp (λvs H Q E h=>?_) (λcdv A outer s H vs Q E hr h=>?_)
 ·obtain⟨a,ns,rfl,_⟩:=h;rfl
 ·obtain⟨a,ns,rfl,hS,hlen,hTb,k⟩:=h;have hu:=D9 hr;have hr1:Room 1 _:=hr.mono (by decide);have hr2:Room 2 _:=hr.mono (by decide);have hr4:Room 4 _:=hr.mono (by decide);have hr5:Room 5 _:=hr.mono (by decide);have hr6:Room 6 _:=hr.mono (by decide);refine⟨_,Af (Ar (i:=1) Bp.nd rfl (Or.inl rfl) (Am FB hr1 (by rfl) Ap (Aa (pv 0) Ac)))
   (Af (Ar (i:=2) Bp.nd rfl (Or.inr rfl) (Am FI hr4 (by rfl) Ap (Aa (pv 1) (Aa Ah Ac))))
   (Af (Ar (i:=3) Bp.nd rfl (Or.inl rfl) (Am FPl hr5 (by rfl) Ap (Aa (pv 2) Ac)))
   (Af (Ar (i:=4) Bp.nd rfl (Or.inr rfl) (Am FOn hr2 (by rfl) Ap (Aa (pv 1) (Aa (pv 3) Ac))))
   (Af (Ar (i:=5) Bp.nd rfl (Or.inl rfl) (C3 (Xmo rfl (hu3 hr)) (by rfl) B.dict (by rfl) (Aa (Ez (N:=NL01) (cap:=[none,some 2]) (CompScope.of (Aj s_law) NL0 rfl rfl rfl (by decide +kernel)) rfl (Ca (pv 3))
     (λ_ _ _=>Aw (i:=0) (show NL01.Nodup by decide +kernel) rfl (Or.inl rfl) (Or.inr rfl)) (λ_ _ _=>Cg) (λ_ _ _=>Cd (Aa (pv 0) (Aa (Am (by exact FN) (by exact hr6) (by rfl) Fs (Aa (pv 1) (Aa (pv 0) Ac))) Ac)))) Ac)))
   (Af (Ar (i:=6) Bp.nd rfl (Or.inl rfl) (Bu (Aa (pv 4) Ac)))
   (Af (Ar (i:=7) Bp.nd rfl (Or.inl rfl) (Bu (Aa (pv 4) Ac)))
   (Af (C2 PassesOwn.never rfl (Fa rfl B.range (Aa (An Bt (An Ia (Be Bv (by rfl) B.len boot_len (Aa (pv 2) Ac)) Ah) Ah) Ac)) (Aw (i:=8) Bp.nd rfl (Or.inr rfl))
    (Af (Bj (Xaf (Em (Be (Ja rfl) (by rfl) B.all (by rfl) (Aa (Ez (N:=NL02) (cap:=[none,some 8,some 4,some 2]) (CompScope.of (Aj s_law) NL0 rfl rfl rfl (by decide +kernel)) rfl (Ca (pv 7))
     (λ_ _ _=>Aw (i:=0) (show NL02.Nodup by decide +kernel) rfl (Or.inl rfl) (Or.inr rfl)) (λ_ _ _=>Cg) (λ_ _ _=>D7 Ck (Am (by exact FFa) (by exact hr) (by rfl) Fs (Aa (pv 3) (Aa (pv 2) (Aa (pv 0) Ac)))) (pv 1) (A8 _))) Ac)))) (Al (Au E8)) Bn)
    (Af (Ar (i:=9) Bp.nd rfl (Or.inl rfl) (Bu Ac))
    (Af (C2 PassesOwn.never rfl (Ca (pv 7)) (Aw (i:=10) Bp.nd rfl (Or.inl rfl))
     (Al (C2 PassesOwn.never rfl (Ca (B1 hu (pv 5) (pv 10) (λ_ _=>rfl))) (Ey K 2 rfl rfl (Bx (Aw (i:=11) Bp.nd rfl (Or.inl rfl)) (Bx (Aw (i:=12) Bp.nd rfl (Or.inl rfl)) D3)))
      (Al (Bj (Bb (Xkp (hu4 hr)) (pv 12) (pv 6) (by rfl)) (Af (Df (Fe PySem.F.plainAttrs_list PySem.F.slot_list_append PySem.F.type_list_append Ff (pv 6) (Aa (pv 12) Ac))) (Al (Df (Fe PySem.F.plainAttrs_list PySem.F.slot_list_append PySem.F.type_list_append Ff (pv 9) (Aa (pv 12) Ac))))) Bn)))))
    (Al (Ar (i:=7) Bp.nd rfl (Or.inl rfl) (pv 9)))))))
   (Af (Bj (Hs (Bb Ic (Be Bv (by rfl) B.len boot_len (Aa (pv 6) Ac)) (Be Bv (by rfl) B.len boot_len (Aa (pv 3) Ac)) (A8 _)) (Hr (Bb (Jr (hu3 hr)) (pv 7) (Bu Ac) (A8 _)))).pt (Al (Au E8)) Bn)
   (Af (Cs (Am FW hr (by rfl) Ap (Aa (pv 1) (Aa (pv 2) (Aa (pv 4) (Aa (Am FP hr1 (by rfl) Ap (Aa (pv 1) (Aa Ah Ac))) Ac))))) (Ey K 2 rfl rfl (Bx (Aw (i:=13) Bp.nd rfl (Or.inl rfl)) (Bx (Aw (i:=14) Bp.nd rfl (Or.inr rfl)) D3))))
   (Af (Ar (i:=15) Bp.nd rfl (Or.inr rfl) (Am FBw hr6 (by rfl) Fs (Aa (pv 2) (Aa (pv 4) (Aa (pv 13) Ac)))))
   (Al (Au (Be (Ja rfl) (by rfl) B.all (by rfl) (Aa (Ez (N:=NL03) (cap:=[none,some 15,some 14]) (CompScope.of (Aj s_law) NL0 rfl rfl rfl (by decide +kernel)) rfl (Ca (Xj7 (i:=2) rfl (by rfl) B.sorted (by rfl) B.set (pv 2)))
     (λ_ _ _=>Aw (i:=0) (show NL03.Nodup by decide +kernel) rfl (Or.inl rfl) (Or.inr rfl)) (λ_ _ _=>Cg) (λ_ _ _=>D7 Ck (D7 Ck (An D6 (Xj5 K (by rfl) PySem.F.plainAttrs_list PySem.F.slot_list_count PySem.F.type_list_count Xjc (pv 2) (Aa (pv 0) Ac)) Ah) Ah (A8 _)) (D7 (Jj K (by rfl)) (pv 0) (pv 1) (by rfl)) (A8 _))) Ac)))))))))))))),?_⟩
  have nT:∀{H':Hp} {b:Addr} {o:HO},Ai T (lamPos s_in_order) qIn H'->H' b=some o->(∀z,o ≠ .tbl z)->b≠T:=λtb e n z=>by
   rcases tb with q | ⟨_,q,_⟩<;>(rw[z,q] at e;cases e;exact n _ rfl)
  have frT:∀{H' H'':Hp} {b:Addr},Ai T (lamPos s_in_order) qIn H''->But T H' H''->H'' b=none->H' b=none:=λ{H' H'' b} t' b' e=>by
   cases q:H' b with
   | none=>rfl
   | some o=>
    by_cases z:b=T
    ·rcases t' with t | ⟨_,t,_⟩<;>(rw[<-z,e] at t;cases t)
    ·rw[b' _ _ q z] at e;cases e
  refine⟨_,rfl,a,ns,rfl,hS,hlen,λdr sc H1 ndr nsc d1 s1=>?_⟩;have tab1:Ai T (lamPos s_in_order) qIn H1:=.inl (s1 _ _ hTb);refine⟨_,rfl,dr,sc,9,rfl,by decide,d1,λr row n st late H2 nr hn hst hR hp hno d2 b2=>?_⟩;have tab2:Ai T (lamPos s_in_order) qIn H2:=by
   obtain⟨xs1,h1⟩:=d1.at;exact SH.Ai.but tab1 h1 b2
  have hI:Isl row:=⟨n,st,late,by omega,hst,hp⟩;have R2:=hI.row2;have hrl:=R2.len;have nl0:(Bd st late n).length=n:=by unfold Bd;rw[K8,Ms]
  have hdn:(dit row).length=n:=by
   have hp':(dit row).Perm (Bd st late n):=Gw (Eb row) (J3 hst (by omega)) λx=>by
    rw[Ak,hp.mem_iff,Ll,or_self]
   rw[hp'.length_eq,nl0]
  have hrow:row.length=2 * (dit row).length:=by
   rw[hp.length_eq,Lj,nl0,hdn];omega
  have h13:(dit row).length<=13:=by omega
  have nrd:r≠dr:=(d1.ne nr).1;refine⟨_,rfl,r,row,rfl,hR,R2,hno,h13,tab2,λl ps Ts H3 nl hl3 hT3 hPL pw hps64 tab3 bt3=>?_⟩;have bt3:But T H2 H3:=bt3;have hR3:=bt3 _ _ hR (nT tab2 hR λz=>by simp);have d3:=d2.butT tab2 bt3;have nld:l≠dr:=(d2.ne nl).1;have hps:=hT3.1;have ndT:=Xmj pw;have hlp:0<ps.length:=by rw[hps];exact List.length_pos_of_mem ((hPL []).mpr (Xdl row))
  have okp:∀t,Ae row t=true->(∀y∈t,okN y)/\t.length<=14:=λt ht=>⟨λy hy=>R2.ok y ((Bo ht).1 y hy),L0 (He ht) (by omega)⟩;refine⟨_,rfl,_,rfl,dr,sc,l,_,rfl,d3,hl3,nld,by rw[K8];exact hlp,by rw[K8];omega,λi1 H4 hi1 d4 b4=>?_⟩;have b4:But dr H3 H4:=b4;rw[K8] at hi1;rw[Co V.ref 0 ps hi1];have tab4:=SH.Ai.butD tab3 d3 b4;have hR4:=b4 _ _ hR3 nrd;have hl4:=b4 _ _ hl3 nld;have hT4:Tups H4 ps Ts:=⟨hps,λi hi=>b4 _ _ (hT3.2 i hi) (d3.ntup _ _ (hT3.2 i hi))⟩;have hp4:=hT4.2 i1 hi1;have hW:=(hPL _).mp (SH.Tups.at hT4 hi1);generalize ps.getD i1 0=p at hp4;generalize Ts.getD i1 []=W at hp4 hW;dsimp only[Ba];refine⟨_,rfl,l,rfl,⟨_,SqL.of hl4⟩,?_⟩;refine Xm5 (row:=row) (ps:=ps) (Ts:=Ts) (n:=ps.length) (by rw[Pa];omega) (λj=>.ref (ps.getD j 0)) (fun σ=>∃v, σ=[v,some (.ref r)]) ⟨_,rfl⟩ tab4 ?_ ?_ ?_ ?_
  ·intro j H6 hj b6;have:=Dk (K:=K) (SqL.of (b6 _ _ hl4 (nT tab4 hl4 λz=>by simp))) (show j<(ps.map V.ref).length by rw[K8];exact hj)
   rwa [Co V.ref 0 ps hj] at this
  ·intro H6 b6;have:=Dl (K:=K) (SqL.of (b6 _ _ hl4 (nT tab4 hl4 λz=>by simp)))
   rwa [K8] at this
  ·rintro j σ1 H6 Q1 Q0 hj ⟨v,rfl⟩ t6 b6 kk;have hp6:=b6 _ _ (hT4.2 j hj) (nT tab4 (hT4.2 j hj) λz=>by simp);have iS:=(hPL _).mp (SH.Tups.at hT4 hj);generalize Ts.getD j []=S at hp6 iS kk;dsimp only[Ba,C7];rw[Pc rfl];refine⟨_,rfl,_,rfl,_,rfl,r,ps.getD j 0,row,S,rfl,b6 _ _ hR4 (nT tab4 hR4 λz=>by simp),R2,hno,h13,t6,hp6,iS,λD qs H8 nD hD hnb hql t8 b8=>?_⟩;have b8:But T H6 H8:=b8;refine⟨by show 2<=sizeLine;decide,λt nt=>?_⟩;have s9:Same H8 (upd H8 t (.tup [.ref (ps.getD j 0),.ref D])):=(Same.refl H8).step nt;exact kk _ t D qs _ ⟨_,rfl⟩ nD (frT t8 b8 nt) Ab (s9 _ _ hD) (hnb.same s9) hql (SH.Ai.same t8 s9) λb o e n=>s9 _ _ (b8 _ _ e n)
  intro O ts ds H5 nO tab5 b5 lts hO hall;have k5:∀{b:Addr} {o:HO},H4 b=some o->(∀z,o ≠ .tbl z)->H5 b=some o:=λe n=>b5 _ _ e (nT tab4 e n);have kl:(kvB Ts ds).length=ps.length:=by unfold kvB;rw[K8,Ms,hps]
  have atB:∀i,i<ps.length->(kvB Ts ds).getD i B8=(kOf (Ts.getD i []),V.ref (ds.getD i 0)):=λi hi=>by
   unfold kvB;rw[List.getD,Lx,Ot (by omega)];rfl
  refine⟨O,ts,ps,kvB Ts ds,rfl,hO,by rw[lts,kl],by omega,λi hi=>?_,λby_ nby=>?_⟩
  ·rw[lts] at hi;rw[atB i hi];refine⟨(hall i hi).1,?_⟩;rw[Xet];exact k5 (hT4.2 i hi) λz=>by simp
  rw[Xm4 _ rfl (Xe4 ndT ds)];have s6:Same H5 (upd H5 by_ (.dT (kvB Ts ds))):=(Same.refl H5).step nby;have hby:upd H5 by_ (.dT (kvB Ts ds)) by_=some (.dT (kvB Ts ds)):=Ab;dsimp only[Ba];generalize upd H5 by_ (.dT (kvB Ts ds))=H0 at s6 hby;have B0:ByAt H0 by_ row Ts:=⟨ds,hby,λi hi=>by
   obtain⟨_,qs,h1,h2,h3⟩:=hall i (by omega);exact⟨qs,s6 _ _ h1,h2.same s6,h3⟩⟩
  have hR0:=s6 _ _ (k5 hR4 λz=>by simp);have hp0:=s6 _ _ (k5 hp4 λz=>by simp);have hl0:=s6 _ _ (k5 hl4 λz=>by simp);have tab0:=SH.Ai.same tab5 s6;have d0:=(d4.butT tab4 b5).same s6;refine⟨_,rfl,by show 1<=sizeLine;decide,λmt nmt=>?_⟩;have s7:Same H0 (upd H0 mt (.lst [.ref p])):=(Same.refl H0).step nmt;have hm7:upd H0 mt (.lst [.ref p]) mt=some (.lst ([p].map V.ref)):=Ab;dsimp only[Ba];generalize upd H0 mt (.lst [.ref p])=H7 at s7 hm7;refine⟨_,rfl,by show 1<=sizeLine;decide,λly0 nly0=>?_⟩;have s8:Same H7 (upd H7 ly0 (.lst [.ref p])):=(Same.refl H7).step nly0;have hl8:upd H7 ly0 (.lst [.ref p]) ly0=some (.lst ([p].map V.ref)):=Ab;have nlm0:ly0≠mt:=(Aq hm7 nly0).symm;have nly00:=s7.free nly0;dsimp only[Ba];generalize upd H7 ly0 (.lst [.ref p])=H8 at s8 hl8;have s08:=s7.trans s8;have xWW:(A7 W W).length=0:=by
   rw[Ek hW hW];exact Xes.mpr λx _=>by unfold ne2;cases decide (x∈W)<;>rfl
  have one0:∀S,S∈[W]↔atK row W 0 S:=λS=>by
   rw[Lf];constructor
   ·rintro rfl;exact⟨hW,xWW⟩
   ·rintro ⟨h1,h2⟩;exact(Xmq hW h1 h2).symm
  have et:(((row.map V.str).length:Int) / 2+1).toNat=(dit row).length+1:=by rw[K8,hrow];omega
  refine⟨_,rfl,r,_,rfl,.inl (SqL.of (s08 _ _ hR0)),_,_,rfl,rfl,⟨by decide,by decide⟩,_,_,rfl,rfl,_,rfl,by omega,by rw[K8];omega,?_⟩;rw[et];refine Fc (lo:=0) (n:=(dit row).length+1) (λi σ H'=>∃(ly:Addr) (v8 v9 v10 v11 v12:Option V) (ms ls:List Addr) (Me La:List (List Str)), σ=[some (.ref a),some (.ref dr),some (.ref r),some (.ref l),some (.ref p),some (.ref by_),some (.ref mt),some (.ref ly),v8,v9,v10,v11,v12,none,none,none]/\Same H0 H'/\H' mt=some (.lst (ms.map V.ref))/\Tups H' ms Me/\Me.Nodup/\(∀S,S∈Me↔upK row W i S)/\H' ly=some (.lst (ls.map V.ref))/\Tups H' ls La/\La.Nodup/\(∀S,S∈La↔atK row W i S)/\H0 ly=none/\ly≠mt) ?_ ?_ ?_
  ·refine⟨ly0,_,_,_,_,_,[p],[p],[W],[W],rfl,s08,s8 _ _ hm7,Tups.cons (s08 _ _ hp0) (Tups.nil _),by simp,λS=>?_,hl8,Tups.cons (s08 _ _ hp0) (Tups.nil _),by simp,one0,nly00,nlm0⟩;rw[one0];exact⟨λh=>⟨h.1,by rw[h.2];exact K9 _⟩,λh=>⟨h.1,Nat.le_zero.mp h.2⟩⟩
  ·rintro i σ H9 hi ⟨ly,v8,v9,v10,v11,v12,ms,ls,Me,La,rfl,s9,hm9,hMt,ndM,isM,hl9,hLt,ndL,isL,nly,nlm⟩;have hR9:=s9 _ _ hR0;have hp9:=s9 _ _ hp0;have lls:ls.length<=64:=by
    rw[hLt.1];exact L0 (Xe2 (B:=Ts) ndL λS hS=>(hPL S).mpr ((isL S).mp hS).1) (by omega)
   dsimp only[Ba];refine⟨_,rfl,ly,rfl,⟨_,SqL.of hl9⟩,?_⟩;refine Jk (n:=ls.length) (by rw[Pa];omega) (λj=>.ref (ls.getD j 0)) (λj=>.bl true) ?_ ?_ ?_ ?_
   ·intro j HA hj sA;have:=Dk (K:=K) (SqL.of (sA _ _ hl9)) (by rw[K8];exact hj);rw[Co V.ref 0 ls hj] at this;exact this
   ·intro HA sA;have:=Dl (K:=K) (SqL.of (sA _ _ hl9))
    rwa [K8] at this
   ·intro j HA Q' hj sA kq;have hq:=sA _ _ (hLt.2 j hj);obtain⟨iS,eS⟩:=(isL _).mp (SH.Tups.at hLt hj);generalize La.getD j []=S at hq iS eS;refine⟨_,rfl,_,rfl,_,rfl,r,p,ls.getD j 0,row,W,S,rfl,⟨sA _ _ hR9,R2,by omega,sA _ _ hp9,hq,(okp W hW).1,(okp S iS).1,L0 (okp W hW).2 (by decide),L0 (okp S iS).2 (by decide)⟩,λ_ HB sB=>?_,λz=>absurd ⟨hW,iS⟩ z⟩;refine⟨_,rfl,rfl,?_⟩;rw[eS,Pd (by show V.int (i:Int)=V.int (0+(i:Int));rw[O7])];exact kq HB sB
   intro O2 HA nO2 sA hO2;have hO2':HA O2=some (.lst (((List.range ls.length).map λ_=>true).map V.bl)):=by rw[hO2,L9];rfl
   refine⟨O2,_,rfl,hO2',_,rfl,?_⟩;have ea:((List.range ls.length).map λ_=>true).all id=true:=by simp
   rw[ea];refine B5 ?_;refine⟨by show 0<=sizeLine;decide,λfr nfr=>?_⟩;have sB:Same HA (upd HA fr (.lst [])):=(Same.refl HA).step nfr;have hfB:upd HA fr (.lst []) fr=some (.lst (([]:List Addr).map V.ref)):=Ab;have nfm:fr≠mt:=(Aq (sA _ _ hm9) nfr).symm;have nfl:fr≠ly:=(Aq (sA _ _ hl9) nfr).symm;have nf0:=(s9.trans sA).free nfr;dsimp only[Ba];generalize upd HA fr (.lst [])=HB at sB hfB;have s9B:=sA.trans sB;have F0:Bf H0 HB mt fr ly Me [] La ls:=⟨s9.trans s9B,⟨ms,s9B _ _ hm9,by rw[Mj];exact hMt.same s9B⟩,⟨[],hfB,Tups.nil _⟩,s9B _ _ hl9,hLt.same s9B⟩;refine⟨_,rfl,ly,rfl,⟨_,SqL.of F0.hl⟩,?_⟩;refine Gf (K:=K) (a:=ly) (xs:=ls.map V.ref) (λi2 σ H'=>(∃v10 v11 v12, σ=[some (.ref a),some (.ref dr),some (.ref r),some (.ref l),some (.ref p),some (.ref by_),some (.ref mt),some (.ref ly),some (.int (0+(i:Int))),some (.ref fr),v10,v11,v12,none,none,none])/\∃Fr,Bf H0 H' mt fr ly Me Fr La ls/\(Me++Fr).Nodup/\(∀S∈Fr,∃L∈La,∃q∈nbL row L,q.2=S)/\∀L∈La.take i2,∀q∈nbL row L,q.2∈Me++Fr) ?_ ?_ ?_ ?_
   ·exact⟨⟨_,_,_,rfl⟩,[],F0,by rw[Mj];exact ndM,λS hS=>(nomatch hS),λL hL=>by simp at hL⟩
   ·rintro i2 σ H' _ ⟨_,Fr,bf,_⟩;exact SqL.of bf.hl
   ·rintro i2 x σ HC hx ⟨⟨v10,v11,v12,rfl⟩,Fr,bf,nd,hfr,hdone⟩;obtain⟨hi2,rfl⟩:=Xer hx;have hiL:i2<La.length:=by rw[<-hLt.1];exact hi2
    have hq:=bf.ht.2 i2 hi2;have mL:=SH.Tups.at bf.ht hi2;have htk:La.take (i2+1)=La.take i2++[La.getD i2 []]:=by
     rw[Lu hiL];simp[List.getD,hiL]
    generalize La.getD i2 []=L at hq mL htk;generalize ls.getD i2 0=q at hq;obtain⟨D,qs,gg,hD0,hnb0,hql⟩:=get2 B0 bf.s ndT ((hPL L).mpr ((isL L).mp mL).1) hq;dsimp only[Ba];refine⟨_,rfl,_,rfl,by_,_,rfl,gg,D,rfl,⟨_,SqL.of (bf.s _ _ hD0)⟩,?_⟩;refine Gf (K:=K) (a:=D) (xs:=qs.map V.ref) (λj σ H'=>(∃v11 v12, σ=[some (.ref a),some (.ref dr),some (.ref r),some (.ref l),some (.ref p),some (.ref by_),some (.ref mt),some (.ref ly),some (.int (0+(i:Int))),some (.ref fr),some (.ref q),v11,v12,none,none,none])/\∃Fr,Bf H0 H' mt fr ly Me Fr La ls/\(Me++Fr).Nodup/\(∀S∈Fr,∃L∈La,∃q∈nbL row L,q.2=S)/\(∀L∈La.take i2,∀q∈nbL row L,q.2∈Me++Fr)/\∀q∈(nbL row L).take j,q.2∈Me++Fr) ?_ ?_ ?_ ?_
    ·exact⟨⟨_,_,rfl⟩,Fr,bf,nd,hfr,hdone,λq hq=>by simp at hq⟩
    ·rintro j σ H' _ ⟨_,Fr,bf,_⟩;exact SqL.of (bf.s _ _ hD0)
    ·rintro j x σ HD hx ⟨⟨v11,v12,rfl⟩,Fr,bf,nd,hfr,hdone,hj⟩;obtain⟨hjq,rfl⟩:=Xer hx;have hjn:j<(nbL row L).length:=by rw[<-hnb0.1];exact hjq
     obtain⟨p',h1,h2⟩:=hnb0.2 j hjq;have htk2:(nbL row L).take (j+1)=(nbL row L).take j++[(nbL row L).getD j dN]:=by
      rw[Lu hjn];simp[List.getD,hjn]
     have mq:(nbL row L).getD j dN∈nbL row L:=by
      rw[show (nbL row L).getD j dN=(nbL row L)[j] by simp[List.getD,hjn]];exact L8 hjn
     generalize (nbL row L).getD j dN=nq at h1 h2 htk2 mq;obtain⟨_,_,iq⟩:=E6.mp mq;have plF:∀S∈Me++Fr,Ae row S=true:=λS hS=>by
      rcases Ll.mp hS with z | z
      ·exact((isM S).mp z).1
      ·obtain⟨L',_,q',hq',rfl⟩:=hfr S z;exact(E6.mp hq').2.2
     have okM:∀S∈Me++Fr,∀y∈S,okN y:=λS hS=>(okp S (plF S hS)).1;have okq:=(okp _ iq).1;obtain⟨ms2,hm2,tm2⟩:=bf.hm;obtain⟨fs2,hf2,tf2⟩:=bf.hf;have lm:ms2.length<=64:=by
      rw[tm2.1];exact L0 (Xe2 (B:=Ts) nd λS hS=>(hPL S).mpr (plF S hS)) (by omega)
     have lf:fs2.length<=64:=by
      have e1:=tm2.1;have e2:=tf2.1;rw[Lj] at e1;omega
     have h1D:=bf.s _ _ h1;have h2D:=bf.s _ _ h2;refine⟨_,_,rfl,SqT.of h1D,rfl,_,_,rfl,_,_,rfl,rfl,?_⟩;refine⟨_,rfl,_,rfl,A6 nq.2,(Me++Fr).map A6,Ef h2D,Hk hm2 tm2,Db _ (Dw okq),Fw _ (Kx okM),by show PyData.depthAll (nq.2.map PyData.str)+1<=3;rw[F2];decide,_,rfl,?_⟩;rw[isin okM okq];refine Bc (λhno'=>?_) (λhyes=>?_)
     ·have nin:nq.2∉Me++Fr:=λz=>by rw[Pd z] at hno';cases hno'
      refine⟨_,rfl,.inl ⟨rfl,_,SqL.of hm2⟩,_,rfl,mt,_,_,rfl,rfl,hm2,by rw[K8,Pa];omega,?_⟩;have hf3:upd HD mt (.lst (ms2.map V.ref++[.ref p'])) fr=some (.lst (fs2.map V.ref)):=by rw[Ad nfm];exact hf2
      refine⟨_,rfl,.inl ⟨rfl,_,SqL.of hf3⟩,_,rfl,fr,_,_,rfl,rfl,hf3,by rw[K8,Pa];omega,?_⟩;have up:∀{S:List Str},S∈Me++Fr->S∈Me++(Fr++[nq.2]):=λh=>by rw[<-Nn];exact Ll.mpr (.inl h)
      have me:nq.2∈Me++(Fr++[nq.2]):=by simp
      refine⟨⟨_,_,rfl⟩,Fr++[nq.2],Xob bf nmt nf0 nfm nlm nfl hm2 tm2 hf2 tf2 h2D,?_,λS hS=>?_,λL' hL' q' hq'=>up (hdone L' hL' q' hq'),λq' hq'=>?_⟩
      ·rw[<-Nn,Mr];exact⟨nd,by simp,λx hx y hy e=>nin (by rw[Lf.mp hy] at e;exact e ▸ hx)⟩
      ·rcases Ll.mp hS with z | z
       ·exact hfr S z
       ·rw[Lf.mp z];exact⟨L,mL,nq,mq,rfl⟩
      ·rw[htk2] at hq';rcases Ll.mp hq' with z | z
       ·exact up (hj q' z)
       ·rw[Lf.mp z];exact me
     ·have yin:nq.2∈Me++Fr:=Classical.byContradiction λz=>by rw[Pe z] at hyes;cases hyes
      refine⟨⟨_,_,rfl⟩,Fr,bf,nd,hfr,hdone,λq' hq'=>?_⟩;rw[htk2] at hq';rcases Ll.mp hq' with z | z
      ·exact hj q' z
      ·rw[Lf.mp z];exact yin
    ·rintro σ HD ⟨⟨v11,v12,rfl⟩,Fr,bf,nd,hfr,hdone,hj⟩;rw[K8,hnb0.1,Mq] at hj;refine⟨⟨_,_,_,rfl⟩,Fr,bf,nd,hfr,λL' hL'=>?_⟩;rw[htk] at hL';rcases Ll.mp hL' with z | z
     ·exact hdone L' z
     ·rw[Lf.mp z];exact hj
   ·rintro σ HC ⟨⟨v10,v11,v12,rfl⟩,Fr,bf,nd,hfr,hdone⟩;rw[K8,hLt.1,Mq] at hdone;obtain⟨ms2,hm2,tm2⟩:=bf.hm;obtain⟨fs2,hf2,tf2⟩:=bf.hf;have nd2:=Mr.mp nd;obtain⟨x1,x2⟩:=Xmx R2 hW isM isL hfr (λS hS hM=>nd2.2.2 S hM S hS rfl) hdone;exact⟨_,rfl,fr,_,_,_,_,_,ms2,fs2,Me++Fr,Fr,rfl,bf.s,hm2,tm2,nd,x2,hf2,tf2,nd2.2.1,x1,nf0,nfm⟩
  ·rintro σ H9 ⟨ly,v8,v9,v10,v11,v12,ms,ls,Me,La,rfl,s9,hm9,hMt,ndM,isM,hl9,hLt,ndL,isL,nly,nlm⟩;have hR9:=s9 _ _ hR0;have hp9:=s9 _ _ hp0;have hls9:=s9 _ _ hl0;have eLa:La=[]:=List.eq_nil_iff_forall_not_mem.mpr λS hS=>by
    obtain⟨h1,h2⟩:=(isL S).mp hS;have:=Xe0 hW h1;omega
   have eM:ms.length=ps.length:=by
    rw[hMt.1,hps];refine Xmy ndM ndT λS=>?_;rw[isM,hPL];exact⟨λh=>h.1,λh=>⟨h,L0 (Xe0 hW h) (Ni _)⟩⟩
   refine⟨_,rfl,mt,_,rfl,.inl (SqL.of hm9),_,rfl,l,_,rfl,.inl (SqL.of hls9),rfl,_,rfl,?_⟩;rw[Pd (by rw[K8,K8,eM])];refine B5 ?_;refine⟨_,rfl,by show 0<=sizeLine;decide,λe0 ne0=>?_⟩;have sA:Same H9 (upd H9 e0 (.lst [])):=(Same.refl H9).step ne0;have he:upd H9 e0 (.lst []) e0=some (.lst (([]:List Addr).map V.ref)):=Ab;dsimp only[Gg];generalize upd H9 e0 (.lst [])=HA at sA he;have okN0:∀S∈([]:List (List Str)),∀y∈S,okN y:=λS hS=>(nomatch hS);rw[eLa] at hLt;refine⟨.list (([]:List (List Str)).map A6),.list (([]:List (List Str)).map A6),Hk (sA _ _ hl9) (hLt.same sA),Hk he (Tups.nil _),Db _ (Hj okN0),Db _ (Hj okN0),Xmg _ _,_,rfl,?_⟩;rw[Xmf okN0 okN0,Pd rfl];refine B5 ?_;have s0A:=s9.trans sA;have dA:=d0.same s0A;refine⟨_,rfl,_,rfl,_,rfl,_,rfl,dr,sc,25,rfl,by decide,by decide,dA,λm HB m0 m1 dB bB=>?_⟩;have bB:But dr HA HB:=bB;obtain⟨m,rfl⟩:=Mi m0;have tabB:=SH.Ai.butD (SH.Ai.same tab0 s0A) dA bB;have hRB:=bB _ _ (s0A _ _ hR0) nrd;have hpB:=bB _ _ (s0A _ _ hp0) (dA.ntup _ _ (s0A _ _ hp0));refine⟨dr,sc,r,p,row,W,m,rfl,dB,hRB,nrd,R2,hno,h13,tabB,hpB,hW,by omega,λt h st' S ss HC ht hh hst' hS ho hsl tC dC bC=>?_⟩;have bC:But2 T dr HB HC:=bC;have hRC:=bC _ _ hRB (nT tabB hRB λz=>by simp) nrd;have hpC:=bC _ _ hpB (nT tabB hpB λz=>by simp) (dB.ntup _ _ hpB);refine⟨_,_,rfl,SqT.of ht,rfl,_,_,rfl,_,_,rfl,rfl,?_⟩;refine⟨_,rfl,_,rfl,_,rfl,r,p,h,row,W,S,rfl,⟨hRC,R2,by omega,hpC,hh,(okp W hW).1,(okp S hS).1,L0 (okp W hW).2 (by decide),L0 (okp S hS).2 (by decide)⟩,λ_ ap HD nap hap sD=>?_,λz=>absurd ⟨hW,hS⟩ z⟩;have sD:Same HC HD:=sD;dsimp only[Ba];refine⟨_,rfl,r,row,rfl,.inl (SqL.of (sD _ _ hRC)),R2.len,λnl' HE nnl hnl sE=>?_⟩;have sCE:=sD.trans sE;have hstE:=sCE _ _ hst';have hapE:=sE _ _ hap;refine⟨nl',rfl,⟨_,SqL.of hnl⟩,?_⟩;refine Jk (n:=(dit row).length) (by rw[Pa];omega) (λj=>.str ((dit row).getD j Str.empty)) (λj=>.bl true) ?_ ?_ ?_ ?_
   ·intro j HF hj sF;have:=Dk (K:=K) (SqL.of (sF _ _ hnl)) (by rw[K8];exact hj);rw[Co V.str Str.empty (dit row) hj] at this;exact this
   ·intro HF sF;have:=Dl (K:=K) (SqL.of (sF _ _ hnl))
    rwa [K8] at this
   ·intro j HF Q' hj sF kq;generalize (dit row).getD j Str.empty=x;refine⟨_,rfl,.inl ⟨rfl,_,SqL.of (sF _ _ hstE)⟩,_,rfl,st',_,_,rfl,rfl,sF _ _ hstE,rfl,Ex ss,?_⟩;rw[Xjd];refine⟨_,_,rfl,rfl,by show (0:Int)<2;decide,rfl,?_⟩;refine⟨_,rfl,_,rfl,ap,_,rfl,.inl (SqL.of (sF _ _ hapE)),rfl,Ex _,rfl,?_⟩;have eA:decide ((λi j=>V.int (i % j)) ((ss.count x:Nat):Int) 2=V.int 1)=ne2 W S x:=by
     rw[ho x];show decide (V.int (((ss.count x:Nat):Int) % 2)=V.int 1)=decide (ss.count x % 2=1);by_cases z:ss.count x % 2=1
     ·rw[Pd z,Pd];have:((ss.count x:Nat):Int) % 2=1:=by omega
      rw[this]
     ·rw[Pe z,Pe];intro q;injection q with q
      omega
    have eB:(if false=true then !inV (.str x) ((A7 W S).map V.str) else inV (.str x) ((A7 W S).map V.str))=ne2 W S x:=by
     rw[Pb (by decide),Ft];cases e:ne2 W S x with
     | true=>
      rw[Pd];rcases Ej.mp e with z | z
      ·exact E5.mpr (.inl z)
      ·exact E5.mpr (.inr z)
     | false=>
      rw[Pe];intro z;have:=Ej.mpr (E5.mp z);rw[e] at this;cases this
    rw[eA,eB,Pd rfl];exact kq HF (Same.refl _)
   ·intro O2 HF nO2 sF hO2;have hO2':HF O2=some (.lst (((List.range (dit row).length).map λ_=>true).map V.bl)):=by rw[hO2,L9];rfl
    refine⟨O2,_,rfl,hO2',?_⟩;have ea:((List.range (dit row).length).map λ_=>true).all id=true:=by simp
    rw[ea];exact k _
end
end K20
set_option maxHeartbeats 4000000
namespace PySem.OldK
theorem of_tab{h₀ h:Heap}{T:Addr}(ht:isCodeTable h₀ T)(hT:h₀.get? T=some (PySem.W.tabObj #[]))(hT':∃ps,h.get? T=some (PySem.W.tabObj ps))(k:∀b o,b≠T->h₀.get? b=some o->h.get? b=some o):OldK h₀ h:=by
 obtain⟨ps,hps⟩:=hT';refine⟨λb o e=>?_,λb o e=>?_⟩
 ·by_cases z:b=T
  ·subst z;rw[hT] at e;cases e;exact .inr (.inl ⟨ht,rfl, #[],ps,rfl,by simpa using hps⟩)
  ·exact .inl (k b o z e)
 ·by_cases z:b=T
  ·exact⟨_,z ▸ hps⟩
  ·exact⟨o,k b o z e⟩
end PySem.OldK
namespace L2
open PySem PySem.Spec PyProof.Rows
theorem Xod{P:Program}{w:World}{K:PySem.W.Frag}{mg mb:Str->Option Value}{CX:CXT}{k:Nat}{fa a:Addr}{fd:FuncData}{x:Str}{sp:Sp}{s₁ : Shared}{vs:List Value}{ns:List Int}{T c0:Addr}
  (hT:s₁.heap.get? T=some (PySem.W.tabObj #[])) (hTK:K.lookup T=none) (hhd:PySem.W.codeHdIn K c0 T=true) (hbm:BmOk mg s₁.heap)
  (KX:K.In s₁.heap) (hns:s₁.heap.Ns mainGlobals mg) (hb:s₁.heap.Ns builtinsNs mb) (hbb:∀x:Str,x ≠ "__name__" -> mb x=bootBuiltins x) (hlim:s₁.heap.NoLimit) (hg:s₁.gens = #[])
  (ha:s₁.heap.get? a=some {cls:=.type "list",data:=.seq vs.toArray}) (hi:IntsAre vs ns) (hl:ns.length<=sizeLine) (hr:Room k callerA)
  (F:∀base:Heap,K.In base->base.Ns mainGlobals mg->BmOk mg base->FnOk P w K mg base CX k fa fd [x] sp) (hbind:∀(s:Shared) (u:Value),BindsTo s fd ⟨[u],[]⟩ [(x,u)])
  (hsp:∀H:Hp,H T=some (.tbl #[])->SqL K H a (ns.map V.int)->sp [.ref a] H (λv _=>v = .bl true) λ_ _ _=>False)
  (hCX:∀H e s',CX [] H s₁ (λ_ _ _=>False) e s'->False):
  codeAny (model P w) callerA (.call (.ref fa) ⟨[.ref a],[]⟩) (λr s'=>r = .ok (.ret (.bool true))/\OldK s₁.heap s'.heap/\s'.os=s₁.os/\AllBare s'.gens) s₁:=by
 have rv:=Xbe hi;have lenV:=hi.length;have core:∀H:Hp,H T=some (.tbl #[])->(∀b,b≠T->H b=none \/ ∃o xs,H b=some (.frz o (.lst xs)))->SqL K H a (ns.map V.int)->HOk P w H s₁.heap->(∀b,H b≠none->b=a\/b=T)->(H a≠none->K.lookup a=none) ->
   codeAny (model P w) callerA (.call (.ref fa) ⟨[.ref a],[]⟩) (λr s'=>r = .ok (.ret (.bool true))/\OldK s₁.heap s'.heap/\s'.os=s₁.os/\AllBare s'.gens) s₁:=by
  intro H hHT hO hS hok hA hK;have base_of:∀{b:Addr} {o:Obj},s₁.heap.get? b=some o->H b=none->(Cr s₁.heap H).get? b=some o:=λe n=>Xfi e n;have noA:∀{b:Addr} {o:Obj} {es:Array DictEntry} {ep:Nat},s₁.heap.get? b=some o->o.data = .dict es ep->H b=none:=λ{b o es ep} e d=>by
   cases q:H b with
   | none=>rfl
   | some u=>
    rcases hA b (by rw[q];simp) with e' | e'
    ·subst e';rw[ha] at e;cases e;have d':Data.seq vs.toArray _=Data.dict es ep:=d;cases d'
    ·subst e';rw[hT] at e;cases e;cases d
  have nsK:∀{b:Addr} {m:Str->Option Value},s₁.heap.Ns b m->(Cr s₁.heap H).Ns b m:=λ{b m} ⟨o,es,ep,e,d,r⟩=>⟨o,es,ep,base_of e (noA e d),d,r⟩;have hKb:K.In (Cr s₁.heap H):=λb o e=>base_of (KX b o e) (by
   cases q:H b with
   | none=>rfl
   | some u=>
    rcases hA b (by rw[q];simp) with e' | e'
    ·subst e';rw[hK (by rw[q];simp)] at e;cases e
    ·subst e';rw[hTK] at e;cases e)
  have hbm':BmOk mg (Cr s₁.heap H):=by
   obtain⟨bm,ob,b1,b2,b3,b4,b5,b6⟩:=hbm;refine⟨bm,ob,b1,b2,base_of b3 ?_,b4,b5,b6⟩;cases q:H bm with
   | none=>rfl
   | some u=>
    rcases hA bm (by rw[q];simp) with e' | e'
    ·subst e';rw[ha] at b3;cases b3;exact absurd (show Value.type "list" = Value.type "module" from b4) (by decide)
    ·subst e';rw[hT] at b3;cases b3;cases b4
  have hM:Mod K mg (Cr s₁.heap H):=⟨hKb,nsK hns,⟨mb,nsK hb,hbb⟩,let ⟨mc,h1,h2⟩:=hlim; ⟨mc,nsK h1,h2⟩⟩;have e0:Env0 P w K mg (Cr s₁.heap H) callerA [] s₁ H:=⟨rfl,hM,λb o e=>Xfj e,Nat.le_of_eq (Xfh _ _),trivial,λb hb=>absurd (show b∈([]:List Addr) from hb) (by simp),hok,.of_eq hg⟩;refine codeAny_mono ((F _ hKb (nsK hns) hbm').run callerA [] s₁ H ⟨[.ref a],[]⟩ [.ref a] [.ref a] _ _ hr e0 (hbind s₁ (.ref a)) (.cons rfl .nil) (hsp H hHT hS)) λr s' h=>?_;cases r with
  | error e=>exact(hCX H e s' h).elim
  | ok fl=>
   cases fl with
   | next=>exact False.elim h
   | brk=>exact False.elim h
   | cont=>exact False.elim h
   | ret u=>
    obtain⟨v,H',os,bare,un,hok',r',q⟩:=h;have q':v = .bl true:=q;subst q';obtain rfl:u=Value.bool true:=r';refine⟨rfl,OldK.of_tab (T:=T) (by have C:=PySem.W.codeHd_of_K KX hhd;exact(C.tab hT).isCodeTable) hT ?_ λb o nb e=>?_,os,bare⟩
    ·obtain⟨more,hm⟩:=un.tbls T #[] hHT;exact⟨#[]++more,hok' T _ hm⟩
    cases q:H b with
    | none=>exact un.keep b o e q (by intro z;exact absurd (show b∈([]:List Addr) from z) (by simp)) (by simp)
    | some u=>
     rcases hO b nb with z | ⟨ob,xs,z⟩
     ·rw[q] at z;cases z
     ·have z2:=un.frzs b ob _ z;obtain⟨e1,_⟩:=hok b _ z;obtain⟨e2,_⟩:=hok' b _ z2;rw[e] at e1;cases e1;exact e2
 cases hk:K.lookup a with
 | some o=>
  have e:=KX a o hk;rw[ha] at e;cases e;have naT:a≠T:=λz=>by rw[z,hTK] at hk;cases hk
  refine core (λb=>if b=T then some (.tbl #[]) else none) (Pc rfl) (λb n=>.inl (Pb n)) (.inr ⟨_,vs.toArray,_,hk,rfl,rfl,rfl,by rw[Lm,lenV];exact hl,by simpa using rv⟩) (λb u z=>?_) (λb z=>.inr (Classical.byContradiction λn=>z (Pb n))) λz=>absurd (Pb naT) z;by_cases hb:b=T
  ·have z':=(Pc hb).symm.trans z;cases z';rw[hb];exact hT
  ·have z':=(Pb hb).symm.trans z;cases z'
 | none=>
  have naT:T≠a:=λz=>by rw[z,ha] at hT;cases hT
  refine core (λb=>if b=T then some (.tbl #[]) else if b=a then some (.frz {cls:=.type "list",data:=.seq vs.toArray} (.lst (ns.map V.int))) else none) (Pc rfl) (λb n=>?_) (.inl (.inr ⟨{cls:=.type "list",data:=.seq vs.toArray},(Pb naT.symm).trans (Pc rfl)⟩)) (λb u z=>?_) (λb z=>?_) λ_=>hk
  ·by_cases hb:b=a
   ·exact .inr ⟨_,_,(Pb n).trans (Pc hb)⟩
   ·exact .inl ((Pb n).trans (Pb hb))
  ·by_cases hb:b=T
   ·have z':=(Pc hb).symm.trans z;cases z';rw[hb];exact hT
   ·have z1:=(Pb hb).symm.trans z;by_cases hb:b=a
    ·have z':=(Pc hb).symm.trans z1;cases z';subst hb;exact⟨ha,by rw[K8];exact hl,vs,_,rv,ha⟩
    ·have z':=(Pb hb).symm.trans z1;cases z'
  ·by_cases hb:b=T
   ·exact .inr hb
   ·by_cases hc:b=a
    ·exact .inl hc
    ·exact absurd ((Pb hb).trans (Pb hc)) z
theorem Xoe{l:PySem.W.OpenLaw}{n k:Nat}{q:Program}{loose:List Str}{XP:(Str->Option Value)->Heap->Prop}{YP:World->Heap->Prop}{d:DefRec}{K:Params->PySem.W.Frag}{CX:World->CXT}{sp:World->Sp}{x:Str}{T c0:Addr}
  (hn:l.most=some n) (hn2:n<=sizeLine) (hdf:d.params.defaults=[]) (hr:Room k callerA)
  (hY:∀(w:World) (h:Heap),YP w h->(K w.params).In h) (hYT:∀(w:World) (h:Heap),YP w h->h.get? T=some (PySem.W.tabObj #[])) (hTK:∀P,(K P).lookup T=none) (hhd:∀P,PySem.W.codeHdIn (K P) c0 T=true)
  (F:∀(w:World) (mg:Str->Option Value) (fa:Addr) (h:Heap),(K w.params).In h->h.Ns mainGlobals mg->mg d.name=some (.ref fa) ->
   ∃fd:FuncData,(∀(s:Shared) (u:Value),BindsTo s fd ⟨[u],[]⟩ [(x,u)]) /\
    ∀base:Heap,(K w.params).In base->base.Ns mainGlobals mg->BmOk mg base->FnOk l.prog w (K w.params) mg base (CX w) k fa fd [x] (sp w))
  (hsp:∀(w:World) (H:Hp) (a:Addr) (ns:List Int),ns.length<=n->H T=some (.tbl #[])->SqL (K w.params) H a (ns.map V.int)->sp w [.ref a] H (λv _=>v = .bl true) λ_ _ _=>False)
  (hCX:∀(w:World) (H:Hp) (s:Shared) (e:Value) (s':Shared),CX w [] H s (λ_ _ _=>False) e s'->False):
  PySem.W.WalkO q loose XP YP l.row.toRowW d [] (λf vs=>PySem.call f vs):=by
 refine Att.attach_call hn hdf λw s₀ s₁ mg mb fa o pm cd doc a vs ns G Y ho hd hcd hmg hobj hints hlen hg=>?_;have KX:=hY w _ Y;obtain⟨fd,hb,hF⟩:=F w mg fa _ KX G.T.g hmg;exact Xod (hYT w _ Y) (hTK _) (hhd _) G.T.bmain KX G.T.g G.T.b G.T.builtins G.T.nolimit hg hobj hints (L0 hlen hn2) hr hF hb (λH hO hS=>hsp w H a ns hlen hO hS) λH e s'=>hCX w H s₁ e s'
theorem Fn.ofT{P:Program}{w:World}{K:PySem.W.Frag}{h:Heap}{mg:Str->Option Value}{base:Heap}{CX:CXT}{k:Nat}{x:Str}{st:Stmt}{ps:List Str}{sp:Sp}{T:Addr}(X:K.In h)(G:h.Ns mainGlobals mg)(D:DefT K x st T)
  (hb:∀(kV doc pm:Value) (an:Option Addr) (cdv ct:Value) (us:List Value),us.length=ps.length->bindArgs (PySem.W.fnOf x x (C6 st) (B4 st) (Aj st) .none kV doc pm an cdv ct) ⟨us,[]⟩=pure (ps.zip us))
  (ok:∀f fd,FunT K x st f fd T->FnOk P w K mg base CX k f fd ps sp):Fn P w K mg base CX k x ps sp:=by
 obtain⟨f,fd,a,hk,F,F'⟩:=D.ex;exact⟨⟨f,fd,PySem.W.mg_of X G a,hk,F'.binds hb,ok f fd F⟩⟩
end L2
namespace L2
open PySem
theorem len1{us:List Value}(h:us.length=1):∃a,us=[a]:=List.length_eq_one_iff.mp h
theorem len2{us:List Value}(h:us.length=2):∃a b,us=[a,b]:=by
 cases us with
 | nil=>cases h
 | cons a r=>
  obtain⟨b,rfl⟩:=len1 (Nat.succ.inj h);exact⟨a,b,rfl⟩
theorem len3{us:List Value}(h:us.length=3):∃a b c,us=[a,b,c]:=by
 cases us with
 | nil=>cases h
 | cons a r=>
  obtain⟨b,c,rfl⟩:=len2 (Nat.succ.inj h);exact⟨a,b,c,rfl⟩
theorem len4{us:List Value}(h:us.length=4):∃a b c d,us=[a,b,c,d]:=by
 cases us with
 | nil=>cases h
 | cons a r=>
  obtain⟨b,c,d,rfl⟩:=len3 (Nat.succ.inj h);exact⟨a,b,c,d,rfl⟩
end L2
namespace K20
open PySem PySem.Spec PyProof.Rows L2 SH
theorem Xof{P:Program}{w:World}{K:PySem.W.Frag}{h:Heap}{mg:Str->Option Value}{fa C_NoDitch C_NoPlot T_:Addr}(X:K.In h)(G:h.Ns mainGlobals mg)(hfa:mg "law" = some (.ref fa))
  (d_ask_ditch:DefAt K "ask_ditch" sAsk)
  (d_ditches:DefAt K "ditches" sDitches)
  (d_ends:DefAt K "ends" sEnds)
  (d_spans:DefAt K "spans" sSpans)
  (d_lie_of:DefAt K "lie_of" sLieOf)
  (d_crossings:DefAt K "crossings" sCross)
  (d_told:DefAt K "told" sTold)
  (d_in_order:DefT K "in_order" s_in_order T_)
  (d_allows:DefAt K "allows" sAllows)
  (d_is_plot:DefAt K "is_plot" sIsPlot)
  (d_ask_plot:DefAt K "ask_plot" s_ask_plot)
  (d_plots:DefAt K "plots" s_plots)
  (d_parting:DefAt K "parting" s_parting)
  (d_across:DefAt K "across" s_across)
  (d_neighbours:DefAt K "neighbours" s_neighbours)
  (d_between:DefAt K "between" s_between)
  (d_far:DefAt K "far" s_far)
  (d__law_pick:DefAt K "_law_pick" sPick)
  (d__law_begin:DefAt K "_law_begin" sBegin)
  (d__law_put:DefAt K "_law_put" sPut)
  (d__law_where:DefAt K "_law_where" sWhere)
  (d__law_word:DefAt K "_law_word" sWord)
  (d__law_barred:DefAt K "_law_barred" sBarred)
  (d__law_row:DefAt K "_law_row" sRow)
  (d__law_names:DefAt K "_law_names" sNames)
  (d__law_island:DefAt K "_law_island" sIsland)
  (d__law_one:DefAt K "_law_one" s__law_one)
  (d__law_wander:DefAt K "_law_wander" s__law_wander)
  (d_law:DefAt K "law" s_law)
  (x_NoDitch:ExcAt K "NoDitch" C_NoDitch)
  (x_NoPlot:ExcAt K "NoPlot" C_NoPlot)
  (z_len:PySem.W.nsIn K mainGlobals "len" = some none)
  (z_range:PySem.W.nsIn K mainGlobals "range" = some none)
  (z_list:PySem.W.nsIn K mainGlobals "list" = some none)
  (z_min:PySem.W.nsIn K mainGlobals "min" = some none)
  (z_isinstance:PySem.W.nsIn K mainGlobals "isinstance" = some none)
  (z_all:PySem.W.nsIn K mainGlobals "all" = some none)
  (z_str:PySem.W.nsIn K mainGlobals "str" = some none)
  (z_ValueError:PySem.W.nsIn K mainGlobals "ValueError" = some none)
  (z_sorted:PySem.W.nsIn K mainGlobals "sorted" = some none)
  (z_set:PySem.W.nsIn K mainGlobals "set" = some none)
  (z_enumerate:PySem.W.nsIn K mainGlobals "enumerate" = some none)
  (z_int:PySem.W.nsIn K mainGlobals "int" = some none)
  (z_bool:PySem.W.nsIn K mainGlobals "bool" = some none)
  (z_tuple:PySem.W.nsIn K mainGlobals "tuple" = some none)
  (z_any:PySem.W.nsIn K mainGlobals "any" = some none)
  (z_dict:PySem.W.nsIn K mainGlobals "dict" = some none)
  (z_sum:PySem.W.nsIn K mainGlobals "sum" = some none)
  (z_max:PySem.W.nsIn K mainGlobals "max" = some none)
  : ∃fd:FuncData,(∀(s:Shared) (v:Value),BindsTo s fd ⟨[v],[]⟩ [("_law_script",v)])/\∀base:Heap,K.In base->base.Ns mainGlobals mg->BmOk mg base->FnOk P w K mg base CX0 8 fa fd ["_law_script"] (Ho K T_):=by
 have T:Bl mg:=⟨PySem.W.mg_none_of X G z_len,PySem.W.mg_none_of X G z_range,PySem.W.mg_none_of X G z_list,PySem.W.mg_none_of X G z_min,PySem.W.mg_none_of X G z_isinstance,PySem.W.mg_none_of X G z_all,PySem.W.mg_none_of X G z_str,PySem.W.mg_none_of X G z_ValueError,PySem.W.mg_none_of X G z_sorted,PySem.W.mg_none_of X G z_set,PySem.W.mg_none_of X G z_enumerate,PySem.W.mg_none_of X G z_int,PySem.W.mg_none_of X G z_bool,PySem.W.mg_none_of X G z_tuple,PySem.W.mg_none_of X G z_any,PySem.W.mg_none_of X G z_dict,PySem.W.mg_none_of X G z_sum,PySem.W.mg_none_of X G z_max⟩;obtain⟨f,fd,a,hk,F⟩:=d_law.ex;have e:=hfa.symm.trans (PySem.W.mg_of X G a);cases e;refine⟨fd,?_,λbase hB hG hbm=>?_⟩
 ·obtain⟨oc,od,kV,doc,pm,an,cdv,ct,osl,rfl,lk,hcd⟩:=F.ex;exact λs v=>.of_eq rfl
 ·have FB:Fn P w K mg base CX0 1 "_law_begin" ["_law_script"] (Ju K):=Fn.of X G d__law_begin (λ_ _ _ _ _ _ us hl=>by obtain⟨a,rfl⟩:=L2.len1 hl;rfl) λf fd F=>Xn0 F T;have FP:FnPick P w K mg base:=Fn.of X G d__law_pick (λ_ _ _ _ _ _ us hl=>by obtain⟨a,b,rfl⟩:=L2.len2 hl;rfl) λf fd F=>Xny F T;have FU:Fn P w K mg base CX0 1 "_law_put" ["_law_row_here", "_law_name", "_law_at", "_law_to"] Jv:=Fn.of X G d__law_put (λ_ _ _ _ _ _ us hl=>by obtain⟨a,b,c,d,rfl⟩:=L2.len4 hl;rfl) λf fd F=>Xn1 F;have FW:Fn P w K mg base CX0 1 "_law_where" ["_law_row_here"] Jy:=Fn.of X G d__law_where (λ_ _ _ _ _ _ us hl=>by obtain⟨a,rfl⟩:=L2.len1 hl;rfl) λf fd F=>Xn2 F T;have FO:Fn P w K mg base CX0 1 "_law_word" ["_law_where_here", "_law_one_here", "_law_other"] spWord:=Fn.of X G d__law_word (λ_ _ _ _ _ _ us hl=>by obtain⟨a,b,c,rfl⟩:=L2.len3 hl;rfl) λf fd F=>Xn3 F T;have FA:Fn P w K mg base CX0 2 "_law_barred" ["_law_row_here", "_law_name"] spBarredN:=Fn.of X G d__law_barred (λ_ _ _ _ _ _ us hl=>by obtain⟨a,b,rfl⟩:=L2.len2 hl;rfl) λf fd F=>Xn4 F T FW FO;have FR:Fn P w K mg base CX0 3 "_law_row" ["_law_draw", "_law_names_here"] spRowN:=Fn.of X G d__law_row (λ_ _ _ _ _ _ us hl=>by obtain⟨a,b,rfl⟩:=L2.len2 hl;rfl) λf fd F=>Xn5 F T FP FU FA;have FN:Fn P w K mg base CX0 2 "_law_names" ["_law_draw", "_law_many"] J4:=Fn.of X G d__law_names (λ_ _ _ _ _ _ us hl=>by obtain⟨a,b,rfl⟩:=L2.len2 hl;rfl) λf fd F=>Xn6 F T FP;have FI:Fn P w K mg base CX0 4 "_law_island" ["_law_draw", "_law_most"] spIslandN:=Fn.of X G d__law_island (λ_ _ _ _ _ _ us hl=>by obtain⟨a,b,rfl⟩:=L2.len2 hl;rfl) λf fd F=>Xn7 F T FP FN FR;have FK:Fn P w K mg base (CX1 P w) 1 "ask_ditch" ["row", "name"] (J6 C_NoDitch):=Fn.of X G d_ask_ditch (λ_ _ _ _ _ _ us hl=>by obtain⟨a,b,rfl⟩:=L2.len2 hl;rfl) λf fd F=>Xm7 F (PySem.W.mg_of X G x_NoDitch.a) x_NoDitch.e;have FD:Fn P w K mg base CX0 1 "ditches" ["row"] spDitches:=Fn.of X G d_ditches (λ_ _ _ _ _ _ us hl=>by obtain⟨a,rfl⟩:=L2.len1 hl;rfl) λf fd F=>Xm9 F T;have FE:Fn P w K mg base (CX1 P w) 2 "ends" ["row", "name"] (J7 C_NoDitch):=Fn.of X G d_ends (λ_ _ _ _ _ _ us hl=>by obtain⟨a,b,rfl⟩:=L2.len2 hl;rfl) λf fd F=>Xna F T FK;have FSp:Fn P w K mg base CX0 3 "spans" ["row"] spSpans:=Fn.of X G d_spans (λ_ _ _ _ _ _ us hl=>by obtain⟨a,rfl⟩:=L2.len1 hl;rfl) λf fd F=>Xnc F FD FE;have FLo:Fn P w K mg base CX0 2 "lie_of" ["here", "there"] spLieOf:=Fn.of X G d_lie_of (λ_ _ _ _ _ _ us hl=>by obtain⟨a,b,rfl⟩:=L2.len2 hl;rfl) λf fd F=>Xnd F;have FCr:Fn P w K mg base CX0 4 "crossings" ["row"] Ka:=Fn.of X G d_crossings (λ_ _ _ _ _ _ us hl=>by obtain⟨a,rfl⟩:=L2.len1 hl;rfl) λf fd F=>Xne F FSp FLo;have FTo:Fn P w K mg base CX0 1 "told" ["names"] (spTold K):=Fn.of X G d_told (λ_ _ _ _ _ _ us hl=>by obtain⟨a,rfl⟩:=L2.len1 hl;rfl) λf fd F=>Xng F T;have FAl:Fn P w K mg base CX0 1 "allows" ["how", "off"] spAllows:=Fn.of X G d_allows (λ_ _ _ _ _ _ us hl=>by obtain⟨a,b,rfl⟩:=L2.len2 hl;rfl) λf fd F=>Xnk F;have FIp:Fn P w K mg base CX0 4 "is_plot" ["row", "plot"] Kj:=Fn.of X G d_is_plot (λ_ _ _ _ _ _ us hl=>by obtain⟨a,b,rfl⟩:=L2.len2 hl;rfl) λf fd F=>Xnl F T FSp FLo FTo FAl;have FIo:Fn P w K mg base CX0 4 "in_order" ["some"] (spInOrder T_ (lamPos s_in_order)):=Fn.ofT X G d_in_order (λ_ _ _ _ _ _ us hl=>by obtain⟨a,rfl⟩:=L2.len1 hl;rfl) λf fd F=>Xni F T hbm;have FPl:Fn P w K mg base CX0 5 "plots" ["row"] (spPlotsA T_ (lamPos s_in_order)):=Fn.of X G d_plots (λ_ _ _ _ _ _ us hl=>by obtain⟨a,rfl⟩:=L2.len1 hl;rfl) λf fd F=>Xno F FSp FLo FTo FCr FIo;have FAp:Fn P w K mg base (CX1 P w) 5 "ask_plot" ["row", "plot"] (spAskPlot C_NoPlot):=Fn.of X G d_ask_plot (λ_ _ _ _ _ _ us hl=>by obtain⟨a,b,rfl⟩:=L2.len2 hl;rfl) λf fd F=>Xnn F (PySem.W.mg_of X G x_NoPlot.a) x_NoPlot.e FIp;have FPt:Fn P w K mg base CX0 1 "parting" ["one", "other"] spParting:=Fn.of X G d_parting (λ_ _ _ _ _ _ us hl=>by obtain⟨a,b,rfl⟩:=L2.len2 hl;rfl) λf fd F=>Xnq F T;have FXs:Fn P w K mg base CX0 2 "across" ["plot", "name"] K1:=Fn.of X G d_across (λ_ _ _ _ _ _ us hl=>by obtain⟨a,b,rfl⟩:=L2.len2 hl;rfl) λf fd F=>Xns F T FPt;have FNb:Fn P w K mg base (CX1 P w) 6 "neighbours" ["row", "plot"] (spNbs T_ (lamPos s_in_order)):=Fn.of X G d_neighbours (λ_ _ _ _ _ _ us hl=>by obtain⟨a,b,rfl⟩:=L2.len2 hl;rfl) λf fd F=>Xnt F FAp FPl FD FXs;have FBw:Fn P w K mg base (CX1 P w) 6 "between" ["row", "one", "other"] (Hi C_NoPlot):=Fn.of X G d_between (λ_ _ _ _ _ _ us hl=>by obtain⟨a,b,c,rfl⟩:=L2.len3 hl;rfl) λf fd F=>Xnv F FAp FPt;have FFa:Fn P w K mg base (CX1 P w) 7 "far" ["row", "one", "other"] (spFar C_NoPlot):=Fn.of X G d_far (λ_ _ _ _ _ _ us hl=>by obtain⟨a,b,c,rfl⟩:=L2.len3 hl;rfl) λf fd F=>Xnx F T FBw;have FOn:Fn P w K mg base CX0 2 "_law_one" ["_law_draw", "_law_some"] Kt:=Fn.of X G d__law_one (λ_ _ _ _ _ _ us hl=>by obtain⟨a,b,rfl⟩:=L2.len2 hl;rfl) λf fd F=>Xn9 F T FP;have FWa:Fn P w K mg base CX0 7 "_law_wander" ["_law_draw", "_law_row_here", "_law_one_here", "_law_many"] (K2 T_ (lamPos s_in_order)):=Fn.of X G d__law_wander (λ_ _ _ _ _ _ us hl=>by obtain⟨a,b,c,d,rfl⟩:=L2.len4 hl;rfl) λf fd F=>Xoa F T FP FNb;exact Xoc F T FB FP FI FPl FOn FNb FWa FFa FBw
theorem walk{l:PySem.W.OpenLaw}{q:Program}{loose:List Str}{XP:(Str->Option Value)->Heap->Prop}{YP:World->Heap->Prop}{d:DefRec}{K:Params->PySem.W.Frag}{T c0:Addr}(hn:l.most=some 63)(hdf:d.params.defaults=[])
  (hY:∀(w:World) (h:Heap),YP w h->(K w.params).In h) (hYT:∀(w:World) (h:Heap),YP w h->h.get? T=some (PySem.W.tabObj #[])) (hTK:∀P,(K P).lookup T=none) (hhd:∀P,PySem.W.codeHdIn (K P) c0 T=true)
  (F:∀(w:World) (mg:Str->Option Value) (fa:Addr) (h:Heap),(K w.params).In h->h.Ns mainGlobals mg->mg d.name=some (.ref fa) ->
   ∃fd:FuncData,(∀(s:Shared) (u:Value),BindsTo s fd ⟨[u],[]⟩ [("_law_script",u)])/\∀base:Heap,(K w.params).In base->base.Ns mainGlobals mg->BmOk mg base->FnOk l.prog w (K w.params) mg base CX0 8 fa fd ["_law_script"] (Ho (K w.params) T)):
  PySem.W.WalkO q loose XP YP l.row.toRowW d [] (λf vs=>PySem.call f vs):=
 L2.Xoe (n:=63) (k:=8) (x := "_law_script") (CX:=λ_=>CX0) (sp:=λw=>Ho (K w.params) T) hn (by decide) hdf ⟨rfl,by decide,by decide,rfl⟩ hY hYT hTK hhd F (λ_ _ a ns hl hT hS=>⟨a,ns,rfl,hS,hl,hT,λ_=>rfl⟩) λ_ _ _ _ _ z=>z
end K20
open PySem PySem.W PyProof.Rows
set_option maxRecDepth 100000 in
set_option maxHeartbeats 0 in
theorem PySem.Challenge.cw_shoretold_k20_whole_no_walk_is_shorter_holds : PySem.Challenge.rw_shoretold_k20_whole_no_walk_is_shorter.Holds := by
 w_on;o_law;k_head;(case hw=>w_witness2)
 k_fill
 refine K20.walk (l:=PySem.Challenge.rw_shoretold_k20_whole_no_walk_is_shorter) (T:=96) (c0:=100) rfl rfl (λw h Y=>PySem.W.km_in_of Y) (λw h Y=>PySem.W.km_tabs_of Y _ (Lf.mpr rfl)) ?hTK ?hhd ?F
 case hTK=>intro P;kernel_rfl
 case hhd=>intro P;kernel_rfl
 case F=>
  intro w mg fa h KX G hmg;refine' K20.Xof KX G hmg ?d_ask_ditch ?d_ditches ?d_ends ?d_spans ?d_lie_of ?d_crossings ?d_told ?d_in_order ?d_allows ?d_is_plot ?d_ask_plot ?d_plots ?d_parting ?d_across ?d_neighbours ?d_between ?d_far ?d__law_pick ?d__law_begin ?d__law_put ?d__law_where ?d__law_word ?d__law_barred ?d__law_row ?d__law_names ?d__law_island ?d__law_one ?d__law_wander ?d_law ?x_NoDitch ?x_NoPlot ?z_len ?z_range ?z_list ?z_min ?z_isinstance ?z_all ?z_str ?z_ValueError ?z_sorted ?z_set ?z_enumerate ?z_int ?z_bool ?z_tuple ?z_any ?z_dict ?z_sum ?z_max
  (case d_ask_ditch=>(refine' L2.DefAt.of ?a ?l ?c ?k;(case a=>k_is);(case l=>k_is);(case c=>k_is);(case k=>k_is)))
  (case d_ditches=>(refine' L2.DefAt.of ?a ?l ?c ?k;(case a=>k_is);(case l=>k_is);(case c=>k_is);(case k=>k_is)))
  (case d_ends=>(refine' L2.DefAt.of ?a ?l ?c ?k;(case a=>k_is);(case l=>k_is);(case c=>k_is);(case k=>k_is)))
  (case d_spans=>(refine' L2.DefAt.of ?a ?l ?c ?k;(case a=>k_is);(case l=>k_is);(case c=>k_is);(case k=>k_is)))
  (case d_lie_of=>(refine' L2.DefAt.of ?a ?l ?c ?k;(case a=>k_is);(case l=>k_is);(case c=>k_is);(case k=>k_is)))
  (case d_crossings=>(refine' L2.DefAt.of ?a ?l ?c ?k;(case a=>k_is);(case l=>k_is);(case c=>k_is);(case k=>k_is)))
  (case d_told=>(refine' L2.DefAt.of ?a ?l ?c ?k;(case a=>k_is);(case l=>k_is);(case c=>k_is);(case k=>k_is)))
  (case d_in_order=>(refine' L2.DefT.of ?a ?l ?c ?k ?t;(case a=>k_is);(case l=>k_is);(case c=>k_is);(case k=>k_is);(case t=>kernel_rfl)))
  (case d_allows=>(refine' L2.DefAt.of ?a ?l ?c ?k;(case a=>k_is);(case l=>k_is);(case c=>k_is);(case k=>k_is)))
  (case d_is_plot=>(refine' L2.DefAt.of ?a ?l ?c ?k;(case a=>k_is);(case l=>k_is);(case c=>k_is);(case k=>k_is)))
  (case d_ask_plot=>(refine' L2.DefAt.of ?a ?l ?c ?k;(case a=>k_is);(case l=>k_is);(case c=>k_is);(case k=>k_is)))
  (case d_plots=>(refine' L2.DefAt.of ?a ?l ?c ?k;(case a=>k_is);(case l=>k_is);(case c=>k_is);(case k=>k_is)))
  (case d_parting=>(refine' L2.DefAt.of ?a ?l ?c ?k;(case a=>k_is);(case l=>k_is);(case c=>k_is);(case k=>k_is)))
  (case d_across=>(refine' L2.DefAt.of ?a ?l ?c ?k;(case a=>k_is);(case l=>k_is);(case c=>k_is);(case k=>k_is)))
  (case d_neighbours=>(refine' L2.DefAt.of ?a ?l ?c ?k;(case a=>k_is);(case l=>k_is);(case c=>k_is);(case k=>k_is)))
  (case d_between=>(refine' L2.DefAt.of ?a ?l ?c ?k;(case a=>k_is);(case l=>k_is);(case c=>k_is);(case k=>k_is)))
  (case d_far=>(refine' L2.DefAt.of ?a ?l ?c ?k;(case a=>k_is);(case l=>k_is);(case c=>k_is);(case k=>k_is)))
  (case d__law_pick=>(refine' L2.DefAt.of ?a ?l ?c ?k;(case a=>k_is);(case l=>k_is);(case c=>k_is);(case k=>k_is)))
  (case d__law_begin=>(refine' L2.DefAt.of ?a ?l ?c ?k;(case a=>k_is);(case l=>k_is);(case c=>k_is);(case k=>k_is)))
  (case d__law_put=>(refine' L2.DefAt.of ?a ?l ?c ?k;(case a=>k_is);(case l=>k_is);(case c=>k_is);(case k=>k_is)))
  (case d__law_where=>(refine' L2.DefAt.of ?a ?l ?c ?k;(case a=>k_is);(case l=>k_is);(case c=>k_is);(case k=>k_is)))
  (case d__law_word=>(refine' L2.DefAt.of ?a ?l ?c ?k;(case a=>k_is);(case l=>k_is);(case c=>k_is);(case k=>k_is)))
  (case d__law_barred=>(refine' L2.DefAt.of ?a ?l ?c ?k;(case a=>k_is);(case l=>k_is);(case c=>k_is);(case k=>k_is)))
  (case d__law_row=>(refine' L2.DefAt.of ?a ?l ?c ?k;(case a=>k_is);(case l=>k_is);(case c=>k_is);(case k=>k_is)))
  (case d__law_names=>(refine' L2.DefAt.of ?a ?l ?c ?k;(case a=>k_is);(case l=>k_is);(case c=>k_is);(case k=>k_is)))
  (case d__law_island=>(refine' L2.DefAt.of ?a ?l ?c ?k;(case a=>k_is);(case l=>k_is);(case c=>k_is);(case k=>k_is)))
  (case d__law_one=>(refine' L2.DefAt.of ?a ?l ?c ?k;(case a=>k_is);(case l=>k_is);(case c=>k_is);(case k=>k_is)))
  (case d__law_wander=>(refine' L2.DefAt.of ?a ?l ?c ?k;(case a=>k_is);(case l=>k_is);(case c=>k_is);(case k=>k_is)))
  (case d_law=>(refine' L2.DefAt.of ?a ?l ?c ?k;(case a=>k_is);(case l=>k_is);(case c=>k_is);(case k=>k_is)))
  (case x_NoDitch=>(refine' ⟨?a,?e,?ga,?gn,?cl,?sb,?so,?sv,?ss,?ic,?ty⟩;(case a=>k_is);(case e=>k_exc);(case ga=>k_is);(case gn=>k_is);(case cl=>k_is);(case sb=>k_is);(case so=>k_is);(case sv=>k_is);(case ss=>k_is);(case ic=>k_is);(case ty=>k_is)))
  (case x_NoPlot=>(refine' ⟨?a,?e,?ga,?gn,?cl,?sb,?so,?sv,?ss,?ic,?ty⟩;(case a=>k_is);(case e=>k_exc);(case ga=>k_is);(case gn=>k_is);(case cl=>k_is);(case sb=>k_is);(case so=>k_is);(case sv=>k_is);(case ss=>k_is);(case ic=>k_is);(case ty=>k_is)))
  (case z_len=>k_is);(case z_range=>k_is);(case z_list=>k_is);(case z_min=>k_is);(case z_isinstance=>k_is);(case z_all=>k_is);(case z_str=>k_is);(case z_ValueError=>k_is);(case z_sorted=>k_is);(case z_set=>k_is);(case z_enumerate=>k_is);(case z_int=>k_is);(case z_bool=>k_is);(case z_tuple=>k_is);(case z_any=>k_is);(case z_dict=>k_is);(case z_sum=>k_is);(case z_max=>k_is)
#print axioms PySem.Challenge.cw_shoretold_k20_whole_no_walk_is_shorter_holds
