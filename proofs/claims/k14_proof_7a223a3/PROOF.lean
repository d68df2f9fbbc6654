import PyProof.Rows.All
import Wide.All
import OpenK.AllK
import Wide.FinOn
import Lean
import PyProof.EqAt
import PyProof.EqKinds
import PyProof.TupleCall
import KE.KDictSum
import PyProof.Rows.SortStr
import PyProof.EnumStmt
import PyProof.EnumMake
import PyProof.StrBlockH
import PyProof.ReprStr
import PyProof.StrLawsRepr
import PyProof.FString
import PyProof.DictCompW
import PyProof.P3Eq
import PyProof.P3In
import PyProof.NeData
import PyProof.ReprHeadsTuple
import KE.KLam
import KE.KNestM
import KE.KSortKey
import KE.KSortTup
import PyProof.WalkInts
import PyProof.DictWalks
import PyProof.MinMaxWalk
import PyProof.SeqI3
import KE.KDictOf
import PyProof.AttrMissSeq
import PyProof.ReprNest
import PyProof.ReprLen
import PySem.Challenge.RW_shoretold_k14_whole_sides_counted
set_option bootstrap.genMatcherCode false
noncomputable section
set_option Elab.async false
set_option linter.all false
set_option maxRecDepth 100000
abbrev Lf := @List.length_map
abbrev Lg := @List.mem_filter
abbrev Lh := @List.mem_cons_of_mem
abbrev Li := @Nat.le_refl
abbrev Lj := @List.mem_cons_self
abbrev Lk := @List.mem_singleton
abbrev Ll := @Nat.ne_of_lt
abbrev Lm := @List.getElem?_eq_getElem
abbrev Ln := @Array.length_toList
abbrev Lo := @List.mem_cons
abbrev Lp := @List.length_append
abbrev Lq := @List.size_toArray
abbrev Lr := @List.mem_append
abbrev Ls := @Bool.and_eq_true
abbrev Lu := @List.map_append
abbrev Lv := @List.length_cons
abbrev Lw := @List.take_succ_eq_append_getElem
abbrev Lx := @List.filter_append
abbrev Ly := @List.map_cons
abbrev Lz := @List.mem_map
abbrev L0 := @List.filter_eq_self
abbrev L1 := @List.getElem?_map
abbrev L3 := @Bool.false_ne_true
abbrev L4 := @Nat.lt_of_lt_of_le
abbrev L5 := @Option.some.inj
abbrev L6 := @List.all_eq_true
abbrev L7 := @List.mem_append_right
abbrev L8 := @Bool.false_eq_true
abbrev L9 := @List.getElem?_eq_some_iff
abbrev Ma := @List.length_eq_zero_iff
abbrev Mb := @List.map_map
abbrev Mc := @List.length_take
abbrev Md := @List.filter_cons
abbrev Mf := @Nat.zero_le
abbrev Mg := @List.range_succ
abbrev Mh := @Nat.le_trans
abbrev Mi := @List.countP_eq_length_filter
abbrev Mj := @List.getElem_mem
abbrev Ml := @Nat.lt_irrefl
abbrev Mm := @List.append_nil
abbrev Mn := @List.nodup_cons
abbrev Mo := @List.take_append_drop
abbrev Mp := @List.length_range
abbrev Mq := @List.lookup_cons
abbrev Mr := @List.take_length
abbrev Ms := @List.length_filter_le
abbrev Mt := @List.sum_cons
abbrev Mu := @List.map_congr_left
abbrev Mv := @List.mem_iff_getElem
abbrev Mw := @List.countP_cons
abbrev Mx := @List.length_singleton
abbrev My := @List.getElem?_append_right
abbrev Mz := @Nat.not_lt_zero
abbrev M0 := @List.mem_range
abbrev M3 := @Bool.eq_iff_iff
abbrev M4 := @List.getElem?_append_left
abbrev M5 := @Bool.or_eq_true
abbrev M6 := @List.nodup_append
abbrev M7 := @List.dropLast_concat_getLast
abbrev M8 := @List.Perm.refl
abbrev M9 := @List.mem_singleton_self
abbrev Na := @Int.eq_ofNat_of_zero_le
abbrev Nb := @List.mem_append_left
abbrev Nc := @List.filter_eq_nil_iff
abbrev Nd := @List.filterMap_cons
abbrev Nf := @Nat.lt_succ_of_lt
abbrev Ng := @List.append_assoc
abbrev Nh := @Bool.false_and
abbrev Ni := @Bool.true_and
abbrev Nj := @Option.isSome_iff_exists
abbrev Nk := @List.mem_of_getElem?
abbrev Nl := @Sum.inr.inj
abbrev Nm := @Option.map_some
abbrev Nn := @List.length_nil
abbrev Np := @Nat.le_succ
abbrev Nq := @List.dropWhile_cons
abbrev Nr := @List.takeWhile_cons
abbrev Nt := @List.length_eraseIdx_of_lt
abbrev Nv := @List.any_eq_true
abbrev Nw := @List.pairwise_cons
abbrev Nx := @List.take_sublist
abbrev Ny := @List.find?_cons
abbrev Nz := @List.count_append
abbrev N0 := @List.flatMap_cons
abbrev N1 := @List.nil_append
abbrev N2 := @List.countP_congr
abbrev N3 := @Nat.lt_trans
abbrev N4 := @List.flatMap_append
abbrev N5 := @List.not_mem_nil
abbrev N6 := @List.perm_middle
abbrev N7 := @List.getElem_map
abbrev N8 := @List.take_of_length_le
abbrev N9 := @List.count_eq_zero
abbrev Oa := @Int.emod_lt_of_pos
abbrev Ob := @Nat.le_of_lt
abbrev Oc := @List.getElem?_eq_none
abbrev Od := @Nat.min_eq_left
abbrev Oe := @List.filter_nil
abbrev Og := @Int.toNat_natCast
abbrev Oh := @List.count_cons_self
abbrev Oi := @List.mem_of_mem_drop
abbrev Oj := @List.pairwise_iff_getElem
abbrev Ol := @List.length_drop
abbrev Om := @List.flatMap_nil
abbrev Oo := @List.getElem?_range
abbrev Op := @List.map_nil
abbrev Oq := @List.findIdx?_eq_some_iff_getElem
abbrev Os := @Bool.not_true
abbrev Ot := @List.count_pos_iff
abbrev Ou := @List.map_inj_right
abbrev Ov := @Array.forIn_toList
abbrev Ow := @Int.emod_nonneg
abbrev Ox := @List.pairwise_map
abbrev Oy := @Bool.eq_false_iff
abbrev Oz := @Nat.ne_of_gt
abbrev O0 := @Array.getElem?_toList
abbrev O1 := @Nat.zero_add
abbrev O2 := @List.getElem?_toArray
abbrev O3 := @List.cons_append
abbrev O4 := @List.mem_flatMap
abbrev O5 := @List.mem_of_mem_take
abbrev O6 := @List.any_cons
abbrev O7 := @Bool.and_self
abbrev O8 := @List.of_mem_zip
abbrev O9 := @List.forIn_cons
abbrev Pa := @List.foldl_cons
abbrev Pb := @Bool.or_eq_true_iff
abbrev Pc := @List.mem_filterMap
abbrev Pd := @Option.isSome_some
abbrev Pe := @Nat.lt_of_le_of_lt
abbrev Pf := @Nat.sub_self
abbrev Pg := @List.forIn_nil
abbrev Ph := @Option.isSome_map
abbrev Pi := @Bool.not_eq_true'
abbrev Pj := @List.foldl_append
abbrev Pk := @Nat.mod_lt
abbrev Pl := @List.filter_congr
abbrev Pm := @List.Pairwise.map
abbrev Pn := @List.set_set
abbrev Po := @Int.zero_add
abbrev Pp := @PySem.wpAny_bind
abbrev Pq := @PySem.wpAny_pure
abbrev Pr := @PySem.sizeLine_eq
abbrev Ps := @if_neg
abbrev Pt := @if_pos
abbrev Pu := @decide_eq_true
abbrev Pw := @decide_eq_false
abbrev Px := @of_decide_eq_true
abbrev Py := @of_decide_eq_false
abbrev Pz := @PySem.Heap.lt_size
abbrev P0 := @PySem.Heap.get?_push_of_some
abbrev P1 := @PySem.Heap.SameBut.update
namespace L2
open PySem PySem.Spec PyProof.Rows
abbrev Key:=Sum Int Str
def Dd:Key->Value->Bool
 | .inl k,v=>Value.isInt k v
 | .inr x,v=>Value.isStrOf x v
def keyH (w:World):Key->Int
 | .inl k=>hashInt k
 | .inr x=>hashStr w x
theorem C2:∀{k:Key} {v:Value},Dd k v=true->(∃i t,k=Sum.inl i/\v=Value.int i t)\/(∃x t,k=Sum.inr x/\v=Value.str x t)
 | .inl i,v,h=>by
  obtain⟨t,e⟩:=Value.isInt_shape (k:=i) (v:=v) h;exact .inl ⟨i,t,rfl,e⟩
 | .inr x,v,h=>by
  obtain⟨t,e⟩:=Value.isStrOf_shape (x:=x) (v:=v) h;exact .inr ⟨x,t,rfl,e⟩
theorem Xfo(i:Int)(t:Tok):Dd (.inl i) (.int i t)=true:=by simp[Dd,Value.isInt]
theorem Xfp(x:Str)(t:Tok):Dd (.inr x) (.str x t)=true:=by simp[Dd,Value.isStrOf]
theorem Xfq(a b:Int):decide ((Sum.inl a:Key)=Sum.inl b)=(a==b):=by
 by_cases e:a=b
 ·subst e;simp
 ·have h:¬(Sum.inl a:Key)=Sum.inl b:=λq=>e (Sum.inl.inj q);rw[Pw h];exact(beq_eq_false_iff_ne.mpr e).symm
theorem Xfr(a b:Str):decide ((Sum.inr a:Key)=Sum.inr b)=decide (a=b):=by
 by_cases e:a=b
 ·subst e;simp
 ·have h:¬(Sum.inr a:Key)=Sum.inr b:=λq=>e (Nl q);rw[Pw h,Pw e]
theorem Xfs(a:Int)(b:Str):decide ((Sum.inl a:Key)=Sum.inr b)=false:=Pw (λq=>nomatch q)
theorem Xft(a:Str)(b:Int):decide ((Sum.inr a:Key)=Sum.inl b)=false:=Pw (λq=>nomatch q)
def Au (prog:Program) (w:World):PySem.KeyKind prog w Key where
 is:=Dd
 hash:=keyH w
 inj:=λv a b ha hb=>by
  rcases C2 ha with ⟨i,t,rfl,rfl⟩ | ⟨x,t,rfl,rfl⟩
  ·rcases C2 hb with ⟨j,u,rfl,e⟩ | ⟨y,u,rfl,e⟩
   ·injection e with e1 _;rw[e1]
   ·exact nomatch e
  ·rcases C2 hb with ⟨j,u,rfl,e⟩ | ⟨y,u,rfl,e⟩
   ·exact nomatch e
   ·injection e with e1 _;rw[e1]
 byValue:=λk v h=>by
  rcases C2 h with ⟨i,t,rfl,rfl⟩ | ⟨x,t,rfl,rfl⟩<;>rfl
 pyHash:=λhv h=>by
  rcases C2 hv with ⟨i,t,rfl,rfl⟩ | ⟨x,t,rfl,rfl⟩
  ·exact wpAny_pyHash_int h
  ·exact wpAny_pyHash_str h
 eqBool:=λhu hv h=>by
  rcases C2 hu with ⟨i,t,rfl,rfl⟩ | ⟨x,t,rfl,rfl⟩
  ·rcases C2 hv with ⟨j,u,rfl,rfl⟩ | ⟨y,u,rfl,rfl⟩
   ·rw[Xfq] at h;exact wpAny_eqBool_int h
   ·rw[Xfs] at h;exact SeqAt.EqAt.int_str i t y u _ _ _ _ h
  ·rcases C2 hv with ⟨j,u,rfl,rfl⟩ | ⟨y,u,rfl,rfl⟩
   ·rw[Xft] at h;exact SeqAt.EqAt.str_int x t j u _ _ _ _ h
   ·rw[Xfr] at h;exact wpAny_eqBool_str h
 «strs»:=λk x t v h=>by
  rcases C2 h with ⟨i,u,rfl,e⟩ | ⟨y,u,rfl,e⟩
  ·exact nomatch e
  ·injection e with e1 _
   subst e1;cases v<;>rfl
theorem Xfu(prog:Program)(w:World)(i:Int)(t:Tok):(Au prog w).is (.inl i) (.int i t)=true:=Xfo i t
theorem Xfv(prog:Program)(w:World)(x:Str)(t:Tok):(Au prog w).is (.inr x) (.str x t)=true:=Xfp x t
inductive V where
 | non | bl (b:Bool) | int (i:Int) | str (x:Str) | byt (b:Array UInt8) | flt (b:UInt64) | ref (a:Addr) | ty (n:String)
 deriving DecidableEq
def Af:V->Value->Prop
 | .non,u=>u=Value.none
 | .bl b,u=>u=Value.bool b
 | .int i,u=>∃t,u=Value.int i t
 | .str x,u=>∃t,u=Value.str x t
 | .byt b,u=>∃t,u=Value.bytes b t
 | .flt b,u=>∃t,u=Value.float b t
 | .ref a,u=>u=Value.ref a
 | .ty n,u=>u=Value.type n
abbrev Vals:List V->List Value->Prop:=Paired Af
theorem Vals.length{xs:List V}{us:List Value}(r:Vals xs us):xs.length=us.length:=Paired.length r
theorem Vals.get:∀{xs:List V} {us:List Value} {i:Nat} {x:V},Vals xs us->xs[i]? = some x->∃u,us[i]? = some u/\Af x u
 | _,_,_,_,.nil,e=>by simp at e
 | _,_,0,_,.cons r _,e=>by simp at e;subst e;exact⟨_,rfl,r⟩
 | _,_,i+1,x,.cons _ t,e=>by
  obtain⟨u,h1,h2⟩:=Vals.get (i:=i) (x:=x) t (by simpa using e);exact⟨u,by simpa using h1,h2⟩
theorem Vals.set{x:V}{u:Value}(r:Af x u):∀{xs:List V} {us:List Value} (i:Nat),Vals xs us->Vals (xs.set i x) (us.set i u)
 | _,_,_,.nil=>.nil
 | _,_,0,.cons _ t=>.cons r t
 | _,_,i+1,.cons q t=>.cons q (Vals.set r i t)
theorem Vals.append:∀{xs ys:List V} {us ws:List Value},Vals xs us->Vals ys ws->Vals (xs++ys) (us++ws)
 | _,_,_,_,.nil,s=>s
 | _,_,_,_,.cons r t,s=>.cons r (Vals.append t s)
theorem Vals.take:∀{xs:List V} {us:List Value} (n:Nat),Vals xs us->Vals (xs.take n) (us.take n)
 | _,_,0,_=>.nil
 | _,_,_+1,.nil=>.nil
 | _,_,n+1,.cons r t=>.cons r (Vals.take n t)
theorem Vals.drop:∀{xs:List V} {us:List Value} (n:Nat),Vals xs us->Vals (xs.drop n) (us.drop n)
 | _,_,0,r=>r
 | _,_,_+1,.nil=>.nil
 | _,_,n+1,.cons _ t=>Vals.drop n t
def Cj:Option V->Option Value->Prop
 | some v,some u=>Af v u
 | none,none=>True
 | _,_=>False
def KV {κ : Type}:List (κ × V)->List (κ × Value)->Prop:=Paired λ(p : κ × V) (q : κ × Value)=>p.1=q.1/\Af p.2 q.2
def kV:Key->V
 | .inl i=>.int i
 | .inr x=>.str x
inductive HO where
 | lst (xs:List V)
 | tup (xs:List V)
 | dK (kvs:List (Key×V)) | dT (kvs:List (List Key×V))
 | set (S:Int->Bool) (n:Nat)
 | ins (C dx:Addr) (fs:List (Str×V))
 | own (x:Addr)
 | xd (fs:List (Str×V))
 | met (f x:Addr)
 | rng (lo hi:Int)
 | frz (o:Obj) (u:HO)
 | tbl (ps:Array Value)
 | ext (φ : Heap->Prop)
abbrev Hp:=Addr->Option HO
def upd (H:Hp) (a:Addr) (o:HO):Hp:=λb=>if b=a then some o else H b
theorem Ab{H:Hp}{a:Addr}{o:HO}:upd H a o a=some o:=by unfold upd;rw[Pt rfl]
theorem Ac{H:Hp}{a b:Addr}{o:HO}(h:b≠a):upd H a o b=H b:=by unfold upd;rw[Ps h]
theorem Xaa{H:Hp}{a b:Addr}{o u:HO}(h:H a=some o)(h':H b=some u)(d:o≠u):a≠b:=by
 intro e;subst e;rw[h] at h';exact d (L5 h')
theorem Aq{H:Hp}{a b:Addr}{o:HO}(h:H a=some o)(h':H b=none):a≠b:=by
 intro e;subst e;rw[h] at h';cases h'
section
variable (P:Program) (w:World)
def A5 (H:Hp) (h:Heap) (a:Addr):HO->Prop
 | .lst xs=>xs.length<=sizeLine/\∃(its:List Value) (n:Nat),Vals xs its/\h.get? a=some {cls:=.type "list",data:=.seq its.toArray n}
 | .tup xs=>xs.length<=sizeLine/\∃its:List Value,Vals xs its/\IsTup h a its.toArray
 | .dK kvs=>kvs.length<=sizeLine/\(a==sysModules)=false/\∃vs,KV kvs vs/\h.DictOf (Au P w) a vs
 | .dT kvs=>kvs.length<=sizeLine/\(a==sysModules)=false/\∃xs:List (List Key×Addr×Value),
   Paired (λ(p:List Key×V) (q:List Key×Addr×Value)=>p.1=q.1/\H q.2.1=some (.tup (p.1.map kV))/\Af p.2 q.2.2) kvs xs /\
   ∃o es ep,h.get? a=some o/\o.ExactDict/\o.data = .dict es ep/\es.toList=xs.map (entryOfKey (tupleKind (Au P w)))/\(xs.map (·.1)).Nodup
 | .set S n=>h.SetOf (intKind P w) a S n
 | .ins C dx fs=>H dx=some (.own a)/\fs.length<=1000/\dx≠a/\h.get? a=some (PySem.W.instObj C dx) /\
   ∃mA,h.Ns1 dx mA/\(∀f,Cj (fs.lookup f) (mA f))/\PySem.Within mA (fs.map (·.1))
 | .own _=>∃o,h.get? a=some o
 | .xd fs=>∃mA,h.Ns1 a mA/\∀f,Cj (fs.lookup f) (mA f)
 | .rng lo hi=>∃t u v,h.get? a=some {cls:=.type "range",data:=.fields #[.int lo t,.int hi u,.int 1 v]}
 | .frz o u=>h.get? a=some o/\A5 H h a u
 | .tbl ps=>h.get? a=some {cls:=.none,data:=.fields ps}
 | .met f x=>h.get? a=some (PySem.W.methodObj (.ref f) (.ref x))
 | .ext φ => φ h/\(∃o,h.get? a=some o)/\∀h1 h2:Heap, φ h1->(∀o,h1.get? a=some o->h2.get? a=some o) -> φ h2
def HOk (H:Hp) (h:Heap):Prop:=∀a o,H a=some o->A5 P w H h a o
end
section
variable {P:Program}{w:World}{H H':Hp}{h h':Heap}{a:Addr}{o:HO}
theorem A5.lt(x:A5 P w H h a o):a<h.objs.size:=by
 cases o with
 | lst xs=>obtain⟨_,_,_,_,e⟩:=x;exact Pz e
 | tup xs=>obtain⟨_,_,_,p⟩:=x;exact p.lt
 | dK kvs=>obtain⟨_,_,_,_,o,_,_,e,_⟩:=x;exact Pz e
 | dT kvs=>obtain⟨_,_,_,_,o,_,_,e,_⟩:=x;exact Pz e
 | set S n=>obtain⟨o,_,_,_,e,_⟩:=x;exact Pz e
 | ins C dx fs=>obtain⟨_,_,_,e,_⟩:=x;exact Pz e
 | own y=>obtain⟨_,e⟩:=x;exact Pz e
 | xd fs=>obtain⟨_,⟨_,_,_,e,_⟩,_⟩:=x;exact Pz e
 | rng lo hi=>obtain⟨_,_,_,e⟩:=x;exact Pz e
 | frz ob u=>obtain⟨e,_⟩:=x;exact Pz e
 | tbl ps=>exact Pz (show h.get? a=some _ from x)
 | met f y=>exact Pz (show h.get? a=some _ from x)
 | ext φ=>obtain⟨_,⟨_,e⟩,_⟩:=x;exact Pz e
theorem Paired.mapP{α β : Type}{F G : α -> β->Prop}:∀{l₁ : List α} {l₂ : List β},Paired F l₁ l₂->(∀a b,F a b->G a b)->Paired G l₁ l₂
 | _,_,.nil,_=>.nil
 | _,_,.cons r t,f=>.cons (f _ _ r) (Paired.mapP t f)
theorem A5.stay(x:A5 P w H h a o)(k:∀b u,(b=a\/H b=some (.own a))->h.get? b=some u->h'.get? b=some u)
  (ho:∀b,H b=some (.own a)->H' b=some (.own a)) (ht:∀b xs,H b=some (.tup xs)->H' b=some (.tup xs)):A5 P w H' h' a o:=by
 induction o with
 | lst xs=>obtain⟨z,its,n,r,e⟩:=x;exact⟨z,its,n,r,k _ _ (.inl rfl) e⟩
 | tup xs=>obtain⟨z,its,r,ob,e,c⟩:=x;exact⟨z,its,r,ob,k _ _ (.inl rfl) e,c⟩
 | dK kvs=>obtain⟨z,y,vs,r,ob,es,ep,e,c⟩:=x;exact⟨z,y,vs,r,ob,es,ep,k _ _ (.inl rfl) e,c⟩
 | dT kvs=>
  obtain⟨z,y,xs,r,ob,es,ep,e,c⟩:=x;exact⟨z,y,xs,Paired.mapP r λp q z=>⟨z.1,ht _ _ z.2.1,z.2.2⟩,ob,es,ep,k _ _ (.inl rfl) e,c⟩
 | set S n=>obtain⟨ob,es,ep,t,e,c⟩:=x;exact⟨ob,es,ep,t,k _ _ (.inl rfl) e,c⟩
 | ins C dx fs=>
  obtain⟨d,z,ne,e,mA,⟨od,es,ep,e2,c⟩,r⟩:=x;exact⟨ho _ d,z,ne,k _ _ (.inl rfl) e,mA,⟨od,es,ep,k _ _ (.inr d) e2,c⟩,r⟩
 | own y=>obtain⟨ob,e⟩:=x;exact⟨ob,k _ _ (.inl rfl) e⟩
 | xd fs=>obtain⟨mA,⟨od,es,ep,e,c⟩,r⟩:=x;exact⟨mA,⟨od,es,ep,k _ _ (.inl rfl) e,c⟩,r⟩
 | rng lo hi=>obtain⟨t,u,v,e⟩:=x;exact⟨t,u,v,k _ _ (.inl rfl) e⟩
 | frz ob u ih=>obtain⟨e,q⟩:=x;exact⟨k _ _ (.inl rfl) e,ih q⟩
 | tbl ps=>
  have e:h.get? a=some {cls:=.none,data:=.fields ps}:=x;show h'.get? a=some {cls:=.none,data:=.fields ps};exact k a _ (.inl rfl) e
 | met f y=>
  have e:h.get? a=some (PySem.W.methodObj (.ref f) (.ref y)):=x;show h'.get? a=some (PySem.W.methodObj (.ref f) (.ref y));exact k a _ (.inl rfl) e
 | ext φ=>obtain⟨p,⟨o,e⟩,st⟩:=x;exact⟨st _ _ p λo q=>k _ _ (.inl rfl) q,⟨o,k _ _ (.inl rfl) e⟩,st⟩
theorem HOk.lt(x:HOk P w H h)(e:H a=some o):a<h.objs.size:=(x a o e).lt
theorem HOk.fresh(x:HOk P w H h)(e:h.objs.size<=a):H a=none:=by
 cases q:H a with
 | none=>rfl
 | some u=>exact absurd (L4 (x.lt q) e) (Ml _)
theorem HOk.kept(x:HOk P w H h)(k:∀b u,h.get? b=some u->h'.get? b=some u):HOk P w H h':=λa o e=>
 (x a o e).stay (λb u _ q=>k b u q) (λ_ q=>q) λ_ _ q=>q
theorem HOk.laid(x:HOk P w H h)(k:∀b u,h.get? b=some u->h'.get? b=some u)(hp:h.objs.size<=a)(new:A5 P w (upd H a o) h' a o):HOk P w (upd H a o) h':=λb u e=>by
 have hn:=x.fresh hp;by_cases hb:b=a
 ·subst hb;rw[Ab] at e;cases e;exact new
 ·rw[Ac hb] at e;exact(x b u e).stay (λc v _ q=>k c v q) (λc q=>by rw[Ac (Aq q hn)];exact q) λc xs q=>by rw[Ac (Aq q hn)];exact q
end
def Rd (H:Hp) (a:Addr) (u:HO):Prop:=H a=some u \/ ∃o,H a=some (.frz o u)
theorem Rd.ok{P:Program}{w:World}{H:Hp}{h:Heap}{a:Addr}{u:HO}(r:Rd H a u)(x:HOk P w H h):A5 P w H h a u:=by
 rcases r with r | ⟨o,r⟩
 ·exact x a u r
 ·obtain⟨_,q⟩:=x a _ r;exact q
def Mut:Option HO->Prop
 | some (.lst _)=>True
 | some (.dK _)=>True
 | some (.dT _)=>True
 | some (.set _ _)=>True
 | some (.ins _ _ _)=>True
 | some (.ext _)=>True
 | _=>False
section
variable {P:Program}{w:World}{H:Hp}{h h':Heap}{x e:Addr}{o':HO}
theorem HOk.write(ok:HOk P w H h)(mu:Mut (H x))(he:e=x\/H e=some (.own x))(k:∀b u,b≠e->h.get? b=some u->h'.get? b=some u)(heo:∃u,h'.get? e=some u)
  (new:A5 P w (upd H x o') h' x o'):HOk P w (upd H x o') h':=λb u q=>by
 have nown:∀c y,H c=some (.own y)->c≠x:=λc y r z=>by subst z;rw[r] at mu;exact mu
 have ntup:∀c xs,H c=some (.tup xs)->c≠x:=λc xs r z=>by subst z;rw[r] at mu;exact mu
 by_cases hb:b=x
 ·subst hb;rw[Ab] at q;cases q;exact new
 ·rw[Ac hb] at q;by_cases hbe:b=e
  ·have q':H b=some (.own x):=by
    rcases he with z | z
    ·exact absurd (hbe.trans z) hb
    ·rw[hbe];exact z
   rw[q] at q';cases q';obtain⟨v,hv⟩:=heo;exact⟨v,by rw[hbe];exact hv⟩
  ·refine(ok b u q).stay (λc v hc r=>k c v ?_ r) (λc r=>by rw[Ac (nown c b r)];exact r) λc xs r=>by rw[Ac (ntup c xs r)];exact r
   rcases hc with rfl | hc
   ·exact hbe
   ·rintro rfl;rcases he with z | z
    ·exact nown c b hc z
    ·rw[hc] at z;cases z;exact hb rfl
end
structure Un (fs ex:List Addr) (H H':Hp) (h h':Heap):Prop where
 keep:∀b o,h.get? b=some o->H b=none->b∉fs->b∉ex->h'.get? b=some o
 slot:∀b o,h.get? b=some o->H b=none->b∈fs->b∉ex->∃sl,h'.get? b=some {o with slots:=sl}
 free:∀b o,h.get? b=some o->H b=none->b∉ex->H' b=none
 there:∀b o,h.get? b=some o->b∉ex->∃o',h'.get? b=some o'
 tups:∀b xs,H b=some (.tup xs)->H' b=some (.tup xs)
 frzs:∀b o u,H b=some (.frz o u)->H' b=some (.frz o u)
 tbls:∀b ps,H b=some (.tbl ps)->∃more,H' b=some (.tbl (ps++more))
section
variable {fs fs' ex ex':List Addr}{H H1 H2:Hp}{h h1 h2 h':Heap}{a x e:Addr}{o:HO}
theorem Un.any(u:Un fs ex H H1 h h1){b:Addr}{ob:Obj}(q:h.get? b=some ob)(n:H b=none)(hx:b∉ex):∃sl,h1.get? b=some {ob with slots:=sl}:=by
 by_cases hb:b∈fs
 ·exact u.slot b ob q n hb hx
 ·exact⟨ob.slots,u.keep b ob q n hb hx⟩
theorem Un.kept(k:∀b u,h.get? b=some u->h'.get? b=some u):Un fs ex H H h h':=
 ⟨λb ob q _ _ _=>k b ob q,λb ob q _ _ _=>⟨ob.slots,k b ob q⟩,λ_ _ _ n _=>n,λb ob q _=>⟨ob,k b ob q⟩,λ_ _ q=>q,λ_ _ _ q=>q,λ_ ps q=>⟨#[],by rw[q];simp⟩⟩
theorem Un.refl:Un fs ex H H h h:=Un.kept λ_ _ q=>q
theorem Un.laid(k:∀b u,h.get? b=some u->h'.get? b=some u)(hp:h.objs.size<=a)(hn:H a=none):Un fs ex H (upd H a o) h h' where
 keep:=λb u q _ _ _=>k b u q
 slot:=λb u q _ _ _=>⟨u.slots,k b u q⟩
 free:=λb u q n _=>by rw[Ac (Ll (L4 (Pz q) hp))];exact n
 there:=λb u q _=>⟨u,k b u q⟩
 tups:=λb xs q=>by rw[Ac (Aq q hn)];exact q
 frzs:=λb u xs q=>by rw[Ac (Aq q hn)];exact q
 tbls:=λb ps q=>⟨#[],by rw[Ac (Aq q hn),q];simp⟩
theorem Un.write(mu:Mut (H x))(he:e=x\/H e=some (.own x))(k:∀b u,b≠e->h.get? b=some u->h'.get? b=some u)(heo:∃u,h'.get? e=some u):Un fs ex H (upd H x o) h h':=by
 have hx:∀b,H b=none->b≠x:=λb n z=>by subst z;rw[n] at mu;exact mu
 have hb:∀b,H b=none->b≠e:=λb n z=>by
  subst z;rcases he with r | r
  ·exact hx b n r
  ·rw[n] at r;cases r
 have hm:∀b u,H b=some u->¬Mut (some u)->b≠x:=λb u q nm z=>by subst z;rw[q] at mu;exact nm mu
 refine⟨λb u q n _ _=>k b u (hb b n) q,λb u q n _ _=>⟨u.slots,k b u (hb b n) q⟩,λb u q n _=>by rw[Ac (hx b n)];exact n,λb u q _=>?_,
  λb xs q=>by rw[Ac (hm b _ q λz=>z)];exact q,λb u xs q=>by rw[Ac (hm b _ q λz=>z)];exact q,λb ps q=>⟨#[],by rw[Ac (hm b _ q λz=>z),q];simp⟩⟩
 by_cases hbe:b=e
 ·subst hbe;exact heo
 ·exact⟨u,k b u hbe q⟩
end
def trk (h:Heap) (H:Hp):List Addr:=(List.range h.objs.size).filter λa=>(H a).isSome
def C3 (h:Heap) (H:Hp):Heap:=PySem.W.hideAll h (trk h H)
theorem Xfw(h:Heap)(H:Hp):(C3 h H).objs.size=h.objs.size:=PySem.W.hideAll_size _ _
theorem Xfx{h:Heap}{H:Hp}{b:Addr}{o:Obj}(e:h.get? b=some o)(n:H b=none):(C3 h H).get? b=some o:=
 PySem.W.hideAll_get _ e λhm=>by
  have q:(H b).isSome=true:=(Lg.mp hm).2;rw[n] at q;simp at q
theorem Xfy{h:Heap}{H:Hp}{b:Addr}{o:Obj}(e:(C3 h H).get? b=some o):h.get? b=some o/\H b=none:=by
 have e':h.get? b=some o:=PySem.W.of_hideAll (trk h H) e;refine⟨e',?_⟩;cases q:H b with
 | none=>rfl
 | some x=>
  have hm:b∈trk h H:=Lg.mpr ⟨M0.mpr (Pz e'),by simp[q]⟩;have z:(C3 h H).get? b=none:=PySem.W.hideAll_none (trk h H) hm;rw[z] at e;cases e
def Xfz (g h:Heap) (L:Addr):List (Addr×Obj):=(List.range h.objs.size).filterMap λa=>if a=L\/(g.get? a).isSome=true then none else (h.get? a).map λo=>(a,o)
def rest (g h:Heap) (L d:Addr):List (Addr×Obj):=(Xfz g h L).filter λp=>decide (p.1≠d)
structure Mod (K:PySem.W.Frag) (mg:Str->Option Value) (base:Heap):Prop where
 kin:K.In base
 glob:base.Ns mainGlobals mg
 blt:∃mb,base.Ns builtinsNs mb/\∀x:Str,x ≠ "__name__" -> mb x=bootBuiltins x
 nolimit:base.NoLimit
structure Cx where
 prog:Program
 w:World
 K:PySem.W.Frag
 mg:Str->Option Value
 base:Heap
 A:Around
 N:List Str
 s₀ : Shared
 H₀ : Hp
 env:Env
 outer:List Env
 stack:List Env
 ex:List Addr
 fn:Str->Bool
 calm:Bool
 pn:List (Addr×Obj)
 xe:Value->Shared->Prop
def frs (l:List Env):List Addr:=l.filterMap (·.frame)
abbrev Cx.fs (X:Cx):List Addr:=frs X.outer
def Vis (sc:Scope) (x:Str):Prop:=sc.names.lookup x=some .local\/sc.names.lookup x=some .cell\/sc.names.lookup x=some .free
def Loc (sc:Scope) (x:Str):Prop:=sc.names.lookup x=some .local\/sc.names.lookup x=some .cell
def Look (env:Env) (h:Heap) (m:Str->Option Value) (x:Str) (u:Value):Prop:=
 (env.kindOf x=some .local/\m x=some u)\/((env.kindOf x=some .cell\/env.kindOf x=some .free)/\∃c,env.cells.lookup x=some c/\h.IsCell c (some u))
structure Cx.Ok (X:Cx):Prop where
 mod:Mod X.K X.mg X.base
 kind:X.env.scope.kind = .function
 glob:X.env.globals=mainGlobals
 blt:X.env.builtins=builtinsNs
 above:X.s₀.heap.objs.size<=X.env.locals
 inj:∀x y c,X.env.cells.lookup x=some c->X.env.cells.lookup y=some c->x=y
 has:∀x,(X.env.kindOf x=some .cell\/X.env.kindOf x=some .free)->∃c,X.env.cells.lookup x=some c
 cab:∀x c,X.fn x=true->X.env.cells.lookup x=some c->X.s₀.heap.objs.size<=c
 hd:X.calm=true->X.A.handled=none
 frames:X.A.frames=some X.stack
 stk:X.stack=X.outer\/(X.stack=X.env::X.outer/\X.env.frame=some X.env.locals)
 exf:∀b∈X.ex,b≠X.env.locals/\∀x c,X.env.cells.lookup x=some c->c≠b
 bs:∀b o,X.base.get? b=some o->X.s₀.heap.get? b=some o/\X.H₀ b=none
 bsz:X.base.objs.size<=X.s₀.heap.objs.size
 noex:∀b o,X.base.get? b=some o->b∉X.ex
 exfs:∀b∈X.ex,b∉X.fs
 funs:X.s₀.heap.FunFrames X.base X.outer
 frf:∀b∈X.fs,X.H₀ b=none
structure Inv (X:Cx) (pins:List (Addr×Obj)) (σ:List (Option V)) (H:Hp) (s:Shared):Prop where
 ok:X.Ok
 os:s.os=X.s₀.os
 bare:AllBare s.gens
 base:Un X.fs X.ex X.H₀ H X.s₀.heap s.heap
 loc:∃m,s.heap.Ns X.env.locals m/\∀(i:Nat) (x:Str) (v:V),X.N[i]? = some x -> σ[i]? = some (some v)->Vis X.env.scope x->∃u,Af v u/\Look X.env s.heap m x u
 cell:∀x c,X.env.cells.lookup x=some c->∃v,s.heap.IsCell c v
 free:H X.env.locals=none
 freeC:∀x c,X.env.cells.lookup x=some c->H c=none
 pin:∀p∈X.pn++pins,s.heap.get? p.1=some p.2/\H p.1=none/\p.1≠X.env.locals/\p.1∉X.fs/\∀v,p.2.data ≠ .cell v
 hok:HOk X.prog X.w H s.heap
 len : σ.length=X.N.length
section
variable {X:Cx}{pins:List (Addr×Obj)}{σ:List (Option V)}{H H':Hp}{s:Shared}{h':Heap}
theorem Cx.Ok.nofr(ok:X.Ok){b:Addr}{o:Obj}(e:X.base.get? b=some o):b∉X.fs:=λhb=>by
 have:=(ok.funs.mem hb).1;rw[e] at this;cases this
theorem Inv.bs(I:Inv X pins σ H s):∀b o,X.base.get? b=some o->s.heap.get? b=some o/\H b=none:=λb o e=>
 ⟨I.base.keep b o (I.ok.bs b o e).1 (I.ok.bs b o e).2 (I.ok.nofr e) (I.ok.noex b o e),I.base.free b o (I.ok.bs b o e).1 (I.ok.bs b o e).2 (I.ok.noex b o e)⟩
theorem Inv.bk(I:Inv X pins σ H s):∀b o,X.base.get? b=some o->s.heap.get? b=some o:=λb o e=>(I.bs b o e).1
theorem Inv.mod(I:Inv X pins σ H s):Mod X.K X.mg X.base:=I.ok.mod
theorem Inv.kIn(I:Inv X pins σ H s):X.K.In s.heap:=I.ok.mod.kin.keeps I.bk
theorem Inv.lt(I:Inv X pins σ H s):X.env.locals<s.heap.objs.size:=let ⟨_,hn,_⟩:=I.loc;hn.lt
theorem Inv.sz(I:Inv X pins σ H s):X.s₀.heap.objs.size<=s.heap.objs.size:=Mh I.ok.above (Ob I.lt)
theorem Inv.nofs(I:Inv X pins σ H s){a:Addr}(h:s.heap.objs.size<=a):a∉X.fs:=λhb=>by
 obtain⟨_,o,ho,_⟩:=I.ok.funs.mem hb;exact absurd (L4 (Pz ho) (Mh I.sz h)) (Ml _)
theorem Inv.cne(I:Inv X pins σ H s):∀x c,X.env.cells.lookup x=some c->c≠X.env.locals:=λx c e z=>by
 obtain⟨v,o,ho,hd⟩:=I.cell x c e;obtain⟨m,⟨o',es,ep,ho',hd',_⟩,_⟩:=I.loc;rw[z,ho'] at ho;cases ho;rw[hd'] at hd;cases hd
theorem Inv.funs(I:Inv X pins σ H s):s.heap.FunFrames X.base X.outer:=by
 have all:∀(l:List Env),(∀b∈frs l,b∈X.fs)->X.s₀.heap.FunFrames X.base l->s.heap.FunFrames X.base l:=by
  intro l
  induction l with
  | nil=>intro _ _;trivial
  | cons env r ih=>
   intro hs hl;obtain⟨hk,⟨L,o,hf,hn,ho,hd⟩,hr⟩:=hl;have hL:L∈X.fs:=hs L (by unfold frs;rw[Nd,hf];exact Lj);obtain⟨sl,e⟩:=I.base.slot L o ho (I.ok.frf L hL) hL λz=>I.ok.exfs L z hL;exact⟨hk,⟨L,_,hf,hn,e,hd⟩,ih (λb hb=>hs b (by unfold frs;rw[Nd,hf];exact Lh _ hb)) hr⟩
 exact all X.outer (λ_ hb=>hb) I.ok.funs
theorem Inv.stack(I:Inv X pins σ H s):s.heap.FunFrames X.base X.stack:=by
 rcases I.ok.stk with e | ⟨e,hf⟩
 ·rw[e];exact I.funs
 ·rw[e];obtain⟨m,hn,_⟩:=I.loc;refine .cons (by rw[I.ok.kind];decide) hf hn ?_ I.funs;exact Heap.get?_none_of_le (Mh I.ok.bsz I.ok.above)
theorem Inv.stkSub(I:Inv X pins σ H s):∀b∈frs X.stack,b∈X.env.locals::X.fs:=λb hb=>by
 rcases I.ok.stk with e | ⟨e,hf⟩
 ·rw[e] at hb;exact Lh _ hb
 ·rw[e] at hb;unfold frs at hb;rw[Nd,hf] at hb;exact hb
theorem Inv.stkFree(I:Inv X pins σ H s):∀b∈frs X.stack,H b=none:=λb hb=>by
 rcases Lo.mp (I.stkSub b hb) with e | hb
 ·rw[e];exact I.free
 ·obtain⟨_,o,ho,_⟩:=I.ok.funs.mem hb;exact I.base.free b o ho (I.ok.frf b hb) λz=>I.ok.exfs b z hb
theorem Inv.step{g':Array GenState}{t':Nat}{d':Drawn}{ch:List Addr}(I:Inv X pins σ H s)
  (hch:∀b∈ch,(b∈X.ex\/X.s₀.heap.objs.size<=b)/\b≠X.env.locals/\(∀x c,X.env.cells.lookup x=some c->c≠b)/\∀p∈X.pn++pins,p.1≠b)
  (keep:∀b o,b≠X.env.locals->b∉X.fs->b∉ch->s.heap.get? b=some o->H b=none->h'.get? b=some o)
  (slot:∀b o,b≠X.env.locals->b∈X.fs->b∉ch->s.heap.get? b=some o->H b=none->∃sl,h'.get? b=some {o with slots:=sl}) (free:∀b o,b∉ch->s.heap.get? b=some o->H b=none->H' b=none)
  (there:∀b o,b∉ch->s.heap.get? b=some o->∃o',h'.get? b=some o')
  (tups:∀b xs,H b=some (.tup xs)->H' b=some (.tup xs)) (frzs:∀b o u,H b=some (.frz o u)->H' b=some (.frz o u)) (tbls:∀b ps,H b=some (.tbl ps)->∃more,H' b=some (.tbl (ps++more)))
  (ns:∀m,s.heap.Ns X.env.locals m->h'.Ns X.env.locals m) (hok:HOk X.prog X.w H' h') (hg:AllBare g'):
  Inv X pins σ H' {s with heap:=h',gens:=g',drawn:=d',toks:=t'}:=by
 have neL:∀b o,X.s₀.heap.get? b=some o->b≠X.env.locals:=λb o e=>Ll (L4 (Pz e) I.ok.above);have neC:∀b o,X.s₀.heap.get? b=some o->b∉X.ex->b∉ch:=λb o e hx hb=>by
  rcases (hch b hb).1 with z | z
  ·exact hx z
  ·exact absurd (L4 (Pz e) z) (Ml _)
 have cellK:∀x c,X.env.cells.lookup x=some c->∀v,s.heap.IsCell c v->h'.IsCell c v:=λx c e v ⟨o,ho,hd⟩=>by
  have nch:c∉ch:=λz=>(hch c z).2.2.1 x c e rfl;by_cases hc:c∈X.fs
  ·obtain⟨sl,q⟩:=slot c o (I.cne x c e) hc nch ho (I.freeC x c e);exact⟨_,q,hd⟩
  ·exact⟨o,keep c o (I.cne x c e) hc nch ho (I.freeC x c e),hd⟩
 refine⟨I.ok,I.os,hg,⟨λb o e n hb hx=>?_,λb o e n hb hx=>?_,λb o e n hx=>?_,λb o e hx=>?_,λb xs e=>tups b xs (I.base.tups b xs e),λb o xs e=>frzs b o xs (I.base.frzs b o xs e),λb ps e=>?_⟩,?_,λx c e=>?_,?_,λx c e=>?_,λp hp=>?_,hok,I.len⟩
 ·exact keep b o (neL b o e) hb (neC b o e hx) (I.base.keep b o e n hb hx) (I.base.free b o e n hx)
 ·obtain⟨sl,e1⟩:=I.base.slot b o e n hb hx;obtain⟨sl',e2⟩:=slot b _ (neL b o e) hb (neC b o e hx) e1 (I.base.free b o e n hx);exact⟨sl',e2⟩
 ·obtain⟨o',e1⟩:=I.base.there b o e hx;exact free b o' (neC b o e hx) e1 (I.base.free b o e n hx)
 ·obtain⟨o',e1⟩:=I.base.there b o e hx;exact there b o' (neC b o e hx) e1
 ·obtain⟨m1,e1⟩:=I.base.tbls b ps e;obtain⟨m2,e2⟩:=tbls b _ e1;exact⟨m1++m2,by rw[e2,Array.append_assoc]⟩
 ·obtain⟨m,hn,hl⟩:=I.loc;refine⟨m,ns m hn,λi x v e1 e2 e3=>?_⟩;obtain⟨u,r,l⟩:=hl i x v e1 e2 e3;refine⟨u,r,?_⟩;rcases l with l | ⟨k,c,e,z⟩
  ·exact .inl l
  ·exact .inr ⟨k,c,e,cellK x c e _ z⟩
 ·obtain⟨v,z⟩:=I.cell x c e;exact⟨v,cellK x c e v z⟩
 ·obtain⟨m,⟨o,_,_,ho,_⟩,_⟩:=I.loc;exact free _ o (λz=>(hch _ z).2.1 rfl) ho I.free
 ·obtain⟨v,o,ho,hd⟩:=I.cell x c e;exact free c o (λz=>(hch c z).2.2.1 x c e rfl) ho (I.freeC x c e)
 ·obtain⟨e,n,ne,nf,d⟩:=I.pin p hp;have nch:p.1∉ch:=λz=>(hch p.1 z).2.2.2 p hp rfl;exact⟨keep p.1 p.2 ne nf nch e n,free p.1 p.2 nch e n,ne,nf,d⟩
theorem Inv.un{t':Nat}(I:Inv X pins σ H s)(u:Un X.fs [] H H' s.heap h')(hok:HOk X.prog X.w H' h'):Inv X pins σ H' {s with heap:=h',toks:=t'}:=by
 obtain⟨m,⟨o,es,ep,ho,r⟩,_⟩:=id I.loc;obtain⟨sl,hL⟩:=u.any ho I.free (by simp);exact I.step (g':=s.gens) (d':=s.drawn) (ch:=[]) (λ_ z=>nomatch z) (λb o _ hb _ e n=>u.keep b o e n hb (by simp)) (λb o _ hb _ e n=>u.slot b o e n hb (by simp)) (λb o _ e n=>u.free b o e n (by simp)) (λb o _ e=>u.there b o e (by simp)) u.tups u.frzs u.tbls (λm' hm=>by
  obtain⟨o',es',ep',ho',r'⟩:=hm;rw[ho] at ho';cases ho';exact⟨_,es',ep',hL,r'⟩) hok I.bare
theorem Inv.call{g':Array GenState}{t':Nat}{d':Drawn}{ch:List Addr}(I:Inv X pins σ H s)(u:Un (frs X.stack) ch H H' s.heap h')(hok:HOk X.prog X.w H' h')(hg:AllBare g')
  (hch:∀b∈ch,(b∈X.ex\/X.s₀.heap.objs.size<=b)/\b≠X.env.locals/\(∀x c,X.env.cells.lookup x=some c->c≠b)/\∀p∈X.pn++pins,p.1≠b):
  Inv X pins σ H' {s with heap:=h',gens:=g',drawn:=d',toks:=t'}:=by
 obtain⟨m,⟨o,es,ep,ho,r⟩,_⟩:=id I.loc;obtain⟨sl,hL⟩:=u.any ho I.free λz=>(hch _ z).2.1 rfl;exact I.step (ch:=ch) hch (λb o hL hb hc e n=>u.keep b o e n (λz=>(Lo.mp (I.stkSub b z)).elim hL hb) hc) (λb o _ _ hc e n=>u.any e n hc) (λb o hc e n=>u.free b o e n hc) (λb o hc e=>u.there b o e hc) u.tups u.frzs u.tbls (λm' hm=>by
  obtain⟨o',es',ep',ho',r'⟩:=hm;rw[ho] at ho';cases ho';exact⟨_,es',ep',hL,r'⟩) hok hg
theorem Inv.turned{t':Nat}{it:Addr}(I:Inv X pins σ H s)(k:∀b o,b≠it->s.heap.get? b=some o->h'.get? b=some o)(hn:H it=none)(hL:it≠X.env.locals)
  (h1:it∈X.ex\/X.s₀.heap.objs.size<=it) (h2:∀x c,X.env.cells.lookup x=some c->c≠it) (h3:∀p∈X.pn++pins,p.1≠it):Inv X pins σ H {s with heap:=h',toks:=t'}:=by
 have nit:∀b u,H b=some u->b≠it:=λb u e z=>by rw[z,hn] at e;cases e
 refine I.step (g':=s.gens) (d':=s.drawn) (ch:=[it]) (λb hb=>?_) (λb o _ _ hc e _=>k b o (λz=>hc (by simp[z])) e) (λb o _ _ hc e _=>⟨o.slots,k b o (λz=>hc (by simp[z])) e⟩) (λ_ _ _ _ n=>n)
  (λb o hc e=>⟨o,k b o (λz=>hc (by simp[z])) e⟩) (λ_ _ e=>e) (λ_ _ _ e=>e) (λb ps e=>⟨#[],by rw[e];simp⟩) (λm hm=>?_) (λb u e=>?_) I.bare
 ·have e:b=it:=by simpa using hb
  subst e;exact⟨h1,hL,h2,h3⟩
 ·obtain⟨o,es,ep,ho,r⟩:=hm;exact⟨o,es,ep,k _ o (Ne.symm hL) ho,r⟩
 ·refine(I.hok b u e).stay (λc v hc q=>k c v ?_ q) (λ_ q=>q) λ_ _ q=>q;rcases hc with z | z
  ·rw[z];exact nit b u e
  ·exact nit c _ z
theorem Inv.tok(I:Inv X pins σ H s)(t:Nat):Inv X pins σ H {s with toks:=t}:=I.un (h':=s.heap) (t':=t) Un.refl I.hok
theorem Inv.kept{t':Nat}(I:Inv X pins σ H s)(k:∀b u,s.heap.get? b=some u->h'.get? b=some u):Inv X pins σ H {s with heap:=h',toks:=t'}:=I.un (Un.kept k) (I.hok.kept k)
theorem Inv.laid{a:Addr}{o:HO}{t':Nat}(I:Inv X pins σ H s)(k:∀b u,s.heap.get? b=some u->h'.get? b=some u)(hp:s.heap.objs.size<=a)(new:A5 X.prog X.w (upd H a o) h' a o):
  Inv X pins σ (upd H a o) {s with heap:=h',toks:=t'}:=I.un (Un.laid k hp (I.hok.fresh hp)) (I.hok.laid k hp new)
theorem Inv.write{x e:Addr}{o:HO}{t':Nat}(I:Inv X pins σ H s)(mu:Mut (H x))(he:e=x\/H e=some (.own x))(k:∀b u,b≠e->s.heap.get? b=some u->h'.get? b=some u)(heo:∃u,h'.get? e=some u)
  (new:A5 X.prog X.w (upd H x o) h' x o):Inv X pins σ (upd H x o) {s with heap:=h',toks:=t'}:=I.un (Un.write mu he k heo) (I.hok.write mu he k heo new)
theorem Inv.pins_of{pins':List (Addr×Obj)}(I:Inv X pins σ H s)(h:∀p∈pins',s.heap.get? p.1=some p.2/\H p.1=none/\p.1≠X.env.locals/\p.1∉X.fs/\∀v,p.2.data ≠ .cell v):Inv X pins' σ H s:=
 ⟨I.ok,I.os,I.bare,I.base,I.loc,I.cell,I.free,I.freeC,λp hp=>(Lr.mp hp).elim (λz=>I.pin p (Nb _ z)) (h p),I.hok,I.len⟩
theorem Xab{N:List Str}(hN:N.Nodup){i j:Nat}{x:Str}(a:N[i]? = some x)(b:N[j]? = some x):i=j:=by
 obtain⟨h1,e1⟩:=L9.mp a;obtain⟨h2,e2⟩:=L9.mp b;exact(List.getElem_inj hN).mp (e1.trans e2.symm)
theorem Xac{M:Model}{A:Around}{E:Value->Shared->Prop}{i:Nat}{x:Str}{v:V}{u:Value}{Q:Unit->Shared->Prop}(I:Inv X pins σ H s)(hN:X.N.Nodup)(hi:X.N[i]? = some x)(hx:Loc X.env.scope x)(r:Af v u)
  (h:∀s',Inv X pins (σ.set i (some v)) H s'->(∃a,Heap.SameBut a s.heap s'.heap/\(a=X.env.locals\/X.env.cells.lookup x=some a))->Q () s') (hf:X.fn x=true\/X.env.scope.names.lookup x=some .local:=by first | exact .inl rfl | exact .inr rfl | assumption):wpAny M A (storeName X.env x u) Q E s:=by
 obtain⟨m,hn,hl⟩:=id I.loc;have hcls:(X.env.scope.kind == .class||(X.env.scope.kind == .module&&X.env.locals != X.env.globals))=false:=by rw[I.ok.kind];rfl
 have hiσ:i < σ.length:=by rw[I.len];exact(L9.mp hi).1
 have cne:=I.cne;have tracked:∀{a:Addr} {h':Heap},(∃o,s.heap.get? a=some o/\H a=none)->Heap.SameBut a s.heap h'->HOk X.prog X.w H h':=λ{a h'} ha hs b ob e=>by
  obtain⟨_,_,hfree⟩:=ha;refine(I.hok b ob e).stay (λc w' hc q=>(hs.2 c ?_).trans q) (λ_ q=>q) λ_ _ q=>q;rintro rfl;rcases hc with rfl | hc
  ·rw[hfree] at e;cases e
  ·rw[hfree] at hc;cases hc
 rcases hx with hk | hk
 ·refine wpAny_storeName_local hk hn (λh' hn' hs=>?_) hcls;obtain⟨oL,_,_,hoL,_⟩:=id hn;refine h _ ⟨I.ok,I.os,I.bare,⟨λb o e n hb hx=>?_,λb o e n hb hx=>?_,I.base.free,λb o e hx=>?_,I.base.tups,I.base.frzs,I.base.tbls⟩,⟨_,hn',λj y v' e1 e2 e3=>?_⟩,λy c e=>?_,I.free,I.freeC,λp hp=>?_,tracked ⟨oL,hoL,I.free⟩ hs,by simpa using I.len⟩ ⟨_,hs,.inl rfl⟩
  ·exact(hs.2 b (Ll (L4 (Pz e) I.ok.above))).trans (I.base.keep b o e n hb hx)
  ·obtain⟨sl,e1⟩:=I.base.slot b o e n hb hx;exact⟨sl,(hs.2 b (Ll (L4 (Pz e) I.ok.above))).trans e1⟩
  ·obtain⟨o',e1⟩:=I.base.there b o e hx;exact⟨o',(hs.2 b (Ll (L4 (Pz e) I.ok.above))).trans e1⟩
  ·by_cases hj:j=i
   ·subst hj;rw[hi] at e1;cases e1;rw[List.getElem?_set_self hiσ] at e2;cases e2;exact⟨u,r,.inl ⟨hk,by simp⟩⟩
   ·rw[List.getElem?_set_ne (Ne.symm hj)] at e2;obtain⟨u',r',q⟩:=hl j y v' e1 e2 e3;refine⟨u',r',?_⟩;rcases q with ⟨k,e⟩ | ⟨k,c,e,z⟩
    ·refine .inl ⟨k,?_⟩;have:y≠x:=λe=>hj (Xab hN e1 (e ▸ hi));simp[this,e]
    ·exact .inr ⟨k,c,e,z.sameBut hs (cne y c e)⟩
  ·obtain⟨w',z⟩:=I.cell y c e;exact⟨w',z.sameBut hs (cne y c e)⟩
  ·obtain⟨e,n,ne,nf,d⟩:=I.pin p hp;exact⟨(hs.2 p.1 ne).trans e,n,ne,nf,d⟩
 ·have hfn:X.fn x=true:=by
   rcases hf with z | z
   ·exact z
   ·rw[z] at hk;cases hk
  obtain⟨c,hc⟩:=I.ok.has x (.inl hk);obtain⟨w',z⟩:=I.cell x c hc;refine wpAny_storeName_cell I.ok.kind hk hc z (λh' hc' hs=>?_);obtain⟨oc,hoc,hocd⟩:=id z;refine h {s with heap:=h'} ⟨I.ok,I.os,I.bare,⟨λb o e n hb hx=>?_,λb o e n hb hx=>?_,I.base.free,λb o e hx=>?_,I.base.tups,I.base.frzs,I.base.tbls⟩,⟨m,hn.sameBut hs (Ne.symm (cne x c hc)),λj y v' e1 e2 e3=>?_⟩,λy c' e=>?_,I.free,I.freeC,λp hp=>?_,tracked ⟨oc,hoc,I.freeC x c hc⟩ hs,by simpa using I.len⟩ ⟨c,hs,.inr hc⟩
  ·exact(hs.2 b (Ll (L4 (Pz e) (I.ok.cab x c hfn hc)))).trans (I.base.keep b o e n hb hx)
  ·obtain⟨sl,e1⟩:=I.base.slot b o e n hb hx;exact⟨sl,(hs.2 b (Ll (L4 (Pz e) (I.ok.cab x c hfn hc)))).trans e1⟩
  ·obtain⟨o',e1⟩:=I.base.there b o e hx;exact⟨o',(hs.2 b (Ll (L4 (Pz e) (I.ok.cab x c hfn hc)))).trans e1⟩
  ·by_cases hj:j=i
   ·subst hj;rw[hi] at e1;cases e1;rw[List.getElem?_set_self hiσ] at e2;cases e2;exact⟨u,r,.inr ⟨.inl hk,c,hc,hc'⟩⟩
   ·rw[List.getElem?_set_ne (Ne.symm hj)] at e2;obtain⟨u',r',q⟩:=hl j y v' e1 e2 e3;refine⟨u',r',?_⟩;rcases q with q | ⟨k,c',e,z'⟩
    ·exact .inl q
    ·refine .inr ⟨k,c',e,z'.sameBut hs ?_⟩;rintro rfl;exact hj (Xab hN e1 (I.ok.inj _ _ _ e hc ▸ hi))
  ·by_cases hcc:c'=c
   ·subst hcc;exact⟨_,hc'⟩
   ·obtain⟨w2,z2⟩:=I.cell y c' e;exact⟨w2,z2.sameBut hs hcc⟩
  ·obtain⟨e,n,ne,nf,d⟩:=I.pin p hp;refine⟨(hs.2 p.1 ?_).trans e,n,ne,nf,d⟩;intro q;rw[q,hoc] at e;have q':oc=p.2:=L5 e;exact d w' (by rw[<-q'];exact hocd)
theorem Xad{M:Model}{A:Around}{E:Value->Shared->Prop}{i:Nat}{x:Str}{v:V}{u:Value}{Q:Unit->Shared->Prop}(I:Inv X pins σ H s)(hN:X.N.Nodup)(hi:X.N[i]? = some x)(hx:Loc X.env.scope x)(r:Af v u)
  (h:∀s',Inv X pins (σ.set i (some v)) H s'->Q () s') (hf:X.fn x=true\/X.env.scope.names.lookup x=some .local:=by first | exact .inl rfl | exact .inr rfl | assumption):wpAny M A (storeName X.env x u) Q E s:=
 Xac I hN hi hx r (λs' I' _=>h s' I') hf
theorem Inv.call'{s':Shared}{ch:List Addr}(I:Inv X pins σ H s)(ho:s'.os=s.os)(u:Un (frs X.stack) ch H H' s.heap s'.heap)(hok:HOk X.prog X.w H' s'.heap)(hg:AllBare s'.gens)
  (hch:∀b∈ch,(b∈X.ex\/X.s₀.heap.objs.size<=b)/\b≠X.env.locals/\(∀x c,X.env.cells.lookup x=some c->c≠b)/\∀p∈X.pn++pins,p.1≠b):Inv X pins σ H' s':=by
 obtain⟨h',g',d',t',o'⟩:=s';have e:o'=s.os:=ho;subst e;exact I.call (g':=g') (t':=t') (d':=d') u hok hg hch
end
abbrev XK:=Value->Option Addr->Hp->Prop
abbrev St:=List (Option V)
abbrev VK:=V->Hp->Prop
abbrev TE:=St->Hp->VK->Prop
abbrev TT:=St->Hp->(Bool->Hp->Prop)->Prop
abbrev TA:=St->Hp->(List V->Hp->Prop)->Prop
structure Ends where
 nx:St->Hp->Prop
 rt:VK
 bk:St->Hp->Prop:=λ_ _=>False
 ct:St->Hp->Prop:=λ_ _=>False
abbrev TS:=Ends->St->Hp->Prop
def EP (X:Cx) (pins:List (Addr×Obj)) (σ:St) (Q:VK) (u:Value) (s':Shared):Prop:=∃v H',Inv X pins σ H' s'/\Af v u/\Q v H'
def TP (X:Cx) (pins:List (Addr×Obj)) (σ:St) (Q:Bool->Hp->Prop) (b:Bool) (s':Shared):Prop:=∃H',Inv X pins σ H' s'/\Q b H'
def AP (X:Cx) (pins:List (Addr×Obj)) (σ:St) (Q:List V->Hp->Prop) (us:List Value) (s':Shared):Prop:=∃vs H',Inv X pins σ H' s'/\Vals vs us/\Q vs H'
def SP (X:Cx) (pins:List (Addr×Obj)) (D:Ends) (f:Flow) (s':Shared):Prop:=
 match f with
 | .next=>∃σ' H',Inv X pins σ' H' s'/\D.nx σ' H'
 | .brk=>∃σ' H',Inv X pins σ' H' s'/\D.bk σ' H'
 | .cont=>∃σ' H',Inv X pins σ' H' s'/\D.ct σ' H'
 | .ret u=>∃v σ' H',Inv X pins σ' H' s'/\Af v u/\D.rt v H'
def PE (X:Cx) (e:Expr) (t:TE):Prop:=
 ∀(pins:List (Addr×Obj)) (s:Shared) (σ:St) (H:Hp) (Q:VK),Inv X pins σ H s->t σ H Q->wpAny (model X.prog X.w) X.A (eval e X.env) (EP X pins σ Q) X.xe s
def PT (X:Cx) (e:Expr) (t:TT):Prop:=
 ∀(pins:List (Addr×Obj)) (s:Shared) (σ:St) (H:Hp) (Q:Bool->Hp->Prop),Inv X pins σ H s->t σ H Q->wpAny (model X.prog X.w) X.A (isTrue e X.env (eval e X.env)) (TP X pins σ Q) X.xe s
def PW (X:Cx) (e:Expr) (t:TT):Prop:=
 ∀(whole:Sem Value) (pins:List (Addr×Obj)) (s:Shared) (σ:St) (H:Hp) (Q:Bool->Hp->Prop),Inv X pins σ H s->t σ H Q->wpAny (model X.prog X.w) X.A (isTrue e X.env whole) (TP X pins σ Q) X.xe s
theorem PW.pt{X:Cx}{e:Expr}{t:TT}(h:PW X e t):PT X e t:=h _
def PA (X:Cx) (es:List Expr) (t:TA):Prop:=
 ∀(pos:Pos) (pins:List (Addr×Obj)) (s:Shared) (σ:St) (H:Hp) (Q:List V->Hp->Prop),Inv X pins σ H s->t σ H Q->wpAny (model X.prog X.w) X.A (spliced (backTo pos (starEach es X.env))) (AP X pins σ Q) X.xe s
def PS (X:Cx) (st:Stmt) (t:TS):Prop:=
 ∀(pins:List (Addr×Obj)) (s:Shared) (σ:St) (H:Hp) (D:Ends),Inv X pins σ H s->t D σ H->wpAny (model X.prog X.w) X.A (exec st X.env) (SP X pins D) X.xe s
def PSs (X:Cx) (st:List Stmt) (t:TS):Prop:=
 ∀(pins:List (Addr×Obj)) (s:Shared) (σ:St) (H:Hp) (D:Ends),Inv X pins σ H s->t D σ H->wpAny (model X.prog X.w) X.A (execs st X.env) (SP X pins D) X.xe s
theorem thn{α : Type}{t:Sem α}{Q Q' : α->Shared->Prop}{M:Model}{A:Around}{E:Value->Shared->Prop}{s:Shared}(h:wpAny M A t Q E s)(hQ:∀a s,Q a s->Q' a s):wpAny M A t Q' E s:=wpAny_mono h hQ λ_ _ x=>x
section
variable {X:Cx}
def Gp (i:Nat):TE:=fun σ H Q=>∃v, σ[i]? = some (some v)/\Q v H
def tC (v:V):TE:=λ_ H Q=>Q v H
theorem Xf0{i:Nat}{x:Str}{pos:Pos}(hN:X.N[i]? = some x)(hv:Vis X.env.scope x)(hd:(x==("__debug__" : Str))=false:=by decide)(hcd:(x==("__classdict__" : Str))=false:=by decide):PE X (.Name x pos) (Gp i):=by
 intro pins s σ H Q I h;obtain⟨v,e,h⟩:=h;obtain⟨m,hn,hl⟩:=I.loc;obtain⟨u,r,l⟩:=hl i x v hN e hv;have fin:EP X pins σ Q u s:=⟨v,H,I,r,h⟩;rcases l with ⟨hk,hm⟩ | ⟨hk,c,hc,hcell⟩
 ·exact wpAny_Name (wpAny_loadName_local I.ok.kind hk hn hm fin) hd
 ·rcases hk with hk | hk
  ·exact wpAny_Name (wpAny_loadName_cell I.ok.kind hk hc hcell fin) hd
  ·exact wpAny_Name (wpAny_loadName_free I.ok.kind hk hc hcell fin hcd) hd
theorem Ah{i j pos}:PE X (.Constant (.int i) j pos) (tC (.int i)):=λ_ _ _ H _ I h=>wpAny_Constant_int ⟨.int i,H,I.tok _,⟨_,rfl⟩,h⟩
theorem Fk{b j pos}:PE X (.Constant (.bool b) j pos) (tC (.bl b)):=λ_ _ _ H _ I h=>Constant_bool ⟨.bl b,H,I,rfl,h⟩
theorem Bg{x j pos}:PE X (.Constant (.str x) j pos) (tC (.str x)):=λ_ _ _ H _ I h=>Calls.Constant_str ⟨.str x,H,I.tok _,⟨_,rfl⟩,h⟩
def Gl (X:Cx) (x:Str):Prop:=X.env.kindOf x=some .globalImplicit
theorem Xae{E:Value->Shared->Prop}{pins:List (Addr×Obj)}{s:Shared}{σ:St}{H:Hp}{x:Str}{u:Value}{pos:Pos}{Q:Value->Shared->Prop}(I:Inv X pins σ H s)(hg:Gl X x)(hm:X.mg x=some u)(h:Q u s)
  (hd:(x==("__debug__" : Str))=false:=by decide):wpAny (model X.prog X.w) X.A (eval (.Name x pos) X.env) Q E s:=
 Calls.Name_function_global I.ok.kind hg (Calls.loadGlobal_global (by rw[I.ok.glob];exact I.mod.glob.keeps I.bk) hm h) hd
theorem Fl{E:Value->Shared->Prop}{pins:List (Addr×Obj)}{s:Shared}{σ:St}{H:Hp}{x:Str}{u:Value}{pos:Pos}{Q:Value->Shared->Prop}(I:Inv X pins σ H s)(hg:Gl X x)(hm:X.mg x=none)(hv:bootBuiltins x=some u)(h:Q u s)
  (hn:x ≠ "__name__" := by decide) (hd:(x==("__debug__" : Str))=false:=by decide):wpAny (model X.prog X.w) X.A (eval (.Name x pos) X.env) Q E s:=by
 obtain⟨mb,h1,h2⟩:=I.mod.blt;exact Calls.Name_function_global I.ok.kind hg (Calls.loadGlobal_builtin (by rw[I.ok.glob];exact I.mod.glob.keeps I.bk) hm (by rw[I.ok.blt];exact h1.keeps I.bk) ((h2 x hn).trans hv) h) hd
def t2I (ta tb:TE) (k:Int->Int->Hp->Prop):St->Hp->Prop:=fun σ H=>ta σ H λx H1=>tb σ H1 λy H2=>∃i j,x = .int i/\y = .int j/\k i j H2
def tMul (ta tb:TE):TE:=fun σ H Q=>t2I ta tb (λi j H2=>(-(2 ^ 64)<i/\i<2 ^ 64)/\Q (.int (i * j)) H2) σ H
variable {a b:Expr}{ta tb:TE}{pos:Pos}
def PC (X:Cx) (op:CmpOp) (a b:Expr) (t:TE):Prop:=
 ∀(pins:List (Addr×Obj)) (s:Shared) (σ:St) (H:Hp) (Q:VK),Inv X pins σ H s->t σ H Q ->
  wpAny (model X.prog X.w) X.A (eval a X.env) (λv s₁=>wpAny (model X.prog X.w) X.A (eval b X.env) (λu s₂=>wpAny (model X.prog X.w) X.A (compareOp op v u) (EP X pins σ Q) X.xe s₂) X.xe s₁) X.xe s
def tIsN (ta:TE):TE:=fun σ H Q=>ta σ H λx H1=>Q (.bl (decide (x = .non))) H1
def tB (t:TE):TT:=fun σ H Q=>t σ H λx H1=>∃c,x = .bl c/\Q c H1
theorem Xf1{op:CmpOp}{t:TE}(h:PC X op a b t)(h1:behindInMarks op b=false:=by first | exact nobehind _ (by decide) (by decide) | rfl):PE X (.Compare a [op] [b] pos) t:=λpins s σ H Q I hw=>wpAny_Compare1 (h pins s σ H Q I hw) h1
theorem Xaf{op:CmpOp}{t:TE}(h:PC X op a b t)(h1:behindInMarks op b=false:=by first | exact nobehind _ (by decide) (by decide) | rfl):PT X (.Compare a [op] [b] pos) (tB t):=by
 intro pins s σ H Q I hw;refine wpAny_isTrue_Compare1 (thn (h pins s σ H _ I hw) λv s1 h1=>thn h1 λu s2 h2=>thn h2 λc s3 ⟨x,H1,I1,r1,q1⟩=>?_) h1;obtain⟨d,rfl,q⟩:=q1;cases r1;exact wpAny_truthy_bool ⟨H1,I1,q⟩
theorem Fm{e:Expr}{t:TE}(h:PE X e t)(he:∀whole,isTrue e X.env whole=(do let v <-whole;standAt e.pos;holding [v] (truthy v)):=by intro _;rfl):PT X e (tB t):=by
 intro pins s σ H Q I hw;refine isTrue_plain (thn (h pins s σ H _ I hw) λv s1 ⟨x,H1,I1,r1,q1⟩=>?_) (he _);obtain⟨d,rfl,q⟩:=q1;cases r1;exact wpAny_truthy_bool ⟨H1,I1,q⟩
variable {tA tB':TT}{rest:List Expr}
def tAnd (t u:TT):TT:=fun σ H Q=>t σ H λc H1=>if c=true then u σ H1 Q else Q false H1
def tOr (t u:TT):TT:=fun σ H Q=>t σ H λc H1=>if c=true then Q true H1 else u σ H1 Q
def tNot (t:TT):TT:=fun σ H Q=>t σ H λc H1=>Q (!c) H1
theorem Gq(ha:PT X a tA):PW X (.BoolOp .And [a] pos) tA:=by
 intro wh pins s σ H Q I h;refine isTrue_and (thn (ha pins s σ H Q I h) λc s1 e=>?_);cases c with
 | true=>exact isTrue_and_nil e
 | false=>exact e
theorem Hu(ha:PT X a tA):PW X (.BoolOp .Or [a] pos) tA:=by
 intro wh pins s σ H Q I h;refine isTrue_or (thn (ha pins s σ H Q I h) λc s1 e=>?_);cases c with
 | false=>exact isTrue_or_nil e
 | true=>exact e
theorem Gr(ha:PT X a tA)(hb:PW X (.BoolOp .And (b::rest) pos) tB'):PW X (.BoolOp .And (a::b::rest) pos) (tAnd tA tB'):=by
 intro wh pins s σ H Q I h;refine isTrue_and (thn (ha pins s σ H _ I h) λc s1 ⟨H1,I1,q1⟩=>?_);cases c with
 | true=>exact hb wh pins s1 σ H1 Q I1 q1
 | false=>exact⟨H1,I1,q1⟩
theorem Hv(ha:PT X a tA)(hb:PW X (.BoolOp .Or (b::rest) pos) tB'):PW X (.BoolOp .Or (a::b::rest) pos) (tOr tA tB'):=by
 intro wh pins s σ H Q I h;refine isTrue_or (thn (ha pins s σ H _ I h) λc s1 ⟨H1,I1,q1⟩=>?_);cases c with
 | true=>exact⟨H1,I1,q1⟩
 | false=>exact hb wh pins s1 σ H1 Q I1 q1
theorem Xf2(ha:PT X a tA):PT X (.UnaryOp .Not a pos) (tNot tA):=by
 intro pins s σ H Q I h;exact isTrue_not (ha pins s σ H (λc H1=>Q (!c) H1) I h)
def Xf3 (ta tb:TE):TE:=fun σ H Q=>ta σ H λx H1=>∃c,x = .bl c/\if c=true then tb σ H1 Q else Q (.bl false) H1
def tOrV (ta tb:TE):TE:=fun σ H Q=>ta σ H λx H1=>∃c,x = .bl c/\if c=true then Q (.bl true) H1 else tb σ H1 Q
def Xf4 (ta:TE):TE:=fun σ H Q=>ta σ H λx H1=>∃c,x = .bl c/\Q (.bl (!c)) H1
theorem Xag{op}{t:TE}(h:PE X a t):PE X (.BoolOp op [a] pos) t:=λpins s σ H Q I hw=>BoolOp_one (h pins s σ H Q I hw)
theorem Xf5(ha:PE X a ta)(hb:PE X (.BoolOp .And (b::rest) pos) tb):PE X (.BoolOp .And (a::b::rest) pos) (Xf3 ta tb):=by
 intro pins s σ H Q I h;refine BoolOp_and (thn (ha pins s σ H _ I h) λv s1 ⟨x,H1,I1,r1,q1⟩=>?_);obtain⟨c,rfl,q1⟩:=q1;cases r1;refine wpAny_truthy_bool ?_;cases c with
 | true=>exact hb pins s1 σ H1 Q I1 q1
 | false=>exact⟨.bl false,H1,I1,rfl,q1⟩
theorem Xf6(ha:PE X a ta)(hb:PE X (.BoolOp .Or (b::rest) pos) tb):PE X (.BoolOp .Or (a::b::rest) pos) (tOrV ta tb):=by
 intro pins s σ H Q I h;refine BoolOp_or (thn (ha pins s σ H _ I h) λv s1 ⟨x,H1,I1,r1,q1⟩=>?_);obtain⟨c,rfl,q1⟩:=q1;cases r1;refine wpAny_truthy_bool ?_;cases c with
 | false=>exact hb pins s1 σ H1 Q I1 q1
 | true=>exact⟨.bl true,H1,I1,rfl,q1⟩
theorem Xf7(ha:PE X a ta):PE X (.UnaryOp .Not a pos) (Xf4 ta):=by
 intro pins s σ H Q I h;refine UnaryOp_ (thn (ha pins s σ H _ I h) λv s1 ⟨x,H1,I1,r1,q1⟩=>?_);obtain⟨c,rfl,q1⟩:=q1;cases r1;exact not_of (wpAny_truthy_bool ⟨.bl (!c),H1,I1,rfl,q1⟩)
def tIf (t:TT) (ta tb:TE):TE:=fun σ H Q=>t σ H λc H1=>if c=true then ta σ H1 Q else tb σ H1 Q
theorem Hy{c:Expr}(hc:PT X c tA)(ha:PE X a ta)(hb:PE X b tb):PE X (.IfExp c a b pos) (tIf tA ta tb):=by
 intro pins s σ H Q I h;refine wpAny_IfExp (thn (hc pins s σ H _ I h) λd s1 ⟨H1,I1,q1⟩=>?_);cases d with
 | true=>exact ha pins s1 σ H1 Q I1 q1
 | false=>exact hb pins s1 σ H1 Q I1 q1
end
def SqL (K:PySem.W.Frag) (H:Hp) (a:Addr) (xs:List V):Prop:=
 Rd H a (.lst xs) \/
  ∃(o:Obj) (its:Array Value) (n:Nat),K.lookup a=some o/\o.cls = .type "list" /\ o.dict=none/\o.data = .seq its n/\its.size<=sizeLine/\Vals xs its.toList
def SqT (K:PySem.W.Frag) (H:Hp) (a:Addr) (xs:List V):Prop:=
 Rd H a (.tup xs) \/
  ∃(o:Obj) (its:Array Value) (n:Nat),K.lookup a=some o/\o.cls = .type "tuple" /\ o.data = .seq its n/\its.size<=sizeLine/\Vals xs its.toList
def absV:Value->Option V
 | .none=>some .non
 | .bool b=>some (.bl b)
 | .int i _=>some (.int i)
 | .str x _=>some (.str x)
 | .bytes b _=>some (.byt b)
 | .float b _=>some (.flt b)
 | .ref a=>some (.ref a)
 | .type n=>some (.ty n)
 | _=>none
theorem Af.abs{x:V}{u:Value}(r:Af x u):absV u=some x:=by
 cases x with
 | non=>cases r;rfl
 | bl _=>cases r;rfl
 | int _=>obtain⟨t,rfl⟩:=r;rfl
 | str _=>obtain⟨t,rfl⟩:=r;rfl
 | byt _=>obtain⟨t,rfl⟩:=r;rfl
 | flt _=>obtain⟨t,rfl⟩:=r;rfl
 | ref _=>cases r;rfl
 | ty _=>cases r;rfl
theorem Af.inj{x y:V}{u:Value}(r:Af x u)(q:Af y u):x=y:=L5 (r.abs.symm.trans q.abs)
theorem Vals.inj:∀{xs ys:List V} {us:List Value},Vals xs us->Vals ys us->xs=ys
 | _,_,_,.nil,.nil=>rfl
 | _,_,_,.cons r t,.cons r' t'=>by rw[r.inj r',Vals.inj t t']
section
variable {X:Cx}{pins:List (Addr×Obj)}{σ:St}{H:Hp}{s:Shared}{a:Addr}{xs ys:List V}
theorem SqL.of{K:PySem.W.Frag}(h:H a=some (.lst xs)):SqL K H a xs:=.inl (.inl h)
theorem SqT.of{K:PySem.W.Frag}(h:H a=some (.tup xs)):SqT K H a xs:=.inl (.inl h)
theorem Inv.list(I:Inv X pins σ H s)(h:SqL X.K H a xs):∃its:List Value,Vals xs its/\PlainL s.heap a its.toArray/\xs.length<=sizeLine:=by
 rcases h with h | ⟨o,its,n,hk,hc,hd,hs,hz,r⟩
 ·obtain⟨z,its,n,r,e⟩:=h.ok I.hok;exact⟨its,r,⟨_,n,e,rfl,rfl,rfl⟩,z⟩
 ·refine⟨its.toList,r,⟨o,n,I.kIn a o hk,hc,hd,by simpa using hs⟩,?_⟩;have e:=r.length;simp only[Ln] at e;omega
theorem Inv.tuple(I:Inv X pins σ H s)(h:SqT X.K H a xs):∃its:List Value,Vals xs its/\IsTup s.heap a its.toArray/\xs.length<=sizeLine:=by
 rcases h with h | ⟨o,its,n,hk,hc,hs,hz,r⟩
 ·obtain⟨z,its,r,p⟩:=h.ok I.hok;exact⟨its,r,p,z⟩
 ·refine⟨its.toList,r,⟨o,I.kIn a o hk,hc,n,by simpa using hs⟩,?_⟩;have e:=r.length;simp only[Ln] at e;omega
theorem Inv.list_inj(I:Inv X pins σ H s)(h:SqL X.K H a xs)(h':SqL X.K H a ys):xs=ys:=by
 obtain⟨its,r,⟨o,n,e,_,_,d⟩,_⟩:=I.list h;obtain⟨its',r',⟨o',n',e',_,_,d'⟩,_⟩:=I.list h';rw[e] at e';cases e';rw[d] at d';injection d' with d1 _
 have:its=its':=by simpa using congrArg Array.toList d1
 subst this;exact r.inj r'
theorem Inv.tuple_inj(I:Inv X pins σ H s)(h:SqT X.K H a xs)(h':SqT X.K H a ys):xs=ys:=by
 obtain⟨its,r,⟨o,e,_,n,d⟩,_⟩:=I.tuple h;obtain⟨its',r',⟨o',e',_,n',d'⟩,_⟩:=I.tuple h';rw[e] at e';cases e';rw[d] at d';injection d' with d1 _
 have:its=its':=by simpa using congrArg Array.toList d1
 subst this;exact r.inj r'
end
abbrev Cx.wish (X:Cx) (E:Value->Shared->Prop):Cx:={X with xe:=E}
abbrev Cx.nox (X:Cx):Cx:=X.wish λ_ _=>False
theorem Cx.Ok.wish{X:Cx}(ok:X.Ok)(E:Value->Shared->Prop):(X.wish E).Ok:=
 ⟨ok.mod,ok.kind,ok.glob,ok.blt,ok.above,ok.inj,ok.has,ok.cab,ok.hd,ok.frames,ok.stk,ok.exf,ok.bs,ok.bsz,ok.noex,ok.exfs,ok.funs,ok.frf⟩
theorem Cx.Ok.unwish{X:Cx}{E:Value->Shared->Prop}(ok:(X.wish E).Ok):X.Ok:=
 ⟨ok.mod,ok.kind,ok.glob,ok.blt,ok.above,ok.inj,ok.has,ok.cab,ok.hd,ok.frames,ok.stk,ok.exf,ok.bs,ok.bsz,ok.noex,ok.exfs,ok.funs,ok.frf⟩
section
variable {X:Cx}{pins:List (Addr×Obj)}{σ:St}{H:Hp}{s:Shared}{E:Value->Shared->Prop}
theorem Inv.wish(I:Inv X pins σ H s)(E:Value->Shared->Prop):Inv (X.wish E) pins σ H s:=⟨I.ok.wish E,I.os,I.bare,I.base,I.loc,I.cell,I.free,I.freeC,I.pin,I.hok,I.len⟩
theorem Inv.unwish(I:Inv (X.wish E) pins σ H s):Inv X pins σ H s:=⟨I.ok.unwish,I.os,I.bare,I.base,I.loc,I.cell,I.free,I.freeC,I.pin,I.hok,I.len⟩
theorem SP.unwish{D:Ends}{f:Flow}{s':Shared}(h:SP (X.wish E) pins D f s'):SP X pins D f s':=by
 cases f with
 | next=>obtain⟨σ',H',I,q⟩:=h;exact⟨σ',H',I.unwish,q⟩
 | brk=>obtain⟨σ',H',I,q⟩:=h;exact⟨σ',H',I.unwish,q⟩
 | cont=>obtain⟨σ',H',I,q⟩:=h;exact⟨σ',H',I.unwish,q⟩
 | ret u=>obtain⟨v, σ',H',I,r,q⟩:=h;exact⟨v, σ',H',I.unwish,r,q⟩
theorem PSs.nox{st:List Stmt}{t:TS}(h:PSs X.nox st t):PSs X st t:=λpins s σ H D I hw=>
 wpAny_mono (h pins s σ H D (I.wish _) hw) (λ_ _ q=>q.unwish) λ_ _ z=>False.elim z
end
section
variable {X:Cx}{st:Stmt}{rest:List Stmt}{t u:TS}{e:Expr}{te:TE}{pos:Pos}
def Hz:TS:=λD σ H=>D.nx σ H
def Gs (t u:TS):TS:=λD σ H=>t {D with nx:=u D} σ H
theorem Bs:PSs X [] Hz:=λ_ _ σ H _ I h=>wpAny_execs_nil ⟨σ,H,I,h⟩
theorem Ai(h1:PS X st t)(h2:PSs X rest u):PSs X (st::rest) (Gs t u):=by
 intro pins s σ H D I h;refine wpAny_execs_cons (thn (h1 pins s σ H {D with nx:=u D} I h) λf s1 q=>?_);cases f with
 | next=>
  obtain⟨σ',H',I',q⟩:=q;exact h2 pins s1 σ' H' D I' q
 | ret v=>exact q
 | brk=>exact q
 | cont=>exact q
theorem Al(h1:PS X st t):PSs X [st] t:=by
 intro pins s σ H D I h;refine wpAny_execs_cons (thn (h1 pins s σ H D I h) λf s1 q=>?_);cases f with
 | next=>exact wpAny_execs_nil q
 | ret v=>exact q
 | brk=>exact q
 | cont=>exact q
theorem Inv.quiet{pins:List (Addr×Obj)}{σ:St}{H:Hp}{s:Shared}(I:Inv X pins σ H s):interactive X.env=false:=by simp[interactive,I.ok.kind]
def Xf8 (te:TE):TS:=λD σ H=>te σ H λ_ H1=>D.nx σ H1
theorem Fo(he:PE X e te)(hs:swapsWith e none pos.line X.env=pure false:=by rfl):PS X (.Expr e pos) (Xf8 te):=by
 intro pins s σ H D I h;exact wpAny_Expr_any (thn (he pins s σ H _ I h) λv s1 ⟨x,H1,I1,r1,q1⟩=>⟨σ,H1,I1,q1⟩) I.quiet hs
def Xah (te:TE):TS:=λD σ H=>te σ H D.rt
theorem A0(he:PE X e te):PS X (.Return (some e) pos) (Xah te):=by
 intro pins s σ H D I h;exact wpAny_Return_some (thn (he pins s σ H _ I h) λv s1 ⟨x,H1,I1,r1,q1⟩=>⟨x, σ,H1,I1,r1,q1⟩)
def tIfS (c:TT) (t u:TS):TS:=λD σ H=>c σ H λb H1=>if b=true then t D σ H1 else u D σ H1
theorem Bm{c:Expr}{a b:List Stmt}{tc:TT}(hc:PT X c tc)(ha:PSs X a t)(hb:PSs X b u):PS X (.If c a b pos) (tIfS tc t u):=by
 intro pins s σ H D I h;refine wpAny_If (thn (hc pins s σ H _ I h) λd s1 ⟨H1,I1,q1⟩=>?_);cases d with
 | true=>exact ha pins s1 σ H1 D I1 q1
 | false=>exact hb pins s1 σ H1 D I1 q1
def Xow:TS:=λ_ _ _=>False
end
abbrev TG:=V->St->Hp->(St->Hp->Prop)->Prop
abbrev TGs:=List V->St->Hp->(St->Hp->Prop)->Prop
def PG (X:Cx) (target:Expr) (t:TG):Prop:=
 ∀(pins:List (Addr×Obj)) (s:Shared) (σ:St) (H:Hp) (v:V) (u:Value) (Q:St->Hp->Prop),Inv X pins σ H s->Af v u->t v σ H Q ->
  wpAny (model X.prog X.w) X.A (assign target X.env u) (λ_ s'=>∃σ' H',Inv X pins σ' H' s'/\Q σ' H') X.xe s
def PGs (X:Cx) (ts:List Expr) (t:TGs):Prop:=
 ∀(pins:List (Addr×Obj)) (s:Shared) (σ:St) (H:Hp) (vs:List V) (us:List Value) (Q:St->Hp->Prop),Inv X pins σ H s->Vals vs us->t vs σ H Q ->
  wpAny (model X.prog X.w) X.A (assignInOrder ((assignEach ts X.env).map (·.2)) us) (λ_ s'=>∃σ' H',Inv X pins σ' H' s'/\Q σ' H') X.xe s
abbrev TSet:=V->V->V->Hp->(Hp->Prop)->Prop
def PSet (X:Cx) (t:TSet):Prop:=
 ∀(pins:List (Addr×Obj)) (s:Shared) (σ:St) (H:Hp) (o i v:V) (ov iv u:Value) (Q:Hp->Prop),Inv X pins σ H s->Af o ov->Af i iv->Af v u->t o i v H Q ->
  wpAny (model X.prog X.w) X.A (setItem ov iv u) (λ_ s'=>∃H',Inv X pins σ H' s'/\Q H') X.xe s
abbrev TIp:=V->V->Hp->VK->Prop
section
variable {X:Cx}{pos:Pos}
def A6 (i:Nat):TG:=λv σ H Q=>Q (σ.set i (some v)) H
theorem Av{i:Nat}{x:Str}(hN:X.N.Nodup)(hi:X.N[i]? = some x)(hx:Loc X.env.scope x)(hf:X.fn x=true\/X.env.scope.names.lookup x=some .local:=by first | exact .inl rfl | exact .inr rfl | assumption):PG X (.Name x pos) (A6 i):=by
 intro pins s σ H v u Q I r h;exact wpAny_assign_Name (Xad I hN hi hx r (λs' I'=>⟨_,H,I',h⟩) hf)
def Xai:TGs:=λvs σ H Q=>vs=[]/\Q σ H
def Ia (t:TG) (u:TGs):TGs:=λvs σ H Q=>∃v r,vs=v::r/\t v σ H fun σ' H'=>u r σ' H' Q
theorem De:PGs X [] Xai:=by
 intro pins s σ H vs us Q I r h;obtain⟨e,h⟩:=h;subst e;cases r;exact assignInOrder_nil ⟨σ,H,I,h⟩
theorem Bn{e:Expr}{es:List Expr}{t:TG}{u:TGs}(h1:PG X e t)(h2:PGs X es u)
  (hs:(assignEach (e::es) X.env).map (·.2)=assign e X.env::(assignEach es X.env).map (·.2):=by rfl):PGs X (e::es) (Ia t u):=by
 intro pins s σ H vs us Q I r h;obtain⟨v,vr,e1,h⟩:=h;subst e1;cases r with
 | cons r rr=>
  rw[hs];refine assignInOrder_cons (thn (h1 pins s σ H _ _ _ I r h) λ_ s1 ⟨σ1,H1,I1,q1⟩=>?_);exact h2 pins s1 σ1 H1 _ _ Q I1 rr q1
def Ib (K:PySem.W.Frag) (n:Nat) (t:TGs):TG:=λv σ H Q=>∃a xs,v = .ref a/\SqT K H a xs/\xs.length=n/\t xs σ H Q
theorem Xf9{es:List Expr}{k:Nat}{t:TGs}{n:Nat}(hc:X.calm=true)(h:PGs X es t)
  (hn:(assignEach es X.env).length=n:=by rfl) (hst:(assignEach es X.env).findIdx? (·.1)=none:=by rfl):PG X (.Tuple es k pos) (Ib X.K n t):=by
 intro pins s σ H v u Q I r hw;obtain⟨a,xs,e1,hq,hl,hw⟩:=hw;subst e1;cases r;obtain⟨its,rv,ht,hz⟩:=I.tuple hq;refine assign_Tuple_tuple (I.ok.hd hc) ht (by simp[hn,<-hl,rv.length]) hst λh' hx=>?_;have I1:Inv X pins σ H {s with heap:=h'}:=I.kept (t':=s.toks) λb o e=>hx b o (Ll (Pz e)) e;exact h pins _ σ H xs _ Q I1 (by simpa using rv) hw
def gSub (to ti:TE) (t:TSet):TG:=λv σ H Q=>to σ H λo H1=>ti σ H1 λi H2=>t o i v H2 λH3=>Q σ H3
theorem Ef{o i:Expr}{to ti:TE}{t:TSet}(ho:PE X o to)(hi:PE X i ti)(hs:PSet X t)
  (ha:∀v,assign (.Subscript o i pos) X.env v=(do
   let ov <-holding [v] (eval o X.env)
   let iv <-holding [v,ov] (eval i X.env)
   standAt pos
   holding [v,ov,iv] (setItem ov iv v)
   release [v,ov,iv] []):=by intro _;rfl):PG X (.Subscript o i pos) (gSub to ti t):=by
 intro pins s σ H v u Q I r h;rw[ha];refine Pp (wpAny_holding (thn (ho pins s σ H _ I h) λov s1 ⟨x,H1,I1,r1,q1⟩=>?_));refine Pp (wpAny_holding (thn (hi pins s1 σ H1 _ I1 q1) λiv s2 ⟨y,H2,I2,r2,q2⟩=>?_));refine Pp (wpAny_standAt (Pp (wpAny_holding (thn (hs pins s2 σ H2 x y v ov iv u _ I2 r1 r2 r q2) λ_ s3 ⟨H3,I3,q3⟩=>?_))));exact wpAny_release ⟨σ,H3,I3,q3⟩
def Ic (te:TE) (g:TG):TS:=λD σ H=>te σ H λx H1=>g x σ H1 D.nx
theorem Du{tg e:Expr}{te:TE}{g:TG}(he:PE X e te)(hg:PG X tg g)(hs:swapsWithSole [tg] e pos.line X.env=pure false:=by rfl)(hw:swappedStores [tg] e X.env=pure none:=by rfl)
  (h1:(assignEach [tg] X.env).map (·.2)=[assign tg X.env]:=by rfl):PS X (.Assign [tg] e pos) (Ic te g):=by
 intro pins s σ H D I h;refine wpAny_Assign_stores (thn (he pins s σ H _ I h) λv s1 ⟨x,H1,I1,r1,q1⟩=>?_) hs hw;rw[h1];exact thn (hg pins s1 σ H1 x v _ I1 r1 q1) λ_ s2 q=>q
theorem Aw{i:Nat}{x:Str}{e:Expr}{te:TE}{pos':Pos}(hN:X.N.Nodup)(hi:X.N[i]? = some x)(hx:Loc X.env.scope x)(he:PE X e te)(hs:swapsWith e (some (.Name x pos')) pos.line X.env=pure false:=by rfl)(hf:X.fn x=true\/X.env.scope.names.lookup x=some .local:=by first | exact .inl rfl | exact .inr rfl | assumption):
  PS X (.Assign [.Name x pos'] e pos) (Ic te (A6 i)):=by
 intro pins s σ H D I h;refine wpAny_Assign_Name (thn (he pins s σ H _ I h) λv s1 ⟨y,H1,I1,r1,q1⟩=>?_) hs;exact Xad I1 hN hi hx r1 (λs2 I2=>⟨_,H1,I2,q1⟩) hf
def tPar (i j:Nat) (ta:TA):TS:=λD σ H=>ta σ H λvs H1=>∃v w,vs=[v,w]/\D.nx ((σ.set i (some v)).set j (some w)) H1
def tAug (i:Nat) (te:TE) (ti:TIp):TS:=λD σ H=>∃x, σ[i]? = some (some x)/\te σ H λy H1=>ti x y H1 λz H2=>D.nx (σ.set i (some z)) H2
def tAugS (to ti te:TE) (tget:V->V->Hp->VK->Prop) (tip:TIp) (tset:TSet):TS:=λD σ H=>to σ H λo H1=>ti σ H1 λi H2=>tget o i H2 λx H3=>te σ H3 λy H4=>tip x y H4 λz H5=>tset o i z H5 λH6=>D.nx σ H6
def PGet (X:Cx) (t:V->V->Hp->VK->Prop):Prop:=
 ∀(pins:List (Addr×Obj)) (s:Shared) (σ:St) (H:Hp) (o i:V) (ov iv:Value) (Q:VK),Inv X pins σ H s->Af o ov->Af i iv->t o i H Q ->
  wpAny (model X.prog X.w) X.A (getItem ov iv) (EP X pins σ Q) X.xe s
def ipI (f:Int->Int->Int):TIp:=λx y H Q=>∃i j,x = .int i/\y = .int j/\Q (.int (f i j)) H
end
section
variable {X:Cx}{pos:Pos}
def Xox (c:TT) (tb:TS):TS:=λD σ H=>∃W:Nat->St->Hp->Prop,(∃m,W m σ H)/\∀m σ H,W m σ H ->
 c σ H λb H1=>if b=true then ∃N:St->Hp->Prop,(∀σ' H',N σ' H'->∃m',m'<m/\W m' σ' H')/\tb {D with nx:=N,ct:=N,bk:=D.nx} σ H1 else D.nx σ H1
end
structure It where
 go:Nat->Hp->Prop
 yld:Nat->Hp->V->Hp->Prop
 stop:Nat->Hp->Prop
def FpOk (X:Cx) (pins:List (Addr×Obj)) (H:Hp) (b:Addr):Prop:=
 H b=none/\b≠X.env.locals/\b∉X.fs/\(b∈X.ex\/X.s₀.heap.objs.size<=b)/\(∀x c,X.env.cells.lookup x=some c->c≠b)/\∀p∈X.pn++pins,p.1≠b
theorem Inv.fpOk{X:Cx}{pins:List (Addr×Obj)}{σ:St}{H H':Hp}{s:Shared}{b:Addr}(I:Inv X pins σ H s)(hb:s.heap.objs.size<=b)(hn:H' b=none):FpOk X pins H' b:=by
 refine⟨hn,Oz (L4 I.lt hb),I.nofs hb,.inr (Mh I.sz hb),λx c e z=>?_,λp hp z=>?_⟩
 ·obtain⟨v,q⟩:=I.cell x c e;exact absurd (L4 q.lt (by rw[z];exact hb)) (Ml _)
 ·exact absurd (L4 (Pz (I.pin p hp).1) (by rw[z];exact hb)) (Ml _)
structure Turn (P:Program) (w:World) (K:PySem.W.Frag) (tg:Expr) (J:It) (fp:List Addr) (it:Addr) (tn:Nat->Heap->Prop):Prop where
 mem:it∈fp
 obj:∀i h,tn i h->∀b∈fp,∃o,h.get? b=some o/\∀v,o.data ≠ .cell v
 keep:∀i h h',tn i h->(∀b∈fp,∀o,h.get? b=some o->h'.get? b=some o)->tn i h'
 item:∀(X:Cx),X.prog=P->X.w=w->X.K=K->X.calm=true->∀(i:Nat) (pins:List (Addr×Obj)) (s:Shared) (σ:St) (H:Hp) (E:Value->Shared->Prop),Inv X pins σ H s->(∀b∈fp,FpOk X pins H b)->tn i s.heap->J.go i H ->
  wpAny (model P w) X.A (pyNext (.ref it)) (λr s1=>∃u,r=some u /\
   wpAny (model P w) X.A (letOwnedTupleGo tg (.ref it) u) (λ_ s2=>∃x H',Inv X pins σ H' s2/\Af x u/\J.yld i H x H'/\tn (i+1) s2.heap/\∀b∈fp,H' b=none) E s1) E s
 done:∀(X:Cx),X.prog=P->X.w=w->X.K=K->X.calm=true->∀(i:Nat) (pins:List (Addr×Obj)) (s:Shared) (σ:St) (H:Hp) (E:Value->Shared->Prop),Inv X pins σ H s->(∀b∈fp,FpOk X pins H b)->tn i s.heap->J.stop i H ->
  wpAny (model P w) X.A (pyNext (.ref it)) (λr s1=>r=none/\Inv X pins σ H s1) E s
 self:∀(A:Around) (i:Nat) (s:Shared) (Q:Value->Shared->Prop) (E:Value->Shared->Prop),tn i s.heap->Q (.ref it) s->wpAny (model P w) A (pyIter (.ref it)) Q E s
abbrev TI:=St->Hp->(It->Hp->Prop)->Prop
def PIE (X:Cx) (pins:List (Addr×Obj)) (σ:St) (tg:Expr) (R:It->Hp->Prop) (itv:Value) (s2:Shared):Prop:=
 ∃(it:Addr) (fp:List Addr) (tn:Nat->Heap->Prop) (J:It) (H':Hp),itv = .ref it/\Inv X pins σ H' s2/\Turn X.prog X.w X.K tg J fp it tn/\tn 0 s2.heap/\(∀b∈fp,FpOk X pins H' b)/\R J H'
def PI (X:Cx) (tg iter:Expr) (wi:TI):Prop:=
 ∀(pins:List (Addr×Obj)) (s:Shared) (σ:St) (H:Hp) (R:It->Hp->Prop),Inv X pins σ H s->wi σ H R ->
  wpAny (model X.prog X.w) X.A (eval iter X.env) (λv s1=>wpAny (model X.prog X.w) X.A (pyIter v) (PIE X pins σ tg R) X.xe s1) X.xe s
theorem Gu{M:Model}{A:Around}{E:Value->Shared->Prop}{s:Shared}{tg:Expr}{it:Addr}{u:Value}{o:Obj}{n:String}{vs:Array Value}{Q:Unit->Shared->Prop}(ho:s.heap.get? it=some o)(hc:o.cls = .type n)(hd:o.data = .fields vs)
    (hn:["enumerate", "zip", "dict_itemiterator", "dict_reverseitemiterator", "odict_iterator", "itertools.zip_longest", "itertools.pairwise"].contains n=false) (hQ:Q () s):wpAny M A (letOwnedTupleGo tg (.ref it) u) Q E s:=by
  unfold letOwnedTupleGo;cases tg<;>first
    | exact Pq hQ
    | (cases u<;>first
        | exact Pq hQ
        | (refine Pp (wpAny_load ho ?_)
           rw[hc,hd];show wpAny M A (if (["enumerate", "zip", "dict_itemiterator", "dict_reverseitemiterator", "odict_iterator", "itertools.zip_longest", "itertools.pairwise"].contains n&&vs[0]? == some (rawInt _))=true then _ else _) Q E s;rw[Ps (by intro h;rw[hn,Nh] at h;cases h)];exact Pq hQ))
def Itl (K:PySem.W.Frag) (a:Addr):It:=
 ⟨λi H=>∃xs x,SqL K H a xs/\xs[i]? = some x,λi H x H'=>H'=H/\∀xs,SqL K H a xs->xs[i]? = some x,λi H=>∃xs,SqL K H a xs/\xs.length<=i⟩
def Itt (K:PySem.W.Frag) (a:Addr):It:=
 ⟨λi H=>∃xs x,SqT K H a xs/\xs[i]? = some x,λi H x H'=>H'=H/\∀xs,SqT K H a xs->xs[i]? = some x,λi H=>∃xs,SqT K H a xs/\xs.length<=i⟩
def Itr (lo:Int) (n:Nat):It:=⟨λi _=>i<n,λi H x H'=>H'=H/\x = .int (lo+i),λi _=>n<=i⟩
theorem Xga{P:Program}{w:World}{K:PySem.W.Frag}{tg:Expr}(a it:Addr):Turn P w K tg (Itl K a) [it] it (λi h=>h.IsListIter it a i) where
 mem:=by simp
 obj:=λi h st b hb=>by
  have e:b=it:=by simpa using hb
  subst e;obtain⟨o,e,c,d⟩:=st;exact⟨o,e,λv z=>by rw[d] at z;cases z⟩
 keep:=λi h h' st k=>st.at λo e=>k it (by simp) o e
 item:=by
  intro X hP hw hK hc i pins s σ H E I hf st hg;subst hP hw hK;obtain⟨xs,x,hq,hx⟩:=hg;obtain⟨its,rv,p,hz⟩:=I.list hq;obtain⟨u,hu,ru⟩:=rv.get hx;obtain⟨f0,f1,f2,f3,f4,f5⟩:=hf it (by simp);refine wpAny_pyNext_list_item st p.isList (x:=u) (by simpa using hu) λh' st' sb=>?_;have I1:Inv X pins σ H {s with heap:=h'}:=I.turned (t':=s.toks) (λb o hb e=>(sb.2 b hb).trans e) f0 f1 f3 f4 f5;obtain⟨o,e,c,d⟩:=id st';exact⟨u,rfl,Gu (s:={s with heap:=h'}) e c d (by decide) ⟨x,H,I1,ru,⟨rfl,λys hy=>by rw[I.list_inj hy hq];exact hx⟩,st',λb hb=>(hf b hb).1⟩⟩
 done:=by
  intro X hP hw hK hc i pins s σ H E I hf st hg;subst hP hw hK;obtain⟨xs,hq,hx⟩:=hg;obtain⟨its,rv,p,hz⟩:=I.list hq;obtain⟨f0,f1,f2,f3,f4,f5⟩:=hf it (by simp);have hl:=rv.length;exact wpAny_pyNext_list_end (I.ok.hd hc) st p.isList (by simp;omega) λh' eb=>⟨rfl,I.turned (t':=s.toks) (λb o hb e=>eb b o hb e) f0 f1 f3 f4 f5⟩
 self:=λ_ _ _ _ _ st h=>wpAny_pyIter_listiter st h
theorem Xgb{P:Program}{w:World}{K:PySem.W.Frag}{tg:Expr}(a it:Addr):Turn P w K tg (Itt K a) [it] it (λi h=>h.IsTupleIter it a i) where
 mem:=by simp
 obj:=λi h st b hb=>by
  have e:b=it:=by simpa using hb
  subst e;obtain⟨o,e,c,d⟩:=st;exact⟨o,e,λv z=>by rw[d] at z;cases z⟩
 keep:=λi h h' st k=>st.at λo e=>k it (by simp) o e
 item:=by
  intro X hP hw hK hc i pins s σ H E I hf st hg;subst hP hw hK;obtain⟨xs,x,hq,hx⟩:=hg;obtain⟨its,rv,p,hz⟩:=I.tuple hq;obtain⟨u,hu,ru⟩:=rv.get hx;obtain⟨f0,f1,f2,f3,f4,f5⟩:=hf it (by simp);refine wpAny_pyNext_tuple_item st (show s.heap.IsTuple a its.toArray from p) (x:=u) (by simpa using hu) λh' st' sb=>?_;have I1:Inv X pins σ H {s with heap:=h'}:=I.turned (t':=s.toks) (λb o hb e=>(sb.2 b hb).trans e) f0 f1 f3 f4 f5;obtain⟨o,e,c,d⟩:=id st';exact⟨u,rfl,Gu (s:={s with heap:=h'}) e c d (by decide) ⟨x,H,I1,ru,⟨rfl,λys hy=>by rw[I.tuple_inj hy hq];exact hx⟩,st',λb hb=>(hf b hb).1⟩⟩
 done:=by
  intro X hP hw hK hc i pins s σ H E I hf st hg;subst hP hw hK;obtain⟨xs,hq,hx⟩:=hg;obtain⟨its,rv,p,hz⟩:=I.tuple hq;obtain⟨f0,f1,f2,f3,f4,f5⟩:=hf it (by simp);have hl:=rv.length;exact wpAny_pyNext_tuple_end (I.ok.hd hc) st (show s.heap.IsTuple a its.toArray from p) (by simp;omega) λh' eb=>⟨rfl,I.turned (t':=s.toks) (λb o hb e=>eb b o hb e) f0 f1 f3 f4 f5⟩
 self:=λ_ _ _ _ _ st h=>wpAny_pyIter_tupleiter st h
theorem Xgc{P:Program}{w:World}{K:PySem.W.Frag}{tg:Expr}(it:Addr)(lo:Int)(n:Nat):Turn P w K tg (Itr lo n) [it] it (λi h=>IsRangeIter h it (lo+(i:Nat) * 1) ((n:Int) - (i:Nat)) 1) where
 mem:=by simp
 obj:=λi h st b hb=>by
  have e:b=it:=by simpa using hb
  subst e;exact⟨_,st,λv z=>by
   have z':Data.fields _=Data.cell v:=z;cases z'⟩
 keep:=λi h h' st k=>k it (by simp) _ st
 item:=by
  intro X hP hw hK hc i pins s σ H E I hf st hg;subst hP hw hK;obtain⟨f0,f1,f2,f3,f4,f5⟩:=hf it (by simp);have W:=Walks.range (prog:=X.prog) (w:=X.w) (I.ok.hd hc) it lo 1 n;refine W.item i s _ _ hg st λv h' tk hv st' kk=>?_;obtain⟨t,rfl⟩:=hv;have I1:Inv X pins σ H {s with heap:=h',toks:=tk}:=I.turned (λb o hb e=>kk b o (by simpa using hb) e) f0 f1 f3 f4 f5;refine⟨_,rfl,Gu (s:={s with heap:=h',toks:=tk}) (n := "range_iterator") st' rfl rfl (by decide) ⟨.int (lo+i),H,I1,⟨t,?_⟩,⟨rfl,rfl⟩,st',λb hb=>(hf b hb).1⟩⟩;rw[Int.mul_one]
 done:=by
  intro X hP hw hK hc i pins s σ H E I hf st hg;subst hP hw hK;obtain⟨f0,f1,f2,f3,f4,f5⟩:=hf it (by simp);exact wpAny_pyNext_range_end (I.ok.hd hc) st (by have:n<=i:=hg;omega) λh' eb=>⟨rfl,I.turned (t':=s.toks) (λb o hb e=>eb b o hb e) f0 f1 f3 f4 f5⟩
 self:=λ_ _ _ _ _ st h=>wpAny_pyIter_rangeiter st h
section
variable {X:Cx}{tg:Expr}
def Xgd (K:PySem.W.Frag) (tl:TE):TI:=fun σ H R=>tl σ H λx H1=>∃a,x = .ref a/\(∃xs,SqL K H1 a xs)/\R (Itl K a) H1
def iTup (K:PySem.W.Frag) (tl:TE):TI:=fun σ H R=>tl σ H λx H1=>∃a,x = .ref a/\(∃xs,SqT K H1 a xs)/\R (Itt K a) H1
theorem Bu{l:Expr}{tl:TE}(hl:PE X l tl):PI X tg l (Xgd X.K tl):=by
 intro pins s σ H R I h;refine thn (hl pins s σ H _ I h) λv s1 ⟨x,H1,I1,r1,q1⟩=>?_;obtain⟨a,e,⟨xs,hq⟩,q⟩:=q1;subst e;cases r1;obtain⟨its,rv,p,hz⟩:=I1.list hq;refine wpAny_pyIter_list p.isList ?_;refine⟨s1.heap.objs.size,[s1.heap.objs.size],_,_,H1,rfl,I1.kept (t':=s1.toks) λb o e=>P0 _ e,Xga a _,⟨_,Heap.get?_push_size _ rfl,rfl,rfl⟩,λb hb=>?_,q⟩;have e:b=s1.heap.objs.size:=by simpa using hb
 subst e;exact I1.fpOk (Li _) (I1.hok.fresh (Li _))
theorem Xaj{l:Expr}{tl:TE}(hl:PE X l tl):PI X tg l (iTup X.K tl):=by
 intro pins s σ H R I h;refine thn (hl pins s σ H _ I h) λv s1 ⟨x,H1,I1,r1,q1⟩=>?_;obtain⟨a,e,⟨xs,hq⟩,q⟩:=q1;subst e;cases r1;obtain⟨its,rv,p,hz⟩:=I1.tuple hq;refine wpAny_pyIter_tuple (show s1.heap.IsTuple a its.toArray from p) ?_;refine⟨s1.heap.objs.size,[s1.heap.objs.size],_,_,H1,rfl,I1.kept (t':=s1.toks) λb o e=>P0 _ e,Xgb a _,⟨_,Heap.get?_push_size _ rfl,rfl,rfl⟩,λb hb=>?_,q⟩;have e:b=s1.heap.objs.size:=by simpa using hb
 subst e;exact I1.fpOk (Li _) (I1.hok.fresh (Li _))
theorem Xge{pins:List (Addr×Obj)}{σ:St}{H:Hp}{s:Shared}{R:It->Hp->Prop}{E:Value->Shared->Prop}{lo hi:Int}{t u v:Tok}{tk:Nat}(I:Inv X pins σ H s)(h1 : -(2 ^ 62)<=lo)(h2:lo<2 ^ 62)(h3 : -(2 ^ 62)<=hi)(h4:hi<2 ^ 62)
  (q:R (Itr lo (hi - lo).toNat) H):wpAny (model X.prog X.w) X.A (pyIter (.ref s.heap.objs.size)) (PIE X pins σ tg R) E {s with heap:=s.heap.push {cls:=.type "range",data:=.fields #[.int lo t,.int hi u,.int 1 v]},toks:=tk}:=by
 refine wpAny_pyIter_range (IsRange.new ..) (small_one h1 h2 h3 h4) ?_;have I1:Inv X pins σ H {s with heap:=s.heap.push {cls:=.type "range",data:=.fields #[.int lo t,.int hi u,.int 1 v]},toks:=tk}:=I.kept λb o e=>P0 _ e;refine⟨(s.heap.push {cls:=.type "range",data:=.fields #[.int lo t,.int hi u,.int 1 v]}).objs.size,[(s.heap.push {cls:=.type "range",data:=.fields #[.int lo t,.int hi u,.int 1 v]}).objs.size],_,_,H,rfl,
  I1.kept (t':=tk) λb o e=>P0 _ e,Xgc _ lo (hi - lo).toNat,?_,λb hb=>?_,q⟩
 ·have e1:lo+((0:Nat):Int) * 1=lo:=by simp
  have e2:(((hi - lo).toNat:Nat):Int) - ((0:Nat):Int)=Builtin.Range.rangeSize lo hi 1:=by rw[rangeSize_one];split<;>omega
  show IsRangeIter _ _ (lo+((0:Nat):Int) * 1) ((((hi - lo).toNat:Nat):Int) - ((0:Nat):Int)) 1;rw[e1,e2];exact Heap.get?_push_size _ rfl
 ·have e:b=(s.heap.push {cls:=.type "range",data:=.fields #[.int lo t,.int hi u,.int 1 v]}).objs.size:=by simpa using hb
  subst e;exact I1.fpOk (Li _) (I1.hok.fresh (Li _))
def Xgf (ta:TA):TI:=fun σ H R=>ta σ H λvs H1=>∃j:Int,vs=[.int j] /\ -(2 ^ 62)<=j/\j<2 ^ 62/\R (Itr 0 j.toNat) H1
theorem Fp{a:Expr}{ta:TA}{p pos:Pos}(hg:Gl X "range")(hm:X.mg "range" = none)(ha:PA X [a] ta)(hs:starEach [a] X.env=[(false,eval a X.env)]:=by rfl):PI X tg (.Call (.Name "range" p) [a] [] pos) (Xgf ta):=by
 intro pins s σ H R I h;refine Call_ (Fl I hg hm boot_range (PyProof.Rows.callWith_type1 (thn (ha pos pins s σ H _ I h) λus s1 ⟨vs,H1,I1,r1,q1⟩=>?_) hs rfl));obtain⟨j,e,q1,q2,q⟩:=q1;subst e;cases r1 with
 | cons r rr=>
  cases rr;obtain⟨t,rfl⟩:=r;exact call_range_1 (Xge I1 (by omega) (by omega) q1 q2 (by simpa using q))
def tFor (wi:TI) (g:TG) (tb:TS):TS:=λD σ H=>wi σ H λJ H1=>∃W:Nat->Nat->St->Hp->Prop,(∃m,W 0 m σ H1)/\∀i m σ H,W i m σ H ->
 (J.stop i H/\D.nx σ H)\/(J.go i H/\∃N:St->Hp->Prop,(∀σ' H',N σ' H'->∃m',m'<m/\W (i+1) m' σ' H')/\∀x H',J.yld i H x H'->g x σ H' fun σ2 H2=>tb {D with nx:=N,ct:=N,bk:=D.nx} σ2 H2)
def Fq (fp:List Addr) (h:Heap):List (Addr×Obj):=fp.filterMap λb=>(h.get? b).map λo=>(b,o)
theorem Gv{fp:List Addr}{h:Heap}{b:Addr}{o:Obj}(hb:b∈fp)(e:h.get? b=some o):(b,o)∈Fq fp h:=Pc.mpr ⟨b,hb,by rw[e];rfl⟩
theorem Xgg{fp:List Addr}{h:Heap}{p:Addr×Obj}(hp:p∈Fq fp h):p.1∈fp/\h.get? p.1=some p.2:=by
 obtain⟨b,hb,e⟩:=Pc.mp hp;cases q:h.get? b with
 | none=>rw[q] at e;cases e
 | some o=>
  rw[q] at e;have e':(b,o)=p:=L5 e;subst e';exact⟨hb,q⟩
theorem Inv.pinned{pins:List (Addr×Obj)}{σ:St}{H:Hp}{s:Shared}{fp:List Addr}(I:Inv X pins σ H s)(hf:∀b∈fp,FpOk X pins H b)(ho:∀b∈fp,∃o,s.heap.get? b=some o/\∀v,o.data ≠ .cell v):Inv X (pins++Fq fp s.heap) σ H s:=
 I.pins_of λp hp=>(Lr.mp hp).elim (λz=>I.pin p (L7 _ z)) λz=>by
  obtain⟨hb,e⟩:=Xgg z;obtain⟨f0,f1,f2,_⟩:=hf p.1 hb;obtain⟨o,e',d⟩:=ho p.1 hb;rw[e] at e';cases e';exact⟨e,f0,f1,f2,d⟩
theorem Inv.unpinned{pins pl:List (Addr×Obj)}{σ:St}{H:Hp}{s:Shared}(I:Inv X (pins++pl) σ H s):Inv X pins σ H s:=I.pins_of λp hp=>I.pin p (L7 _ (Nb _ hp))
theorem B9{iter:Expr}{body:List Stmt}{wi:TI}{g:TG}{tb:TS}{pos:Pos}(hp:PassesOwn (model X.prog X.w) X.A X.env X.xe)(hc:X.calm=true)(hi:PI X tg iter wi)(hg:PG X tg g)(hb:PSs X body tb)
  (hs:∀x,foldedSetIterable iter X.env x=pure x:=by intro _;rfl):PS X (.For tg iter body [] pos) (tFor wi g tb):=by
 intro pins s σ H D I h;refine wpAny_For (thn (hi pins s σ H _ I h) λv s1 h1=>thn h1 λitv s2 h2=>?_) hs;obtain⟨it,fp,tn,J,H2,e,I2,T,st2,f2,W,⟨m0,w0⟩,turn⟩:=h2;subst e;have stat:∀{H':Hp},(∀b∈fp,H' b=none)->∀b∈fp,FpOk X pins H' b:=λhn b hb=>⟨hn b hb,(f2 b hb).2⟩;refine codeAny_forLoop_any (λn s'=>∃i σ' H',Inv X pins σ' H' s'/\tn i s'.heap/\(∀b∈fp,H' b=none)/\W i n σ' H') ?_ m0 ⟨0, σ,H2,I2,st2,λb hb=>(f2 b hb).1,w0⟩;rintro n s3 ⟨i, σ3,H3,I3,st3,fr3,w3⟩;rcases turn i n σ3 H3 w3 with ⟨stop,qn⟩ | ⟨go,N,hN,step⟩
 ·refine wpAny_passesOwn hp (thn (T.done X rfl rfl rfl hc i pins s3 σ3 H3 X.xe I3 (stat fr3) st3 stop) λr s4 ⟨hr,I4⟩=>?_);subst hr;exact wpAny_execs_nil ⟨σ3,H3,I4,qn⟩
 ·refine wpAny_passesOwn hp (thn (T.item X rfl rfl rfl hc i pins s3 σ3 H3 X.xe I3 (stat fr3) st3 go) λr s4 ⟨u,hr,h4⟩=>?_);subst hr;refine wpAny_passesOwn hp (thn h4 λ_ s5 ⟨x,H5,I5,r5,y5,st5,fr5⟩=>?_);have I5':=I5.pinned (stat fr5) (T.obj _ _ st5);refine wpAny_passesOwn hp (thn (hg _ s5 σ3 H5 x u _ I5' r5 (step x H5 y5)) λ_ s6 ⟨σ6,H6,I6,q6⟩=>?_);refine wpAny_passesOwn hp (thn (hb _ s6 σ6 H6 _ I6 q6) λf s7 q7=>?_);have again:∀{σ7:St} {H7:Hp},Inv X (pins++Fq fp s5.heap) σ7 H7 s7->N σ7 H7->∃m,m<n/\∃i σ' H',Inv X pins σ' H' s7/\tn i s7.heap/\(∀b∈fp,H' b=none)/\W i m σ' H':=λ{σ7 H7} I7 n7=>by
   obtain⟨m',hm,w7⟩:=hN σ7 H7 n7;refine⟨m',hm,i+1, σ7,H7,I7.unpinned,T.keep _ _ _ st5 λb hb o e=>(I7.pin (b,o) (L7 _ (L7 _ (Gv hb e)))).1,λb hb=>?_,w7⟩;obtain⟨o,e,d⟩:=T.obj _ _ st5 b hb;exact(I7.pin (b,o) (L7 _ (L7 _ (Gv hb e)))).2.1
  cases f with
  | next=>obtain⟨σ7,H7,I7,n7⟩:=q7;exact again I7 n7
  | cont=>obtain⟨σ7,H7,I7,n7⟩:=q7;exact again I7 n7
  | brk=>obtain⟨σ7,H7,I7,q7⟩:=q7;exact⟨σ7,H7,I7.unpinned,q7⟩
  | ret v=>obtain⟨x7, σ7,H7,I7,r7,q7⟩:=q7;exact⟨x7, σ7,H7,I7.unpinned,r7,q7⟩
end
theorem Dv{K:PySem.W.Frag}{a:Addr}{xs:List V}{g:TG}{tb:TS}{D:Ends}{σ:St}{H:Hp}(Pv:Nat->St->Hp->Prop)(h0:Pv 0 σ H)(hl:∀i σ H,i<=xs.length->Pv i σ H->SqL K H a xs)
  (hs:∀i x σ H,xs[i]? = some x->Pv i σ H->g x σ H fun σ2 H2=>tb {D with nx:=Pv (i+1),ct:=Pv (i+1),bk:=D.nx} σ2 H2) (hd:∀σ H,Pv xs.length σ H->D.nx σ H):
  ∃W:Nat->Nat->St->Hp->Prop,(∃m,W 0 m σ H)/\∀i m σ H,W i m σ H ->
   ((Itl K a).stop i H/\D.nx σ H)\/((Itl K a).go i H/\∃N:St->Hp->Prop,(∀σ' H',N σ' H'->∃m',m'<m/\W (i+1) m' σ' H')/\∀x H',(Itl K a).yld i H x H'->g x σ H' fun σ2 H2=>tb {D with nx:=N,ct:=N,bk:=D.nx} σ2 H2):=by
 refine⟨λi m σ H=>m=xs.length - i/\i<=xs.length/\Pv i σ H,⟨xs.length,by simp,Mf _,h0⟩,?_⟩;rintro i m σ H ⟨rfl,hi,p⟩;have q:=hl i σ H hi p;by_cases hlt:i<xs.length
 ·refine .inr ⟨⟨xs,xs[i],q,by simp[hlt]⟩,Pv (i+1),fun σ' H' p'=>⟨xs.length - (i+1),by omega,rfl,hlt,p'⟩,λx H' y=>?_⟩;obtain⟨e,y⟩:=y;subst e;exact hs i x σ _ (y xs q) p
 ·have e:i=xs.length:=by omega
  subst e;exact .inl ⟨⟨xs,q,Li _⟩,hd σ H p⟩
theorem Fs{lo:Int}{n:Nat}{g:TG}{tb:TS}{D:Ends}{σ:St}{H:Hp}(Pv:Nat->St->Hp->Prop)(h0:Pv 0 σ H)
  (hs:∀i σ H,i<n->Pv i σ H->g (.int (lo+i)) σ H fun σ2 H2=>tb {D with nx:=Pv (i+1),ct:=Pv (i+1),bk:=D.nx} σ2 H2) (hd:∀σ H,Pv n σ H->D.nx σ H):
  ∃W:Nat->Nat->St->Hp->Prop,(∃m,W 0 m σ H)/\∀i m σ H,W i m σ H ->
   ((Itr lo n).stop i H/\D.nx σ H)\/((Itr lo n).go i H/\∃N:St->Hp->Prop,(∀σ' H',N σ' H'->∃m',m'<m/\W (i+1) m' σ' H')/\∀x H',(Itr lo n).yld i H x H'->g x σ H' fun σ2 H2=>tb {D with nx:=N,ct:=N,bk:=D.nx} σ2 H2):=by
 refine⟨λi m σ H=>m=n - i/\i<=n/\Pv i σ H,⟨n,by simp,Mf _,h0⟩,?_⟩;rintro i m σ H ⟨rfl,hi,p⟩;by_cases hlt:i<n
 ·refine .inr ⟨hlt,Pv (i+1),fun σ' H' p'=>⟨n - (i+1),by omega,rfl,hlt,p'⟩,λx H' y=>?_⟩;obtain⟨e,y⟩:=y;subst e y;exact hs i σ _ hlt p
 ·have e:i=n:=by omega
  subst e;exact .inl ⟨Li _,hd σ H p⟩
abbrev R2:=V->V->Hp->VK->Prop
def OpR (X:Cx) (f:Value->Value->Sem Value) (r:R2):Prop:=
 ∀(pins:List (Addr×Obj)) (s:Shared) (σ:St) (H:Hp) (x y:V) (v u:Value) (Q:VK),Inv X pins σ H s->Af x v->Af y u->r x y H Q ->
  wpAny (model X.prog X.w) X.A (f v u) (EP X pins σ Q) X.xe s
def UnR (X:Cx) (f:Value->Sem Value) (r:V->Hp->VK->Prop):Prop:=
 ∀(pins:List (Addr×Obj)) (s:Shared) (σ:St) (H:Hp) (x:V) (v:Value) (Q:VK),Inv X pins σ H s->Af x v->r x H Q ->
  wpAny (model X.prog X.w) X.A (f v) (EP X pins σ Q) X.xe s
def B1 (X:Cx) (f:Value) (r:List V->Hp->VK->Prop):Prop:=
 ∀(pins:List (Addr×Obj)) (s:Shared) (σ:St) (H:Hp) (xs:List V) (us:List Value) (Q:VK),Inv X pins σ H s->Vals xs us->r xs H Q ->
  wpAny (model X.prog X.w) X.A (call f us) (EP X pins σ Q) X.xe s
def TruR (X:Cx) (r:V->Hp->(Bool->Hp->Prop)->Prop):Prop:=
 ∀(pins:List (Addr×Obj)) (s:Shared) (σ:St) (H:Hp) (x:V) (v:Value) (Q:Bool->Hp->Prop),Inv X pins σ H s->Af x v->r x H Q ->
  wpAny (model X.prog X.w) X.A (truthy v) (TP X pins σ Q) X.xe s
def tOp (r:R2) (ta tb:TE):TE:=fun σ H Q=>ta σ H λx H1=>tb σ H1 λy H2=>r x y H2 Q
def tUn (r:V->Hp->VK->Prop) (ta:TE):TE:=fun σ H Q=>ta σ H λx H1=>r x H1 Q
def rI (C:Int->Int->Prop) (g:Int->Int->V):R2:=λx y H Q=>∃i j,x = .int i/\y = .int j/\C i j/\Q (g i j) H
def rI0 (g:Int->Int->V):R2:=λx y H Q=>∃i j,x = .int i/\y = .int j/\Q (g i j) H
def rU (g:Int->V):V->Hp->VK->Prop:=λx H Q=>∃i,x = .int i/\Q (g i) H
section
variable {X:Cx}{a b c:Expr}{ta tb tc:TE}{pos:Pos}
theorem binT(ha:PE X a ta)(hb:PE X b tb){pins:List (Addr×Obj)}{s:Shared}{σ:St}{H:Hp}{R:V->V->Hp->Prop}(I:Inv X pins σ H s)
  (h:ta σ H λx H1=>tb σ H1 λy H2=>R x y H2) {Q:Value->Shared->Prop} {f:Value->Value->Sem Value}
  (hf:∀v u s2 x y H2,Inv X pins σ H2 s2->Af x v->Af y u->R x y H2->wpAny (model X.prog X.w) X.A (f v u) Q X.xe s2):
  wpAny (model X.prog X.w) X.A (eval a X.env) (λv s₁=>wpAny (model X.prog X.w) X.A (eval b X.env) (λu s₂=>wpAny (model X.prog X.w) X.A (f v u) Q X.xe s₂) X.xe s₁) X.xe s:=by
 refine thn (ha pins s σ H _ I h) λv s1 ⟨x,H1,I1,r1,q1⟩=>?_;refine thn (hb pins s1 σ H1 _ I1 q1) λu s2 ⟨y,H2,I2,r2,q2⟩=>?_;exact hf v u s2 x y H2 I2 r1 r2 q2
theorem Am{op:Operator}{r:R2}(ho:OpR X (binaryOp op) r)(ha:PE X a ta)(hb:PE X b tb):PE X (.BinOp a op b pos) (tOp r ta tb):=by
 intro pins s σ H Q I h;exact wpAny_BinOp (binT ha hb I h λv u s2 x y H2 I2 rx ry q=>ho pins s2 σ H2 x y v u Q I2 rx ry q)
theorem Xgh{op:UnaryOp}{r:V->Hp->VK->Prop}(ho:UnR X (unaryOp op) r)(ha:PE X a ta):PE X (.UnaryOp op a pos) (tUn r ta):=by
 intro pins s σ H Q I h;exact UnaryOp_ (thn (ha pins s σ H _ I h) λv s1 ⟨x,H1,I1,r1,q1⟩=>ho pins s1 σ H1 x v Q I1 r1 q1)
theorem opI{f:Value->Value->Sem Value}{C:Int->Int->Prop}{g:Int->Int->Int}
  (rule:∀(i j:Int) (t u:Tok) (s:Shared) (Q:Value->Shared->Prop) (E:Value->Shared->Prop),C i j->Q (.int (g i j) s.toks) {s with toks:=s.toks+1}->wpAny (model X.prog X.w) X.A (f (.int i t) (.int j u)) Q E s):
  OpR X f (rI C λi j=>.int (g i j)):=by
 intro pins s σ H x y v u Q I rx ry h;obtain⟨i,j,rfl,rfl,hc,q⟩:=h;obtain⟨t,rfl⟩:=rx;obtain⟨t',rfl⟩:=ry;exact rule i j t t' s _ _ hc ⟨.int (g i j),H,I.tok _,⟨_,rfl⟩,q⟩
theorem Xak{f:Value->Value->Sem Value}{g:Int->Int->Int}
  (rule:∀(i j:Int) (t u:Tok) (s:Shared) (Q:Value->Shared->Prop) (E:Value->Shared->Prop),Q (.int (g i j) s.toks) {s with toks:=s.toks+1}->wpAny (model X.prog X.w) X.A (f (.int i t) (.int j u)) Q E s):
  OpR X f (rI0 λi j=>.int (g i j)):=by
 intro pins s σ H x y v u Q I rx ry h;obtain⟨i,j,rfl,rfl,q⟩:=h;obtain⟨t,rfl⟩:=rx;obtain⟨t',rfl⟩:=ry;exact rule i j t t' s _ _ ⟨.int (g i j),H,I.tok _,⟨_,rfl⟩,q⟩
theorem Ie{f:Value->Value->Sem Value}{g:Int->Int->Bool}
  (rule:∀(i j:Int) (t u:Tok) (s:Shared) (Q:Value->Shared->Prop) (E:Value->Shared->Prop),Q (.bool (g i j)) s->wpAny (model X.prog X.w) X.A (f (.int i t) (.int j u)) Q E s):
  OpR X f (rI0 λi j=>.bl (g i j)):=by
 intro pins s σ H x y v u Q I rx ry h;obtain⟨i,j,rfl,rfl,q⟩:=h;obtain⟨t,rfl⟩:=rx;obtain⟨t',rfl⟩:=ry;exact rule i j t t' s _ _ ⟨.bl (g i j),H,I,rfl,q⟩
def CDiv (i j:Int):Prop:=0<j/\j<1073741824
def CPow (i j:Int):Prop:=0<=j/\j<=1000000/\i.natAbs<2 ^ 64
def CMul (i j:Int):Prop:=(-(2 ^ 64)<i/\i<2 ^ 64)\/(-(2 ^ 64)<j/\j<2 ^ 64)
theorem CMul.ok{i j:Int}(h:CMul i j):IntMulOk i j:=by
 rcases h with ⟨h1,h2⟩ | ⟨h1,h2⟩
 ·exact .of_left (intBits_le_64 h1 h2)
 ·exact .of_right (intBits_le_64 h1 h2)
theorem Bt:OpR X (binaryOp .Add) (rI0 λi j=>.int (i+j)):=Xak λ_ _ _ _ _ _ _ q=>add_int q
theorem Xgi:OpR X (binaryOp .Sub) (rI0 λi j=>.int (i - j)):=Xak λ_ _ _ _ _ _ _ q=>sub_int q
theorem Gw:OpR X (binaryOp .Mult) (rI CMul λi j=>.int (i * j)):=opI λ_ _ _ _ _ _ _ hc q=>mul_int q hc.ok
theorem Ig:OpR X (binaryOp .FloorDiv) (rI CDiv λi j=>.int (i / j)):=opI λi j _ _ _ _ _ hc q=>by
 have h1:(0:Int)<j:=hc.1;have h2:j<1073741824:=hc.2;exact floordiv_int (by omega) (by rw[Int.fdiv_eq_ediv_of_nonneg i (by omega)];exact q) (.inl (PyProof.noPylong_small (by omega)))
theorem E4:OpR X (binaryOp .Mod) (rI (λ_ j=>0<j) λi j=>.int (i % j)):=opI λi j _ _ _ _ _ hc q=>by
 have h1:(0:Int)<j:=hc;exact mod_int' (by omega) (by rw[Int.fmod_eq_emod_of_nonneg i (by omega)];exact q)
theorem Xal:OpR X (binaryOp .Pow) (rI CPow λi j=>.int (i ^ j.toNat)):=opI λ_ _ _ _ _ _ _ hc q=>pow_int_small hc.1 hc.2.1 hc.2.2 q
theorem unI{f:Value->Sem Value}{g:Int->Int}
  (rule:∀(i:Int) (t:Tok) (s:Shared) (Q:Value->Shared->Prop) (E:Value->Shared->Prop),Q (.int (g i) s.toks) {s with toks:=s.toks+1}->wpAny (model X.prog X.w) X.A (f (.int i t)) Q E s):
  UnR X f (rU λi=>.int (g i)):=by
 intro pins s σ H x v Q I rx h;obtain⟨i,rfl,q⟩:=h;obtain⟨t,rfl⟩:=rx;exact rule i t s _ _ ⟨.int (g i),H,I.tok _,⟨_,rfl⟩,q⟩
theorem Xgj:UnR X (unaryOp .USub) (rU λi=>.int (-i)):=unI λ_ _ _ _ _ q=>neg_int q
end
def scal:V->V->Bool
 | .non,.non=>true | .non,.int _=>true | .int _,.non=>true | .non,.bl _=>true | .bl _,.non=>true | .non,.str _=>true | .str _,.non=>true
 | .int _,.int _=>true | .bl _,.bl _=>true | .str _,.str _=>true | .byt _,.byt _=>true
 | .int _,.str _=>true | .str _,.int _=>true | .bl _,.str _=>true | .str _,.bl _=>true
 | _,_=>false
def rEq:R2:=λx y H Q=>scal x y=true/\Q (.bl (decide (x=y))) H
def rNe:R2:=λx y H Q=>scal x y=true/\Q (.bl (!decide (x=y))) H
theorem Xam{i j:Int}:decide (V.int i=V.int j)=(i==j):=by
 rw[M3];simp
theorem Ih{i j:Bool}:decide (V.bl i=V.bl j)=(i==j):=by
 rw[M3];simp
theorem Xan{i j:Str}:decide (V.str i=V.str j)=(i==j):=by
 rw[M3];simp
theorem Xao{i j:Array UInt8}:decide (V.byt i=V.byt j)=(i.toList==j.toList):=by
 rw[M3];cases i;cases j;simp
section
variable {X:Cx}{a b c:Expr}{ta tb tc:TE}{pos:Pos}
theorem A3{pins:List (Addr×Obj)}{σ:St}{H:Hp}{s:Shared}{Q:VK}{k k':Bool}(I:Inv X pins σ H s)(q:Q (.bl k) H)(e:k=k'):EP X pins σ Q (.bool k') s:=by
 subst e;exact⟨.bl k,H,I,rfl,q⟩
theorem Ck:OpR X (compareOp .Eq) rEq:=by
 intro pins s σ H x y v u Q I rx ry h;obtain⟨hs,q⟩:=h;cases x with
 | non=>
  cases rx;cases y with
  | non=>cases ry;exact PySem.EqNone.eq_none_none (A3 I q (by simp))
  | bl j=>cases ry;exact PySem.EqNone.eq_none_bool (A3 I q (by simp))
  | int j=>obtain⟨t',rfl⟩:=ry;exact PySem.EqNone.eq_none_int (A3 I q (by simp))
  | str j=>obtain⟨t',rfl⟩:=ry;exact PySem.EqNone.eq_none_str (A3 I q (by simp))
  | _=>exact absurd (show false=true from hs) L3
 | bl i=>
  cases rx;cases y with
  | non=>cases ry;exact PySem.EqNone.eq_bool_none (A3 I q (by simp))
  | bl j=>cases ry;exact eq_bool (A3 I q Ih)
  | str j=>obtain⟨t',rfl⟩:=ry;exact PySem.EqMixed.eq_bool_str (A3 I q (by simp))
  | _=>exact absurd (show false=true from hs) L3
 | int i=>
  obtain⟨t,rfl⟩:=rx;cases y with
  | non=>cases ry;exact PySem.EqNone.eq_int_none (A3 I q (by simp))
  | int j=>obtain⟨t',rfl⟩:=ry;exact eq_int (A3 I q Xam)
  | str j=>obtain⟨t',rfl⟩:=ry;exact PySem.EqMixed.eq_int_str (A3 I q (by simp))
  | _=>exact absurd (show false=true from hs) L3
 | str i=>
  obtain⟨t,rfl⟩:=rx;cases y with
  | non=>cases ry;exact PySem.EqNone.eq_str_none (A3 I q (by simp))
  | bl j=>cases ry;exact PySem.EqMixed.eq_str_bool (A3 I q (by simp))
  | int j=>obtain⟨t',rfl⟩:=ry;exact PySem.EqMixed.eq_str_int (A3 I q (by simp))
  | str j=>obtain⟨t',rfl⟩:=ry;exact eq_str (A3 I q Xan)
  | _=>exact absurd (show false=true from hs) L3
 | byt i=>
  obtain⟨t,rfl⟩:=rx;cases y with
  | byt j=>obtain⟨t',rfl⟩:=ry;exact PySem.W.eq_bytes (A3 I q Xao)
  | _=>exact absurd (show false=true from hs) L3
 | _=>cases y<;>exact absurd (show false=true from hs) L3
theorem Ii:OpR X (compareOp .NotEq) rNe:=by
 intro pins s σ H x y v u Q I rx ry h;obtain⟨hs,q⟩:=h;cases x with
 | non=>
  cases rx;cases y with
  | non=>cases ry;exact PySem.EqNone.ne_none_none (A3 I q (by simp))
  | bl j=>cases ry;exact PySem.EqNone.ne_none_bool (A3 I q (by simp))
  | int j=>obtain⟨t',rfl⟩:=ry;exact PySem.EqNone.ne_none_int (A3 I q (by simp))
  | str j=>obtain⟨t',rfl⟩:=ry;exact PySem.EqNone.ne_none_str (A3 I q (by simp))
  | _=>exact absurd (show false=true from hs) L3
 | bl i=>
  cases rx;cases y with
  | non=>cases ry;exact PySem.EqNone.ne_bool_none (A3 I q (by simp))
  | bl j=>cases ry;exact ne_bool (A3 I q (congrArg not Ih))
  | str j=>obtain⟨t',rfl⟩:=ry;exact PySem.EqMixed.ne_bool_str (A3 I q (by simp))
  | _=>exact absurd (show false=true from hs) L3
 | int i=>
  obtain⟨t,rfl⟩:=rx;cases y with
  | non=>cases ry;exact PySem.EqNone.ne_int_none (A3 I q (by simp))
  | int j=>obtain⟨t',rfl⟩:=ry;exact ne_int (A3 I q (congrArg not Xam))
  | str j=>obtain⟨t',rfl⟩:=ry;exact PySem.EqMixed.ne_int_str (A3 I q (by simp))
  | _=>exact absurd (show false=true from hs) L3
 | str i=>
  obtain⟨t,rfl⟩:=rx;cases y with
  | non=>cases ry;exact PySem.EqNone.ne_str_none (A3 I q (by simp))
  | bl j=>cases ry;exact PySem.EqMixed.ne_str_bool (A3 I q (by simp))
  | int j=>obtain⟨t',rfl⟩:=ry;exact PySem.EqMixed.ne_str_int (A3 I q (by simp))
  | str j=>obtain⟨t',rfl⟩:=ry;exact ne_str (A3 I q (congrArg not Xan))
  | _=>exact absurd (show false=true from hs) L3
 | byt i=>
  obtain⟨t,rfl⟩:=rx;cases y with
  | byt j=>obtain⟨t',rfl⟩:=ry;exact PySem.W.ne_bytes (A3 I q (congrArg not Xao))
  | _=>exact absurd (show false=true from hs) L3
 | _=>cases y<;>exact absurd (show false=true from hs) L3
theorem Cl:OpR X (compareOp .Lt) (rI0 λi j=>.bl (decide (i<j))):=Ie λ_ _ _ _ _ _ _ q=>lt_int q
theorem Xgk:OpR X (compareOp .Gt) (rI0 λi j=>.bl (decide (j<i))):=Ie λ_ _ _ _ _ _ _ q=>gt_int q
theorem Xap:OpR X (compareOp .GtE) (rI0 λi j=>.bl (decide (j<=i))):=Ie λ_ _ _ _ _ _ _ q=>ge_int q
theorem Xgl:OpR X (compareOp .Lt) (λx y H Q=>∃i j,x = .str i/\y = .str j/\Q (.bl (decide (i.cps.toList<j.cps.toList))) H):=by
 intro pins s σ H x y v u Q I rx ry h;obtain⟨i,j,rfl,rfl,q⟩:=h;obtain⟨t,rfl⟩:=rx;obtain⟨t',rfl⟩:=ry;exact lt_str (A3 I q rfl)
def isObj:HO->Bool
 | .lst _=>true
 | .ins _ _ _=>true
 | _=>false
theorem Ba(b:Expr){op:CmpOp}(h:op ≠ .In:=by decide)(h2:op ≠ .NotIn:=by decide):behindInMarks op b=false:=by
 have e1:(op==CmpOp.In)=false:=by cases op<;>first | rfl | exact absurd rfl h
 have e2:(op==CmpOp.NotIn)=false:=by cases op<;>first | rfl | exact absurd rfl h2
 cases b<;>simp[behindInMarks,e1,e2]
theorem Ft{op:CmpOp}{r:R2}(ho:OpR X (compareOp op) r)(ha:PE X a ta)(hb:PE X b tb)(hm:behindInMarks op b=false):PE X (.Compare a [op] [b] pos) (tOp r ta tb):=by
 intro pins s σ H Q I h;exact wpAny_Compare1 (binT ha hb I h λv u s2 x y H2 I2 rx ry q=>ho pins s2 σ H2 x y v u Q I2 rx ry q) hm
def Ij (t:TE):TT:=fun σ H Q=>t σ H λx H'=>∃k,x = .bl k/\Q k H'
theorem A8{op:CmpOp}{r:R2}(ho:OpR X (compareOp op) r)(ha:PE X a ta)(hb:PE X b tb)(hm:behindInMarks op b=false):PT X (.Compare a [op] [b] pos) (Ij (tOp r ta tb)):=by
 intro pins s σ H Q I h;refine wpAny_isTrue_Compare1 (thn (ha pins s σ H _ I h) λv s1 ⟨x,H1,I1,r1,q1⟩=>thn (hb pins s1 σ H1 _ I1 q1) λu s2 ⟨y,H2,I2,r2,q2⟩=>
  thn (ho pins s2 σ H2 x y v u _ I2 r1 r2 q2) λc s3 ⟨z,H3,I3,r3,k,e,q3⟩=>?_) hm
 subst e;cases r3;exact wpAny_truthy_bool ⟨H3,I3,q3⟩
def Ik (r r':R2) (ta tb tc:TE):TE:=fun σ H Q=>ta σ H λx H1=>tb σ H1 λy H2=>r x y H2 λz H3=>∃k,z = .bl k /\
 (if k=true then tc σ H3 λw' H4=>r' y w' H4 Q else Q (.bl false) H3)
theorem Xaq{op op':CmpOp}{r r':R2}(ho:OpR X (compareOp op) r)(ho':OpR X (compareOp op') r')(ha:PE X a ta)(hb:PE X b tb)(hc:PE X c tc)
  (hm:lastMarks [op,op'] [b,c]=false:=by with_unfolding_all rfl):PE X (.Compare a [op,op'] [b,c] pos) (Ik r r' ta tb tc):=by
 intro pins s σ H Q I h;refine Compare_chain (thn (ha pins s σ H _ I h) λv s1 ⟨x,H1,I1,r1,q1⟩=>chain_link (thn (hb pins s1 σ H1 _ I1 q1) λu s2 ⟨y,H2,I2,r2,q2⟩=>
  thn (ho pins s2 σ H2 x y v u _ I2 r1 r2 q2) λd s3 ⟨z,H3,I3,r3,k,e,q3⟩=>?_)) hm
 subst e;cases r3;refine wpAny_truthy_bool ?_;cases k with
 | false=>exact ite_ff ⟨.bl false,H3,I3,rfl,q3⟩
 | true=>exact ite_tt (chain_last (thn (hc pins s3 σ H3 _ I3 q3) λw' s4 ⟨z',H4,I4,r4,q4⟩=>ho' pins s4 σ H4 y z' u w' Q I4 r2 r4 q4))
theorem Xgm{op op':CmpOp}{r r':R2}(ho:OpR X (compareOp op) r)(ho':OpR X (compareOp op') r')(ha:PE X a ta)(hb:PE X b tb)(hc:PE X c tc)
  (hm:lastMarks [op,op'] [b,c]=false:=by with_unfolding_all rfl):PT X (.Compare a [op,op'] [b,c] pos) (Ij (Ik r r' ta tb tc)):=by
 intro pins s σ H Q I h;refine isTrue_chain (thn (ha pins s σ H _ I h) λv s1 ⟨x,H1,I1,r1,q1⟩=>test_link (thn (hb pins s1 σ H1 _ I1 q1) λu s2 ⟨y,H2,I2,r2,q2⟩=>
  thn (ho pins s2 σ H2 x y v u _ I2 r1 r2 q2) λd s3 ⟨z,H3,I3,r3,k,e,q3⟩=>?_)) hm
 subst e;cases r3;refine wpAny_truthy_bool ?_;cases k with
 | false=>
  obtain⟨k',e',q'⟩:=q3;cases e';exact ite_ff ⟨H3,I3,q'⟩
 | true=>
  refine ite_tt (test_last (thn (hc pins s3 σ H3 _ I3 q3) λw' s4 ⟨z',H4,I4,r4,q4⟩=>thn (ho' pins s4 σ H4 y z' u w' _ I4 r2 r4 q4) λd' s5 ⟨z2,H5,I5,r5,k2,e2,q5⟩=>?_));subst e2;cases r5;exact wpAny_truthy_bool ⟨H5,I5,q5⟩
def TruV (K:PySem.W.Frag) (x:V) (H:Hp) (k:Bool):Prop:=
 match x with
 | .non=>k=false
 | .bl b=>k=b
 | .int i=>k=(i != 0)
 | .str y=>y.length<=sizeLine/\k=((y.length:Int) != 0)
 | .byt y=>y.size<=sizeLine/\k=((y.size:Int) != 0)
 | .ref p=>(∃xs,SqL K H p xs/\k = !xs.isEmpty)\/(∃xs,SqT K H p xs/\k = !xs.isEmpty) \/ ∃kvs,H p=some (.dK kvs)/\k = !kvs.isEmpty
 | _=>False
theorem line63:(sizeLine:Nat)<2 ^ 63:=by rw[Pr];decide
theorem Il:OpR X (binaryOp .Add) (λx y H Q=>∃i j,x = .str i/\y = .str j/\i.length+j.length<=sizeLine/\Q (.str (i++j)) H):=by
 intro pins s σ H x y v u Q I rx ry h;obtain⟨i,j,rfl,rfl,hz,q⟩:=h;obtain⟨t,rfl⟩:=rx;obtain⟨t',rfl⟩:=ry;exact add_str (λt' tk=>⟨.str (i++j),H,I.tok _,⟨_,rfl⟩,q⟩) hz
theorem Ca{x:V}{us:List Value}(r:Vals [x] us):∃u,us=[u]/\Af x u:=by
 cases r with
 | cons r1 r2=>cases r2;exact⟨_,rfl,r1⟩
theorem vals2{x y:V}{us:List Value}(r:Vals [x,y] us):∃u w',us=[u,w']/\Af x u/\Af y w':=by
 cases r with
 | cons r1 r2=>
  cases r2 with
  | cons r3 r4=>cases r4;exact⟨_,_,rfl,r1,r3⟩
theorem Xgn(hc:X.calm=true):B1 X (.builtin "min") (λxs H Q=>∃i j,xs=[.int i,.int j]/\Q (.int (if j<i then j else i)) H):=by
 intro pins s σ H xs us Q I r h;obtain⟨i,j,rfl,q⟩:=h;obtain⟨u,w',rfl,⟨t,rfl⟩,⟨t',rfl⟩⟩:=vals2 r;refine min_two_ints (I.ok.hd hc) λh' tk k=>⟨_,H,I.kept k,?_,q⟩;by_cases hj:j<i
 ·rw[Pt hj,Pt hj];exact⟨_,rfl⟩
 ·rw[Ps hj,Ps hj];exact⟨_,rfl⟩
def LenV (K:PySem.W.Frag) (x:V) (H:Hp) (n:Nat):Prop:=
 match x with
 | .str y=>y.length<=sizeLine/\n=y.length
 | .byt y=>y.size<=sizeLine/\n=y.size
 | .ref p=>(∃xs,SqL K H p xs/\n=xs.length) \/ ∃xs,SqT K H p xs/\n=xs.length
 | _=>False
end
structure ObjM (h:Heap) (x dx C:Addr) (mA:Str->Option Value):Prop where
 obj:h.get? x=some (PySem.W.instObj C dx)
 ns:h.Ns1 dx mA
 ne:dx≠x
section
variable {prog:Program}{w:World}{A:Around}{E:Value->Shared->Prop}{s:Shared}{K:PySem.W.Frag}{x dx C f:Addr}{mA:Str->Option Value}{name:Str}{v:Value}
end
def Im (f:Str) (v:V):List (Str×V)->List (Str×V)
 | []=>[(f,v)]
 | (g,x)::r=>if g=f then (g,v)::r else (g,x)::Im f v r
theorem Cj.some_of{v:V}{o:Option Value}(r:Cj (some v) o):∃u,o=some u/\Af v u:=by
 cases o with
 | none=>exact(show False from r).elim
 | some u=>exact⟨u,rfl,r⟩
section
variable {P:Program}{w:World}{H H':Hp}{h h':Heap}{a C dx:Addr}{fs fs':List (Str×V)}
end
structure Cls (K:PySem.W.Frag) (C:Addr):Prop where
 pg:PySem.W.plainGet K C Str.empty=true
 hd:PySem.W.hasDictIn K C=true
 po:PySem.W.plainOver K C=true
 sa:PySem.W.findIn K (.ref C) "__setattr__" = some (some (.builtin "object.__setattr__"))
def Io (K:PySem.W.Frag) (C:Addr) (f:Str):Prop:=PySem.W.findIn K (.ref C) f=some none
structure Con (K:PySem.W.Frag) (C:Addr) (f:Str) (v:V) (u:Value):Prop where
 at_:PySem.W.findIn K (.ref C) f=some (some u)
 rel:Af v u
 get:PySem.W.specialIn K u "__get__" = some none
 cp:PySem.W.copiedNames.contains f=false
structure Meth (K:PySem.W.Frag) (C:Addr) (m:Str) (f:Addr):Prop where
 at_:PySem.W.findIn K (.ref C) m=some (some (.ref f))
 fn:PySem.W.isFn K (.ref f)=true
 kp:PySem.W.keepIn K (.ref f)=true
section
variable {X:Cx}{pins:List (Addr×Obj)}{σ:St}{H:Hp}{s:Shared}{a C dx:Addr}{fs:List (Str×V)}{f:Str}{v:V}{A:Around}{E:Value->Shared->Prop}
end
def tFld (K:PySem.W.Frag) (ta:TE) (f:Str):TE:=fun σ H Q=>ta σ H λx H1=>∃a C dx fs v,x = .ref a/\H1 a=some (.ins C dx fs)/\Cls K C/\Io K C f/\fs.lookup f=some v/\Q v H1
def tCon (K:PySem.W.Frag) (ta:TE) (f:Str):TE:=fun σ H Q=>ta σ H λx H1=>∃a C dx fs v u,x = .ref a/\H1 a=some (.ins C dx fs)/\Cls K C/\Con K C f v u/\fs.lookup f=none/\Q v H1
def sFld (K:PySem.W.Frag) (ta tv:TE) (f:Str):TS:=λD σ H=>tv σ H λy H1=>ta σ H1 λx H2=>∃a C dx fs,x = .ref a/\H2 a=some (.ins C dx fs)/\Cls K C/\Io K C f/\fs.length<1000 /\
 D.nx σ (upd H2 a (.ins C dx (Im f y fs)))
def InOp (X:Cx) (op:Operator) (rd:V->V->Hp->VK->Prop):Prop:=
 ∀(pins:List (Addr×Obj)) (s:Shared) (σ:St) (H:Hp) (x y:V) (u v:Value) (Q:VK),Inv X pins σ H s->Af x u->Af y v->rd x y H Q->wpAny (model X.prog X.w) X.A (inplaceOp op u v) (EP X pins σ Q) X.xe s
def Xoy (K:PySem.W.Frag) (ta tv:TE) (rd:V->V->Hp->VK->Prop) (f:Str):TS:=λD σ H=>ta σ H λx H1=>∃a C dx fs v,x = .ref a/\H1 a=some (.ins C dx fs)/\Cls K C/\Io K C f/\fs.lookup f=some v /\
 tv σ H1 λy H2=>rd v y H2 λz H3=>∃dx' fs',H3 a=some (.ins C dx' fs')/\fs'.length<1000/\D.nx σ (upd H3 a (.ins C dx' (Im f z fs')))
section
variable {X:Cx}{o e value:Expr}{f:Str}{pos pos' tpos:Pos}{ta tv:TE}
end
section
variable {X:Cx}{pins:List (Addr×Obj)}{σ:St}{H:Hp}{s:Shared}{A:Around}{E:Value->Shared->Prop}{Q:Value->Shared->Prop}{c:Value}{b:Bool}
inductive TyOf (K:PySem.W.Frag) (H:Hp):V->Value->Prop where
 | non:TyOf K H .non (.type "NoneType")
 | bl (x:Bool):TyOf K H (.bl x) (.type "bool")
 | int (i:Int):TyOf K H (.int i) (.type "int")
 | str (x:Str):TyOf K H (.str x) (.type "str")
 | flt (x:UInt64):TyOf K H (.flt x) (.type "float")
 | lst {a:Addr} {xs:List V} (e:H a=some (.lst xs)):TyOf K H (.ref a) (.type "list")
 | frz {a:Addr} {o:Obj} {xs:List V} (e:H a=some (.frz o (.lst xs))):TyOf K H (.ref a) (.type "list")
 | tup {a:Addr} {xs:List V} (e:H a=some (.tup xs)):TyOf K H (.ref a) (.type "tuple")
 | dK {a:Addr} {kvs:List (Key×V)} (e:H a=some (.dK kvs)):TyOf K H (.ref a) (.type "dict")
 | dT {a:Addr} {kvs:List (List Key×V)} (e:H a=some (.dT kvs)):TyOf K H (.ref a) (.type "dict")
 | ins {a C dx:Addr} {fs:List (Str×V)} (e:H a=some (.ins C dx fs)) (cl:Cls K C) (ha:PySem.W.findIn K (.ref C) "__class__" = some (some (.builtin "object.__class__")))
   (hn:PySem.W.specialIn K (.builtin "object.__class__") "__get__" = some (some (.builtin "getset_descriptor.__get__"))) (htk:PySem.W.takesIn K (.builtin "object.__class__")=some true)
   (hm:PySem.W.mroIn K C (.type "object")=some true):TyOf K H (.ref a) (.ref C)
end
structure Room (k:Nat) (A:Around):Prop where
 hd:A.handled=none
 dp:A.depth+3 * k+5<recursionLimit
 un:A.units+16 * k+200<cLine
 gd:A.guards=some []
theorem Room.mono{j k:Nat}{A:Around}(r:Room k A)(h:j<=k):Room j A:=⟨r.hd,by have:=r.dp;omega,by have:=r.un;omega,r.gd⟩
theorem Room.deeper{k:Nat}{A:Around}(r:Room (k+1) A)(env:Env):Room k (A.deeper env):=
 ⟨r.hd,by have:=r.dp;show A.depth+1+3 * k+5<_;omega,by have:=r.un;show A.units+3+16 * k+200<_;omega,r.gd⟩
theorem Room.in1{k:Nat}{A:Around}(r:Room (k+1) A):Room k A.in1:=
 ⟨r.hd,by have:=r.dp;show A.depth+3 * k+5<_;omega,by have:=r.un;show A.units+1+16 * k+200<_;omega,r.gd⟩
theorem Room.depth{k:Nat}{A:Around}(r:Room k A):A.depth<recursionLimit:=by have:=r.dp;omega
theorem Room.units{k:Nat}{A:Around}(r:Room k A):A.units+64<cLine:=by have:=r.un;omega
theorem Room.units0{k:Nat}{A:Around}(r:Room k A):A.units<cLine:=by have:=r.un;omega
def Ip:TA:=λ_ H Q=>Q [] H
def Xar (ta:TE) (tr:TA):TA:=fun σ H Q=>ta σ H λx H1=>tr σ H1 λxs H2=>Q (x::xs) H2
section
variable {X:Cx}{e:Expr}{es:List Expr}{te:TE}{t:TA}{pos:Pos}
theorem Ad:PA X [] Ip:=λ_ _ _ _ H Q I h=>Calls.spliced_nil ⟨[],H,I,.nil,h⟩
theorem Aa(ha:PE X e te)(hr:PA X es t)(hs:starEach (e::es) X.env=(false,eval e X.env)::starEach es X.env:=by rfl):PA X (e::es) (Xar te t):=by
 intro pos pins s σ H Q I h;rw[hs];show wpAny _ _ (spliced ((false,eval e X.env)::backTo pos (starEach es X.env))) _ _ s;refine Calls.spliced_cons (thn (ha pins s σ H _ I h) λu s1 ⟨x,H1,I1,r1,q1⟩=>?_);exact thn (hr pos pins s1 σ H1 _ I1 q1) λus s2 ⟨xs,H2,I2,r2,q2⟩=>⟨x::xs,H2,I2,.cons r1 r2,q2⟩
def tTup (t:TA):TE:=fun σ H Q=>t σ H λxs H1=>xs.length<=sizeLine/\∀p,H1 p=none->Q (.ref p) (upd H1 p (.tup xs))
def tLst (t:TA):TE:=fun σ H Q=>t σ H λxs H1=>xs.length<=sizeLine/\∀p,H1 p=none->Q (.ref p) (upd H1 p (.lst xs))
theorem B5{x1}(h:PA X es t):PE X (.Tuple es x1 pos) (tTup t):=by
 intro pins s σ H Q I hq;refine wpAny_Tuple_spliced (thn (h pos pins s σ H _ I hq) λus s1 ⟨xs,H1,I1,r,z,q⟩=>⟨by rw[<-r.length];exact z,?_⟩);have hf:H1 s1.heap.objs.size=none:=I1.hok.fresh (Li _);refine⟨.ref s1.heap.objs.size,upd H1 s1.heap.objs.size (.tup xs),I1.laid (t':=s1.toks) (λb u e=>P0 _ e) (Li _) ?_,rfl,q _ hf⟩;exact⟨z,us,r,⟨_,Heap.get?_push_size _ rfl,rfl,_,rfl⟩⟩
theorem Ct(h:PA X es t):PE X (.List es pos) (tLst t):=by
 intro pins s σ H Q I hq;refine wpAny_List_spliced (thn (h pos pins s σ H _ I hq) λus s1 ⟨xs,H1,I1,r,z,q⟩=>⟨by rw[<-r.length];exact z,?_⟩);have hf:H1 s1.heap.objs.size=none:=I1.hok.fresh (Li _);refine⟨.ref s1.heap.objs.size,upd H1 s1.heap.objs.size (.lst xs),I1.laid (t':=s1.toks) (λb u e=>P0 _ e) (Li _) ?_,rfl,q _ hf⟩;exact⟨z,us,0,r,Heap.get?_push_size _ rfl⟩
end
abbrev Sp:=List V->Hp->VK->XK->Prop
abbrev CXT:=List Env->Hp->Shared->XK->Value->Shared->Prop
structure Env0 (P:Program) (w:World) (K:PySem.W.Frag) (mg:Str->Option Value) (base:Heap) (A:Around) (outer:List Env) (s:Shared) (H:Hp):Prop where
 frames:A.frames=some outer
 mod:Mod K mg base
 bs:∀b o,base.get? b=some o->s.heap.get? b=some o/\H b=none
 bsz:base.objs.size<=s.heap.objs.size
 funs:s.heap.FunFrames base outer
 frf:∀b∈frs outer,H b=none
 hok:HOk P w H s.heap
 bare:AllBare s.gens
def CE (outer:List Env) (P:Program) (w:World) (H:Hp) (s:Shared) (Q:VK) (u:Value) (s':Shared):Prop:=
 ∃v H',s'.os=s.os/\AllBare s'.gens/\Un (frs outer) [] H H' s.heap s'.heap/\HOk P w H' s'.heap/\Af v u/\Q v H'
def CR (CX:CXT) (outer:List Env) (P:Program) (w:World) (H:Hp) (s:Shared) (Q:VK) (E:XK) (r:Result) (s':Shared):Prop:=
 match r with
 | .ok (.ret u)=>CE outer P w H s Q u s'
 | .ok _=>False
 | .error e=>CX outer H s E e s'
structure FnOk (P:Program) (w:World) (K:PySem.W.Frag) (mg:Str->Option Value) (base:Heap) (CX:CXT) (k:Nat) (f:Addr) (fd:FuncData) (ps:List Str) (sp:Sp):Prop where
 len:∀vs H Q E,sp vs H Q E->vs.length=ps.length
 run:∀(A:Around) (outer:List Env) (s:Shared) (H:Hp) (args:Args) (us:List Value) (vs:List V) (Q:VK) (E:XK),Room k A->Env0 P w K mg base A outer s H->BindsTo s fd args (ps.zip us)->Vals vs us->sp vs H Q E ->
  codeAny (model P w) A (.call (.ref f) args) (CR CX outer P w H s Q E) s
theorem Env0.in1{P:Program}{w:World}{K:PySem.W.Frag}{mg:Str->Option Value}{base:Heap}{A:Around}{outer:List Env}{s:Shared}{H:Hp}(e:Env0 P w K mg base A outer s H):
  Env0 P w K mg base A.in1 outer s H:=⟨e.frames,e.mod,e.bs,e.bsz,e.funs,e.frf,e.hok,e.bare⟩
section
variable {X:Cx}{pins:List (Addr×Obj)}{σ:St}{H:Hp}{s s':Shared}
theorem Inv.env0(I:Inv X pins σ H s):Env0 X.prog X.w X.K X.mg X.base X.A X.stack s H:=
 ⟨I.ok.frames,I.ok.mod,I.bs,Mh I.ok.bsz I.sz,I.stack,I.stkFree,I.hok,I.bare⟩
theorem Inv.after{Q:VK}{u:Value}(I:Inv X pins σ H s)(h:CE X.stack X.prog X.w H s Q u s'):EP X pins σ Q u s':=by
 obtain⟨v,H',os,bare,un,hok,r,q⟩:=h;obtain⟨hh,g,d,t,os'⟩:=s';obtain rfl:os'=s.os:=os;exact⟨v,H',I.call (h':=hh) (g':=g) (d':=d) (t':=t) (ch:=[]) un hok bare (λb z=>absurd z (by simp)),r,q⟩
end
def Xas (sp:Sp) (dvs:List V) (E:XK) (t:TA):TE:=fun σ H Q=>t σ H λvs H1=>sp (vs++dvs) H1 Q E
def tMeth (C:Addr) (m:Str) (sp:Sp) (dvs:List V) (E:XK) (ta:TE) (t:TA):TE:=fun σ H Q=>ta σ H λx H1=>∃a dx fs,x = .ref a/\H1 a=some (.ins C dx fs)/\fs.lookup m=none /\
 t σ H1 λvs H2=>sp (x::(vs++dvs)) H2 Q E
def tMake (C:Addr) (sp:Sp) (dvs:List V) (E:XK) (t:TA):TE:=fun σ H Q=>t σ H λvs H1=>∀x dx,H1 x=none->H1 dx=none->dx≠x ->
 sp (.ref x::(vs++dvs)) (upd (upd H1 dx (.own x)) x (.ins C dx [])) (λv H2=>v = .non/\Q (.ref x) H2) E
def Binds (K:PySem.W.Frag) (fd:FuncData) (ps:List Str) (ds:List Value):Prop:=
 ∀(s:Shared) (us:List Value),K.In s.heap->(us++ds).length=ps.length->BindsTo s fd ⟨us,[]⟩ (ps.zip (us++ds))
theorem Binds.all{K:PySem.W.Frag}{fd:FuncData}{ps:List Str}(h:∀us:List Value,us.length=ps.length->bindArgs fd ⟨us,[]⟩=pure (ps.zip us)):Binds K fd ps []:=λs us _ hl=>by
 rw[Mm] at hl ⊢;exact .of_eq (h us hl)
def Passes (CX:CXT) (X:Cx) (E:XK):Prop:=∀(pins:List (Addr×Obj)) (σ:St) (H:Hp) (s:Shared) (e:Value) (s':Shared),Inv X pins σ H s->CX X.stack H s E e s'->X.xe e s'
section
variable {X:Cx}{CX:CXT}{k:Nat}{f C:Addr}{fd:FuncData}{ps:List Str}{sp:Sp}{dvs:List V}{ds:List Value}{E:XK}{x m:Str}{p pos apos:Pos}{e o:Expr}{es:List Expr}{ta:TE}{t:TA}
theorem Xgo{pins:List (Addr×Obj)}{σ:St}{H:Hp}{s:Shared}{Q:VK}{us:List Value}{vs:List V}(F:FnOk X.prog X.w X.K X.mg X.base CX k f fd ps sp)(hr:Room k X.A)(hb:Binds X.K fd ps ds)(hd:Vals dvs ds)(hx:Passes CX X E)
  (I:Inv X pins σ H s) (r:Vals vs us) (h:sp (vs++dvs) H Q E):wpAny (model X.prog X.w) X.A (call (.ref f) us) (EP X pins σ Q) X.xe s:=by
 have r2:Vals (vs++dvs) (us++ds):=r.append hd;have hl:(us++ds).length=ps.length:=by rw[<-r2.length];exact F.len _ _ _ _ h
 refine wpAny_call (codeAny_mono (F.run X.A X.stack s H ⟨us,[]⟩ (us++ds) (vs++dvs) Q E hr I.env0 (hb s us I.kIn hl) r2 h) λr s' hq=>?_);cases r with
 | error e=>exact hx pins σ H s e s' I hq
 | ok fl=>
  cases fl with
  | ret u=>exact I.after hq
  | next=>exact False.elim hq
  | brk=>exact False.elim hq
  | cont=>exact False.elim hq
theorem Xgp(F:FnOk X.prog X.w X.K X.mg X.base CX k f fd ps sp)(hr:Room k X.A)(hg:Gl X x)(hm:X.mg x=some (.ref f))(hk:PySem.W.keepIn X.K (.ref f)=true)(hb:Binds X.K fd ps ds)(hd:Vals dvs ds)(hx:Passes CX X E)
  (ha:PA X (e::es) t) (hdb:(x==("__debug__" : Str))=false:=by decide) (he:starEach (e::es) X.env=(false,eval e X.env)::starEach es X.env:=by rfl) (hpl:(backTo pos (starEach es X.env)).any (·.1)=false:=by rfl):
  PE X (.Call (.Name x p) (e::es) [] pos) (Xas sp dvs E t):=by
 intro pins s σ H Q I h;refine wpAny_Call_Name_kw (Xae I hg hm ?_ hdb);refine PySem.W.callWith_K (h₀:=X.base) I.ok.mod.kin hk (thn (ha pos pins s σ H _ I h) λus s1 ⟨vs,H1,I1,r,q⟩=>⟨I1.kIn,?_⟩) he hpl;exact Xgo F hr hb hd hx I1 r q
structure Mk (K:PySem.W.Frag) (C f:Addr):Prop where
 makes:PySem.W.makesIn K C=true
 init:PySem.W.findIn K (.ref C) "__init__" = some (some (.ref f))
 fn:PySem.W.isFn K (.ref f)=true
 kp:PySem.W.keepIn K (.ref C)=true
end
def PK (X:Cx) (kws:List Keyword) (t:TA):Prop:=
 ∀(pos:Pos) (pins:List (Addr×Obj)) (s:Shared) (σ:St) (H:Hp) (Q:List V->Hp->Prop),Inv X pins σ H s->t σ H Q->wpAny (model X.prog X.w) X.A (evalAll ((backToKw pos (keywordEach kws X.env)).map (·.2))) (AP X pins σ Q) X.xe s
section
variable {X:Cx}{CX:CXT}{k:Nat}{f C:Addr}{fd:FuncData}{ps ks:List Str}{sp:Sp}{E:XK}{x m:Str}{p pos apos kpos:Pos}{e o:Expr}{es:List Expr}{kws:List Keyword}{te ta:TE}{t tk:TA}{nm:Option Str}
theorem Xgq:PK X [] Ip:=λ_ _ _ _ H Q I h=>wpAny_evalAll_nil ⟨[],H,I,.nil,h⟩
theorem Xgr(ha:PE X e te)(hr:PK X kws t):PK X (⟨nm,e,kpos⟩::kws) (Xar te t):=by
 intro pos pins s σ H Q I h
 show wpAny _ _ (evalAll ((do let v <-eval e X.env;standAt pos;pure v)::(backToKw pos (keywordEach kws X.env)).map (·.2))) _ _ s;refine wpAny_evalAll_cons (Pp (thn (ha pins s σ H _ I h) λu s1 ⟨x,H1,I1,r1,q1⟩=>Pp (wpAny_standAt (Pq ?_))));exact thn (hr pos pins s1 σ H1 _ I1 q1) λus s2 ⟨xs,H2,I2,r2,q2⟩=>⟨x::xs,H2,I2,.cons r1 r2,q2⟩
structure KBinds (K:PySem.W.Frag) (fd:FuncData) (ps ks:List Str) (g:List Value->List Value->List Value) (gV:List V->List V->List V):Prop where
 to:∀(s:Shared) (us ws:List Value),K.In s.heap->(g us ws).length=ps.length->BindsTo s fd ⟨us,ks.zip ws⟩ (ps.zip (g us ws))
 rel:∀{vs:List V} {us:List Value} {zs:List V} {ws:List Value},Vals vs us->Vals zs ws->Vals (gV vs zs) (g us ws)
variable {g:List Value->List Value->List Value}{gV:List V->List V->List V}
end
structure FnScope (N P:List Str) (sc:Scope):Prop where
 kind:sc.kind = .function
 co:sc.isCoroutine=false
 gen:sc.isGenerator=false
 nd:N.Nodup
 pre:N.take P.length=P
 par:∀x∈P,sc.names.lookup x=some .local\/sc.names.lookup x=some .cell
 nofree:∀y∈sc.names,y.2 ≠ .free
theorem Xat{kindOf:Str->Option NameKind}{x:Str}:∀{binds:List (Str×Value)} {m:Str->Option Value},(∀v,(x,v)∉binds)->bindL kindOf binds m x=m x
 | [],_,_=>rfl
 | (n,v)::r,m,h=>by
  unfold bindL;rw[Xat λw hw=>h w (Lh _ hw)];split
  ·have:x≠n:=by rintro rfl;exact h v Lj
   simp[this]
  ·rfl
theorem Xau{kindOf:Str->Option NameKind}{x:Str}:∀{binds:List (Str×Value)} {m:Str->Option Value},(∀v,(x,v)∉binds)->bindC kindOf binds m x=m x
 | [],_,_=>rfl
 | (n,v)::r,m,h=>by
  unfold bindC;rw[Xau λw hw=>h w (Lh _ hw)];split
  ·rfl
  ·have:x≠n:=by rintro rfl;exact h v Lj
   simp[this]
theorem Xav{kindOf:Str->Option NameKind}{x:Str}{v:Value}:∀{P:List Str} {vs:List Value} {i:Nat} {m:Str->Option Value},P.Nodup->P[i]? = some x->vs[i]? = some v->kindOf x=some .local ->
  bindL kindOf (P.zip vs) m x=some v
 | [],_,_,_,_,h,_,_=>by simp at h
 | _::_,[],_,_,_,_,h,_=>by simp at h
 | p::P,w::vs,0,m,nd,h1,h2,hk=>by
  simp at h1 h2;subst h1;subst h2;show bindL kindOf ((p,w)::P.zip vs) m p=_;unfold bindL;rw[Xat λv hv=>(Mn.mp nd).1 (O8 hv).1,Pt hk];simp
 | p::P,w::vs,i+1,m,nd,h1,h2,hk=>by
  show bindL kindOf ((p,w)::P.zip vs) m x=_;unfold bindL;exact Xav (i:=i) (Mn.mp nd).2 (by simpa using h1) (by simpa using h2) hk
theorem Xaw{kindOf:Str->Option NameKind}{x:Str}{v:Value}:∀{P:List Str} {vs:List Value} {i:Nat} {m:Str->Option Value},P.Nodup->P[i]? = some x->vs[i]? = some v->kindOf x≠some .local ->
  bindC kindOf (P.zip vs) m x=some v
 | [],_,_,_,_,h,_,_=>by simp at h
 | _::_,[],_,_,_,_,h,_=>by simp at h
 | p::P,w::vs,0,m,nd,h1,h2,hk=>by
  simp at h1 h2;subst h1;subst h2;show bindC kindOf ((p,w)::P.zip vs) m p=_;unfold bindC;rw[Xau λv hv=>(Mn.mp nd).1 (O8 hv).1,Ps hk];simp
 | p::P,w::vs,i+1,m,nd,h1,h2,hk=>by
  show bindC kindOf ((p,w)::P.zip vs) m x=_;unfold bindC;exact Xaw (i:=i) (Mn.mp nd).2 (by simpa using h1) (by simpa using h2) hk
def start (N:List Str) (vs:List V):St:=vs.map some++List.replicate (N.length - vs.length) none
def B6 (CX:CXT) (P:Program) (w:World) (K:PySem.W.Frag) (mg:Str->Option Value) (base:Heap) (N:List Str) (qual:Str) (scope:Scope) (f:Addr) (cd:Value) (A:Around) (outer:List Env) (s:Shared) (H:Hp) (E:XK):Cx where
 prog:=P
 w:=w
 K:=K
 mg:=mg
 base:=base
 A:=A.deeper (envOfC qual scope s.heap.objs.size f cd)
 N:=N
 s₀:=s
 H₀:=H
 env:=envOfC qual scope s.heap.objs.size f cd
 outer:=outer
 stack:=envOfC qual scope s.heap.objs.size f cd::outer
 ex:=[]
 calm:=true
 fn:=λ_=>true
 pn:=[]
 xe:=λe s'=>wpAny (model P w) (A.deeper (envOfC qual scope s.heap.objs.size f cd)) (leaving (envOfC qual scope s.heap.objs.size f cd) e) (λ_ s''=>CX outer H s E e s'') (λe' s''=>CX outer H s E e' s'') s'
theorem Xax{sc:Scope}{n:Nat}{x:Str}(h:sc.names.lookup x=some .cell):∃c,(cellsFrom n sc.names []).lookup x=some c:=by
 have q:=PySem.W.cellsFrom_some sc.names n [] (.inl h);exact Nj.mp q
theorem Xay{CX:CXT}{P:Program}{w:World}{K:PySem.W.Frag}{mg:Str->Option Value}{base:Heap}{N ps:List Str}{qual:Str}{scope:Scope}{f:Addr}{cd:Value}{A:Around}{outer:List Env}{s s1:Shared}{H:Hp}{E:XK}{us:List Value}{vs:List V}
  (S:FnScope N ps scope) (hd:A.handled=none) (e0:Env0 P w K mg base A outer s H) (hl:vs.length=ps.length) (r:Vals vs us)
  (x:InCallC s s.heap.objs.size (bindL (envOfC qual scope s.heap.objs.size f cd).kindOf (ps.zip us) λ_=>none) (cellsFrom (s.heap.objs.size+1) scope.names []) (bindC (envOfC qual scope s.heap.objs.size f cd).kindOf (ps.zip us) λ_=>none) s1):
  Inv (B6 CX P w K mg base N qual scope f cd A outer s H E) [] (start N vs) H s1:=by
 have hpl:ps.length<=N.length:=by have:=congrArg List.length S.pre;rw[Mc] at this;omega
 obtain⟨h1,tk,rfl,hk⟩:=x.done;have noA:∀b:Addr,b∉(B6 CX P w K mg base N qual scope f cd A outer s H E).ex:=λb z=>absurd (show b∈([]:List Addr) from z) (by simp);refine⟨⟨e0.mod,S.kind,rfl,rfl,Li _,λy z c h1 h2=>?_,λy hy=>?_,λy c _ h=>?_,λ_=>hd,Around.frames_deeper e0.frames,.inr ⟨rfl,rfl⟩,λb z=>absurd z (noA b),e0.bs,e0.bsz,λb _ _=>noA b,λb z=>absurd z (noA b),e0.funs,e0.frf⟩,
  rfl,e0.bare,Un.kept hk,⟨_,x.toInCall.ns,λi y v h1 h2 h3=>?_⟩,λy c h=>⟨_,x.cell y c h⟩,e0.hok.fresh (Li _),λy c h=>?_,λp hp=>absurd (show p∈([]:List (Addr×Obj)) from hp) (by simp),e0.hok.kept hk,?_⟩
 ·exact name_of_addr x.apart (PySem.mem_of_lookup h1) (PySem.mem_of_lookup h2)
 ·have hy:scope.names.lookup y=some .cell\/scope.names.lookup y=some .free:=hy;rcases hy with hy | hy
  ·exact Xax hy
  ·exact absurd rfl (S.nofree _ (PySem.mem_of_lookup hy))
 ·exact Ob (x.above y c (PySem.mem_of_lookup h))
 ·have hi:i<vs.length:=by
   unfold start at h2;by_cases hi:i<vs.length
   ·exact hi
   ·rw[My (by simpa using hi)] at h2;rw[List.getElem?_replicate] at h2;split at h2<;>cases h2
  have ha:vs[i]? = some v:=by
   unfold start at h2;rw[M4 (by simpa using hi),L1] at h2;cases e:vs[i]? with
   | none=>rw[e] at h2;cases h2
   | some a=>rw[e] at h2;cases h2;rfl
  obtain⟨u,hu,rv⟩:=r.get ha;have hp:ps[i]? = some y:=by
   rw[<-S.pre,List.getElem?_take_of_lt (by omega)];exact h1
  have ndP:ps.Nodup:=by rw[<-S.pre];exact S.nd.sublist (Nx _ _)
  refine⟨u,rv,?_⟩;rcases S.par y (Nk hp) with k | k
  ·exact .inl ⟨k,Xav ndP hp hu k⟩
  ·obtain⟨c,e⟩:=Xax (n:=s.heap.objs.size+1) k;refine .inr ⟨.inl k,c,e,?_⟩;have q:=x.cell y c e;rw[Xaw ndP hp hu (by show scope.names.lookup y≠_;rw[k];decide)] at q;exact q
 ·exact e0.hok.fresh (Ob (x.above y c (PySem.mem_of_lookup h)))
 ·unfold start;show _=N.length;rw[Lp,Lf,List.length_replicate];omega
theorem Iq{CX:CXT}{P:Program}{w:World}{K:PySem.W.Frag}{mg:Str->Option Value}{base:Heap}{k:Nat}{f:Addr}{name qual:Str}{params:Arguments}{body:List Stmt}{scope:Scope}{dV kV doc pm cdv ct oc:Value}{an od:Option Addr}
  {osl:Array (Option Value)} {N ps:List Str} {sp:Sp} (lk:K.lookup f=some ⟨oc,od,.func (PySem.W.fnOf name qual params body scope dV kV doc pm an cdv ct),osl⟩) (hcd:PySem.W.codeIn K cdv qual=true) (S:FnScope N ps scope)
  (len:∀vs H Q E,sp vs H Q E->vs.length=ps.length)
  (hbody:∀(A:Around) (outer:List Env) (s:Shared) (H:Hp) (vs:List V) (Q:VK) (E:XK),Room k (A.deeper (envOfC qual scope s.heap.objs.size f cdv))->sp vs H Q E ->
   ∃t,PSs (B6 CX P w K mg base N qual scope f cdv A outer s H E) body t/\t {nx:=λ_ H'=>Q .non H',rt:=Q} (start N vs) H):
  FnOk P w K mg base CX (k+1) f (PySem.W.fnOf name qual params body scope dV kV doc pm an cdv ct) ps sp:=by
 refine⟨len,λA outer s H args us vs Q E hr e0 hb r hsp=>?_⟩;have hl:=len _ _ _ _ hsp;have KX:K.In s.heap:=e0.mod.kin.keeps λb o e=>(e0.bs b o e).1;have lim:s.heap.NoLimit:=e0.mod.nolimit.keeps λb o e=>(e0.bs b o e).1;have hkind:∀y∈ps.zip us,scope.names.lookup y.1=some .local\/(scope.names.lookup y.1=some .cell/\((cellsFrom (s.heap.objs.size+1) scope.names []).lookup y.1).isSome=true):=λ⟨n,v⟩ hy=>by
  rcases S.par n (O8 hy).1 with q | q
  ·exact .inl q
  ·exact .inr ⟨q,PySem.W.cellsFrom_some _ _ _ (.inl q)⟩
 refine codeAny_call_function hr.depth (KX _ _ lk) rfl S.co S.gen rfl (PySem.W.codeRec_of KX hcd) (hb _ _ _ _ ?_);refine wpAny_newFunctionEnv_cells S.kind hkind λenv he s1 x=>?_;subst he;refine⟨lim.keeps x.toInCall.keep,codeAny_func ?_⟩;obtain⟨t,ht,hq⟩:=hbody A outer s H vs Q E (hr.deeper _) hsp;have I:Inv (B6 CX P w K mg base N qual scope f cdv A outer s H E) [] (start N vs) H s1:=Xay S hr.hd e0 hl r x;refine wpAny_mono (ht [] s1 (start N vs) H _ I hq) (λfl s' hs=>?_) λe s' hs=>hs;have fin:∀{σ':St} {H':Hp} {v:V} {u:Value},Inv (B6 CX P w K mg base N qual scope f cdv A outer s H E) [] σ' H' s'->Af v u->Q v H'->CE outer P w H s Q u s':=
  λ{σ' H' v u} J rv q=>⟨v,H',J.os,J.bare,J.base,J.hok,rv,q⟩
 cases fl with
 | ret u=>
  obtain⟨v, σ',H',J,rv,q⟩:=hs;exact fin J rv q
 | next=>
  obtain⟨σ',H',J,q⟩:=hs;exact fin (v:=V.non) (u:=Value.none) J rfl q
 | brk=>
  obtain⟨_,_,_,q⟩:=hs;exact False.elim q
 | cont=>
  obtain⟨_,_,_,q⟩:=hs;exact False.elim q
section
variable {X:Cx}{x:Str}{p pos:Pos}{e:Expr}{es:List Expr}{t:TA}{id T:String}{r:List V->Hp->VK->Prop}
def tCB (r:List V->Hp->VK->Prop) (t:TA):TE:=fun σ H Q=>t σ H λvs H1=>r vs H1 Q
theorem Bb(hc:B1 X (.builtin id) r)(hg:Gl X x)(hm:X.mg x=none)(hv:bootBuiltins x=some (.builtin id))(ha:PA X (e::es) t)(hn:x ≠ "__name__" := by decide)(hdb:(x==("__debug__" : Str))=false:=by decide)
  (he:starEach (e::es) X.env=(false,eval e X.env)::starEach es X.env:=by rfl) (hpl:(backTo pos (starEach es X.env)).any (·.1)=false:=by rfl):PE X (.Call (.Name x p) (e::es) [] pos) (tCB r t):=by
 intro pins s σ H Q I h;refine wpAny_Call_Name_kw (Fl I hg hm hv ?_ hn hdb);exact PyProof.Rows.callWith_builtin1 (thn (ha pos pins s σ H _ I h) λus s1 ⟨vs,H1,I1,r1,q1⟩=>hc pins s1 σ H1 vs us Q I1 r1 q1) he hpl
theorem C4(hc:B1 X (.type T) r)(hg:Gl X x)(hm:X.mg x=none)(hv:bootBuiltins x=some (.type T))(ha:PA X (e::es) t)(hn:x ≠ "__name__" := by decide)(hdb:(x==("__debug__" : Str))=false:=by decide)
  (he:starEach (e::es) X.env=(false,eval e X.env)::starEach es X.env:=by rfl) (hpl:(backTo pos (starEach es X.env)).any (·.1)=false:=by rfl):PE X (.Call (.Name x p) (e::es) [] pos) (tCB r t):=by
 intro pins s σ H Q I h;refine wpAny_Call_Name_kw (Fl I hg hm hv ?_ hn hdb);exact PyProof.Rows.callWith_type1 (thn (ha pos pins s σ H _ I h) λus s1 ⟨vs,H1,I1,r1,q1⟩=>hc pins s1 σ H1 vs us Q I1 r1 q1) he hpl
end
end L2
namespace HT
open PySem PyProof.Rows
def Xgs:List Int->List Int->Bool
 | [],[]=>false
 | [],_::_=>true
 | _::_,[]=>false
 | x::xs,y::ys=>if x=y then Xgs xs ys else decide (x<y)
section
open PySem.SeqAt
open PySem.AutoSeq1 (wpAny_loadPart')
open PySem.MeetsSeq PySem.MeetsSeq2 PySem.MeetsSeq3
end
section
variable {prog:Program}{w:World}{A:Around}{E:Value->Shared->Prop}{s:Shared}
def sIx (n d:Nat):Option Int->Nat
 | none=>d
 | some v=>if v<0 then (v+(n:Int)).toNat else min v.toNat n
theorem sIx_none(n d:Nat):sIx n d none=d:=rfl
theorem sIx_nat(n d k:Nat):sIx n d (some (k:Int))=min k n:=by
 show (if (k:Int)<0 then ((k:Int)+(n:Int)).toNat else min (k:Int).toNat n)=min k n;rw[Ps (by omega),Og]
end
end HT
namespace L2
open PySem PySem.Spec PyProof.Rows
abbrev TO:=St->Hp->(Option Int->Hp->Prop)->Prop
def PO (X:Cx) (e:Option Expr) (t:TO):Prop:=
 ∀(pins:List (Addr×Obj)) (s:Shared) (σ:St) (H:Hp) (Q:Option Int->Hp->Prop),Inv X pins σ H s->t σ H Q ->
  wpAny (model X.prog X.w) X.A (evalPart e X.env) (λu s'=>∃o H',Inv X pins σ H' s'/\IsPart u o/\Q o H') X.xe s
def Xgt:TO:=λ_ H Q=>Q none H
def Xgu (t:TE):TO:=fun σ H Q=>t σ H λx H1=>∃i,x = .int i/\Q (some i) H1
section
variable {X:Cx}{e:Expr}{te:TE}{lo hi:Option Expr}{tl th:TO}{pos p2:Pos}
theorem Df:PO X none Xgt:=by
 intro pins s σ H Q I h;rw[evalPart_none];exact Pq ⟨none,H,I,.none,h⟩
theorem Cu(h:PE X e te):PO X (some e) (Xgu te):=by
 intro pins s σ H Q I hw;rw[evalPart_some];refine thn (h pins s σ H _ I hw) λu s1 ⟨x,H1,I1,r1,q1⟩=>?_;obtain⟨i,rfl,q⟩:=q1;obtain⟨t,rfl⟩:=r1;exact⟨some i,H1,I1,.int i t,q⟩
def SlR (X:Cx) (r:V->Option Int->Option Int->Hp->VK->Prop):Prop:=
 ∀(pins:List (Addr×Obj)) (s:Shared) (σ:St) (H:Hp) (x:V) (v vl vu:Value) (lo hi:Option Int) (sl:Addr) (Q:VK),Inv X pins σ H s->Af x v->s.heap.IsSliceOf sl vl vu .none->IsPart vl lo->IsPart vu hi->r x lo hi H Q ->
  ∃T id,typeLookup (.type T) "__getitem__" = pure (some (.builtin id))/\s.TypeIs v T/\wpAny (model X.prog X.w) X.A (getItem v (.ref sl)) (EP X pins σ Q) X.xe s
def tSl (r:V->Option Int->Option Int->Hp->VK->Prop) (te:TE) (tl th:TO):TE:=fun σ H Q=>te σ H λx H1=>tl σ H1 λl H2=>th σ H2 λu H3=>r x l u H3 Q
theorem C5{r:V->Option Int->Option Int->Hp->VK->Prop}(hr:SlR X r)(he:PE X e te)(hl:PO X lo tl)(hu:PO X hi th):PE X (.Subscript e (.Slice lo hi none p2) pos) (tSl r te tl th):=by
 intro pins s σ H Q I h;refine Subscript_ (thn (he pins s σ H _ I h) λv s1 ⟨x,H1,I1,r1,q1⟩=>?_);refine wpAny_Slice (thn (hl pins s1 σ H1 _ I1 q1) λvl s2 ⟨l,H2,I2,pl,q2⟩=>thn (hu pins s2 σ H2 _ I2 q2) λvu s3 ⟨u,H3,I3,pu,q3⟩=>?_);rw[evalPart_none];refine Pq ?_;have I4:Inv X pins σ H3 {s3 with heap:=s3.heap.push {cls:=.type "slice",data:=.fields #[vl,vu,.none]} }:=I3.kept (t':=s3.toks) λb ob q=>P0 _ q;obtain⟨T,id,hT,ht,hg⟩:=hr pins {s3 with heap:=s3.heap.push {cls:=.type "slice",data:=.fields #[vl,vu,.none]} } σ H3 x v vl vu l u s3.heap.objs.size Q I4 r1 (Heap.IsSliceOf.new ..) pl pu q3;show wpAny (model X.prog X.w) X.A (subscriptTail e (.Slice lo hi none p2) v (.ref s3.heap.objs.size)) (EP X pins σ Q) X.xe {s3 with heap:=s3.heap.push {cls:=.type "slice",data:=.fields #[vl,vu,.none]} };exact tail_any (ops:=[.ref s3.heap.objs.size,v]) ht hT hg (by with_unfolding_all rfl)
def Cb (xs:List V) (lo hi:Option Int):List V:=(xs.drop (HT.sIx xs.length 0 lo)).take (HT.sIx xs.length xs.length hi - HT.sIx xs.length 0 lo)
theorem Xgv(xs:List V)(lo hi:Option Int):(Cb xs lo hi).length<=xs.length:=by
 unfold Cb;rw[Mc,Ol];omega
def rSlT (K:PySem.W.Frag):V->Option Int->Option Int->Hp->VK->Prop:=λx lo hi H Q=>∃a xs,x = .ref a/\SqT K H a xs /\
 ¬(HT.sIx xs.length 0 lo=0/\HT.sIx xs.length xs.length hi=xs.length)/\∀p,H p=none->Q (.ref p) (upd H p (.tup (Cb xs lo hi)))
def rCatT (K:PySem.W.Frag):R2:=λx y H Q=>∃a b xs ys,x = .ref a/\y = .ref b/\SqT K H a xs/\SqT K H b ys/\xs≠[]/\xs.length+ys.length<=sizeLine /\
 (ys=[]->Q (.ref a) H)/\(ys≠[]->∀p,H p=none->Q (.ref p) (upd H p (.tup (xs++ys))))
end
def ixN (n:Nat) (i:Int):Option Nat:=if 0<=i then (if i<n then some i.toNat else none) else if -(n:Int)<=i then some (i+n).toNat else none
def atI {α : Type} (xs:List α) (i:Int):Option α:=(ixN xs.length i).bind λj=>xs[j]?
theorem Xaz{n:Nat}{i:Int}{j:Nat}(h:ixN n i=some j):seqIndex? i n=some j/\j<n /\ -(n:Int)<=i/\i<n:=by
 unfold ixN at h;by_cases h0:0<=i
 ·rw[Pt h0] at h;by_cases h1:i<n
  ·rw[Pt h1] at h;have e:i.toNat=j:=L5 h;exact⟨by rw[seqIndex_of h0 h1,e],by omega,by omega,h1⟩
  ·rw[Ps h1] at h;cases h
 ·rw[Ps h0] at h;by_cases h1 : -(n:Int)<=i
  ·rw[Pt h1] at h;have e:(i+n).toNat=j:=L5 h;exact⟨by rw[seqIndex_neg (by omega) h1,e],by omega,h1,by omega⟩
  ·rw[Ps h1] at h;cases h
theorem Ir{α : Type}{xs:List α}{i:Int}{v : α}(h:atI xs i=some v):∃j,seqIndex? i xs.length=some j/\xs[j]? = some v/\j<xs.length /\ -(xs.length:Int)<=i/\i<xs.length:=by
 unfold atI at h;cases e:ixN xs.length i with
 | none=>rw[e] at h;cases h
 | some j=>
  rw[e] at h;obtain⟨h1,h2,h3,h4⟩:=Xaz e;exact⟨j,h1,h,h2,h3,h4⟩
theorem Fu{α : Type}{xs:List α}{j:Nat}{v : α}(h:xs[j]? = some v):atI xs (j:Int)=some v:=by
 have hj:j<xs.length:=(L9.mp h).1;have e:ixN xs.length (j:Int)=some j:=by
  unfold ixN;rw[Pt (by omega),Pt (by omega)];simp
 unfold atI;rw[e];exact h
def Xgw (b:Expr):Prop:=∀o i,subscripted b false o i=operate [o,i] (getItem o i)
def IxR (X:Cx) (r:R2):Prop:=
 ∀(value slice:Expr) (pins:List (Addr×Obj)) (s:Shared) (σ:St) (H:Hp) (x y:V) (v u:Value) (Q:VK),Inv X pins σ H s->Af x v->Af y u->r x y H Q ->
  subscripted slice false v u=operate [v,u] (getItem v u)->wpAny (model X.prog X.w) X.A (subscriptTail value slice v u) (EP X pins σ Q) X.xe s
def MtR (X:Cx) (id:String) (r:V->List V->Hp->VK->Prop):Prop:=
 ∀(pins:List (Addr×Obj)) (s:Shared) (σ:St) (H:Hp) (x:V) (xs:List V) (v:Value) (us:List Value) (Q:VK),Inv X pins σ H s->Af x v->Vals xs us->r x xs H Q ->
  wpAny (model X.prog X.w) X.A (call (.builtin id) (v::us)) (EP X pins σ Q) X.xe s
section
variable {X:Cx}{a b:Expr}{ta tb:TE}{pos:Pos}
theorem Ay{r:R2}(hr:IxR X r)(ha:PE X a ta)(hb:PE X b tb)(hs:Xgw b):PE X (.Subscript a b pos) (tOp r ta tb):=by
 intro pins s σ H Q I h;exact Subscript_ (binT ha hb I h λv u s2 x y H2 I2 rx ry q=>hr a b pins s2 σ H2 x y v u Q I2 rx ry q (hs _ _))
def Xa0 (K:PySem.W.Frag):R2:=λx y H Q=>∃p xs i v,x = .ref p/\y = .int i/\SqL K H p xs/\atI xs i=some v/\Q v H
def Iu (K:PySem.W.Frag):R2:=λx y H Q=>∃p xs i v,x = .ref p/\y = .int i/\SqT K H p xs/\atI xs i=some v/\Q v H
def Xa1:R2:=λx y H Q=>∃z i c,x = .str z/\y = .int i/\z.length<=sizeLine/\atI z.cps.toList i=some c/\Q (.str ⟨#[c]⟩) H
theorem Bd:IxR X (Xa0 X.K):=by
 intro value slice pins s σ H x y v u Q I rx ry h hs;obtain⟨p,xs,i,z,rfl,rfl,hq,he,q⟩:=h;cases rx;obtain⟨t,rfl⟩:=ry;obtain⟨its,r,pl,hz⟩:=I.list hq;obtain⟨j,h1,h2,h3,h4,h5⟩:=Ir he;obtain⟨w,ew,rw'⟩:=r.get h2;have hl:=r.length;have hn:=line63;have fin:EP X pins σ Q w s:=⟨z,H,I,rw',q⟩;by_cases h0:0<=i
 ·have hj:i.toNat=j:=by
   rw[seqIndex_of h0 h5] at h1;exact L5 h1
  exact item_listR pl.isList h0 (by omega) (by rw[hj];simpa using ew) fin hs
 ·have hj:(i+(its.toArray.size:Int)).toNat=j:=by
   rw[seqIndex_neg (by omega) h4] at h1;rw[Lq,<-hl];exact L5 h1
  exact subscriptTail_builtinR (x:=w) pl.isList.typeIs slot_list_getitem.lookup
   (wpAny_getItem_list_neg (Q:=λr s'=>r=w/\EP X pins σ Q r s') pl.isList (by omega) (by rw[Lq]<;>omega) (by omega) (by rw[hj];simpa using ew) ⟨rfl,fin⟩) hs
theorem Iv:IxR X (Iu X.K):=by
 intro value slice pins s σ H x y v u Q I rx ry h hs;obtain⟨p,xs,i,z,rfl,rfl,hq,he,q⟩:=h;cases rx;obtain⟨t,rfl⟩:=ry;obtain⟨its,r,pl,hz⟩:=I.tuple hq;obtain⟨j,h1,h2,h3,h4,h5⟩:=Ir he;obtain⟨w,ew,rw'⟩:=r.get h2;have hl:=r.length;have hn:=line63;have fin:EP X pins σ Q w s:=⟨z,H,I,rw',q⟩;exact subscriptTail_builtinR (x:=w) pl.typeIs slot_tuple_getitem.lookup
  (getItem_tuple (j:=j) (Q:=λr s'=>r=w/\EP X pins σ Q r s') pl (by omega) (by omega) (by rw[Lq,<-hl];exact h1) (by simpa using ew) ⟨rfl,fin⟩) hs
theorem Xgx:IxR X Xa1:=by
 intro value slice pins s σ H x y v u Q I rx ry h hs;obtain⟨z,i,c,rfl,rfl,hz,he,q⟩:=h;obtain⟨t,rfl⟩:=rx;obtain⟨t',rfl⟩:=ry;obtain⟨j,h1,h2,h3,h4,h5⟩:=Ir he;have hl:z.cps.toList.length=z.length:=by simp[Str.length]
 rw[hl] at h1 h4 h5;have hn:=line63;exact tail_any (typeIs_str s z t) slot_str_getitem.lookup (getItem_str (c:=c) (by
  have e1:decide (i < -(2 ^ 63:Int))=false:=Pw (by omega);have e2:decide (i ≥ 2 ^ 63)=false:=Pw (by omega);rw[e1,e2,Bool.or_false]) (by rw[h1];simpa using h2) ⟨.str ⟨#[c]⟩,H,I.tok _,⟨_,rfl⟩,q⟩) hs
def rIx (K:PySem.W.Frag):R2:=λx y H Q=>Xa0 K x y H Q\/Iu K x y H Q\/Xa1 x y H Q
theorem Xgy(its:List Value)(n j:Nat)(u:Value):Obj.mapSeq (·.setIfInBounds j u) {cls:=.type "list",data:=.seq its.toArray n} = {cls:=.type "list",data:=.seq (its.set j u).toArray n}:=by
 simp[Obj.mapSeq]
theorem Inv.lst{pins:List (Addr×Obj)}{σ:St}{H:Hp}{s:Shared}{p:Addr}{xs:List V}(I:Inv X pins σ H s)(h:H p=some (.lst xs)):
  ∃(its:List Value) (n:Nat),Vals xs its/\s.heap.get? p=some {cls:=.type "list",data:=.seq its.toArray n}/\xs.length<=sizeLine:=by
 obtain⟨z,its,n,r,e⟩:=I.hok p _ h;exact⟨its,n,r,e,z⟩
theorem Inv.lstUpd{pins:List (Addr×Obj)}{σ:St}{H:Hp}{s:Shared}{p:Addr}{xs ys:List V}{its its':List Value}{n n':Nat}{f:Obj->Obj}(I:Inv X pins σ H s)(h:H p=some (.lst xs))
  (ho:s.heap.get? p=some {cls:=.type "list",data:=.seq its.toArray n}) (hf:f {cls:=.type "list",data:=.seq its.toArray n} = {cls:=.type "list",data:=.seq its'.toArray n'}) (r:Vals ys its') (hz:ys.length<=sizeLine) (t:Nat):
  Inv X pins σ (upd H p (.lst ys)) {s with heap:=s.heap.update p f,toks:=t}:=by
 have e:(s.heap.update p f).get? p=some {cls:=.type "list",data:=.seq its'.toArray n'}:=by
  rw[Heap.get?_update_self f ho (by rw[hf]<;>rfl),hf]
 refine I.write (x:=p) (e:=p) (by rw[h];trivial) (.inl rfl) (λb u hb q=>(Heap.get?_update_other _ _ (Ne.symm hb)).trans q) ⟨_,e⟩ ?_;exact⟨hz,its',n',r,e⟩
def Xgz:V->V->V->Hp->(Hp->Prop)->Prop:=λo i v H Q=>∃p xs k j,o = .ref p/\i = .int k/\H p=some (.lst xs)/\ixN xs.length k=some j/\Q (upd H p (.lst (xs.set j v)))
theorem Eg:PSet X Xgz:=by
 intro pins s σ H o i v ov iv u Q I ro ri rv h;obtain⟨p,xs,k,j,rfl,rfl,hp,hj,q⟩:=h;cases ro;obtain⟨t,rfl⟩:=ri;obtain⟨its,n,r,ho,hz⟩:=I.lst hp;obtain⟨h1,h2,h3,h4⟩:=Xaz hj;have hl:=r.length;have hn:=line63;have I':Inv X pins σ (upd H p (.lst (xs.set j v))) {s with heap:=s.heap.update p (Obj.mapSeq (·.setIfInBounds j u))}:=
  I.lstUpd hp ho (Xgy its n j u) (r.set rv j) (by rw[List.length_set];exact hz) s.toks
 by_cases h0:0<=k
 ·have hk:k.toNat=j:=by
   rw[seqIndex_of h0 h4] at h1;exact L5 h1
  exact PySem.W.ki_setAt ho h0 (by omega) (by rw[Lq,<-hl];exact h4) (by rw[hk];exact⟨_,I',q⟩)
 ·have hk:(k+(its.toArray.size:Int)).toNat=j:=by
   rw[seqIndex_neg (by omega) h3] at h1;rw[Lq,<-hl];exact L5 h1
  exact PySem.W.ki_setBack ho (by omega) (by rw[Lq,<-hl];exact h3) (by omega) (by rw[hk];exact⟨_,I',q⟩)
theorem Xg0(lo hi:Option Int)(n:Nat):(sliceBounds lo hi none n).1=((HT.sIx n 0 lo:Nat):Int)/\(sliceBounds lo hi none n).2.1=((HT.sIx n n hi:Nat):Int)/\(sliceBounds lo hi none n).2.2=1:=by
 refine⟨?_,?_,rfl⟩
 ·cases lo with
  | none=>simp[sliceBounds,HT.sIx]
  | some i=>
   simp only[sliceBounds,HT.sIx,Option.getD_none,show (1:Int) > 0 by decide,if_true];by_cases h:i<0
   ·simp only[h,if_true]<;>omega
   ·simp only[h,if_false]<;>omega
 ·cases hi with
  | none=>simp[sliceBounds,HT.sIx]
  | some i=>
   simp only[sliceBounds,HT.sIx,Option.getD_none,show (1:Int) > 0 by decide,if_true];by_cases h:i<0
   ·simp only[h,if_true]<;>omega
   ·simp only[h,if_false]<;>omega
theorem Xg1(its:List Value)(lo hi:Option Int):slicePick its.toArray lo hi none=((its.drop (HT.sIx its.length 0 lo)).take (HT.sIx its.length its.length hi - HT.sIx its.length 0 lo)).toArray:=by
 obtain⟨h1,h2,h3⟩:=Xg0 lo hi its.toArray.size;unfold slicePick;rw[h1,h2,h3];simp only[sliceRange_one,pick_run,Lq]<;>rfl
def rSlL (K:PySem.W.Frag):V->Option Int->Option Int->Hp->VK->Prop:=λx lo hi H Q=>∃a xs,x = .ref a/\SqL K H a xs/\∀p,H p=none->Q (.ref p) (upd H p (.lst (Cb xs lo hi)))
theorem C6:SlR X (rSlL X.K):=by
 intro pins s σ H x v vl vu lo hi sl Q I rx hs pl pu h;obtain⟨a,xs,rfl,hx,q⟩:=h;cases rx;obtain⟨its,r,ht,hz⟩:=I.list hx;have hlen:=r.length;refine⟨"list",_,slot_list_getitem.lookup,ht.isList.typeIs,?_⟩;refine wpAny_getItem_list_slice ht.isList hs pl pu .none (by simp) ?_ (by rw[Lq]<;>omega);rw[Xg1,<-hlen];refine⟨.ref s.heap.objs.size,_,I.laid (t':=s.toks) (o:=.lst (Cb xs lo hi)) (λb ob q=>P0 _ q) (Li _) ?_,rfl,q _ (I.hok.fresh (Li _))⟩;exact⟨Mh (Xgv xs lo hi) hz,_,0,(r.drop (HT.sIx xs.length 0 lo)).take (HT.sIx xs.length xs.length hi - HT.sIx xs.length 0 lo),Heap.get?_push_size _ rfl⟩
def Dg:V->Bool
 | .non=>true
 | .bl _=>true
 | .int _=>true
 | .str _=>true
 | _=>false
def eqV:V->V->Bool
 | .non,.non=>true
 | .bl a,.bl b=>a==b
 | .bl a,.int b=>(if a then 1 else 0)==b
 | .int a,.bl b=>a==(if b then 1 else 0)
 | .int a,.int b=>a==b
 | .str a,.str b=>a==b
 | _,_=>false
theorem Xg2{A:Around}{s:Shared}{y x:V}{u v:Value}(ry:Af y u)(rx:Af x v)(fy:Dg y=true)(fx:Dg x=true):SeqAt.EqAt A s u v (eqV y x):=by
 cases y with
 | non=>
  cases ry;cases x with
  | non=>cases rx;exact SeqAt.EqAt.same _
  | bl b=>cases rx;exact SeqAt.EqAt.none_bool b
  | int b=>obtain⟨t,rfl⟩:=rx;exact SeqAt.EqAt.none_int b t
  | str b=>obtain⟨t,rfl⟩:=rx;exact SeqAt.EqAt.none_str b t
  | _=>exact absurd (show false=true from fx) L3
 | bl a=>
  cases ry;cases x with
  | non=>cases rx;exact SeqAt.EqAt.bool_none a
  | bl b=>cases rx;exact SeqAt.EqAt.bool_bool a b
  | int b=>obtain⟨t,rfl⟩:=rx;exact SeqAt.EqAt.bool_int a b t
  | str b=>obtain⟨t,rfl⟩:=rx;exact SeqAt.EqAt.bool_str a b t
  | _=>exact absurd (show false=true from fx) L3
 | int a=>
  obtain⟨t',rfl⟩:=ry;cases x with
  | non=>cases rx;exact SeqAt.EqAt.int_none a t'
  | bl b=>cases rx;exact SeqAt.EqAt.int_bool a t' b
  | int b=>obtain⟨t,rfl⟩:=rx;exact SeqAt.EqAt.int_int a t' b t
  | str b=>obtain⟨t,rfl⟩:=rx;exact SeqAt.EqAt.int_str a t' b t
  | _=>exact absurd (show false=true from fx) L3
 | str a=>
  obtain⟨t',rfl⟩:=ry;cases x with
  | non=>cases rx;exact SeqAt.EqAt.str_none a t'
  | bl b=>cases rx;exact SeqAt.EqAt.str_bool a t' b
  | int b=>obtain⟨t,rfl⟩:=rx;exact SeqAt.EqAt.str_int a t' b t
  | str b=>obtain⟨t,rfl⟩:=rx;exact SeqAt.EqAt.str_str a t' b t
  | _=>exact absurd (show false=true from fx) L3
 | _=>exact absurd (show false=true from fy) L3
def eqU (x:V) (u:Value):Bool:=match u with
 | .none=>eqV .non x
 | .bool b=>eqV (.bl b) x
 | .int i _=>eqV (.int i) x
 | .str z _=>eqV (.str z) x
 | _=>false
theorem Xa2{x y:V}{u:Value}(r:Af y u)(f:Dg y=true):eqU x u=eqV y x:=by
 cases y with
 | non=>cases r;rfl
 | bl b=>cases r;rfl
 | int i=>obtain⟨t,rfl⟩:=r;rfl
 | str z=>obtain⟨t,rfl⟩:=r;rfl
 | _=>exact absurd (show false=true from f) L3
theorem Fv{x:V}:∀{xs:List V} {us:List Value},Vals xs us->xs.all Dg=true->us.any (eqU x)=xs.any λy=>eqV y x
 | _,_,.nil,_=>rfl
 | y::xs,u::us,.cons r t,f=>by
  rw[List.all_cons,Ls] at f;rw[O6,O6,Xa2 r f.1,Fv t f.2]
theorem Fw{A:Around}{s:Shared}{x:V}{v:Value}(rx:Af x v)(fx:Dg x=true):∀{xs:List V} {us:List Value},Vals xs us->xs.all Dg=true->∀u∈us,SeqAt.EqAt A s u v (eqU x u)
 | _,_,.nil,_=>λu hu=>by cases hu
 | y::xs,u::us,.cons r t,f=>λu' hu=>by
  rw[List.all_cons,Ls] at f;rcases Lo.mp hu with rfl | hu
  ·rw[Xa2 r f.1];exact Xg2 r rx f.1 fx
  ·exact Fw rx fx t f.2 u' hu
def inV (x:V) (xs:List V):Bool:=xs.any λy=>eqV y x
def rIn (K:PySem.W.Frag) (neg:Bool):R2:=λx y H Q=>∃p xs,y = .ref p/\(SqL K H p xs\/SqT K H p xs)/\Dg x=true/\xs.all Dg=true/\Q (.bl (if neg then !inV x xs else inV x xs)) H
theorem Xg3:OpR X (compareOp .In) (rIn X.K false):=by
 intro pins s σ H x y v u Q I rx ry h;obtain⟨p,xs,rfl,hq,fx,fs,q⟩:=h;cases ry;rcases hq with hq | hq
 ·obtain⟨its,r,pl,hz⟩:=I.list hq;refine SeqAt.in_listAt (eqU x) pl.isList (λw hw=>Fw rx fx r fs w (by simpa using hw)) ⟨.bl _,H,I,rfl,?_⟩;rw[show its.toArray.any (eqU x)=its.any (eqU x) by simp,Fv r fs];exact q
 ·obtain⟨its,r,pl,hz⟩:=I.tuple hq;refine SeqAt.in_tupleAt (eqU x) pl (λw hw=>Fw rx fx r fs w (by simpa using hw)) ⟨.bl _,H,I,rfl,?_⟩;rw[show its.toArray.any (eqU x)=its.any (eqU x) by simp,Fv r fs];exact q
theorem Xg4:OpR X (compareOp .NotIn) (rIn X.K true):=by
 intro pins s σ H x y v u Q I rx ry h;obtain⟨p,xs,rfl,hq,fx,fs,q⟩:=h;cases ry;rcases hq with hq | hq
 ·obtain⟨its,r,pl,hz⟩:=I.list hq;refine SeqAt.notIn_listAt (eqU x) pl.isList (λw hw=>Fw rx fx r fs w (by simpa using hw)) ⟨.bl _,H,I,rfl,?_⟩;rw[show its.toArray.any (eqU x)=its.any (eqU x) by simp,Fv r fs];exact q
 ·obtain⟨its,r,pl,hz⟩:=I.tuple hq;refine SeqAt.notIn_tupleAt (eqU x) pl (λw hw=>Fw rx fx r fs w (by simpa using hw)) ⟨.bl _,H,I,rfl,?_⟩;rw[show its.toArray.any (eqU x)=its.any (eqU x) by simp,Fv r fs];exact q
theorem Bo:B1 X (.builtin "len") (λxs H Q=>∃p ys,xs=[.ref p]/\(SqL X.K H p ys\/SqT X.K H p ys)/\Q (.int ys.length) H):=by
 intro pins s σ H xs us Q I r h;obtain⟨p,ys,rfl,hq,q⟩:=h;obtain⟨u,rfl,rx⟩:=Ca r;cases rx;have hn:=line63;rcases hq with hq | hq
 ·obtain⟨its,r',pl,hz⟩:=I.list hq;have hlen:=r'.length;exact Calls.call_len_list pl.isList (by simp only[Lq]<;>omega) ⟨.int ys.length,H,I.tok _,⟨s.toks+1,by rw[Lq,hlen]⟩,q⟩
 ·obtain⟨its,r',pl,hz⟩:=I.tuple hq;have hlen:=r'.length;exact len_tuple pl (by simp only[Lq]<;>omega) ⟨.int ys.length,H,I.tok _,⟨s.toks+1,by rw[Lq,hlen]⟩,q⟩
theorem Xa3:B1 X (.type "list") (λxs H Q=>∃p ys,xs=[.ref p]/\(SqL X.K H p ys\/SqT X.K H p ys)/\∀l,H l=none->Q (.ref l) (upd H l (.lst ys))):=by
 intro pins s σ H xs us Q I r h;obtain⟨p,ys,rfl,hq,q⟩:=h;obtain⟨u,rfl,rx⟩:=Ca r;cases rx;have fin:∀(its:List Value),Vals ys its->ys.length<=sizeLine->∀(h':Heap) (c':Nat),(∀b o',s.heap.get? b=some o'->h'.get? b=some o') ->
   h'.get? s.heap.objs.size=some {cls:=.type "list",dict:=none,data:=.seq its.toArray c',slots := #[]}->EP X pins σ Q (.ref s.heap.objs.size) {s with heap:=h'}:=λits r' hz h' c' kp e=>
  ⟨.ref s.heap.objs.size,_,I.laid (t':=s.toks) kp (Li _) (show A5 X.prog X.w _ h' _ (.lst ys) from ⟨hz,its,c',r',e⟩),rfl,q _ (I.hok.fresh (Li _))⟩
 rcases hq with hq | hq
 ·obtain⟨its,r',pl,hz⟩:=I.list hq;have hlen:=r'.length;obtain⟨o,ho,hc,n,hd⟩:=pl.isList;exact call_list_seq p (.inl rfl) ho hc hd (λh' c' kp e=>fin its r' hz h' c' kp e) (by simp only[Lq]<;>omega)
 ·obtain⟨its,r',pl,hz⟩:=I.tuple hq;have hlen:=r'.length;obtain⟨o,ho,hc,n,hd⟩:=pl;exact call_list_seq p (.inr rfl) ho hc hd (λh' c' kp e=>fin its r' hz h' c' kp e) (by simp only[Lq]<;>omega)
theorem Xa4:B1 X (.type "tuple") (λxs H Q=>∃p ys,xs=[.ref p]/\((SqL X.K H p ys/\∀l,H l=none->Q (.ref l) (upd H l (.tup ys)))\/(SqT X.K H p ys/\Q (.ref p) H))):=by
 intro pins s σ H xs us Q I r h;obtain⟨p,ys,rfl,h⟩:=h;obtain⟨u,rfl,rx⟩:=Ca r;cases rx;rcases h with ⟨hq,q⟩ | ⟨hq,q⟩
 ·obtain⟨its,r',pl,hz⟩:=I.list hq;have hlen:=r'.length;refine call_tuple_list pl.isList (λh' kp=>?_) (by simp only[Lq]<;>omega);have I1:Inv X pins σ H {s with heap:=h'}:=I.kept (t':=s.toks) kp;have I2:Inv X pins σ (upd H h'.objs.size (.tup ys)) {s with heap:=h'.push {cls:=.type "tuple",data:=.seq its.toArray} }:=
   I1.laid (t':=s.toks) (λb o e=>P0 _ e) (Li _) (show A5 X.prog X.w _ _ _ (.tup ys) from ⟨hz,its,r',IsTup.new _ _⟩)
  exact⟨.ref h'.objs.size,_,I2,rfl,q _ (I1.hok.fresh (Li _))⟩
 ·obtain⟨its,r',pl,hz⟩:=I.tuple hq;exact call_tuple_same pl ⟨.ref p,H,I,rfl,q⟩
def tyV (K:PySem.W.Frag) (T:String) (x:V) (H:Hp):Prop:=match x with
 | .str _=>T = "str"
 | .int _=>T = "int"
 | .ref p=>(T = "list" /\ ∃xs,SqL K H p xs)\/(T = "tuple" /\ ∃o,K.lookup p=some o/\o.cls = .type "tuple" /\ o.dict=none) \/
   (T = "dict" /\ ((∃kvs,H p=some (.dK kvs)) \/ ∃kvs,H p=some (.dT kvs)))\/(T = "set" /\ ∃S n,H p=some (.set S n))
 | _=>False
theorem Xg5{pins:List (Addr×Obj)}{σ:St}{H:Hp}{s:Shared}{T:String}{x:V}{v:Value}(I:Inv X pins σ H s)(r:Af x v)(ty:tyV X.K T x H):
  s.TypeIs v T/\∀a,v = .ref a->∃ob,s.heap.get? a=some ob/\ob.dict=none:=by
 cases x with
 | str z=>
  obtain⟨t,rfl⟩:=r;cases (show T = "str" from ty);exact⟨typeIs_str s z t,λ_ e=>nomatch e⟩
 | int i=>
  obtain⟨t,rfl⟩:=r;cases (show T = "int" from ty);exact⟨typeIs_int s i t,λ_ e=>nomatch e⟩
 | ref p=>
  cases r;rcases ty with ⟨rfl,xs,hq⟩ | ⟨rfl,o,hk,hc,hd⟩ | ⟨rfl,hk⟩ | ⟨rfl,S,n,hk⟩
  ·obtain⟨its,_,pl,_⟩:=I.list hq;refine⟨pl.isList.typeIs,λa e=>?_⟩;cases e;obtain⟨o,n,e,c,hd,_⟩:=pl;exact⟨o,e,hd⟩
  ·refine⟨⟨o,I.kIn p o hk,hc⟩,λa e=>?_⟩;cases e;exact⟨o,I.kIn _ o hk,hd⟩
  ·have z:∃o,s.heap.get? p=some o/\o.ExactDict:=by
    rcases hk with ⟨kvs,hk⟩ | ⟨kvs,hk⟩
    ·obtain⟨_,_,_,_,o,_,_,e,ex,_⟩:=I.hok p _ hk;exact⟨o,e,ex⟩
    ·obtain⟨_,_,_,_,o,_,_,e,ex,_⟩:=I.hok p _ hk;exact⟨o,e,ex⟩
   obtain⟨o,e,ex⟩:=z;refine⟨⟨o,e,ex.1⟩,λa e2=>?_⟩;cases e2;exact⟨o,e,ex.2.1⟩
  ·obtain⟨o,_,_,_,e,ex,_⟩:=I.hok p _ hk;refine⟨⟨o,e,ex.1⟩,λa e2=>?_⟩;cases e2;exact⟨o,e,ex.2.1⟩
 | _=>exact False.elim ty
def tBM (K:PySem.W.Frag) (T:String) (r:V->List V->Hp->VK->Prop) (to:TE) (t:TA):TE:=fun σ H Q=>to σ H λx H1=>tyV K T x H1/\t σ H1 λxs H2=>r x xs H2 Q
variable {o e:Expr}{es:List Expr}{to:TE}{t:TA}{name:Str}{apos cpos:Pos}{T id:String}{r:V->List V->Hp->VK->Prop}
theorem Iw(pa:PlainAttrs T)(slot:Slot T name id)(hty:typeOf (.builtin id)=pure (.type "method_descriptor"))(hm:MtR X id r)(ho:PE X o to)(ha:PA X (e::es) t)
  (hbase:attributeBase o name X.env (eval o X.env)=eval o X.env:=by rfl)
  (hfew:((backTo cpos (starEach (e::es) X.env)).all (λx => !x.1)&&(backToKw cpos (keywordEach [] X.env)).all (λx=>x.1.isSome)
   && decide ((e::es).length+([]:List Keyword).length+(if ([]:List Keyword).isEmpty then 0 else 1)<30))=true:=by rfl)
  (hline:(apos.endLine==cpos.line)=true:=by rfl) (hs:starEach (e::es) X.env=(false,eval e X.env)::starEach es X.env:=by rfl) (hplain:(backTo cpos (starEach es X.env)).any (·.1)=false:=by rfl):
  PE X (.Call (.Attribute o name apos) (e::es) [] cpos) (tBM X.K T r to t):=by
 intro pins s σ H Q I h;refine wpAny_Call_method_late hbase hfew hline rfl (thn (ho pins s σ H _ I h) λv s1 ⟨x,H1,I1,r1,ty,q1⟩=>?_);obtain⟨h1,h2⟩:=Xg5 I1 r1 ty;refine⟨T,id,pa,slot,hty,h1,h2,?_⟩;have hA:=ha cpos pins s1 σ H1 _ I1 q1;rw[hs] at hA ⊢;refine Calls.callWith_builtin (by show (false||(backTo cpos (starEach es X.env)).any (·.1))=false;rw[hplain]<;>rfl) (Calls.evalArgs_plain ?_);exact thn hA λus s2 ⟨vs,H2,I2,r2,q2⟩=>hm pins s2 σ H2 x vs v us Q I2 r1 r2 q2
end
def MtM (X:Cx) (id:String) (r:V->List V->Hp->VK->Prop):Prop:=
 ∀(pins:List (Addr×Obj)) (s:Shared) (σ:St) (H:Hp) (x:V) (xs:List V) (v:Value) (us:List Value) (Q:VK),Inv X pins σ H s->Af x v->Vals xs us->r x xs H Q ->
  wpAny (model X.prog X.w) X.A (call (.builtin id) (v::us)) (EP X pins σ Q) X.xe s
theorem Vals.one:∀{x:V} {us:List Value},Vals [x] us->∃u,us=[u]/\Af x u
 | _,_,.cons r .nil=>⟨_,rfl,r⟩
theorem Vals.two{x y:V}{us:List Value}(h:Vals [x,y] us):∃u v,us=[u,v]/\Af x u/\Af y v:=by
 cases h with
 | cons r t=>
  cases t with
  | cons q z=>cases z;exact⟨_,_,rfl,r,q⟩
theorem Vals.reverse{xs:List V}{us:List Value}(h:Vals xs us):Vals xs.reverse us.reverse:=by
 induction h with
 | nil=>exact .nil
 | cons r t ih=>rw[List.reverse_cons,List.reverse_cons];exact Vals.append ih (.cons r .nil)
section
variable {X:Cx}{pins:List (Addr×Obj)}{σ:St}{H:Hp}{s:Shared}{l b:Addr}{xs ys zs:List V}
theorem Inv.lset{its its':List Value}{n:Nat}{f:Array Value->Array Value}{t':Nat}(I:Inv X pins σ H s)(hH:H l=some (.lst xs))
  (e:s.heap.get? l=some {cls:=.type "list",data:=.seq its.toArray n}) (hf:f its.toArray=its'.toArray) (hv:Vals ys its') (hz:ys.length<=sizeLine):
  Inv X pins σ (upd H l (.lst ys)) {s with heap:=s.heap.update l (Obj.mapSeq f),toks:=t'}:=by
 have q:=PySem.IsL.update e f;rw[hf] at q;refine I.write (x:=l) (e:=l) (by rw[hH];exact trivial) (.inl rfl) (λb' u hb hu=>(Heap.get?_update_other s.heap (Obj.mapSeq f) (Ne.symm hb)).trans hu) ⟨_,q⟩ ?_;exact⟨hz,its',_,hv,q⟩
theorem Inv.lnew{its:List Value}{t':Nat}(I:Inv X pins σ H s)(hv:Vals ys its)(hz:ys.length<=sizeLine):
  Inv X pins σ (upd H s.heap.objs.size (.lst ys)) {s with heap:=s.heap.push {cls:=.type "list",data:=.seq its.toArray},toks:=t'}:=
 I.laid (λ_ _ q=>P0 _ q) (Li _) ⟨hz,its,0,hv,Heap.get?_push_size _ rfl⟩
theorem Inv.fresh(I:Inv X pins σ H s):H s.heap.objs.size=none:=I.hok.fresh (Li _)
theorem Inv.lstM(I:Inv X pins σ H s)(hH:H l=some (.lst xs)):xs.length<=sizeLine/\∃(its:List Value) (n:Nat),Vals xs its/\xs.length=its.length/\s.heap.get? l=some {cls:=.type "list",data:=.seq its.toArray n}:=by
 obtain⟨z,its,n,r,e⟩:=I.hok l _ hH;exact⟨z,its,n,r,r.length,e⟩
end
section
variable {X:Cx}
def Xa5:V->List V->Hp->VK->Prop:=λx vs H Q=>∃l xs y,x = .ref l/\vs=[y]/\H l=some (.lst xs)/\xs.length<sizeLine/\Q .non (upd H l (.lst (xs++[y])))
theorem Gx:MtM X "list.append" Xa5:=by
 intro pins s σ H x vs v us Q I rx rv h;obtain⟨l,xs,y,rfl,rfl,hH,hz,q⟩:=h;cases rx;obtain⟨u,rfl,ru⟩:=rv.one;obtain⟨z,its,n,r,hl,e⟩:=I.lstM hH;refine call_meets F.slot_list_append ⟨_,e,rfl⟩ F.entry_list_append (F.args_list_append_2 _ _) (PySem.list_append l its.toArray n u (by rw[Lq];omega)) ⟨e,?_⟩;refine⟨.non,_,I.lset (its':=its++[u]) hH e (by simp) (r.append (.cons ru .nil)) ?_,rfl,q⟩;rw[Lp,Mx];omega
def rCat:R2:=λx y H Q=>∃l b xs zs,x = .ref l/\y = .ref b/\H l=some (.lst xs)/\H b=some (.lst zs)/\xs.length+zs.length<=sizeLine/\∀p,H p=none->Q (.ref p) (upd H p (.lst (xs++zs)))
theorem Cn:OpR X (binaryOp .Add) rCat:=by
 intro pins s σ H x y v u Q I rx ry h;obtain⟨l,b,xs,zs,rfl,rfl,hH,hB,hz,q⟩:=h;cases rx;cases ry;obtain⟨z,its,n,r,hl,e⟩:=I.lstM hH;obtain⟨z2,its2,n2,r2,hl2,e2⟩:=I.lstM hB;refine PySem.P.add_list e e2 ?_ (by rw[Lq,Lq];omega);have ea:its.toArray++its2.toArray=(its++its2).toArray:=by simp
 rw[ea];exact⟨.ref _,_,I.lnew (t':=s.toks) (r.append r2) (by rw[Lp];omega),rfl,q _ I.fresh⟩
def rRep:R2:=λx y H Q=>∃l k xs,x = .ref l/\y = .int k/\H l=some (.lst xs) /\ -(2 ^ 63)<=k/\k<2 ^ 63/\xs.length * k.toNat<=sizeLine /\
 ∀p,H p=none->Q (.ref p) (upd H p (.lst (List.replicate k.toNat xs).flatten))
end
section
variable {prog:Program}{w:World}{A:Around}{E:Value->Shared->Prop}{s:Shared}
end
section
variable {X:Cx}
end
section
variable {κ : Type} [DecidableEq κ]
def An (kvs:List (κ × V)) (k : κ):Option V:=(kvs.find? λkv=>decide (kv.1=k)).map (·.2)
def A7 (kvs:List (κ × V)) (k : κ) (v:V):List (κ × V):=
 if (kvs.any λkv=>decide (kv.1=k))=true then kvs.map (λkv=>if kv.1=k then (kv.1,v) else kv) else kvs++[(k,v)]
def Xa6 (kvs:List (κ × V)) (k : κ):List (κ × V):=kvs.filter λkv=>decide (kv.1≠k)
theorem Cv{p : κ × V}{r:List (κ × V)}{k : κ}(e:p.1=k):An (p::r) k=some p.2:=by simp[An,Ny,e]
theorem Cw{p : κ × V}{r:List (κ × V)}{k : κ}(e:¬p.1=k):An (p::r) k=An r k:=by simp[An,Ny,e]
theorem Dw(k : κ):∀kvs:List (κ × V),(kvs.any λkv=>decide (kv.1=k))=(An kvs k).isSome
 | []=>rfl
 | p::r=>by
  rw[O6];by_cases e:p.1=k
  ·simp only[Cv e,Pu e,Bool.true_or,Pd]
  ·rw[Cw e,Pw e,Bool.false_or];exact Dw k r
theorem Xa7(k j : κ)(y:V):∀kvs:List (κ × V),An (kvs.map λkv=>if kv.1=k then (kv.1,y) else kv) j=(An kvs j).map λx=>if j=k then y else x
 | []=>rfl
 | p::r=>by
  have ih:=Xa7 k j y r;rw[Ly];by_cases h:p.1=k
  ·rw[Pt h];by_cases e:p.1=j
   ·rw[Cv (p:=(p.1,y)) e,Cv e,Nm,Pt (e.symm.trans h)]
   ·rw[Cw (p:=(p.1,y)) e,Cw e,ih]
  ·rw[Ps h];by_cases e:p.1=j
   ·rw[Cv (p:=p) e,Cv e,Nm,Ps (λz=>h (e.trans z))]
   ·rw[Cw (p:=p) e,Cw e,ih]
theorem Xa8(k j : κ)(y:V):∀kvs:List (κ × V),An kvs k=none->An (kvs++[(k,y)]) j=if j=k then some y else An kvs j
 | [],_=>by
  by_cases e:k=j
  ·rw[Pt e.symm];exact Cv (p:=(k,y)) e
  ·rw[Ps (λz=>e z.symm)];exact Cw (p:=(k,y)) e
 | p::r,hn=>by
  rw[O3];have hk:¬p.1=k:=λz=>by rw[Cv z] at hn;cases hn
  rw[Cw hk] at hn;have ih:=Xa8 k j y r hn;by_cases e:p.1=j
  ·rw[Cv e,Cv e,Ps (λz=>hk (e.trans z))]
  ·rw[Cw e,Cw e,ih]
theorem Fx(kvs:List (κ × V))(k j : κ)(y:V):An (A7 kvs k y) j=if j=k then some y else An kvs j:=by
 unfold A7;by_cases a:(kvs.any λkv=>decide (kv.1=k))=true
 ·rw[Pt a,Xa7];rw[Dw] at a;by_cases e:j=k
  ·obtain⟨x,hx⟩:=Nj.mp a;rw[Pt e,e,hx,Nm,Pt rfl]
  ·rw[Ps e];cases An kvs j with
   | none=>rfl
   | some x=>rw[Nm,Ps e]
 ·rw[Ps a];refine Xa8 k j y kvs ?_;rw[Dw] at a;cases q:An kvs k with
  | none=>rfl
  | some x=>rw[q] at a;exact(a rfl).elim
theorem E5(kvs:List (κ × V))(k : κ)(v:V):(A7 kvs k v).length<=kvs.length+1:=by
 unfold A7;split
 ·rw[Lf];omega
 ·rw[Lp,Lv,Nn];omega
theorem Fy{kvs:List (κ × V)}{k : κ}(v:V)(h:An kvs k=none):A7 kvs k v=kvs++[(k,v)]:=by
 unfold A7;rw[Dw,h];exact Ps (by decide)
theorem Cj.isSome_eq{o:Option V}{u:Option Value}(r:Cj o u):o.isSome=u.isSome:=by
 cases o with
 | none=>cases u with
  | none=>rfl
  | some _=>exact(show False from r).elim
 | some _=>cases u with
  | none=>exact(show False from r).elim
  | some _=>rfl
theorem Cj.getD{o:Option V}{u:Option Value}{d:V}{d':Value}(r:Cj o u)(rd:Af d d'):Af (o.getD d) (u.getD d'):=by
 cases o with
 | none=>cases u with
  | none=>exact rd
  | some _=>exact(show False from r).elim
 | some _=>cases u with
  | none=>exact(show False from r).elim
  | some _=>exact r
theorem KV.val{kvs:List (κ × V)}{vs:List (κ × Value)}(r:KV kvs vs)(k : κ):Cj (An kvs k) (valueAt vs k):=by
 unfold KV at r
 induction r with
 | nil=>exact True.intro
 | @cons p q ps qs h t ih=>
  obtain⟨h1,h2⟩:=h;by_cases e:p.1=k
  ·have e':q.1=k:=h1.symm.trans e;have b:valueAt (q::qs) k=some q.2:=by simp[valueAt,Ny,e']
   rw[Cv e,b];exact h2
  ·have e':¬q.1=k:=λz=>e (h1.trans z);have b:valueAt (q::qs) k=valueAt qs k:=by simp[valueAt,Ny,e']
   rw[Cw e,b];exact ih
theorem KV.any{kvs:List (κ × V)}{vs:List (κ × Value)}(r:KV kvs vs)(k : κ):(kvs.any λkv=>decide (kv.1=k))=vs.any λkv=>decide (kv.1=k):=by
 unfold KV at r
 induction r with
 | nil=>rfl
 | cons h t ih=>rw[O6,O6,ih,h.1]
theorem KV.repl{kvs:List (κ × V)}{vs:List (κ × Value)}(r:KV kvs vs)(k : κ){y:V}{u:Value}(ry:Af y u):
  KV (kvs.map λkv=>if kv.1=k then (kv.1,y) else kv) (vs.map λkv=>if kv.1=k then (kv.1,u) else kv):=by
 unfold KV at r ⊢
 induction r with
 | nil=>exact .nil
 | @cons p q ps qs h t ih=>
  rw[Ly,Ly];refine .cons ?_ ih;obtain⟨h1,h2⟩:=h;by_cases e:p.1=k
  ·rw[Pt e,Pt (h1.symm.trans e)];exact⟨h1,ry⟩
  ·rw[Ps e,Ps (λz=>e (h1.trans z))];exact⟨h1,h2⟩
theorem KV.put{kvs:List (κ × V)}{vs:List (κ × Value)}(r:KV kvs vs)(k : κ){y:V}{u:Value}(ry:Af y u):KV (A7 kvs k y) (stored vs k u):=by
 unfold A7 stored;rw[r.any k];by_cases e:(vs.any λkv=>decide (kv.1=k))=true
 ·rw[Pt e,Pt e];exact r.repl k ry
 ·rw[Ps e,Ps e];exact Paired.snoc r ⟨rfl,ry⟩
theorem KV.keys{kvs:List (κ × V)}{vs:List (κ × Value)}(r:KV kvs vs):kvs.map (·.1)=vs.map (·.1):=by
 unfold KV at r
 induction r with
 | nil=>rfl
 | cons h t ih=>rw[Ly,Ly,ih,h.1]
theorem KV.length{kvs:List (κ × V)}{vs:List (κ × Value)}(r:KV kvs vs):kvs.length=vs.length:=Paired.length r
end
theorem Dx{P:Program}{w:World}{k:Key}{u:Value}(r:Af (kV k) u):(Au P w).is k u=true:=by
 cases k with
 | inl i=>obtain⟨t,e⟩:=(show ∃t,u=Value.int i t from r);subst e;exact Xfu P w i t
 | inr x=>obtain⟨t,e⟩:=(show ∃t,u=Value.str x t from r);subst e;exact Xfv P w x t
theorem Xa9{P:Program}{w:World}:∀{ks:List Key} {us:List Value},Vals (ks.map kV) us->ItemsAre (Au P w) ks us
 | [],_,r=>by rw[Op] at r;cases r;exact .nil
 | k::ks,_,r=>by
  rw[Ly] at r;cases r with
  | cons h t=>exact .cons (Dx h) (Xa9 t)
abbrev KT (H:Hp):List (List Key×V)->List (List Key×Addr×Value)->Prop:=Paired λp q=>p.1=q.1/\H q.2.1=some (.tup (p.1.map kV))/\Af p.2 q.2.2
theorem KT.val{H:Hp}{kvs:List (List Key×V)}{xs:List (List Key×Addr×Value)}(r:KT H kvs xs)(k:List Key):Cj (An kvs k) ((atKey xs k).map (·.2)):=by
 induction r with
 | nil=>exact True.intro
 | @cons p q ps qs h t ih=>
  obtain⟨h1,_,h2⟩:=h;by_cases e:p.1=k
  ·have e':q.1=k:=h1.symm.trans e;have b:atKey (q::qs) k=some q.2:=by simp[atKey,Ny,e']
   rw[Cv e,b];exact h2
  ·have e':¬q.1=k:=λz=>e (h1.trans z);have b:atKey (q::qs) k=atKey qs k:=by simp[atKey,Ny,e']
   rw[Cw e,b];exact ih
theorem KT.repl{H:Hp}{kvs:List (List Key×V)}{xs:List (List Key×Addr×Value)}(r:KT H kvs xs)(k:List Key){y:V}{u:Value}(ry:Af y u):
  KT H (kvs.map λkv=>if kv.1=k then (kv.1,y) else kv) (xs.map (putAt k u)):=by
 induction r with
 | nil=>exact .nil
 | @cons p q ps qs h t ih=>
  rw[Ly,Ly];refine .cons ?_ ih;obtain⟨h1,h2,h3⟩:=h;unfold putAt;by_cases e:p.1=k
  ·rw[Pt e,Pt (h1.symm.trans e)];exact⟨h1,h2,ry⟩
  ·rw[Ps e,Ps (λz=>e (h1.trans z))];exact⟨h1,h2,h3⟩
theorem KT.put{H:Hp}{kvs:List (List Key×V)}{xs:List (List Key×Addr×Value)}(r:KT H kvs xs)(k:List Key){b:Addr}{y:V}{u:Value}(hb:H b=some (.tup (k.map kV)))(ry:Af y u):
  KT H (A7 kvs k y) (storedH xs k b u):=by
 have e:(kvs.any λkv=>decide (kv.1=k))=(atKey xs k).isSome:=by
  rw[Dw,(r.val k).isSome_eq,Ph]
 unfold A7 storedH;rw[e];by_cases q:(atKey xs k).isSome=true
 ·rw[Pt q,Pt q];exact r.repl k ry
 ·rw[Ps q,Ps q];exact Paired.snoc r ⟨rfl,hb,ry⟩
theorem KT.keeps{H H':Hp}{kvs:List (List Key×V)}{xs:List (List Key×Addr×Value)}(r:KT H kvs xs)(ht:∀b ys,H b=some (.tup ys)->H' b=some (.tup ys)):KT H' kvs xs:=
 Paired.mapP r λ_ _ z=>⟨z.1,ht _ _ z.2.1,z.2.2⟩
section
variable {P:Program}{w:World}{H:Hp}{h:Heap}{a:Addr}
theorem Xba{u:HO}(ok:HOk P w H h)(e:Rd H a u):A5 P w H h a u:=e.ok ok
theorem Dy{kvs:List (Key×V)}(ok:HOk P w H h)(e:Rd H a (.dK kvs)):kvs.length<=sizeLine/\(a==sysModules)=false/\∃vs,KV kvs vs/\h.DictOf (Au P w) a vs:=
 show A5 P w H h a (.dK kvs) from Xba ok e
theorem Xbb{kvs:List (Key×V)}(ok:HOk P w H h)(e:H a=some (.dK kvs)):kvs.length<=sizeLine/\(a==sysModules)=false/\∃vs,KV kvs vs/\h.DictOf (Au P w) a vs:=Dy ok (.inl e)
theorem Eh{ks:List Key}(ok:HOk P w H h)(e:H a=some (.tup (ks.map kV))):(tupleKind (Au P w)).is h ks a:=by
 obtain⟨_,its,r,o,h1,h2,n,h3⟩:=(show A5 P w H h a (.tup (ks.map kV)) from ok a _ e);exact⟨o,its.toArray,n,h1,h2,h3,by simpa using Xa9 r⟩
theorem Ei{kvs:List (List Key×V)}(ok:HOk P w H h)(e:Rd H a (.dT kvs)):kvs.length<=sizeLine/\(a==sysModules)=false /\
  ∃xs,KT H kvs xs/\h.DictOfH (tupleKind (Au P w)) a xs:=by
 obtain⟨z,y,xs,r,o,es,ep,h1,h2,h3,h4,h5⟩:=(show A5 P w H h a (.dT kvs) from Xba ok e);refine⟨z,y,xs,r,o,es,ep,h1,h2,h3,h4,λx hx=>?_,h5⟩;have all:∀{l:List (List Key×V)} {m:List (List Key×Addr×Value)},KT H l m->∀x∈m,(tupleKind (Au P w)).is h x.1 x.2.1:=by
  intro l m q
  induction q with
  | nil=>intro x hx;exact nomatch hx
  | @cons p q ps qs hq t ih=>
   intro x hx;rcases Lo.mp hx with e | hx
   ·subst e;exact Eh ok (by rw[<-hq.1];exact hq.2.1)
   ·exact ih x hx
 exact all r x hx
theorem Xg6{kvs:List (List Key×V)}(ok:HOk P w H h)(e:H a=some (.dT kvs)):kvs.length<=sizeLine/\(a==sysModules)=false /\
  ∃xs,KT H kvs xs/\h.DictOfH (tupleKind (Au P w)) a xs:=Ei ok (.inl e)
end
def DGet (H:Hp) (a:Addr) (y:V) (r:Option V):Prop:=
 (∃kvs k,Rd H a (.dK kvs)/\y=kV k/\r=An kvs k) \/ ∃kvs k b,Rd H a (.dT kvs)/\y = .ref b/\H b=some (.tup (k.map kV))/\r=An kvs k
def DPut (H:Hp) (a:Addr) (y v:V) (H':Hp):Prop:=
 (∃kvs k,H a=some (.dK kvs)/\y=kV k/\kvs.length<sizeLine/\H'=upd H a (.dK (A7 kvs k v))) \/
 ∃kvs k b,H a=some (.dT kvs)/\y = .ref b/\H b=some (.tup (k.map kV))/\kvs.length<sizeLine/\H'=upd H a (.dT (A7 kvs k v))
theorem DGet.k{H:Hp}{a:Addr}{kvs:List (Key×V)}{k:Key}(e:H a=some (.dK kvs)):DGet H a (kV k) (An kvs k):=.inl ⟨kvs,k,.inl e,rfl,rfl⟩
theorem DPut.k{H:Hp}{a:Addr}{kvs:List (Key×V)}{k:Key}{v:V}(e:H a=some (.dK kvs))(hl:kvs.length<sizeLine):DPut H a (kV k) v (upd H a (.dK (A7 kvs k v))):=.inl ⟨kvs,k,e,rfl,hl,rfl⟩
section
variable {X:Cx}{pins:List (Addr×Obj)}{σ:St}{H:Hp}{s:Shared}{a:Addr}{y v:V}{u r:Value}{o:Option V}{A:Around}{E:Value->Shared->Prop}
theorem Inv.big(I:Inv X pins σ H s):sysModules<s.heap.objs.size:=by
 have h:mainGlobals<s.heap.objs.size:=(I.mod.glob.keeps I.bk).lt;exact N3 (by decide) h
theorem d_getItem{Q:Value->Shared->Prop}(hu:A.units+1<cLine)(I:Inv X pins σ H s)(g:DGet H a y (some v))(ry:Af y u)(h:∀w' s',Inv X pins σ H s'->Af v w'->Q w' s'):
  wpAny (model X.prog X.w) A (getItem (.ref a) u) Q E s:=by
 rcases g with ⟨kvs,k,e,ey,l⟩ | ⟨kvs,k,b,e,ey,eb,l⟩
 ·subst ey;obtain⟨z,hd,vs,rel,dd⟩:=Dy I.hok e;obtain⟨w',hw,rw'⟩:=Cj.some_of (v:=v) (o:=valueAt vs k) (by rw[l];exact rel.val k);exact wpAny_getItem_of (Dx ry) dd.mapOf hw (h w' _ (I.tok _) rw')
 ·subst ey;cases (show u=Value.ref b from ry);obtain⟨z,hd,xs,rel,dd⟩:=Ei I.hok e;obtain⟨w',hw,rw'⟩:=Cj.some_of (v:=v) (o:=(atKey xs k).map (·.2)) (by rw[l];exact rel.val k);obtain⟨p,hp,hp2⟩:=Option.map_eq_some_iff.mp hw;refine wpAny_getItem_heap (tupleKind_room_in1 hu) (Eh I.hok eb) dd hp ?_;rw[hp2];exact h w' _ (I.tok _) rw'
theorem d_in{Q:Value->Shared->Prop}(hu:A.units+1<cLine)(I:Inv X pins σ H s)(g:DGet H a y o)(ry:Af y u)(h:∀s',Inv X pins σ H s'->Q (.bool o.isSome) s'):
  wpAny (model X.prog X.w) A (compareOp .In u (.ref a)) Q E s:=by
 rcases g with ⟨kvs,k,e,ey,l⟩ | ⟨kvs,k,b,e,ey,eb,l⟩
 ·subst ey;obtain⟨z,hd,vs,rel,dd⟩:=Dy I.hok e;refine wpAny_in_of (Dx ry) hd dd.mapOf ?_;rw[<-(rel.val k).isSome_eq,<-l];exact h _ (I.tok _)
 ·subst ey;cases (show u=Value.ref b from ry);obtain⟨z,hd,xs,rel,dd⟩:=Ei I.hok e;refine wpAny_in_heap (tupleKind_room_in1 hu) (Eh I.hok eb) hd dd ?_;have q:=(rel.val k).isSome_eq;rw[Ph] at q;rw[<-q,<-l];exact h _ (I.tok _)
theorem Xg7{Q:Value->Shared->Prop}(hu:A.units+1<cLine)(I:Inv X pins σ H s)(g:DGet H a y o)(ry:Af y u)(h:∀s',Inv X pins σ H s'->Q (.bool (!o.isSome)) s'):
  wpAny (model X.prog X.w) A (compareOp .NotIn u (.ref a)) Q E s:=by
 rcases g with ⟨kvs,k,e,ey,l⟩ | ⟨kvs,k,b,e,ey,eb,l⟩
 ·subst ey;obtain⟨z,hd,vs,rel,dd⟩:=Dy I.hok e;refine wpAny_notIn_of (Dx ry) hd dd.mapOf ?_;rw[<-(rel.val k).isSome_eq,<-l];exact h _ (I.tok _)
 ·subst ey;cases (show u=Value.ref b from ry);obtain⟨z,hd,xs,rel,dd⟩:=Ei I.hok e;refine wpAny_notIn_heap (tupleKind_room_in1 hu) (Eh I.hok eb) hd dd ?_;have q:=(rel.val k).isSome_eq;rw[Ph] at q;rw[<-q,<-l];exact h _ (I.tok _)
theorem Ix{h':Heap}{t':Nat}{ob:HO}(I:Inv X pins σ H s)(mu:Mut (H a))(hs:Heap.SameBut a s.heap h')(he:∃q,h'.get? a=some q)(new:A5 X.prog X.w (upd H a ob) h' a ob):
  Inv X pins σ (upd H a ob) {s with heap:=h',toks:=t'}:=
 I.write (x:=a) (e:=a) mu (.inl rfl) (λb q hb z=>(hs.2 b hb).trans z) he new
theorem Xbc{P:Program}{w:World}{H':Hp}{h':Heap}{kvs:List (Key×V)}{vs:List (Key×Value)}(z:kvs.length<=sizeLine)(hd:(a==sysModules)=false)(rel:KV kvs vs)(dd:h'.DictOf (Au P w) a vs):
  A5 P w H' h' a (.dK kvs):=⟨z,hd,vs,rel,dd⟩
theorem Xg8{H':Hp}{Q:Unit->Shared->Prop}(hu:A.units+1<cLine)(I:Inv X pins σ H s)(g:DPut H a y v H')(ry:Af y u)(rv:Af v r)(h:∀s',Inv X pins σ H' s'->Q () s'):
  wpAny (model X.prog X.w) A (setItem (.ref a) u r) Q E s:=by
 rcases g with ⟨kvs,k,e,ey,l,eH⟩ | ⟨kvs,k,b,e,ey,eb,l,eH⟩
 ·subst ey eH;obtain⟨z,hd,vs,rel,dd⟩:=Xbb I.hok e;have hz:vs.length<=sizeLine:=by rw[<-rel.length];exact z
  have hl:(A7 kvs k v).length<=sizeLine:=by have:=E5 kvs k v;omega
  refine wpAny_setItem_pairs (hsz:=hz) (Dx ry) dd λh' dd' hs=>h _ ?_;have he:∃q,h'.get? a=some q:=let ⟨q,_,_,hq,_⟩:=dd'; ⟨q,hq⟩;exact Ix I (by rw[e];exact True.intro) hs he (Xbc hl hd (rel.put k rv) dd')
 ·subst ey eH;cases (show u=Value.ref b from ry);obtain⟨z,hd,xs,rel,dd⟩:=Xg6 I.hok e;have hz:xs.length<=sizeLine:=by rw[<-Paired.length rel];exact z
  have hl:(A7 kvs k v).length<=sizeLine:=by have:=E5 kvs k v;omega
  refine wpAny_setItem_heap (hsz:=hz) (tupleKind_room_in1 hu) (Eh I.hok eb) dd λh' dd' hs=>h _ ?_;obtain⟨q,es,ep,hq,h2,h3,h4,_,h5⟩:=dd';refine Ix I (by rw[e];exact True.intro) hs ⟨q,hq⟩ ⟨hl,hd,_,(rel.put k eb rv).keeps λc ys ec=>?_,q,es,ep,hq,h2,h3,h4,h5⟩;rw[Ac (Xaa ec e (λz=>nomatch z))];exact ec
end
section
variable {X:Cx}{pins:List (Addr×Obj)}{σ:St}{H:Hp}{s:Shared}{a:Addr}{kvs:List (Key×V)}{k:Key}{u:Value}{A:Around}{E:Value->Shared->Prop}
end
def Xbd (i:Expr):Prop:=∀ov iv,subscripted i false ov iv=operate [ov,iv] (getItem ov iv)
theorem Xg9{prog:Program}{w:World}{A:Around}{E:Value->Shared->Prop}{s:Shared}{env:Env}{value slice:Expr}{pos:Pos}{T id:String}{Q:Value->Shared->Prop}
  (hl:typeLookup (.type T) "__getitem__" = pure (some (.builtin id))) (hs:Xbd slice)
  (h:wpAny (model prog w) A (eval value env) (λo s₁=>wpAny (model prog w) A (eval slice env) (λi s₂=>s₂.TypeIs o T/\wpAny (model prog w) A (getItem o i) Q E s₂) E s₁) E s):
  wpAny (model prog w) A (eval (.Subscript value slice pos) env) Q E s:=by
 refine Subscript_ (wpAny_mono h (λo s₁ h₁=>wpAny_mono h₁ (λi s₂ h₂=>?_) λ_ _ x=>x) λ_ _ x=>x);obtain⟨hT,h₂⟩:=h₂;unfold subscriptTail;refine Pp ?_;rw[getitemInPython_of_ne hT.not_modules];refine Pp (wpAny_specialOf hT hl ?_);have fin:wpAny (model prog w) A (subscripted slice false o i) (λr s₃=>wpAny (model prog w) A (letTemporaryGo value o r >>= λ_=>pure r) Q E s₃) E s₂:=by
  rw[hs o i];exact wpAny_operating (wpAny_mono h₂ (λr s₃ h₃=>Pp (wpAny_letTemporaryGo (Pq h₃))) λ_ _ x=>x)
 first
  | exact Pq (Pp fin)
  | exact Pp (Pq (Pp fin))
  | exact Pp fin
theorem Xha{X:Cx}{pins:List (Addr×Obj)}{σ:St}{H:Hp}{s:Shared}{a:Addr}{y:V}{o:Option V}(I:Inv X pins σ H s)(g:DGet H a y o):s.TypeIs (.ref a) "dict" := by
 rcases g with ⟨kvs,k,e,_,_⟩ | ⟨kvs,k,b,e,_,_,_⟩
 ·obtain⟨_,_,vs,_,dd⟩:=Dy I.hok e;exact dd.typeIs
 ·obtain⟨_,_,xs,_,dd⟩:=Ei I.hok e;exact dd.typeIs
def Xhb (td ty:TE):TE:=fun σ H Q=>td σ H λx H1=>ty σ H1 λy H2=>∃a v,x = .ref a/\DGet H2 a y (some v)/\Q v H2
def tDIn (ty td:TE):TE:=fun σ H Q=>ty σ H λy H1=>td σ H1 λx H2=>∃a o,x = .ref a/\DGet H2 a y o/\Q (.bl o.isSome) H2
def Xhc (ty td:TE):TE:=fun σ H Q=>ty σ H λy H1=>td σ H1 λx H2=>∃a o,x = .ref a/\DGet H2 a y o/\Q (.bl (!o.isSome)) H2
def Xhd (td ty tv:TE):TS:=λD σ H=>tv σ H λv H1=>td σ H1 λx H2=>ty σ H2 λy H3=>∃a H4,x = .ref a/\DPut H3 a y v H4/\D.nx σ H4
def sDAug (td ty tv:TE) (rd:V->V->Hp->VK->Prop):TS:=λD σ H=>td σ H λx H1=>ty σ H1 λy H2=>∃a v,x = .ref a/\DGet H2 a y (some v) /\
 tv σ H2 λy2 H3=>rd v y2 H3 λz H4=>∃H5,DPut H4 a y z H5/\D.nx σ H5
def sDDel (td ty:TE):TS:=λD σ H=>td σ H λx H1=>ty σ H1 λy H2=>∃a kvs k,x = .ref a/\H2 a=some (.dK kvs)/\y=kV k/\(An kvs k).isSome=true/\D.nx σ (upd H2 a (.dK (Xa6 kvs k)))
section
variable {X:Cx}{o i e value:Expr}{pos pos' tpos:Pos}{td ty tv:TE}
theorem B2(hu:X.A.units+1<cLine)(ho:PE X o td)(hi:PE X i ty)(hs:Xbd i):PE X (.Subscript o i pos) (Xhb td ty):=by
 intro pins s σ H Q I h;refine Xg9 PySem.F.slot_dict_getitem.lookup hs (thn (ho pins s σ H _ I h) λu s1 ⟨x,H1,I1,rx,q1⟩=>thn (hi pins s1 σ H1 _ I1 q1) λiv s2 ⟨y,H2,I2,ry,a,v,ex,g,q2⟩=>?_);subst ex;obtain rfl:u=Value.ref a:=rx;exact⟨Xha I2 g,d_getItem hu I2 g ry λw' s3 I3 rw'=>⟨v,H2,I3,rw',q2⟩⟩
theorem Xhe(hu:X.A.units+1<cLine)(hi:PE X i ty)(ho:PE X o td):PC X .In i o (tDIn ty td):=by
 intro pins s σ H Q I h;refine thn (hi pins s σ H _ I h) λiv s1 ⟨y,H1,I1,ry,q1⟩=>thn (ho pins s1 σ H1 _ I1 q1) λu s2 ⟨x,H2,I2,rx,a,ov,ex,g,q2⟩=>?_;subst ex;obtain rfl:u=Value.ref a:=rx;exact d_in hu I2 g ry λs3 I3=>⟨.bl ov.isSome,H2,I3,rfl,q2⟩
theorem Xbe(hu:X.A.units+1<cLine)(hi:PE X i ty)(ho:PE X o td):PC X .NotIn i o (Xhc ty td):=by
 intro pins s σ H Q I h;refine thn (hi pins s σ H _ I h) λiv s1 ⟨y,H1,I1,ry,q1⟩=>thn (ho pins s1 σ H1 _ I1 q1) λu s2 ⟨x,H2,I2,rx,a,ov,ex,g,q2⟩=>?_;subst ex;obtain rfl:u=Value.ref a:=rx;exact Xg7 hu I2 g ry λs3 I3=>⟨.bl (!ov.isSome),H2,I3,rfl,q2⟩
theorem Xhf(hu:X.A.units+1<cLine)(ho:PE X o td)(hi:PE X i ty)(hv:PE X value tv)(hs:swapsWith value (some (.Subscript o i pos')) pos.line X.env=pure false):
  PS X (.Assign [.Subscript o i pos'] value pos) (Xhd td ty tv):=by
 intro pins s σ H D I h;refine wpAny_Assign_Subscript (thn (hv pins s σ H _ I h) λr s1 ⟨v,H1,I1,rv,q1⟩=>thn (ho pins s1 σ H1 _ I1 q1) λu s2 ⟨x,H2,I2,rx,q2⟩=>thn (hi pins s2 σ H2 _ I2 q2) λiv s3 ⟨y,H3,I3,ry,a,H4,ex,g,q3⟩=>?_) hs;subst ex;obtain rfl:u=Value.ref a:=rx;exact Xg8 hu I3 g ry rv λs4 I4=>⟨σ,H4,I4,q3⟩
end
theorem Xbf{P:Program}{w:World}{H:Hp}(h:Heap)(hb:sysModules<h.objs.size):A5 P w H (h.push {cls:=.type "dict",data:=.dict #[]}) h.objs.size (.dK []):=
 ⟨Mf _,beq_eq_false_iff_ne.mpr (Ne.symm (Ll hb)),[],.nil,Heap.DictOf.new h⟩
def Xhg:TE:=λ_ H Q=>∀p,H p=none->Q (.ref p) (upd H p (.dK []))
section
variable {X:Cx}{pos:Pos}
theorem Xhh:PE X (.Dict [] [] pos) Xhg:=λpins s σ H Q I h=>
 wpAny_Dict_empty ⟨.ref s.heap.objs.size,_,I.laid (a:=s.heap.objs.size) (o:=.dK []) (t':=s.toks) (λ_ _ q=>P0 _ q) (Li _) (Xbf s.heap I.big),rfl,h _ (I.hok.fresh (Li _))⟩
end
def Xbg:List (TE×TE)->St->Hp->(List (V×V)->Hp->Prop)->Prop
 | [],_,H,Q=>Q [] H
 | (tk,tv)::r, σ,H,Q=>tk σ H λx H1=>tv σ H1 λy H2=>Xbg r σ H2 λps H3=>Q ((x,y)::ps) H3
def Xhi (kvs more:List (Key×V)):List (Key×V):=more.foldl (λacc kv=>A7 acc kv.1 kv.2) kvs
def tDisp (trs:List (TE×TE)):TE:=fun σ H Q=>∀p,H p=none->Xbg trs σ (upd H p (.dK [])) λps H2=>H2 p=some (.dK [])/\∃kvs:List (Key×V),ps=kvs.map (λkv=>(kV kv.1,kv.2))/\kvs.length<=15/\Q (.ref p) (upd H2 p (.dK (Xhi [] kvs)))
structure M1 (X:Cx) (o:Expr) (m:Str) (apos:Pos) (e:Expr) (cpos:Pos):Prop where
 base:attributeBase o m X.env (eval o X.env)=eval o X.env
 few:((backTo cpos (starEach [e] X.env)).all (λx => !x.1)&&(backToKw cpos (keywordEach [] X.env)).all (λx=>x.1.isSome)
  && decide (([e]:List Expr).length+([]:List Keyword).length+(if ([]:List Keyword).isEmpty then 0 else 1)<30))=true
 line:(apos.endLine==cpos.line)=true
 trees:backTo cpos (starEach [e] X.env)=[(false,eval e X.env)]
structure M2 (X:Cx) (o:Expr) (m:Str) (apos:Pos) (e f:Expr) (cpos:Pos):Prop where
 base:attributeBase o m X.env (eval o X.env)=eval o X.env
 few:((backTo cpos (starEach [e,f] X.env)).all (λx => !x.1)&&(backToKw cpos (keywordEach [] X.env)).all (λx=>x.1.isSome)
  && decide (([e,f]:List Expr).length+([]:List Keyword).length+(if ([]:List Keyword).isEmpty then 0 else 1)<30))=true
 line:(apos.endLine==cpos.line)=true
 trees:backTo cpos (starEach [e,f] X.env)=[(false,eval e X.env),(false,eval f X.env)]
def IsD (H:Hp) (a:Addr):Prop:=(∃kvs,Rd H a (.dK kvs)) \/ ∃kvs,Rd H a (.dT kvs)
theorem Xhj{X:Cx}{pins:List (Addr×Obj)}{σ:St}{H:Hp}{s:Shared}{a:Addr}(I:Inv X pins σ H s)(d:IsD H a):
  s.TypeIs (.ref a) "dict" /\ (∀b,Value.ref a = .ref b->∃ob,s.heap.get? b=some ob/\ob.dict=none)/\(a==sysModules)=false:=by
 rcases d with ⟨kvs,e⟩ | ⟨kvs,e⟩
 ·obtain⟨_,hd,vs,_,dd⟩:=Dy I.hok e;refine⟨dd.typeIs,λb q=>?_,hd⟩;cases q;obtain⟨ob,_,_,h1,h2,_⟩:=dd;exact⟨ob,h1,h2.2.1⟩
 ·obtain⟨_,hd,xs,_,dd⟩:=Ei I.hok e;refine⟨dd.typeIs,λb q=>?_,hd⟩;cases q;obtain⟨ob,_,_,h1,h2,_⟩:=dd;exact⟨ob,h1,h2.2.1⟩
section
variable {X:Cx}{pins:List (Addr×Obj)}{σ:St}{H:Hp}{s:Shared}{a:Addr}{y d:V}{u r:Value}{o:Option V}{A:Around}{E:Value->Shared->Prop}
theorem Xhk{Q:Value->Shared->Prop}(hu:A.units+1<cLine)(I:Inv X pins σ H s)(g:DGet H a y o)(ry:Af y u)(rd:Af d r)(h:∀w' s',Inv X pins σ H s'->Af (o.getD d) w'->Q w' s'):
  wpAny (model X.prog X.w) A (call (.builtin "dict.get") [.ref a,u,r]) Q E s:=by
 rcases g with ⟨kvs,k,e,ey,l⟩ | ⟨kvs,k,b,e,ey,eb,l⟩
 ·subst ey;obtain⟨z,hd,vs,rel,dd⟩:=Dy I.hok e;refine call_meetsIn PySem.F.slot_dict_get dd.typeIs PySem.F.entry_dict_get (PySem.F.args_dict_get_3 _ _ _) (meets_dict_get_default (Au X.prog X.w) a (Dx ry) hd r) ⟨_,dd.mapOf,h _ _ (I.tok _) ?_⟩;rw[l];exact(rel.val k).getD rd
 ·subst ey;cases (show u=Value.ref b from ry);obtain⟨z,hd,xs,rel,dd⟩:=Ei I.hok e;refine call_meetsIn PySem.F.slot_dict_get dd.typeIs PySem.F.entry_dict_get (PySem.F.args_dict_get_3 _ _ _) (meetsH_dict_get_default (tupleKind (Au X.prog X.w)) a b hd r) ⟨tupleKind_room_in1 hu,k,xs,Eh I.hok eb,dd,h _ _ (I.tok _) ?_⟩;rw[l];exact(rel.val k).getD rd
end
def Xhl (td ty tx:TE):TE:=fun σ H Q=>td σ H λx H1=>∃a,x = .ref a/\IsD H1 a/\ty σ H1 λy H2=>tx σ H2 λz H3=>∃o,DGet H3 a y o/\Q (o.getD z) H3
def Xoz (td ty:TE):TE:=fun σ H Q=>td σ H λx H1=>∃a,x = .ref a/\IsD H1 a/\ty σ H1 λy H2=>∃kvs k v,H2 a=some (.dK kvs)/\y=kV k/\An kvs k=some v/\Q v (upd H2 a (.dK (Xa6 kvs k)))
section
variable {X:Cx}{o e f:Expr}{apos cpos:Pos}{td ty tx:TE}
theorem Xhm(hu:X.A.units+1<cLine)(ho:PE X o td)(he:PE X e ty)(hf:PE X f tx)(m:M2 X o "get" apos e f cpos):PE X (.Call (.Attribute o "get" apos) [e,f] [] cpos) (Xhl td ty tx):=by
 intro pins s σ H Q I h;refine wpAny_Call_method m.base m.few m.line PySem.F.plainAttrs_dict PySem.F.slot_dict_get PySem.F.type_dict_get (thn (ho pins s σ H _ I h) λu s1 ⟨x,H1,I1,rx,a,ex,d,q1⟩=>?_);subst ex;obtain rfl:u=Value.ref a:=rx;obtain⟨t1,t2,_⟩:=Xhj I1 d;refine⟨t1,t2,?_⟩;rw[m.trees];refine Calls.callWith_builtin rfl (Calls.evalArgs_plain (Calls.spliced_cons (thn (he pins s1 σ H1 _ I1 q1) λiv s2 ⟨y,H2,I2,ry,q2⟩=>
  Calls.spliced_cons (thn (hf pins s2 σ H2 _ I2 q2) λfv s3 ⟨z,H3,I3,rz,ov,g,q3⟩=>Calls.spliced_nil ?_))))
 exact Xhk hu I3 g ry rz λw' s4 I4 rw'=>⟨_,H3,I4,rw',q3⟩
end
section
variable {X:Cx}{pins:List (Addr×Obj)}{σ:St}{H:Hp}{s:Shared}{a:Addr}{kvs:List (Key×V)}{A:Around}{E:Value->Shared->Prop}
end
section
variable {X:Cx}{pins:List (Addr×Obj)}{σ:St}{H:Hp}{s:Shared}{a:Addr}{y:V}{u:Value}{A:Around}{E:Value->Shared->Prop}
end
end L2
namespace Att
open PySem PySem.W PySem.Calls PyProof.Rows
theorem Xhn{P:Params}{h:Heap}:∀(ns:List Int) (vs:List Value),WellAll P h vs (ns.map WData.int)->IntsAre vs ns:=by
 intro ns
 induction ns with
 | nil=>
  intro vs w;rw[Op] at w;cases w;exact .nil
 | cons n ns ih=>
  intro vs w;rw[Ly] at w;cases w with
  | cons a b=>
   cases a;exact .cons _ _ (ih _ b)
theorem Xho{l:OpenLaw}{n:Nat}(hn:l.most=some n){P:Params}{h:Heap}{args:List WData}{vals:List Value}
  (hpre:l.row.toRowW.claim.pre args=true) (hwl:WellAll P h vals args):
  ∃a vs ns,vals=[Value.ref a]/\args=[WData.list (ns.map WData.int)]/\h.get? a=some {cls:=.type "list",data:=.seq vs.toArray}/\IntsAre vs ns/\ns.length<=n:=by
 have hsh:WShape.hasAll [] args [.list .int]=true:=(pre_splitW hpre).1;have hc:l.pre.holds [] {args:=args}=true:=(pre_splitW hpre).2;obtain⟨d,r,rfl,h1,h2⟩:=hasAllW_cons hsh;obtain rfl:=hasAllW_nil h2;obtain⟨xs,rfl,h3⟩:=hasW_list h1;obtain⟨ns,rfl⟩:=items_int h3;have hlen:ns.length<=n:=by
  unfold OpenLaw.pre at hc;have h4:(WTm.not (.lt (.lit (.int (n:Int))) (.len (.arg 0)))).holds [] {args:=[.list (ns.map .int)]}=true:=by
   have h4:=(holds_andW hc).1;rw[hn] at h4;exact h4
  have h5:=condW_of h4 (w_not (w_lt w_lit (w_len_list (w_arg rfl))));rw[Lf] at h5;refine Nat.le_of_not_lt λq=>?_;have q':(n:Int)<((ns.length:Nat):Int):=by omega
  first
   | (rw[Pu q'] at h5;exact absurd h5 (by decide))
   | (simp at h5;omega)
 cases hwl with
 | cons w1 w2=>
  cases w2;cases w1 with
  | list ho hall=>exact⟨_,_,ns,rfl,rfl,ho,Xhn ns _ hall,hlen⟩
theorem Xhp(l:OpenLaw)(args:List WData):l.row.toRowW.claim.post args (.bool true) args=true:=
 postW_of (r:=l.row.toRowW) (X:=(true==true))
  (show WShape.has [] (.bool true) .bool=true by first | rfl | decide | simp[WShape.has,WShape.arms,WShape.armsAll])
  (show (WTm.eq .res (.lit (.bool true))).value [] {args:=args,res:=some (.bool true),after:=args}=some (.bool (true==true)) from w_eq_bool (w_res rfl) w_lit) rfl
theorem attach_call{l:OpenLaw}{n:Nat}{q:Program}{loose:List Str}{XP:(Str->Option Value)->Heap->Prop}{YP:World->Heap->Prop}{d:DefRec}
  (hn:l.most=some n) (hdf:d.params.defaults=[])
  (call:∀(w:World) (s₀ s₁ : Shared) (mg mb:Str->Option Value) (fa:Addr) (o:Obj) (pm cd doc:Value) (a:Addr) (vs:List Value) (ns:List Int),
   Ground q loose [] XP w s₀ mg mb s₁.heap->YP w s₁.heap ->
   s₁.heap.get? fa=some o->o.data = .func (docDef d.name d.params d.body d.scope pm cd doc)->s₁.heap.CodeRec cd d.name->mg d.name=some (.ref fa) ->
   s₁.heap.get? a=some {cls:=.type "list",data:=.seq vs.toArray}->IntsAre vs ns->ns.length<=n->s₁.gens = #[] ->
   codeAny (model l.prog w) callerA (.call (.ref fa) ⟨[.ref a],[]⟩) (λr s'=>r = .ok (.ret (.bool true))/\OldK s₁.heap s'.heap/\s'.os=s₁.os/\AllBare s'.gens) s₁):
  WalkO q loose XP YP l.row.toRowW d [] (λf vs=>PySem.call f vs):=by
 intro w s₀ s₁ mg mb G Y fa o pm cd doc dV kV ho hd hcd hD hmg hg args vals as hpre hlay hrd hwl hlo;obtain rfl:dV = .none:=Dflts.none hD hdf;obtain rfl:kV = .none:=Dflts.noKw hD;obtain⟨a,vs,ns,rfl,rfl,hobj,hints,hlen⟩:=Xho hn hpre hwl;refine enter_call (codeAny_mono (call w s₀ s₁ mg mb fa o pm cd doc a vs ns G Y ho (fd_plain hd) hcd hmg hobj hints hlen hg) λr s' hq=>?_);obtain⟨rfl,h2,h3,h4⟩:=hq;exact⟨.inl ⟨.bool true,.bool true,[],rfl,λ_=>rfl,.bool true,Xhp l _,λ_=>⟨List.Pairwise.nil,λ_ hm=>(nomatch hm)⟩⟩,h2,h3,h4⟩
section
variable {prog:Program}{w:World}{A:Around}{E:Value->Shared->Prop}{s:Shared}{K:Frag}
def ledger (h:Heap) (L d:Addr):List (Addr×Obj):=(List.range h.objs.size).filterMap λa=>if a=L\/a=d then none else (h.get? a).map λo=>(a,o)
end
end Att
namespace L2
open PySem PySem.Spec PyProof.Rows
theorem Xbh:∀{vs:List Value} {ns:List Int},IntsAre vs ns->Vals (ns.map V.int) vs
 | _,_,.nil=>.nil
 | _,_,.cons n t h=>.cons ⟨t,rfl⟩ (Xbh h)
def Only (H:Hp):Prop:=∀b,H b=none \/ ∃o xs,H b=some (.frz o (.lst xs))
abbrev KOf {K:PySem.W.Frag} {h:Heap} (_:K.In h):PySem.W.Frag:=K
def Xo0 (s:Stmt) (j:Nat):Stmt:=match s with
 | .ClassDef _ _ _ body _ _ _ _ _ _ _=>body.getD j (.Pass ⟨0,0,0,0⟩)
 | _=>.Pass ⟨0,0,0,0⟩
def Dh (s:Stmt):Arguments:=match s with
 | .FunctionDef _ a _ _ _ _ _ _ _ _=>a
 | _=>{posonlyargs:=[],args:=[],vararg:=none,kwonlyargs:=[],kw_defaults:=[],kwarg:=none,defaults:=[]}
def Cd (s:Stmt):List Stmt:=match s with
 | .FunctionDef _ _ b _ _ _ _ _ _ _=>b
 | _=>[]
def Ak (s:Stmt):Scope:=match s with
 | .FunctionDef _ _ _ _ _ _ sc _ _ _=>sc
 | _=>{kind:=.function,names:=[],isGenerator:=false,isCoroutine:=false}
abbrev CX0:CXT:=λ_ _ _ _ _ _=>False
abbrev E0:XK:=λ_ _ _=>False
theorem Ar{X:Cx}:Passes CX0 X E0:=λ_ _ _ _ _ _ _ h=>h.elim
structure Fun (K:PySem.W.Frag) (x qual:Str) (st:Stmt) (f:Addr) (fd:FuncData):Prop where
 ex:∃(oc:Value) (od:Option Addr) (kV doc pm:Value) (an:Option Addr) (cdv ct:Value) (osl:Array (Option Value)),
  fd=PySem.W.fnOf x qual (Dh st) (Cd st) (Ak st) .none kV doc pm an cdv ct/\K.lookup f=some ⟨oc,od,.func fd,osl⟩/\PySem.W.codeIn K cdv qual=true
 kp:PySem.W.keepIn K (.ref f)=true
section
variable {P:Program}{w:World}{K:PySem.W.Frag}{mg:Str->Option Value}{base:Heap}
theorem Fun.ok{x qual:Str}{st:Stmt}{f:Addr}{fd:FuncData}{N ps:List Str}{k:Nat}{sp:Sp}(F:Fun K x qual st f fd)(S:FnScope N ps (Ak st))(len:∀vs H Q E,sp vs H Q E->vs.length=ps.length)
  (hbody:∀(cdv:Value) (A:Around) (outer:List Env) (s:Shared) (H:Hp) (vs:List V) (Q:VK) (E:XK),Room k (A.deeper (envOfC qual (Ak st) s.heap.objs.size f cdv))->sp vs H Q E ->
   ∃t,PSs (B6 CX0 P w K mg base N qual (Ak st) f cdv A outer s H E).nox (Cd st) t/\t {nx:=λ_ H'=>Q .non H',rt:=Q} (start N vs) H):FnOk P w K mg base CX0 (k+1) f fd ps sp:=by
 obtain⟨oc,od,kV,doc,pm,an,cdv,ct,osl,rfl,lk,hcd⟩:=F.ex;refine Iq lk hcd S len λA outer s H vs Q E hr hsp=>?_;obtain⟨t,h,q⟩:=hbody cdv A outer s H vs Q E hr hsp;exact⟨t,h.nox,q⟩
theorem Fun.binds{x qual:Str}{st:Stmt}{f:Addr}{fd:FuncData}{ps:List Str}(F:Fun K x qual st f fd)
  (h:∀(kV doc pm:Value) (an:Option Addr) (cdv ct:Value) (us:List Value),us.length=ps.length->bindArgs (PySem.W.fnOf x qual (Dh st) (Cd st) (Ak st) .none kV doc pm an cdv ct) ⟨us,[]⟩=pure (ps.zip us)):Binds K fd ps []:=by
 obtain⟨oc,od,kV,doc,pm,an,cdv,ct,osl,rfl,lk,hcd⟩:=F.ex;exact .all (h kV doc pm an cdv ct)
theorem Xbi{x qual:Str}{st:Stmt}{f:Addr}{oc:Value}{od an:Option Addr}{osl:Array (Option Value)}{kV doc pm cdv ct:Value}(l:K.lookup f=some ⟨oc,od,.func (PySem.W.fnOf x qual (Dh st) (Cd st) (Ak st) .none kV doc pm an cdv ct),osl⟩)
  (c:PySem.W.codeIn K cdv qual=true) (k:PySem.W.keepIn K (.ref f)=true):Fun K x qual st f (PySem.W.fnOf x qual (Dh st) (Cd st) (Ak st) .none kV doc pm an cdv ct):=⟨⟨oc,od,kV,doc,pm,an,cdv,ct,osl,rfl,l,c⟩,k⟩
end
theorem Ej{A:Around}{k:Nat}(hr:Room k A):A.units+1<cLine:=Pe (Nat.add_le_add_left (by decide:1<=64) _) hr.units
section
variable {X:Cx}
theorem pv(i:Nat){x:Str}{pos:Pos}(hN:X.N[i]? = some x:=by rfl)(hv:Vis X.env.scope x:=by first | exact Or.inl rfl | exact Or.inr (Or.inl rfl) | exact Or.inr (Or.inr rfl))(hd:(x==("__debug__" : Str))=false:=by decide)
  (hcd:(x==("__classdict__" : Str))=false:=by decide):PE X (.Name x pos) (Gp i):=Xf0 hN hv hd hcd
end
theorem Ce{A B:Prop}(h:B):if false=true then A else B:=by
 rw[Ps L3];exact h
theorem Di{A B:Prop}(h:A):if true=true then A else B:=by
 rw[Pt rfl];exact h
theorem Xhq{c A B:Prop}[Decidable c](hc:c)(h:B):if (!decide c)=true then A else B:=by
 rw[Pu hc];exact Ce h
def Same (H H':Hp):Prop:=∀b o,H b=some o->H' b=some o
theorem Same.refl(H:Hp):Same H H:=λ_ _ h=>h
theorem Same.trans{H H1 H2:Hp}(a:Same H H1)(b:Same H1 H2):Same H H2:=λc o h=>b c o (a c o h)
theorem Same.free{H H':Hp}(e:Same H H'){l:Addr}(h:H' l=Option.none):H l=Option.none:=by
 cases q:H l with
 | none=>rfl
 | some o=>
  rw[e l o q] at h;cases h
theorem Same.seq{K:PySem.W.Frag}{H H':Hp}{a:Addr}{xs:List V}(e:Same H H')(h:SqL K H a xs):SqL K H' a xs:=by
 rcases h with (h | ⟨o,h⟩) | h
 ·exact .inl (.inl (e _ _ h))
 ·exact .inl (.inr ⟨o,e _ _ h⟩)
 ·exact .inr h
section
variable {X:Cx}
end
section
variable {κ : Type} [DecidableEq κ]
theorem Xhr{kvs:List (κ × V)}{k : κ}(h:An kvs k=none):¬k∈kvs.map (·.1):=by
 intro m;obtain⟨p,hp,e⟩:=Lz.mp m;have q:(kvs.any λkv=>decide (kv.1=k))=true:=Nv.mpr ⟨p,hp,Pu e⟩;rw[Dw,h] at q;exact absurd q (by simp)
theorem Fz{kvs:List (κ × V)}{k : κ}{v:V}(h:An kvs k=some v):k∈kvs.map (·.1):=by
 have q:(kvs.any λkv=>decide (kv.1=k))=true:=by
  rw[Dw,h]
  all_goals rfl
 obtain⟨p,hp,e⟩:=Nv.mp q;exact Lz.mpr ⟨p,hp,Px e⟩
theorem nd_snoc:∀{l:List κ} {k : κ},l.Nodup->¬k∈l->(l++[k]).Nodup
 | [],k,_,_=>by simp
 | a::r,k,h,hk=>by
  obtain⟨h1,h2⟩:=Mn.mp h;show (a::(r++[k])).Nodup;refine Mn.mpr ⟨λm=>?_,nd_snoc h2 λm=>hk (Lo.mpr (Or.inr m))⟩;rcases Lr.mp m with q | q
  ·exact h1 q
  ·exact hk (Lo.mpr (Or.inl (Lk.mp q).symm))
theorem Xhs{kvs:List (κ × V)}{k : κ}(v:V)(hn:(kvs.map (·.1)).Nodup)(h:An kvs k=none):((A7 kvs k v).map (·.1)).Nodup:=by
 rw[Fy v h,Lu];exact nd_snoc hn (Xhr h)
end
def B3 (env:Env):List (Str×NameKind)->List (Str×Addr)->List (Str×Addr)
 | [],cs=>cs
 | (n,k)::r,cs=>if k == .free then B3 env r ((n,(env.cells.lookup n).getD 0)::cs) else B3 env r cs
theorem Iy{env:Env}:∀(names:List (Str×NameKind)) (cs:List (Str×Addr)),(∀x∈names,x.2 = .free->∃c,env.cells.lookup x.1=some c) ->
  (forIn names cs fun (x : Str × NameKind) r => (if (x.2 == .free) = true then do let c <- cellOf env x.1; pure (ForInStep.yield ((x.1, c) :: r)) else pure (ForInStep.yield r) : Sem (ForInStep (List (Str × Addr))))) = pure (B3 env names cs)
 | [],cs,_=>rfl
 | (n,k)::r,cs,h=>by
  rw[O9];cases hk:(k==NameKind.free) with
  | true=>
   have hk':k = .free:=by simpa using hk
   obtain⟨c,hc⟩:=h (n,k) Lj hk';have e1:cellOf env n=pure c:=by unfold cellOf;rw[hc]
   simp only[hk,if_true,e1,pure_bind];rw[Iy r _ λx hx=>h x (Lh _ hx)];show _=pure (if (k==NameKind.free)=true then _ else _);rw[hk,Pt rfl,hc];rfl
  | false=>
   simp only[hk,L8,if_false,pure_bind];rw[Iy r _ λx hx=>h x (Lh _ hx)];show _=pure (if (k==NameKind.free)=true then _ else _);rw[hk,Ps L3]
theorem Xbj{scope:Scope}{env:Env}(h:∀x∈scope.names,x.2 = .free->∃c,env.cells.lookup x.1=some c):closureFor scope env=pure (B3 env scope.names []):=by
 have e:=Iy scope.names [] h
 have q : closureFor scope env = (forIn scope.names [] fun (x : Str × NameKind) r => (if (x.2 == .free) = true then do let c <- cellOf env x.1; pure (ForInStep.yield ((x.1, c) :: r)) else pure (ForInStep.yield r) : Sem (ForInStep (List (Str × Addr))))) >>= fun cs => pure cs := rfl
 rw[q,e];rfl
theorem Iz{env:Env}{x:Str}{c:Addr}:∀(names:List (Str×NameKind)) (cs:List (Str×Addr)),(∀x∈names,x.2 = .free->∃c,env.cells.lookup x.1=some c) ->
  (B3 env names cs).lookup x=some c->cs.lookup x=some c\/env.cells.lookup x=some c
 | [],cs,_,h=>.inl h
 | (n,k)::r,cs,hf,h=>by
  unfold B3 at h;split at h
  ·rename_i hk;rcases Iz r _ (λx hx=>hf x (Lh _ hx)) h with q | q
   ·rw[Mq] at q;split at q
    ·rename_i e;have e':x=n:=by simpa using e
     subst e';obtain⟨c',hc⟩:=hf (x,k) Lj (by simpa using hk);have hc':env.cells.lookup x=some c':=hc;rw[hc'] at q ⊢;exact .inr q
    ·exact .inl q
   ·exact .inr q
  ·exact Iz r _ (λx hx=>hf x (Lh _ hx)) h
theorem I0{env:Env}{x:Str}:∀(names:List (Str×NameKind)) (cs:List (Str×Addr)),((cs.lookup x).isSome=true\/(x,NameKind.free)∈names)->((B3 env names cs).lookup x).isSome=true
 | [],cs,h=>by
  rcases h with h | h
  ·exact h
  ·cases h
 | (n,k)::r,cs,h=>by
  unfold B3;split
  ·refine I0 r _ ?_;rw[Mq];rcases h with h | h
   ·left;split
    ·rfl
    ·exact h
   ·rcases Lo.mp h with e | h
    ·left;cases e;simp
    ·exact .inr h
  ·rename_i hk;refine I0 r _ ?_;rcases h with h | h
   ·exact .inl h
   ·rcases Lo.mp h with e | h
    ·cases e;exact absurd rfl hk
    ·exact .inr h
theorem Xbk{env:Env}{x:Str}{k':NameKind}:∀{names:List (Str×NameKind)},
  (names.map λ(n,k)=>if (k==NameKind.free&&env.scope.kind == .function&&env.kindOf n==some .cell) then (n,NameKind.cell) else (n,k)).lookup x=some k'->∃k,names.lookup x=some k/\(k'=k\/k = .free)
 | [],h=>by simp at h
 | (n,k)::r,h=>by
  have ih := @Xbk env x k' r;have h':List.lookup x ((if (k==NameKind.free&&env.scope.kind == .function&&env.kindOf n==some .cell)=true then (n,NameKind.cell) else (n,k))::_)=_:=h;rw[Mq];by_cases hc:(k==NameKind.free&&env.scope.kind == .function&&env.kindOf n==some .cell)=true
  ·rw[Pt hc,Mq] at h';cases hx:x==n with
   | true=>
    have hk:k = .free:=by
     simp only[Ls,beq_iff_eq] at hc;exact hc.1.1
    exact⟨k,rfl,.inr hk⟩
   | false=>
    rw[hx] at h';exact ih h'
  ·rw[Ps hc,Mq] at h';cases hx:x==n with
   | true=>
    rw[hx] at h';exact⟨k,rfl,.inl (L5 h').symm⟩
   | false=>
    rw[hx] at h';exact ih h'
theorem Ja:∀(names:List (Str×NameKind)) (h:Heap) (acc:List (Str×Addr)) (x:Str) (c:Addr),(cellsFrom h.objs.size names acc).lookup x=some c ->
  (h.objs.size<=c/\(x,NameKind.cell)∈names/\(pushCells h names).IsCell c none)\/acc.lookup x=some c
 | [],_,_,_,_,e=>.inr e
 | (name,kind)::r,h,acc,x,c,e=>by
  unfold cellsFrom at e;unfold pushCells;by_cases hk:(kind==NameKind.cell)=true
  ·rw[Pt hk] at e ⊢;have hk':kind = .cell:=by simpa using hk
   have sz:(h.push {cls:=.type "cell",data:=.cell none}).objs.size=h.objs.size+1:=Heap.size_push ..;rw[<-sz] at e;rcases Ja r _ _ x c e with ⟨a1,a2,a3⟩ | a
   ·exact .inl ⟨by omega,Lh _ a2,a3⟩
   ·rw[Mq] at a;cases hx:x==name with
    | true=>
     rw[hx] at a;cases a;have:x=name:=by simpa using hx
     subst this;refine .inl ⟨Li _,by rw[hk'];exact Lj,?_⟩;exact⟨_,pushCells_keeps r _ _ _ (Heap.get?_push_size _ rfl),rfl⟩
    | false=>rw[hx] at a;exact .inr a
  ·rw[Ps hk] at e ⊢;rcases Ja r h acc x c e with ⟨a1,a2,a3⟩ | a
   ·exact .inl ⟨a1,Lh _ a2,a3⟩
   ·exact .inr a
theorem Jb:∀(names:List (Str×NameKind)) (n:Nat) (acc:List (Str×Addr)),(∀x y c,acc.lookup x=some c->acc.lookup y=some c->x=y)->(∀x c,acc.lookup x=some c->c<n) ->
  ∀x y c,(cellsFrom n names acc).lookup x=some c->(cellsFrom n names acc).lookup y=some c->x=y
 | [],_,_,h,_=>h
 | (name,kind)::r,n,acc,h,hb=>by
  unfold cellsFrom;by_cases hk:(kind==NameKind.cell)=true
  ·rw[Pt hk];refine Jb r (n+1) _ (λx y c e1 e2=>?_) (λx c e=>?_)
   ·rw[Mq] at e1 e2;cases hx:x==name with
    | true=>
     cases hy:y==name with
     | true=>rw[beq_iff_eq.mp hx,beq_iff_eq.mp hy]
     | false=>
      rw[hx] at e1;rw[hy] at e2;cases e1;exact absurd (hb y _ e2) (Ml _)
    | false=>
     cases hy:y==name with
     | true=>
      rw[hx] at e1;rw[hy] at e2;cases e2;exact absurd (hb x _ e1) (Ml _)
     | false=>rw[hx] at e1;rw[hy] at e2;exact h x y c e1 e2
   ·rw[Mq] at e;cases hx:x==name with
    | true=>rw[hx] at e;cases e;exact Nat.lt_succ_self _
    | false=>rw[hx] at e;exact Nf (hb x c e)
  ·rw[Ps hk];exact Jb r n acc h hb
theorem Jc{env:Env}{x:Str}{c:Addr}:∀(names:List (Str×NameKind)) (cs:List (Str×Addr)),(B3 env names cs).lookup x=some c->cs.lookup x=some c\/(x,NameKind.free)∈names
 | [],cs,h=>.inl h
 | (n,k)::r,cs,h=>by
  unfold B3 at h;split at h
  ·rename_i hk;have hk':k = .free:=by simpa using hk
   rcases Jc r _ h with q | q
   ·rw[Mq] at q;cases hx:x==n with
    | true=>
     have:x=n:=by simpa using hx
     subst this;exact .inr (by rw[hk'];exact Lj)
    | false=>rw[hx] at q;exact .inl q
   ·exact .inr (Lh _ q)
  ·rcases Jc r _ h with q | q
   ·exact .inl q
   ·exact .inr (Lh _ q)
theorem Xht{M:Model}{A:Around}{E:Value->Shared->Prop}{s:Shared}{scope:Scope}{globals:Addr}{closure:List (Str×Addr)}{qual:Str}{outer:Env}{Q:Env->Shared->Prop}
  (h:Q (newEnv scope s.heap.objs.size globals (cellsFrom (s.heap.objs.size+1) scope.names closure) qual none .none (some outer) builtinsNs) {s with heap:=pushCells (s.heap.push {cls:=.type "dict",data:=.dict #[]}) scope.names}):
  wpAny M A (newFunctionEnv scope globals closure [] qual none .none (some outer)) Q E s:=by
 simp only[newFunctionEnv,Pd,if_true];refine Pp (wpAny_alloc ?_);refine Pp (wpAny_layCells _ (λname kind cells=>by cases hkc:kind==NameKind.cell<;>simp[hkc]) _ _ _ _ ?_);rw[show ({s with heap:=s.heap.push {cls:=.type "dict",data:=.dict #[]} }:Shared).heap.objs.size=s.heap.objs.size+1 from Heap.size_push ..];refine Pp ?_;rw[Pg];exact Pq (Pq h)
def F0 (X:Cx) (scope:Scope) (s0:Shared):List (Str×Addr):=cellsFrom (s0.heap.objs.size+1) scope.names (B3 X.env scope.names [])
def Cx.comp (X:Cx) (N:List Str) (scope:Scope) (s0:Shared) (H0:Hp) (ex:List Addr):Cx where
 prog:=X.prog
 w:=X.w
 K:=X.K
 mg:=X.mg
 base:=X.base
 A:=X.A
 N:=N
 s₀:=s0
 H₀:=H0
 env:=compEnvC scope (F0 X scope s0) s0.heap.objs.size X.env
 outer:=X.stack
 stack:=X.stack
 ex:=ex
 fn:=λx=>decide (scope.names.lookup x=some .cell)
 calm:=X.calm
 pn:=[]
 xe:=λ_ _=>False
def Bi (cap:List (Option Nat)) (σ:St):St:=cap.map λo=>o.bind λj=>(σ[j]?).join
structure CompScope (X:Cx) (N:List Str) (cap:List (Option Nat)) (scope:Scope):Prop where
 kind:scope.kind = .function
 uniq:∀y∈scope.names,scope.names.lookup y.1=some y.2
 free:∀y∈scope.names,y.2 = .free->X.env.kindOf y.1=some .cell\/X.env.kindOf y.1=some .free
 len:cap.length=N.length
 cap:∀(i:Nat) (x:Str) (j:Nat),N[i]? = some x->cap[i]? = some (some j)->X.N[j]? = some x/\scope.names.lookup x=some .free
def PIfs (X:Cx) (ifs:List Expr) (t:TT):Prop:=
 ∀(pins:List (Addr×Obj)) (s:Shared) (σ:St) (H:Hp) (Q:Bool->Hp->Prop),Inv X pins σ H s->t σ H Q ->
  wpAny (model X.prog X.w) X.A (forIn ifs true fun c r => if r = true then do let ok <- isTrue c X.env (eval c X.env); pure (ForInStep.yield ok) else pure (ForInStep.yield r)) (TP X pins σ Q) X.xe s
def C7:TT:=λ_ H Q=>Q true H
theorem Cy{X:Cx}:PIfs X [] C7:=λ_ _ _ H _ I h=>wpAny_tests_nil ⟨H,I,h⟩
theorem Dz{X:Cx}{c:Expr}{t:TT}(h:PT X c t):PIfs X [c] t:=λpins s σ H Q I hw=>wpAny_tests_one (h pins s σ H Q I hw)
def C8 (cap:List (Option Nat)) (g:TG) (tt:TT) (te:TE) (J:It) (σ:St) (H1:Hp) (F:Addr->Hp->Prop):Prop:=
 ∀D,H1 D=none->∃W:Nat->Nat->St->Hp->Prop,(∃m,W 0 m (Bi cap σ) (upd H1 D (.lst [])))/\∀i m σ1 H2,W i m σ1 H2 ->
  (J.stop i H2/\F D H2)\/(J.go i H2/\∀x H3,J.yld i H2 x H3->g x σ1 H3 fun σ2 H4=>tt σ2 H4 λb H5=>
   if b=true then te σ2 H5 λy H6=>∃ys,H6 D=some (.lst ys)/\ys.length<sizeLine/\∃m',m'<m/\W (i+1) m' σ2 (upd H6 D (.lst (ys++[y])))
   else ∃m',m'<m/\W (i+1) m' σ2 H5)
theorem Xbl{env:Env}{x:Str}:∀{names:List (Str×NameKind)} {k:NameKind},names.lookup x=some k ->
  (names.map λ(n,k)=>if (k==NameKind.free&&env.scope.kind == .function&&env.kindOf n==some .cell) then (n,NameKind.cell) else (n,k)).lookup x=some (if (k==NameKind.free&&env.scope.kind == .function&&env.kindOf x==some .cell) then NameKind.cell else k)
 | [],_,h=>by simp at h
 | (n,q)::r,k,h=>by
  have ih := @Xbl env x r k;show List.lookup x ((if (q==NameKind.free&&env.scope.kind == .function&&env.kindOf n==some .cell)=true then (n,NameKind.cell) else (n,q))::_)=_;rw[Mq] at h;cases hx:x==n with
  | true=>
   rw[hx] at h;cases h;have:x=n:=by simpa using hx
   subst this;by_cases hc:(q==NameKind.free&&env.scope.kind == .function&&env.kindOf x==some .cell)=true
   ·rw[Pt hc,Pt hc,Mq,hx]
   ·rw[Ps hc,Ps hc,Mq,hx]
  | false=>
   rw[hx] at h;by_cases hc:(q==NameKind.free&&env.scope.kind == .function&&env.kindOf n==some .cell)=true
   ·rw[Pt hc,Mq,hx];exact ih h
   ·rw[Ps hc,Mq,hx];exact ih h
section
variable {X:Cx}{N:List Str}{cap:List (Option Nat)}{scope:Scope}{pins:List (Addr×Obj)}{σ:St}{H H':Hp}{s s':Shared}{fp:List Addr}
theorem Jd(C:CompScope X N cap scope)(ok:X.Ok):∀x∈scope.names,x.2 = .free->∃c,X.env.cells.lookup x.1=some c:=λx hx hf=>ok.has x.1 (C.free x hx hf)
theorem Gy(C:CompScope X N cap scope)(ok:X.Ok){x:Str}{c:Addr}(h:(B3 X.env scope.names []).lookup x=some c):X.env.cells.lookup x=some c:=by
 rcases Iz scope.names [] (Jd C ok) h with q | q
 ·simp at q
 ·exact q
theorem Xbm(C:CompScope X N cap scope)(ok:X.Ok){x:Str}(h:scope.names.lookup x=some .free):∃c,(B3 X.env scope.names []).lookup x=some c:=
 Nj.mp (I0 scope.names [] (.inr (PySem.mem_of_lookup h)))
theorem Xbn(C:CompScope X N cap scope)(ok:X.Ok){h:Heap}(hz:h.objs.size=s.heap.objs.size+1){x:Str}{c:Addr}(e:(F0 X scope s).lookup x=some c):
  (s.heap.objs.size<c/\scope.names.lookup x=some .cell/\(pushCells h scope.names).IsCell c none)\/(scope.names.lookup x=some .free/\X.env.cells.lookup x=some c):=by
 unfold F0 at e;rw[<-hz] at e;rcases Ja scope.names h _ x c e with ⟨a1,a2,a3⟩ | a
 ·exact .inl ⟨by omega,C.uniq _ a2,a3⟩
 ·refine .inr ⟨?_,Gy C ok a⟩;rcases Jc scope.names [] a with q | q
  ·simp at q
  ·exact C.uniq _ q
theorem Xhu(C:CompScope X N cap scope)(I:Inv X pins σ H s)(hf:∀b∈fp,FpOk X pins H b)(hfl:∀b∈fp,b<s.heap.objs.size){tk:Nat}:
  Inv (X.comp N scope s H fp) [] (Bi cap σ) H {s with heap:=pushCells (s.heap.push {cls:=.type "dict",data:=.dict #[]}) scope.names,toks:=tk}:=by
 have hC:H s.heap.objs.size=none:=I.hok.fresh (Li _);have hz:(s.heap.push {cls:=.type "dict",data:=.dict #[]}).objs.size=s.heap.objs.size+1:=Heap.size_push ..;have hns:(pushCells (s.heap.push {cls:=.type "dict",data:=.dict #[]}) scope.names).Ns s.heap.objs.size λ_=>none:=(Heap.Ns.new s.heap (.type "dict")).keeps (pushCells_keeps _ _);have hk:∀b o,s.heap.get? b=some o->(pushCells (s.heap.push {cls:=.type "dict",data:=.dict #[]}) scope.names).get? b=some o:=λb o e=>pushCells_keeps _ _ b o (P0 _ e);have look:∀{x c},(X.comp N scope s H fp).env.cells.lookup x=some c->_:=λ{x c} h=>Xbn (s:=s) C I.ok hz h;have clt:∀x c,X.env.cells.lookup x=some c->c<s.heap.objs.size:=λx c h=>by
  obtain⟨v,q⟩:=I.cell x c h;exact q.lt
 have kind:∀x k,(relabel scope X.env).names.lookup x=some k->k = .cell\/k = .free->scope.names.lookup x=some .cell\/scope.names.lookup x=some .free:=λx k e hk=>by
  obtain⟨k0,e0,z⟩:=Xbk e;rcases z with z | z
  ·rw[<-z] at e0;rcases hk with q | q
   ·rw[q] at e0;exact .inl e0
   ·rw[q] at e0;exact .inr e0
  ·rw[z] at e0;exact .inr e0
 refine⟨⟨I.ok.mod,C.kind,I.ok.glob,I.ok.blt,Li _,?inj,λx hx=>?has,λx c h e=>?cab,I.ok.hd,I.ok.frames,.inl rfl,λb hb=>⟨Ll (hfl b hb),λx c h=>?exf⟩,
   I.bs,Mh I.ok.bsz I.sz,λb o e hb=>?noex,λb hb hs=>?exfs,I.stack,I.stkFree⟩,
  rfl,I.bare,Un.kept hk,⟨_,hns,λi x v h1' h2 h3=>?loc⟩,λx c h=>?cell,hC,λx c h=>?freeC,λp hp=>absurd (show p∈([]:List (Addr×Obj)) from hp) (by simp),I.hok.kept hk,?len⟩
 case inj=>
  refine Jb scope.names _ _ (λx y c e1 e2=>I.ok.inj x y c (Gy C I.ok e1) (Gy C I.ok e2)) λx c e=>Nf (clt x c (Gy C I.ok e))
 case has=>
  have hx':(relabel scope X.env).names.lookup x=some .cell\/(relabel scope X.env).names.lookup x=some .free:=hx;refine Nj.mp (PySem.W.cellsFrom_some scope.names _ _ ?_);rcases (hx'.elim (λq=>kind x _ q (.inl rfl)) λq=>kind x _ q (.inr rfl)) with q | q
  ·exact .inl q
  ·obtain⟨c,hc⟩:=Xbm C I.ok q;exact .inr (by rw[hc];rfl)
 case cab=>
  have h:scope.names.lookup x=some .cell:=Px h;rcases look e with ⟨a,_⟩ | ⟨a,_⟩
  ·exact Ob a
  ·rw[h] at a;cases a
 case exf=>
  rcases look h with ⟨a,_⟩ | ⟨_,a⟩
  ·exact λz=>Ml _ (N3 a (by rw[z];exact hfl b hb))
  ·exact(hf b hb).2.2.2.2.1 x c a
 case noex=>
  obtain⟨_,_,_,z,_⟩:=hf b hb;rcases z with z | z
  ·exact I.ok.noex b o e z
  ·exact absurd (L4 (Pz e) (Mh I.ok.bsz z)) (Ml _)
 case exfs=>
  obtain⟨_,f1,f2,_⟩:=hf b hb;rcases Lo.mp (I.stkSub b hs) with e | e
  ·exact f1 e
  ·exact f2 e
 case loc=>
  have h2':(cap.map λo=>o.bind λj=>(σ[j]?).join)[i]? = some (some v):=h2;rw[L1] at h2';cases hc:cap[i]? with
  | none=>rw[hc] at h2';cases h2'
  | some o=>
   rw[hc] at h2';cases o with
   | none=>cases h2'
   | some j=>
    have h2'':(σ[j]?).join=some v:=L5 h2';have hσ : σ[j]? = some (some v):=by
     cases hj : σ[j]? with
     | none=>rw[hj] at h2'';cases h2''
     | some o=>rw[hj] at h2'';exact congrArg some h2''
    obtain⟨hN,hfr⟩:=C.cap i x j h1' hc;obtain⟨m,hn,hl⟩:=I.loc;have hkind:X.env.kindOf x=some .cell\/X.env.kindOf x=some .free:=C.free (x,.free) (PySem.mem_of_lookup hfr) rfl;obtain⟨u,r,l⟩:=hl j x v hN hσ (by rcases hkind with q | q;exact .inr (.inl q);exact .inr (.inr q));refine⟨u,r,.inr ⟨?_,?_⟩⟩
    ·show (relabel scope X.env).names.lookup x=some .cell\/(relabel scope X.env).names.lookup x=some .free;have:=Xbl (env:=X.env) hfr;have e:(relabel scope X.env).names.lookup x=_:=this;rw[e];split
     ·exact .inl rfl
     ·exact .inr rfl
    ·obtain⟨c,hcl⟩:=Xbm C I.ok hfr;obtain⟨c2,hc2⟩:=Nj.mp (PySem.W.cellsFrom_some scope.names (s.heap.objs.size+1) (B3 X.env scope.names []) (x:=x) (.inr (by rw[hcl];rfl)));rcases look (x:=x) (c:=c2) hc2 with ⟨_,a,_⟩ | ⟨_,a⟩
     ·rw[hfr] at a;cases a
     ·rcases l with ⟨k,_⟩ | ⟨_,c',e,z⟩
      ·rcases hkind with q | q
       ·rw[k] at q;cases q
       ·rw[k] at q;cases q
      ·rw[a] at e;cases e;obtain⟨o,ho,hd⟩:=z;exact⟨c2,hc2,o,hk c2 o ho,hd⟩
 case cell=>
  rcases look h with ⟨_,_,a⟩ | ⟨_,a⟩
  ·exact⟨none,a⟩
  ·obtain⟨v,o,ho,hd⟩:=I.cell x c a;exact⟨v,o,hk c o ho,hd⟩
 case freeC=>
  rcases look h with ⟨a,_⟩ | ⟨_,a⟩
  ·exact I.hok.fresh (Ob a)
  ·exact I.freeC x c a
 case len=>
  show (cap.map _).length=N.length;rw[Lf,C.len]
end
def Xhv (cap:List (Option Nat)) (wi:TI) (g:TG) (tt:TT) (te:TE):TE:=fun σ H Q=>wi σ H λJ H1=>C8 cap g tt te J σ H1 λD H2=>Q (.ref D) H2
def Xbo (i:Nat) (cap:List (Option Nat)) (wi:TI) (g:TG) (tt:TT) (te:TE):TS:=λD σ H=>wi σ H λJ H1=>C8 cap g tt te J σ H1 λl H2=>D.nx (σ.set i (some (.ref l))) H2
theorem A5.there{P:Program}{w:World}{H:Hp}{h:Heap}{a:Addr}{o:HO}(x:A5 P w H h a o):∃u,h.get? a=some u:=by
 cases o with
 | lst xs=>obtain⟨_,_,_,_,e⟩:=x;exact⟨_,e⟩
 | tup xs=>obtain⟨_,_,_,o,e,_⟩:=x;exact⟨_,e⟩
 | dK kvs=>obtain⟨_,_,_,_,o,_,_,e,_⟩:=x;exact⟨_,e⟩
 | dT kvs=>obtain⟨_,_,_,_,o,_,_,e,_⟩:=x;exact⟨_,e⟩
 | set S n=>obtain⟨o,_,_,_,e,_⟩:=x;exact⟨_,e⟩
 | ins C dx fs=>obtain⟨_,_,_,e,_⟩:=x;exact⟨_,e⟩
 | own y=>exact x
 | xd fs=>obtain⟨_,⟨_,_,_,e,_⟩,_⟩:=x;exact⟨_,e⟩
 | rng lo hi=>obtain⟨_,_,_,e⟩:=x;exact⟨_,e⟩
 | frz ob u=>obtain⟨e,_⟩:=x;exact⟨_,e⟩
 | tbl ps=>exact⟨_,(show h.get? a=some _ from x)⟩
 | met f y=>exact⟨_,(show h.get? a=some _ from x)⟩
 | ext φ=>obtain⟨_,e,_⟩:=x;exact e
structure Flown (P:Program) (w:World) (outer:List Env) (H:Hp) (hc:Heap) (H':Hp) (ex C:Addr) (B:Heap) (a0:Value) (h:Heap):Prop where
 un:Un (frs outer) [] H H' hc h
 hok:HOk P w H' h
 fly:Heap.FlyingW B outer ex (.ref C) a0 h
 inB:∀b o,h.get? b=some o->b∉frs outer->((∃o',hc.get? b=some o')\/H' b≠none)->B.get? b=some o
 frf:∀b∈frs outer,H' b=none
theorem Flown.move{P:Program}{w:World}{outer:List Env}{H H':Hp}{hc B h h':Heap}{ex C:Addr}{a0:Value}(F:Flown P w outer H hc H' ex C B a0 h)(st:B.StaysIn h')(up:h.UpToSlots h'):
  Un (frs outer) [] H H' hc h'/\HOk P w H' h'/\∀b o,h'.get? b=some o->b∉frs outer->((∃o',hc.get? b=some o')\/H' b≠none)->B.get? b=some o:=by
 have nf:∀b∈frs outer,∀o,h.get? b=some o->∀vs,o.data ≠ .fields vs:=λb hb o e=>by
  obtain⟨_,o',e',d⟩:=F.fly.2.2.1.mem hb;rw[e] at e';cases e';exact d
 have tr:∀b o,H' b=some o->b∉frs outer:=λb o e hb=>by rw[F.frf b hb] at e;cases e
 have old:∀b,(∃o',hc.get? b=some o')\/H' b≠none->∃o,h.get? b=some o:=λb hb=>by
  rcases hb with ⟨o',e⟩ | hb
  ·obtain⟨o,e'⟩:=F.un.there b o' e (by simp);exact⟨o,e'⟩
  ·cases q:H' b with
   | none=>exact absurd q hb
   | some u=>exact(F.hok b u q).there
 refine⟨⟨λb o e n hb hx=>?_,λb o e n hb hx=>?_,F.un.free,λb o e hx=>?_,F.un.tups,F.un.frzs,F.un.tbls⟩,λa o e=>?_,λb o e hb hw=>?_⟩
 ·exact st b o (F.inB b o (F.un.keep b o e n hb hx) hb (.inl ⟨o,e⟩))
 ·obtain⟨sl,e1⟩:=F.un.slot b o e n hb hx;obtain⟨sl',e2⟩:=up b _ e1 (nf b hb _ e1);exact⟨sl',e2⟩
 ·obtain⟨o1,e1⟩:=F.un.there b o e hx;by_cases hb:b∈frs outer
  ·obtain⟨sl',e2⟩:=up b _ e1 (nf b hb _ e1);exact⟨_,e2⟩
  ·exact⟨o1,st b o1 (F.inB b o1 e1 hb (.inl ⟨o,e⟩))⟩
 ·refine(F.hok a o e).stay (λb u hb q=>?_) (λ_ q=>q) λ_ _ q=>q;have hn:H' b≠none:=by
   rcases hb with z | z
   ·rw[z,e];simp
   ·rw[z];simp
  have hb':b∉frs outer:=λz=>hn (F.frf b z);exact st b u (F.inB b u q hb' (.inr hn))
 ·obtain⟨o1,e1⟩:=old b hw;have e2:=F.inB b o1 e1 hb hw;have e3:=st b o1 e2;rw[e] at e3;cases e3;exact e2
def CX1 (P:Program) (w:World):CXT:=λouter H s E e s'=>
 ∃ex C H' B a0,e = .ref ex/\s'.os=s.os/\AllBare s'.gens/\Flown P w outer H s.heap H' ex C B a0 s'.heap/\E (.ref C) none H'
section
variable {P:Program}{w:World}{K:PySem.W.Frag}{mg:Str->Option Value}{base:Heap}{N:List Str}{qual:Str}{scope:Scope}{f:Addr}{cd:Value}{A:Around}{outer:List Env}{s:Shared}{H:Hp}{E:XK}
def Leaves (X:Cx) (E:XK):Prop:=∀(pins:List (Addr×Obj)) (σ:St) (H:Hp) (s:Shared) (h':Heap) (ex C:Addr) (args:List Value),
 Inv X pins σ H s->Heap.MadeExcOf s.heap h' ex (.ref C) args->E (.ref C) none H->X.xe (.ref ex) {s with heap:=h'}
theorem leaves1:Leaves (B6 (CX1 P w) P w K mg base N qual scope f cd A outer s H E) E:=by
 intro pins σ H1 s1 h' ex C args I hm hE;show wpAny (model P w) (A.deeper (envOfC qual scope s.heap.objs.size f cd)) (leaving (envOfC qual scope s.heap.objs.size f cd) (.ref ex)) _ _ {s1 with heap:=h'};have hst:(B6 (CX1 P w) P w K mg base N qual scope f cd A outer s H E).stack=envOfC qual scope s.heap.objs.size f cd::outer:=rfl;have hin:∀env∈(envOfC qual scope s.heap.objs.size f cd::outer),∀b,env.frame=some b->b∈frs (envOfC qual scope s.heap.objs.size f cd::outer):=λenv he b hb=>Pc.mpr ⟨env,he,hb⟩;have hFun:s1.heap.FunFrames base (envOfC qual scope s.heap.objs.size f cd::outer):=I.stack;have hB:(PySem.W.hideAll s1.heap (frs (envOfC qual scope s.heap.objs.size f cd::outer))).StaysIn s1.heap:=λb o q=>PySem.W.of_hideAll _ q;have getB:∀b o,s1.heap.get? b=some o->b∉frs (envOfC qual scope s.heap.objs.size f cd::outer)->(PySem.W.hideAll s1.heap (frs (envOfC qual scope s.heap.objs.size f cd::outer))).get? b=some o:=λb o e n=>PySem.W.hideAll_get _ e n;have sub:∀b,b∈frs (envOfC qual scope s.heap.objs.size f cd::outer)->b=s.heap.objs.size\/b∈frs outer:=λb hb=>Lo.mp (I.stkSub b hb);have sup:∀b,b∈frs outer->b∈frs (envOfC qual scope s.heap.objs.size f cd::outer):=λb hb=>by
  unfold frs at hb ⊢;rw[Nd];split
  ·exact hb
  ·exact Lh _ hb
 have frFree:∀b,b∈frs (envOfC qual scope s.heap.objs.size f cd::outer)->H1 b=none:=λb hb=>I.stkFree b hb;refine wpAny_leaves_madeW (A:=A.deeper (envOfC qual scope s.heap.objs.size f cd)) (L:=s.heap.objs.size) I.ok.frames rfl hB (PySem.W.funFrames_hide hFun hin) hm λh'' t f1 _ _ up=>?_;have old:∀b o,s.heap.get? b=some o->b∉frs outer->b∉frs (envOfC qual scope s.heap.objs.size f cd::outer):=λb o e nb hb=>by
  rcases sub b hb with z | z
  ·exact absurd (Pz e) (by rw[z];exact Ml _)
  ·exact nb z
 have nf:∀b∈frs (envOfC qual scope s.heap.objs.size f cd::outer),∀o,s1.heap.get? b=some o->∀vs,o.data ≠ .fields vs:=λb hb o e=>by
  obtain⟨_,o',e',d⟩:=hFun.mem hb;rw[e] at e';cases e';exact d
 refine⟨ex,C,H1,_,_,rfl,I.os,I.bare,⟨⟨λb o e n hb hx=>?_,λb o e n hb hx=>?_,I.base.free,λb o e hx=>?_,I.base.tups,I.base.frzs,I.base.tbls⟩,λa o e=>?_,f1,λb o e hb hw=>?_,λb hb=>frFree b (sup b hb)⟩,hE⟩
 ·exact f1.1 b o (getB b o (I.base.keep b o e n hb hx) (old b o e hb))
 ·obtain⟨sl,e1⟩:=I.base.slot b o e n hb hx;obtain⟨sl',e2⟩:=up b _ (hm.keeps _ _ e1) (nf b (sup b hb) _ e1);exact⟨sl',e2⟩
 ·obtain⟨o1,e1⟩:=I.base.there b o e hx;by_cases hb:b∈frs (envOfC qual scope s.heap.objs.size f cd::outer)
  ·obtain⟨sl',e2⟩:=up b _ (hm.keeps _ _ e1) (nf b hb _ e1);exact⟨_,e2⟩
  ·exact⟨o1,f1.1 b o1 (getB b o1 e1 hb)⟩
 ·refine(I.hok a o e).stay (λb u hb q=>?_) (λ_ q=>q) λ_ _ q=>q;have hn:H1 b≠none:=by
   rcases hb with z | z
   ·rw[z,e];simp
   ·rw[z];simp
  exact f1.1 b u (getB b u q λz=>hn (frFree b z))
 ·have:∃o1,s1.heap.get? b=some o1/\b∉frs (envOfC qual scope s.heap.objs.size f cd::outer):=by
   rcases hw with ⟨o',e'⟩ | hw
   ·obtain⟨o1,e1⟩:=I.base.there b o' e' (λz=>absurd (show b∈([]:List Addr) from z) (by simp));exact⟨o1,e1,old b o' e' hb⟩
   ·cases q:H1 b with
    | none=>exact absurd q hw
    | some u=>
     obtain⟨o1,e1⟩:=(I.hok b u q).there;exact⟨o1,e1,λz=>hw (frFree b z)⟩
  obtain⟨o1,e1,nb⟩:=this;have e2:=getB b o1 e1 nb;have e3:=f1.1 b o1 e2;rw[e] at e3;cases e3;exact e2
theorem pass1:Passes (CX1 P w) (B6 (CX1 P w) P w K mg base N qual scope f cd A outer s H E) E:=by
 intro pins σ H1 s1 e s' I h;obtain⟨ex,C,H',B,a0,rfl,hos,hbare,F,hE⟩:=h;show wpAny (model P w) (A.deeper (envOfC qual scope s.heap.objs.size f cd)) (leaving (envOfC qual scope s.heap.objs.size f cd) (.ref ex)) _ _ s';have sub:∀b,b∈frs (envOfC qual scope s.heap.objs.size f cd::outer)->b=s.heap.objs.size\/b∈frs outer:=λb hb=>Lo.mp (I.stkSub b hb);have sup:∀b,b∈frs outer->b∈frs (envOfC qual scope s.heap.objs.size f cd::outer):=λb hb=>by
  unfold frs at hb ⊢;rw[Nd];split
  ·exact hb
  ·exact Lh _ hb
 have old:∀b o,s.heap.get? b=some o->b∉frs outer->b∉frs (envOfC qual scope s.heap.objs.size f cd::outer):=λb o e nb hb=>by
  rcases sub b hb with z | z
  ·exact absurd (Pz e) (by rw[z];exact Ml _)
  ·exact nb z
 have F':Flown P w (envOfC qual scope s.heap.objs.size f cd::outer) H1 s1.heap H' ex C B a0 s'.heap:=F;refine wpAny_leaves_onW (A:=A.deeper (envOfC qual scope s.heap.objs.size f cd)) (L:=s.heap.objs.size) I.ok.frames rfl F'.fly λh'' f1 up=>?_;obtain⟨un,hok,inB⟩:=F'.move f1.1 up;refine⟨ex,C,H',B,a0,rfl,hos.trans I.os,hbare,⟨?_,hok,f1,λb o e hb hw=>?_,λb hb=>F'.frf b (sup b hb)⟩,hE⟩
 ·have un0:Un (frs outer) [] H H1 s.heap s1.heap:=I.base;refine⟨λb o e n hb hx=>?_,λb o e n hb hx=>?_,λb o e n hx=>?_,λb o e hx=>?_,λb xs e=>un.tups b xs (un0.tups b xs e),λb ob u e=>un.frzs b ob u (un0.frzs b ob u e),λb ps e=>?_⟩
  ·exact un.keep b o (un0.keep b o e n hb hx) (un0.free b o e n hx) (old b o e hb) hx
  ·obtain⟨sl,e1⟩:=un0.slot b o e n hb hx;obtain⟨sl',e2⟩:=un.slot b _ e1 (un0.free b o e n hx) (sup b hb) hx;exact⟨sl',e2⟩
  ·obtain⟨o1,e1⟩:=un0.there b o e hx;exact un.free b o1 e1 (un0.free b o e n hx) hx
  ·obtain⟨o1,e1⟩:=un0.there b o e hx;exact un.there b o1 e1 hx
  ·obtain⟨m1,e1⟩:=un0.tbls b ps e;obtain⟨m2,e2⟩:=un.tbls b _ e1;exact⟨m1++m2,by rw[e2,Array.append_assoc]⟩
 ·refine inB b o e ?_ ?_
  ·rcases hw with ⟨o',e'⟩ | hw
   ·exact old b o' e' hb
   ·intro z;exact hw (F'.frf b z)
  ·rcases hw with ⟨o',e'⟩ | hw
   ·obtain⟨o1,e1⟩:=(show Un (frs outer) [] H H1 s.heap s1.heap from I.base).there b o' e' (by simp);exact .inl ⟨o1,e1⟩
   ·exact .inr hw
end
abbrev bmV:List Value:=[.type "ValueError",.type "Exception",.type "BaseException",.type "object"]
theorem Xhw{K:PySem.W.Frag}{h:Heap}{C:Addr}{bmB:List Value}{newId:String}(X:K.In h)(q:PySem.W.excIn K C bmB newId=true):
  ∃bm N nm q bs hdct sn sub ab col dd k0 k1 k2 k3 k5 mN,h.get? C=some (excClassObj nm q C N bs bm hdct sn sub ab col dd k0 k1 k2 k3 k5 newId)/\h.Ns N mN/\mN "__init__" = none/\OwnTail h bmB bm:=by
 unfold PySem.W.excIn at q;split at q
 ·rename_i dd cd sl ho;split at q
  ·rename_i C' bm k0 k1 k2 k3 n k5 hm hs;simp only[Ls,beq_iff_eq,Pi] at q;obtain⟨⟨⟨⟨⟨rfl,rfl⟩,hdel⟩,ht⟩,hok⟩,hni⟩:=q;obtain⟨nm,bs,mro,ns,qn,hd,sn,sub,ab,col,del⟩:=cd;dsimp only at hm hdel hok hni;subst hm hdel;have hsl:sl = #[k0,k1,k2,k3,some (.builtin n),k5]:=by
    obtain⟨l⟩:=sl;simp only at hs;rw[hs]
   subst hsl;exact⟨bm,ns,nm,qn,bs,hd,sn,sub,ab,col,dd,k0,k1,k2,k3,k5,_,X _ _ ho,.of_isNs (PySem.W.isNs_of_in X hok),PySem.W.nsMap_none_of_in X hok hni,PySem.W.tail_of_in X ht⟩
  ·cases q
 ·cases q
def Xhx (C:Addr) (E:XK) (t:TA):TS:=λ_ σ H=>t σ H λvs H1=>vs.length<=sizeLine/\E (.ref C) none H1
theorem Xbp{X:Cx}{C:Addr}{E:XK}{x:Str}{np cpos pos:Pos}{e:Expr}{es:List Expr}{t:TA}(hc:PySem.W.excIn X.K C bmV "ValueError.__new__" = true)(hcalm:X.calm=true)(hx:Leaves X E)(hg:Gl X x)(hm:X.mg x=some (.ref C))
  (ha:PA X (e::es) t) (hdb:(x==("__debug__" : Str))=false:=by decide) (he:starEach (e::es) X.env=(false,eval e X.env)::starEach es X.env:=by rfl) (hpl:(backTo cpos (starEach es X.env)).any (·.1)=false:=by rfl):
  PS X (.Raise (some (.Call (.Name x np) (e::es) [] cpos)) none pos) (Xhx C E t):=by
 intro pins s σ H D I h;obtain⟨tl,N,nm,q,bs,hdct,sn,sub,ab,col,dd,k0,k1,k2,k3,k5,mN,hC,hN,hni,T⟩:=Xhw I.mod.kin hc;refine wpAny_Raise_call_subT (C:=C) (nm:=nm) (q:=q) (N:=N) (bs:=bs) (bm:=tl) (hdct:=hdct) (sn:=sn) (sub:=sub) (ab:=ab) (col:=col) (dd:=dd) (k0:=k0) (k1:=k1) (k2:=k2) (k3:=k3) (k5:=k5)
  PySem.F.excBase_ValueError (mN:=mN) (T.hasType PySem.F.excBase_ValueError.hasBase) (I.ok.hd hcalm) (by rw[he];show (false||(backTo cpos (starEach es X.env)).any (·.1))=false;rw[hpl];rfl) hni (Xae I hg hm ⟨rfl,?_⟩ hdb)
 have hh:=thn (ha cpos pins s σ H _ I h) (Q':=λvs s₂=>vs.length<=sizeLine/\(∀b o,X.base.get? b=some o->s₂.heap.get? b=some o)/\∀h' e,Heap.MadeExcOf s₂.heap h' e (.ref C) vs->X.xe (.ref e) {s₂ with heap:=h'})
  (λus s2 ⟨vs,H2,I2,r2,hl,hE⟩=>⟨by rw[<-r2.length];exact hl,I2.bk,λh' ex hmk=>hx pins σ H2 s2 h' ex C us I2 hmk hE⟩)
 rw[he] at hh ⊢;exact Calls.evalArgs_plain (wpAny_mono hh (λvs s₂ h₂=>⟨rfl,h₂.1,h₂.2.1 _ _ hC,hN.keeps h₂.2.1,T.keeps h₂.2.1,h₂.2.2⟩) λ_ _ y=>y)
theorem Fun.ok1{P:Program}{w:World}{K:PySem.W.Frag}{mg:Str->Option Value}{base:Heap}{x qual:Str}{st:Stmt}{f:Addr}{fd:FuncData}{N ps:List Str}{k:Nat}{sp:Sp}(F:Fun K x qual st f fd)(S:FnScope N ps (Ak st))(len:∀vs H Q E,sp vs H Q E->vs.length=ps.length)
  (hbody:∀(cdv:Value) (A:Around) (outer:List Env) (s:Shared) (H:Hp) (vs:List V) (Q:VK) (E:XK),Room k (A.deeper (envOfC qual (Ak st) s.heap.objs.size f cdv))->sp vs H Q E ->
   ∃t,PSs (B6 (CX1 P w) P w K mg base N qual (Ak st) f cdv A outer s H E) (Cd st) t/\t {nx:=λ_ H'=>Q .non H',rt:=Q} (start N vs) H):FnOk P w K mg base (CX1 P w) (k+1) f fd ps sp:=by
 obtain⟨oc,od,kV,doc,pm,an,cdv,ct,osl,rfl,lk,hcd⟩:=F.ex;exact Iq lk hcd S len λA outer s H vs Q E hr hsp=>hbody cdv A outer s H vs Q E hr hsp
abbrev Cx.re (X:Cx) (pn:List (Addr×Obj)) (A:Around) (c:Bool) (E:Value->Shared->Prop):Cx:={X with pn:=pn,A:=A,calm:=c,xe:=E}
section
variable {X:Cx}{pins pins' pn:List (Addr×Obj)}{σ:St}{H:Hp}{s:Shared}{A:Around}{c:Bool}{E:Value->Shared->Prop}
end
def excP (ex C:Addr) (h:Heap):Prop:=∃o vs,h.get? ex=some o/\o.cls = .ref C/\o.data = .fields vs
def ExcO (ex C:Addr):HO:=.ext (excP ex C)
def Cx.tryC (X:Cx) (pn:List (Addr×Obj)) (R:Addr->St->Hp->Prop):Cx:=X.re pn X.A X.calm λe s1=>
 ∃σ Hc sc,Inv (X.re pn X.A X.calm λ_ _=>True) [] σ Hc sc/\CX1 X.prog X.w X.stack Hc sc (λc _ H1=>∃C,c = .ref C/\R C σ H1) e s1
def Cx.suite (X:Cx) (pn:List (Addr×Obj)) (ex:Addr):Cx:=X.re pn (X.A.mark (some (.ref ex))) false λ_ _=>False
section
variable {X:Cx}{pn:List (Addr×Obj)}{R:Addr->St->Hp->Prop}{k:Nat}{f:Addr}{fd:FuncData}{ps:List Str}{sp:Sp}{dvs:List V}{ds:List Value}{x:Str}{p pos:Pos}{e:Expr}{es:List Expr}{t:TA}
end
section
variable {X:Cx}{pos np hpos:Pos}{body:List Stmt}{b0:Stmt}{suite:List Stmt}{n x:Str}{i:Nat}{Cc:Addr}{tb:(Addr->St->Hp->Prop)->TS}{th:TS}
def tTry (K:PySem.W.Frag) (i:Nat) (Cc:Addr) (tb:(Addr->St->Hp->Prop)->TS) (th:TS):TS:=λD σ H=>∃R:Addr->St->Hp->Prop,tb R D σ H/\∀C σ1 H1,R C σ1 H1->PySem.W.exmOne K (.ref C) (.ref Cc)=some true /\
 ∀ex,H1 ex=none->th {nx:=fun σ2 H2=>D.nx (σ2.set i none) H2,rt:=D.rt,bk:=fun σ2 H2=>D.bk (σ2.set i none) H2,ct:=fun σ2 H2=>D.ct (σ2.set i none) H2} (σ1.set i (some (.ref ex))) (upd H1 ex (ExcO ex C))
end
section
variable {X:Cx}{pos p2:Pos}{e:Expr}{te:TE}
def tRev (K:PySem.W.Frag) (te:TE):TE:=fun σ H Q=>te σ H λx H1=>∃a xs,x = .ref a/\SqL K H1 a xs/\∀p,H1 p=none->Q (.ref p) (upd H1 p (.lst xs.reverse))
theorem Xbq{k:Nat}{p3 p4:Pos}(he:PE X e te):PE X (.Subscript e (.Slice none none (some (.UnaryOp .USub (.Constant (.int 1) k p3) p4)) p2) pos) (tRev X.K te):=by
 intro pins s σ H Q I h;refine Subscript_ (thn (he pins s σ H _ I h) λv s1 ⟨x,H1,I1,r1,q1⟩=>?_);have hstep:PE X (.UnaryOp .USub (.Constant (.int 1) k p3) p4) (tUn (rU λi=>.int (-i)) (tC (.int 1))):=Xgh Xgj Ah;refine wpAny_Slice ?_;rw[evalPart_none];refine Pq (Pq ?_);rw[evalPart_some];refine thn (hstep pins s1 σ H1 (λy H2=>y = .int (-1)/\H2=H1) I1 ⟨1,rfl,rfl,rfl⟩) λu s2 ⟨y,H2,I2,r2,ey,eH⟩=>?_;subst ey eH;obtain⟨t,rfl⟩:=r2;obtain⟨a,xs,ex,hx,q⟩:=q1;subst ex;cases r1;obtain⟨its,r,ht,hz⟩:=I2.list hx;have I4:Inv X pins σ H2 {s2 with heap:=s2.heap.push {cls:=.type "slice",data:=.fields #[.none,.none,.int (-1) t]} }:=I2.kept (t':=s2.toks) λb ob q=>P0 _ q;obtain⟨its4,r4,ht4,hz4⟩:=I4.list hx;have hlen:=r4.length;refine tail_any (ops:=[.ref a,.ref s2.heap.objs.size]) ht4.isList.typeIs slot_list_getitem.lookup (wpAny_getItem_list_slice ht4.isList (Heap.IsSliceOf.new ..) .none .none (.int (-1) t) (by simp) ?_ (by rw[Lq]<;>omega)) (by with_unfolding_all rfl);rw[PySem.W.krv_pick];refine⟨.ref _,_,I4.laid (t':=s2.toks) (o:=.lst xs.reverse) (λb ob q=>P0 _ q) (Li _) ?_,rfl,q _ (I4.hok.fresh (Li _))⟩;exact⟨by rw[List.length_reverse];exact hz4,_,0,Vals.reverse r4,Heap.get?_push_size _ rfl⟩
def Xhy (K:PySem.W.Frag) (n:Nat) (t:TGs):TG:=λv σ H Q=>∃a xs,v = .ref a/\SqL K H a xs/\xs.length=n/\t xs σ H Q
theorem Xhz{es:List Expr}{k:Nat}{t:TGs}{n:Nat}(hc:X.calm=true)(h:PGs X es t)
  (hn:(assignEach es X.env).length=n:=by rfl) (hst:(assignEach es X.env).findIdx? (·.1)=none:=by rfl):PG X (.Tuple es k pos) (Xhy X.K n t):=by
 intro pins s σ H v u Q I r hw;obtain⟨a,xs,e1,hq,hl,hw⟩:=hw;subst e1;cases r;obtain⟨its,rv,ht,hz⟩:=I.list hq;rw[assign_Tuple];refine Pp (wpAny_standAt ?_);unfold unpack;have hlen:(assignEach es X.env).length=its.toArray.size:=by rw[hn,<-hl,Lq];exact rv.length
 rw[hlen,hst];refine Pp (wpAny_holding (PySem.W.kun_itemsOf (I.ok.hd hc) ht.isList λh' hx=>?_));have I1:Inv X pins σ H {s with heap:=h'}:=I.kept (t':=s.toks) λb o e=>hx b o (Ll (Pz e)) e;exact h pins _ σ H xs _ Q I1 (by simpa using rv) hw
def repS (z:Str) (n:Nat):Str:=⟨(List.replicate n z.cps).foldl (· ++ ·) #[]⟩
theorem Xh0(z:Str):repS z 1=z:=by
 obtain⟨c⟩:=z;show (⟨(#[]:Array Nat)++c⟩:Str)=⟨c⟩;rw[Array.empty_append]
theorem Xbr(z:Array Nat):∀(n:Nat) (a:Array Nat),((List.replicate n z).foldl (· ++ ·) a).size=a.size+n * z.size
 | 0,a=>by simp
 | n+1,a=>by
  rw[List.replicate_succ,Pa,Xbr z n,Array.size_append,Nat.succ_mul];omega
theorem Je(z:Str)(n:Nat):(repS z n).length=n * z.length:=by
 have e:=Xbr z.cps n #[];show ((List.replicate n z.cps).foldl (· ++ ·) #[]).size=n * z.cps.size;simpa using e
theorem Xh1{z:Str}(h:z.length=0)(n:Nat):repS z n=z:=by
 have e:=Je z n;rw[h,Nat.mul_zero] at e;generalize repS z n=y at e;obtain⟨c⟩:=z;obtain⟨d⟩:=y;have h':c.size=0:=h;have e':d.size=0:=e;rw[Array.size_eq_zero_iff] at h' e';rw[h',e']
theorem Xh2:OpR X (binaryOp .Mult) (λx y H Q=>∃z n,x = .str z/\y = .int n/\0<=n/\n<=1000/\z.length<=1000/\Q (.str (repS z n.toNat)) H):=by
 intro pins s σ H x y v u Q I rx ry h;obtain⟨z,n,rfl,rfl,h0,h1,hz,q⟩:=h;obtain⟨t,rfl⟩:=rx;obtain⟨t',rfl⟩:=ry;have hle:z.length * n.toNat<=1000 * 1000:=Nat.mul_le_mul hz (by omega);refine PySem.P.mul_str ?_ (λhn hz1=>?_) (λhn hz1=>?_) ?_
 ·have h2:¬n < -(2 ^ 63:Int):=by omega
  have h3:¬n ≥ 2 ^ 63:=by omega
  rw[Pw h2,Pw h3];rfl
 ·have h4:(1000:Int)<=(2 ^ 63 - 1) / n:=by
   refine(Int.le_ediv_iff_mul_le (by omega)).mpr ?_;have:(1000:Int) * n<=1000 * 1000:=by omega
   omega
  omega
 ·show Builtin.Str.tooLong _=false;unfold Builtin.Str.tooLong
  first
   | (refine Pw ?_;have:=hle;rw[Pr];omega)
   | (simp;omega)
 ·by_cases hn:n<1
  ·rw[Pt hn];have:n=0:=by omega
   subst this;exact⟨by decide,.str Str.empty,H,I.tok _,⟨_,rfl⟩,q⟩
  ·rw[Ps hn];by_cases hc:(n==1||z.length==0)=true
   ·rw[Pt hc];have e:repS z n.toNat=z:=by
     rcases Pb.mp hc with e | e
     ·have e':n=1:=by simpa using e
      subst e';exact Xh0 z
     ·exact Xh1 (by simpa using e) _
    rw[e] at q;exact⟨.str z,H,I,⟨_,rfl⟩,q⟩
   ·rw[Ps hc];refine⟨?_,.str (repS z n.toNat),H,I.tok _,⟨_,rfl⟩,q⟩;show (repS z n.toNat).length<=sizeLine;rw[Je,Nat.mul_comm,Pr];omega
theorem Xh3:X.calm=true->B1 X (.builtin "all") (λxs H Q=>∃(a:Addr) (bs:List Bool),xs=[.ref a]/\H a=some (.lst (bs.map V.bl))/\Q (.bl (bs.all id)) H):=by
 intro hc pins s σ H xs us Q I r h;obtain⟨a,bs,rfl,ha,q⟩:=h;obtain⟨u,rfl,ru⟩:=Ca r;cases ru;obtain⟨its,rv,p,hz⟩:=I.list (SqL.of ha);have hl:=rv.length;rw[Lf] at hl;refine call_all_walk (wpAny_pyIter_list p.isList ?_);have hlt:a≠s.heap.objs.size:=by
  obtain⟨o,ho,_⟩:=p.isList;exact Ll (Pz ho)
 refine⟨s.heap.objs.size,_,_,_,_,_,λj=>bs.getD j false,rfl,Walks.list (A:=X.A.in1) (show X.A.in1.handled=none from I.ok.hd hc) s.heap.objs.size a hlt its.toArray,⟨⟨_,Heap.get?_push_size _ rfl,rfl,rfl⟩,p.isList.push _⟩,λi v s' Q' E' hP hQ=>?_,λh' tk k=>?_⟩
 ·have hv:its[i]? = some v:=by simpa using hP
  have hi:i<its.length:=(L9.mp hv).1;have g:(bs.map V.bl)[i]? = some (.bl (bs[i]'(by omega))):=by
   rw[L1,Lm (by omega)];rfl
  obtain⟨u,hu,ru⟩:=rv.get g;rw[hv] at hu;cases hu;cases ru;have e:bs.getD i false=bs[i]'(by omega):=by simp[List.getD,(by omega:i<bs.length)]
  have hQ':Q' (bs.getD i false) s':=hQ;rw[e] at hQ';exact wpAny_truthy_bool hQ'
 ·refine⟨.bl (bs.all id),H,I.kept (t':=tk) λb o e=>k b o (λz=>?_) (P0 _ e),?_,q⟩
  ·have z':b=s.heap.objs.size:=by simpa using z
   exact absurd (Pz e) (by rw[z'];exact Ml _)
  ·show Value.bool _=Value.bool _;congr 1;rw[Lq,<-hl];rw[M3,L6,L6];constructor
   ·intro hx b hb;obtain⟨j,hj,rfl⟩:=Mv.mp hb;have:=hx j (M0.mpr hj);simpa [List.getD,hj] using this
   ·intro hx j hj;have hj':=M0.mp hj;have:=hx _ (Mj hj');simpa [List.getD,hj'] using this
end
def Itd (d:Addr) (o:Obj) (kvs:List (Key×V)):It:=
 ⟨λi H=>H d=some (.frz o (.dK kvs))/\i<kvs.length,λi H x H'=>H'=H/\∃p,kvs[i]? = some p/\x=kV p.1,λi H=>H d=some (.frz o (.dK kvs))/\kvs.length<=i⟩
theorem Xh4{P:Program}{w:World}{k:Key}{u:Value}(h:(Au P w).is k u=true):Af (kV k) u:=by
 rcases C2 (show Dd k u=true from h) with ⟨i,t,rfl,rfl⟩ | ⟨x,t,rfl,rfl⟩
 ·exact⟨t,rfl⟩
 ·exact⟨t,rfl⟩
theorem Xbs:∀{kvs:List (Key×V)} {vs:List (Key×Value)} {i:Nat} {p:Key×V},KV kvs vs->kvs[i]? = some p->∃u,vs[i]? = some (p.1,u)
 | _,_,_,_,.nil,e=>by simp at e
 | _,_,0,p,.cons (b:=b) r _,e=>by
  simp at e;subst e;obtain⟨k,u⟩:=b;obtain⟨r1,r2⟩:=r;exact⟨u,by simp only[List.getElem?_cons_zero,Option.some.injEq,Prod.mk.injEq];exact⟨r1.symm,trivial⟩⟩
 | _,_,i+1,p,.cons _ t,e=>by
  obtain⟨u,h⟩:=Xbs (i:=i) t (by simpa using e);exact⟨u,by simpa using h⟩
theorem Jf{P:Program}{w:World}{K:PySem.W.Frag}{tg:Expr}(d it:Addr)(o:Obj)(es:Array DictEntry)(ep:Nat)(hd:o.data = .dict es ep)(kvs:List (Key×V))(hne:d≠it):
  Turn P w K tg (Itd d o kvs) [it] it (λi h=>h.IsKeyIter it d i kvs.length ep) where
 mem:=by simp
 obj:=λi h st b hb=>by
  have e:b=it:=by simpa using hb
  subst e;obtain⟨o,e,c,d⟩:=st;exact⟨o,e,λv z=>by rw[d] at z;cases z⟩
 keep:=λi h h' st k=>by
  obtain⟨o,e,r⟩:=st;exact⟨o,k it (by simp) o e,r⟩
 item:=by
  intro X hP hw hK hc i pins s σ H E I hf st hg;subst hP hw hK;obtain⟨hH,hi⟩:=hg;obtain⟨ho,hz,hm,vs,rv,o',es',ep',ho',hex,hd',r'⟩:=I.hok d _ hH;rw[ho] at ho';cases ho';rw[hd] at hd';cases hd';have hlen:kvs.length=vs.length:=Paired.length rv;obtain⟨f0,f1,f2,f3,f4,f5⟩:=hf it (by simp);have hp:kvs[i]? = some (kvs[i]'hi):=Lm hi;obtain⟨u,hu⟩:=Xbs rv hp;rw[hlen] at st;refine wpAny_pyNext_dict_item (knd:=Au X.prog X.w) st ⟨o,es,ho,hex,hd,r'⟩ hu λkey h' hk st' sb=>?_;have I1:Inv X pins σ H {s with heap:=h'}:=I.turned (t':=s.toks) (λb o hb e=>(sb.2 b hb).trans e) f0 f1 f3 f4 f5;obtain⟨o2,e2,c2,d2⟩:=id st';refine⟨key,rfl,Gu (s:={s with heap:=h'}) e2 c2 d2 (by decide) ⟨_,H,I1,Xh4 hk,⟨rfl,_,hp,rfl⟩,?_,λb hb=>(hf b hb).1⟩⟩;rw[hlen];exact st'
 done:=by
  intro X hP hw hK hc i pins s σ H E I hf st hg;subst hP hw hK;obtain⟨hH,hi⟩:=hg;obtain⟨ho,hz,hm,vs,rv,o',es',ep',ho',hex,hd',r'⟩:=I.hok d _ hH;rw[ho] at ho';cases ho';rw[hd] at hd';cases hd';have hlen:kvs.length=vs.length:=Paired.length rv;obtain⟨f0,f1,f2,f3,f4,f5⟩:=hf it (by simp);rw[hlen] at st;exact wpAny_pyNext_dict_end (knd:=Au X.prog X.w) (I.ok.hd hc) st ⟨o,es,ho,hex,hd,r'⟩ (Oc (by omega)) λh' eb=>⟨rfl,I.turned (t':=s.toks) (λb o hb e=>eb b o hb e) f0 f1 f3 f4 f5⟩
 self:=λA i s Q E st h=>by
  refine wpAny_pyIter_slot st.typeIs PySem.F.slot_dict_keyiterator_iter (wpAny_call_entry PySem.F.slot_dict_keyiterator_iter st.typeIs PySem.F.entry_dict_keyiterator_iter ?_ (PySem.F.args_dict_keyiterator_iter_1 _));show wpAny _ _ (ret (.ref it)) _ _ s;exact Pq ⟨_,rfl, "dict_keyiterator",_,st.typeIs,PySem.F.slot_dict_keyiterator_next.lookup,h⟩
section
variable {X:Cx}{tg:Expr}
theorem Inv.freeze{pins:List (Addr×Obj)}{σ:St}{H:Hp}{s:Shared}{d:Addr}{kvs:List (Key×V)}{o:Obj}(I:Inv X pins σ H s)(hH:H d=some (.dK kvs))(ho:s.heap.get? d=some o):Inv X pins σ (upd H d (.frz o (.dK kvs))) s:=by
 have ne:∀{b:Addr} {u:HO},H b=some u->(HO.dK kvs≠u)->b≠d:=λ{b u} e n=>Xaa e hH (λz=>n z.symm);refine⟨I.ok,I.os,I.bare,⟨I.base.keep,I.base.slot,λb ob e n hx=>?_,I.base.there,λb xs e=>?_,λb ob u e=>?_,λb ps e=>?_⟩,I.loc,I.cell,?_,λx c e=>?_,λp hp'=>?_,λb ob e=>?_,I.len⟩
 ·have q:=I.base.free b ob e n hx;rw[Ac (λz=>by rw[z,hH] at q;cases q)];exact q
 ·have q:=I.base.tups b xs e;rw[Ac (ne q (by simp))];exact q
 ·have q:=I.base.frzs b ob u e;rw[Ac (ne q (by simp))];exact q
 ·obtain⟨more,q⟩:=I.base.tbls b ps e;exact⟨more,by rw[Ac (ne q (by simp))];exact q⟩
 ·rw[Ac (λz=>by have:=I.free;rw[z,hH] at this;cases this)];exact I.free
 ·have q:=I.freeC x c e;rw[Ac (λz=>by rw[z,hH] at q;cases q)];exact q
 ·obtain⟨e,n,r⟩:=I.pin p hp';exact⟨e,by rw[Ac (λz=>by rw[z,hH] at n;cases n)];exact n,r⟩
 ·by_cases hb:b=d
  ·subst hb;rw[Ab] at e;cases e;exact⟨ho,(I.hok b _ hH).stay (λ_ _ _ q=>q) (λc q=>by rw[Ac (ne q (by simp))];exact q) λc xs q=>by rw[Ac (ne q (by simp))];exact q⟩
  ·rw[Ac hb] at e;exact(I.hok b ob e).stay (λ_ _ _ q=>q) (λc q=>by rw[Ac (ne q (by simp))];exact q) λc xs q=>by rw[Ac (ne q (by simp))];exact q
def Xh5 (tl:TE):TI:=fun σ H R=>tl σ H λx H1=>∃d kvs,x = .ref d/\H1 d=some (.dK kvs)/\∀o,R (Itd d o kvs) (upd H1 d (.frz o (.dK kvs)))
theorem Xh6{l:Expr}{tl:TE}(hl:PE X l tl):PI X tg l (Xh5 tl):=by
 intro pins s σ H R I h;refine thn (hl pins s σ H _ I h) λv s1 ⟨x,H1,I1,r1,q1⟩=>?_;obtain⟨d,kvs,e,hH,q⟩:=q1;subst e;cases r1;obtain⟨hz,hm,vs,rv,o,es,ep,ho,hex,hd,r⟩:=I1.hok d _ hH;have hlen:kvs.length=vs.length:=Paired.length rv;refine wpAny_pyIter_dict (knd:=Au X.prog X.w) hm ⟨o,es,ho,hex,hd,r⟩ ?_;have I2:=I1.freeze hH ho;refine⟨s1.heap.objs.size,[s1.heap.objs.size],_,_,_,rfl,I2.kept (t':=s1.toks) λb o e=>P0 _ e,Jf d _ o es ep hd kvs (Ll (Pz ho)),⟨_,Heap.get?_push_size _ rfl,rfl,by rw[hlen];rfl⟩,λb hb=>?_,q o⟩;have e:b=s1.heap.objs.size:=by simpa using hb
 subst e;exact I2.fpOk (Li _) (I2.hok.fresh (Li _))
end
def PJ (X:Cx) (es:List Expr) (t:St->Hp->(Hp->Prop)->Prop):Prop:=
 ∀(out:Str) (pins:List (Addr×Obj)) (s:Shared) (σ:St) (H:Hp) (Q:Hp->Prop),Inv X pins σ H s->t σ H Q->out.length+5000 * es.length<=sizeLine ->
  wpAny (model X.prog X.w) X.A (joinParts out (evalEach es X.env)) (λu s'=>∃z tk H',u = .str z tk/\Inv X pins σ H' s'/\Q H') X.xe s
def Xh7:St->Hp->(Hp->Prop)->Prop:=λ_ H Q=>Q H
def Xh8 (t:St->Hp->(Hp->Prop)->Prop):St->Hp->(Hp->Prop)->Prop:=t
section
variable {X:Cx}{es:List Expr}{t:St->Hp->(Hp->Prop)->Prop}{e:Expr}{te:TE}{pos:Pos}
theorem Xbt:PJ X [] Xh7:=λout pins s σ H Q I h hz=>joinParts_nil ⟨out,_,H,rfl,I.tok _,h⟩ (by simpa using hz)
theorem Ek(a b:Str):(a++b).length=a.length+b.length:=strLen_append a b
theorem Gz{z:Str}{k:Nat}{p:Pos}(hz:z.length<=5000)(h:PJ X es t)(he:evalEach (.Constant (.str z) k p::es) X.env=eval (.Constant (.str z) k p) X.env::evalEach es X.env:=by rfl):PJ X (.Constant (.str z) k p::es) (Xh8 t):=by
 intro out pins s σ H Q I hw hl;rw[he];rw[Lv] at hl;refine joinParts_cons (Calls.Constant_str ⟨by rw[Ek];omega,?_⟩);exact h (out++z) pins _ σ H Q (I.tok _) hw (by rw[Ek];omega)
def Xh9 (t:St->Hp->(Hp->Prop)->Prop):TE:=fun σ H Q=>t σ H λH1=>∀z,Q (.str z) H1
theorem Xbu{a b:Expr}(h:PJ X (a::b::es) t)(hz:5000 * (a::b::es).length<=sizeLine:=by decide)(he:evalEach (a::b::es) X.env=eval a X.env::eval b X.env::evalEach es X.env:=by rfl):PE X (.JoinedStr (a::b::es) pos) (Xh9 t):=by
 intro pins s σ H Q I hw;refine JoinedStr_many ?_;rw[<-he];refine thn (h Str.empty pins s σ H _ I hw (by rw[show Str.empty.length=0 from rfl];omega)) λu s' ⟨z,tk,H',e,I',q⟩=>?_;subst e;exact⟨.str z,H',I',⟨tk,rfl⟩,q z⟩
end
end L2
namespace L2
open PySem PySem.Spec PyProof.Rows PySem.Calls Builtin Builtin.ObjectAttr Builtin.Getset_descriptor
structure ExcF (K:PySem.W.Frag) (C:Addr):Prop where
 ga:PySem.W.findIn K (.ref C) "__getattribute__" = some (some (.builtin "BaseException.__getattribute__"))
 gn:PySem.W.findIn K (.ref C) "__getattr__" = some none
 cl:PySem.W.findIn K (.ref C) "__class__" = some (some (.builtin "object.__class__"))
 sb:PySem.W.subIn K (.ref C) (.type "BaseException")=some true
 so:PySem.W.subIn K (.ref C) (.type "object")=some true
 ic:(PySem.W.clsIn K C).isSome=true
section
variable {prog:Program}{w:World}{A:Around}{E:Value->Shared->Prop}{K:PySem.W.Frag}{C a:Addr}{h:Heap}{g:Array GenState}{d:Drawn}{t:Nat}{os:OsState}
end
end L2
namespace L2
open PySem PySem.Spec PyProof.Rows
def clsV:V->Option Value
 | .ty n=>some (.type n)
 | .ref a=>some (.ref a)
 | _=>none
section
variable {X:Cx}
end
def wN (n:Nat) (Pv:Nat->St->Hp->Prop):Nat->Nat->St->Hp->Prop:=λi m σ H=>m=n - i/\i<=n/\Pv i σ H
theorem wput{n i:Nat}{Pv:Nat->St->Hp->Prop}{σ:St}{H:Hp}{D:Addr}{y:V}{ys:List V}(hi:i<n)(hD:H D=some (.lst ys))(hl:ys.length<sizeLine)(p:Pv (i+1) σ (upd H D (.lst (ys++[y])))):
  ∃ys,H D=some (.lst ys)/\ys.length<sizeLine/\∃m',m'<n - i/\wN n Pv (i+1) m' σ (upd H D (.lst (ys++[y]))):=⟨ys,hD,hl,n - (i+1),by omega,rfl,hi,p⟩
theorem wskip{n i:Nat}{Pv:Nat->St->Hp->Prop}{σ:St}{H:Hp}(hi:i<n)(p:Pv (i+1) σ H):∃m',m'<n - i/\wN n Pv (i+1) m' σ H:=⟨n - (i+1),by omega,rfl,hi,p⟩
theorem El{cap:List (Option Nat)}{g:TG}{tt:TT}{te:TE}{J:It}{σ:St}{H1:Hp}{F:Addr->Hp->Prop}(n:Nat)(vs:Nat->V)(Pv:Addr->Nat->St->Hp->Prop)
  (h0:∀D,H1 D=none->Pv D 0 (Bi cap σ) (upd H1 D (.lst [])))
  (hgo:∀D i σ2 H2,H1 D=none->i<n->Pv D i σ2 H2->J.go i H2/\∀x H3,J.yld i H2 x H3->H3=H2/\x=vs i)
  (hst:∀D σ2 H2,H1 D=none->Pv D n σ2 H2->J.stop n H2)
  (step:∀D i σ1 H2,H1 D=none->i<n->Pv D i σ1 H2->g (vs i) σ1 H2 fun σ2 H4=>tt σ2 H4 λb H5=>
   if b=true then te σ2 H5 λy H6=>∃ys,H6 D=some (.lst ys)/\ys.length<sizeLine/\∃m',m'<n - i/\wN n (Pv D) (i+1) m' σ2 (upd H6 D (.lst (ys++[y])))
   else ∃m',m'<n - i/\wN n (Pv D) (i+1) m' σ2 H5)
  (hd:∀D σ2 H2,H1 D=none->Pv D n σ2 H2->F D H2):C8 cap g tt te J σ H1 F:=by
 intro D hD;refine⟨wN n (Pv D),⟨n,by simp,Mf _,h0 D hD⟩,?_⟩;rintro i m σ1 H2 ⟨rfl,hi,p⟩;by_cases hlt:i<n
 ·obtain⟨h1,h2⟩:=hgo D i σ1 H2 hD hlt p;refine .inr ⟨h1,λx H3 y=>?_⟩;obtain⟨e1,e2⟩:=h2 x H3 y;subst e1 e2;exact step D i σ1 _ hD hlt p
 ·have e:i=n:=by omega
  subst e;exact .inl ⟨hst D σ1 H2 hD p,hd D σ1 H2 hD p⟩
theorem Em{K:PySem.W.Frag}{a:Addr}{xs:List V}{H:Hp}{i:Nat}(h:SqL K H a xs)(hi:i<xs.length):(Itl K a).go i H/\∀x H3,(Itl K a).yld i H x H3->H3=H/\x=xs.getD i .non:=
 ⟨⟨xs,xs[i],h,by simp[hi]⟩,λx H3 ⟨e,y⟩=>⟨e,by have:=y xs h;simp[List.getD,this]⟩⟩
theorem En{K:PySem.W.Frag}{a:Addr}{xs:List V}{H:Hp}(h:SqL K H a xs):(Itl K a).stop xs.length H:=⟨xs,h,Li _⟩
theorem Xbv{K:PySem.W.Frag}{a:Addr}{xs:List V}{H:Hp}{i:Nat}(h:SqT K H a xs)(hi:i<xs.length):(Itt K a).go i H/\∀x H3,(Itt K a).yld i H x H3->H3=H/\x=xs.getD i .non:=
 ⟨⟨xs,xs[i],h,by simp[hi]⟩,λx H3 ⟨e,y⟩=>⟨e,by have:=y xs h;simp[List.getD,this]⟩⟩
theorem Xbw{K:PySem.W.Frag}{a:Addr}{xs:List V}{H:Hp}(h:SqT K H a xs):(Itt K a).stop xs.length H:=⟨xs,h,Li _⟩
theorem E6{d:Addr}{o:Obj}{kvs:List (Key×V)}{H:Hp}{i:Nat}(h:H d=some (.frz o (.dK kvs)))(hi:i<kvs.length):(Itd d o kvs).go i H/\∀x H3,(Itd d o kvs).yld i H x H3->H3=H/\x=(kvs.map λp=>kV p.1).getD i .non:=
 ⟨⟨h,hi⟩,λx H3 ⟨e,p,hp,y⟩=>⟨e,by rw[y];simp[List.getD,hp]⟩⟩
theorem E7{d:Addr}{o:Obj}{kvs:List (Key×V)}{H:Hp}(h:H d=some (.frz o (.dK kvs))):(Itd d o kvs).stop kvs.length H:=⟨h,Li _⟩
end L2
namespace L2
open PySem PySem.Spec PyProof.Rows PySem.Calls
theorem Xia(t:SetTable)(n:Nat):(t.orStandIn n).led=t.led:=by
 unfold SetTable.orStandIn;split
 ·rfl
 ·rfl
theorem Xib(t:SetTable)(es:Array (Int×Value))(k:Int)(x:Value):(layNew t es k x).2.1.led=t.led:=by
 unfold layNew;split
 ·exact Xia _ _
 ·rfl
theorem Xic{mask finger moves:Nat}{led plain:Bool}{hs:Array Int}{t:SetTable}{o:Array Nat}(h:SetTable.laid mask finger moves led plain hs=some (t,o)):t.led=led/\t.plain=plain:=by
 unfold SetTable.laid at h;cases q:SetTable.layClean mask hs with
 | none=>rw[q] at h;cases h
 | some ow=>
  rw[q] at h;cases h;exact⟨rfl,rfl⟩
theorem Xid(t:SetTable)(es:Array (Int×Value))(n:Nat)(hp:t.plain=false):(relayAll t es n).2.1.led=t.led/\(relayAll t es n).2.1.plain=false:=by
 unfold relayAll;split
 ·rename_i t' o e;obtain⟨e1,e2⟩:=Xic e;dsimp only;split
  ·exact⟨e1,e2.trans hp⟩
  ·exact⟨rfl,rfl⟩
 ·exact⟨rfl,rfl⟩
def A2 (w:World):Bool:=w.params.followText "set-order"
def SSet (P:Program) (w:World) (h:Heap) (a:Addr) (ks:List Str):Prop:=
 ∃o es ep t ls,h.get? a=some o/\o.ExactSet/\o.data = .set es ep t/\ElemsOf (PySem.strKind P w) es.toList/\StrsAre (es.toList.map (·.2)) ls/\ls.Perm ks/\es.size<scanBound/\t.fits es.size=true/\t.led = !A2 w/\(t.plain=true->es.size=0)
theorem G0{l1 l2:List (Int×Value)}{ls:List Str}(p:l1.Perm l2)(h:StrsAre (l2.map (·.2)) ls):∃ls',StrsAre (l1.map (·.2)) ls'/\ls'.Perm ls:=by
 refine⟨(l1.map (·.2)).map strOf,strsAre_map _ (λv hv=>?_),?_⟩
 ·exact h.all v ((p.map (·.2)).mem_iff.mp hv)
 ·rw[<-h.strs];exact(p.map (·.2)).map strOf
theorem Xie{vs:List Value}{ls:List Str}{x:Str}{t:Tok}(h:StrsAre vs ls):StrsAre (vs++[.str x t]) (ls++[x]):=by
 induction h with
 | nil=>exact .cons x t .nil
 | cons y u _ ih=>exact .cons y u ih
section
variable {P:Program}{w:World}{A:Around}{E:Value->Shared->Prop}{s:Shared}{a:Addr}{ks:List Str}
theorem SSet.stay{h h':Heap}(S:SSet P w h a ks)(k:∀o,h.get? a=some o->h'.get? a=some o):SSet P w h' a ks:=by
 obtain⟨o,es,ep,t,ls,ho,r⟩:=S;exact⟨o,es,ep,t,ls,k o ho,r⟩
theorem Xbx{vs:List (Int×Value)}{ls:List Str}(h:StrsAre (vs.map (·.2)) ls){x:Str}:x∈ls ↔ ∃e∈vs,(PySem.strKind P w).is x e.2=true:=by
 rw[<-h.strs];constructor
 ·intro hx;obtain⟨v,hv,rfl⟩:=Lz.mp hx;obtain⟨e,he,rfl⟩:=Lz.mp hv;obtain⟨y,t,q⟩:=h.all e.2 hv;refine⟨e,he,?_⟩;rw[q];exact strKind_is P w y t
 ·rintro ⟨e,he,q⟩;obtain⟨t,e2⟩:=Value.isStrOf_shape q;exact Lz.mpr ⟨e.2,Lz.mpr ⟨e,he,rfl⟩,by rw[e2];rfl⟩
theorem Xby{o:Obj}{es:Array (Int×Value)}{ep:Nat}{t:SetTable}{h:Heap}(ho:h.get? a=some o)(hex:o.ExactSet)(hd:o.data = .set es ep t){es':Array (Int×Value)}{t':SetTable}{ls:List Str}
  (hel:ElemsOf (PySem.strKind P w) es'.toList) (hs:StrsAre (es'.toList.map (·.2)) ls) (hp:ls.Perm ks) (hb:es'.size<scanBound) (hf:t'.fits es'.size=true) (hl:t'.led = !A2 w) (hpl:t'.plain=false):
  (h.update a (Obj.putSet es' t')).get? a=some {o with data:=.set es' (ep+1) t'}/\SSet P w (h.update a (Obj.putSet es' t')) a ks:=by
 have g:=Heap.get?_update_self (Obj.putSet es' t') ho (by rw[putSet_of es' t' hd];rfl);rw[putSet_of es' t' hd] at g;exact⟨g,_,es',ep+1,t',ls,g,hex,rfl,hel,hs,hp,hb,hf,hl,λz=>by rw[hpl] at z;cases z⟩
theorem Xbz{g:Bool->Sem Unit}(hg:∀(b:Bool) (s1:Shared) (Q':Unit->Shared->Prop),Q' () s1->wpAny (model P w) A (g b) Q' E s1)
    {o:Obj} {es:Array (Int×Value)} {ep:Nat} {t:SetTable} (ho:s.heap.get? a=some o) (hex:o.ExactSet) (hd:o.data = .set es ep t) {es1:Array (Int×Value)} {t2:SetTable} {ls:List Str}
    (hel:ElemsOf (PySem.strKind P w) es1.toList) (hs:StrsAre (es1.toList.map (·.2)) ls) (hp:ls.Perm ks) (hb:es1.size<scanBound) (hf:t2.fits es1.size=true) (hl:t2.led = !A2 w) (hpl:t2.plain=false) {wd:Bool} {R:Option Bool->Shared->Prop}
    (h:∀h',Heap.SameBut a s.heap h'->SSet P w h' a ks->R (some true) {s with heap:=h'}):
    wpAny (model P w) A (do
        storeSet a es1 t2
        if (!wd && t2.tooFull) = true then do g (relayAll t2 es1 (SetTable.grown es1.size)).2.2
                                              storeSet a (relayAll t2 es1 (SetTable.grown es1.size)).1 (relayAll t2 es1 (SetTable.grown es1.size)).2.1
                                              pure (some true)
        else pure (some true)) R E s:=by
  refine Pp (wpAny_storeSet_of ho hd ?_ (fits_of_scanBound hb));obtain⟨g1,S1⟩:=Xby (P:=P) (w:=w) ho hex hd hel hs hp hb hf hl hpl;have sb:=P1 s.heap a (Obj.putSet es1 t2);split
  . have pp:=relayAll_perm t2 es1 (SetTable.grown es1.size);have ff:=relayAll_fits t2 es1 (SetTable.grown es1.size);obtain⟨fl1,fl2⟩:=Xid t2 es1 (SetTable.grown es1.size) hpl;generalize relayAll t2 es1 (SetTable.grown es1.size)=R3 at pp ff fl1 fl2 ⊢;obtain⟨es3,t3,gv⟩:=R3;dsimp only at pp ff fl1 fl2 ⊢;obtain⟨ls3,s3,p3⟩:=G0 pp hs;have z:es3.size=es1.size:=by rw[<-Ln,pp.length_eq,Ln]
    refine Pp (hg _ _ _ ?_);refine Pp (wpAny_storeSet_of g1 rfl ?_ (fits_of_scanBound (by rw[z];exact hb)));obtain⟨_,S3⟩:=Xby (P:=P) (w:=w) (ks:=ks) g1 hex rfl (hel.perm pp) s3 (p3.trans hp) (by rw[z];exact hb) ff (fl1.trans hl) fl2;exact Pq (h _ (sb.trans (P1 _ a _)) S3)
  . exact Pq (h _ sb S1)
theorem sset_add{x:Str}{tk:Tok}{Q:Bool->Shared->Prop}(S:SSet P w s.heap a ks)(hr:ks.length+1<scanBound)
  (h:∀b h',Heap.SameBut a s.heap h'->SSet P w h' a (if x∈ks then ks else ks++[x])->Q b {s with heap:=h'}):
  wpAny (model P w) A (setAddHashed a (.str x tk) ((PySem.strKind P w).hash x)) Q E s:=by
 obtain⟨o,es,ep,t,ls,ho,hex,hd,hel,hs,hp,hb,hf,hl,hpl⟩:=S;have hlen:es.size=ks.length:=by
  have:=hs.length;rw[Lf,Ln] at this;rw[this,hp.length_eq]
 have hkey:(PySem.strKind P w).is x (.str x tk)=true:=strKind_is P w x tk;have hin:x∈ks ↔ ∃e∈es.toList,(PySem.strKind P w).is x e.2=true:=hp.mem_iff.symm.trans (Xbx hs);unfold setAddHashed setAddHashedIn;refine wpAny_holding (Pp (wpAny_setState_of ho hd hf ?_));dsimp only;rw[byScan_of (knd:=PySem.strKind P w) rfl hb hel];simp only[↓reduceIte];unfold setAddByScan;refine Pp (Pp (wpAny_rule (Pp (wpAny_setScan_of hkey ho hd hf hel ?_))));cases hf1:List.findIdx? (λe=>(PySem.strKind P w).is x e.2) es.toList with
 | some j=>
  dsimp only;obtain⟨hj,hpj,_⟩:=Oq.mp hf1;have hx:x∈ks:=hin.mpr ⟨es.toList[j],Mj hj,hpj⟩;refine Pq (Pq ?_);have:=h false s.heap (Heap.SameBut.refl a s.heap) (by rw[Pt hx];exact⟨o,es,ep,t,ls,ho,hex,hd,hel,hs,hp,hb,hf,hl,hpl⟩);exact this
 | none=>
  dsimp only;have hx:x∉ks:=λz=>by
   obtain⟨e,he,q⟩:=hin.mp z;have:=List.findIdx?_eq_none_iff.mp hf1 e he;rw[q] at this;cases this
  have gw:∀(b:Bool) (s1:Shared) (Q':Unit->Shared->Prop),Q' () s1->wpAny (model P w) A (match b with | true=>rule "set.scan.the-table-gave-way" | false=>pure ()) Q' E s1:=λb s1 Q' q=>by
   cases b with
   | true=>exact wpAny_rule q
   | false=>exact Pq q
  have pp:=layNew_perm t es ((PySem.strKind P w).hash x) (.str x tk);have ff:=layNew_fits t es ((PySem.strKind P w).hash x) (.str x tk);have fl:=Xib t es ((PySem.strKind P w).hash x) (.str x tk);generalize layNew t es ((PySem.strKind P w).hash x) (.str x tk)=R at pp ff fl ⊢;obtain⟨es1,t1,wd,gv⟩:=R;dsimp only at pp ff fl ⊢;rw[Array.toList_push] at pp;have el1:=(hel.push hkey rfl).perm pp;have st0:StrsAre ((es.toList++[((PySem.strKind P w).hash x,Value.str x tk)]).map (·.2)) (ls++[x]):=by
   rw[Lu];exact Xie hs
  obtain⟨ls1,st1,p1⟩:=G0 pp st0;have z1:es1.size=ks.length+1:=by
   rw[<-Ln,pp.length_eq,Lp,Ln,hlen];rfl
  have p2:ls1.Perm (ks++[x]):=p1.trans (hp.append_right _);rw[Ps hx] at h;refine Pp (gw _ _ _ ?_);split
  ·refine Pp ?_;rw[hashByValue_scannable 8 (x:=Value.str x tk) rfl];refine Pq ?_;refine Xbz (ks:=ks++[x]) gw ho hex hd el1 st1 p2 (by rw[z1];exact hr) (SetTable.fits_plain_off ff) (fl.trans hl) rfl (λh' sb S'=>?_);dsimp only;exact Pq (h true h' sb S')
  ·rename_i np;refine Pp (Pq ?_);simp only[↓reduceIte];refine Xbz (ks:=ks++[x]) gw ho hex hd el1 st1 p2 (by rw[z1];exact hr) ff (fl.trans hl) (by cases q:t1.plain with | false=>rfl | true=>exact absurd q np) (λh' sb S'=>?_);dsimp only;exact Pq (h true h' sb S')
end
def dd1 (acc:List Str) (x:Str):List Str:=if x∈acc then acc else acc++[x]
def ddup (ss:List Str):List Str:=ss.foldl dd1 []
theorem Xb0(ss:List Str)(x:Str):ddup (ss++[x])=dd1 (ddup ss) x:=by
 unfold ddup;rw[Pj];rfl
theorem Jg{p:List Str->List Str->Prop}(h0:p [] [])(h1:∀ss x,p ss (ddup ss)->p (ss++[x]) (dd1 (ddup ss) x))(ss:List Str):p ss (ddup ss):=by
 have go:∀n ss,ss.length=n->p ss (ddup ss):=by
  intro n
  induction n with
  | zero=>
   intro ss e;rw[Ma.mp e];exact h0
  | succ n ih=>
   intro ss e;have hne:ss≠[]:=λz=>by rw[z] at e;cases e
   have e2:=M7 hne;rw[<-e2,Xb0];exact h1 _ _ (ih _ (by rw[List.length_dropLast,e];rfl))
 exact go _ ss rfl
theorem Jh(ss:List Str):∀x,x∈ddup ss↔x∈ss:=by
 refine Jg (p:=λss d=>∀x,x∈d↔x∈ss) (λx=>Iff.rfl) (λss y ih x=>?_) ss;unfold dd1;split
 ·rename_i hy;rw[ih,Lr,Lk];constructor
  ·exact .inl
  ·rintro (z | z)
   ·exact z
   ·rw[z];exact(ih y).mp hy
 ·rw[Lr,Lr,ih]
theorem F2(ss:List Str):(ddup ss).Nodup:=by
 refine Jg (p:=λ_ d=>d.Nodup) List.nodup_nil (λss y ih=>?_) ss;unfold dd1;split
 ·exact ih
 ·rename_i hy;exact M6.mpr ⟨ih,by simp,λa ha b hb=>by rw[Lk.mp hb];exact λz=>hy (z ▸ ha)⟩
theorem G1(ss:List Str):(ddup ss).length<=ss.length:=by
 refine Jg (p:=λss d=>d.length<=ss.length) (Li _) (λss y ih=>?_) ss;unfold dd1;rw[Lp,Mx];split
 ·omega
 ·rw[Lp,Mx];omega
section
variable {P:Program}{w:World}{A:Around}{E:Value->Shared->Prop}{s:Shared}
theorem Xb1{R:Result->Shared->Prop}{I:Addr}{fp wr:List Addr}{G:Array GenState->Array GenState->Prop}{Pv:Nat->Value->Prop}{St:Nat->Shared->Prop}(ss:List Str)(W:WalksS P w A.in1 I fp wr G ss.length Pv St)(S:Addr)(nS:S∉fp)
  (hval:∀i v,Pv i v->∃t,v = .str (ss.getD i "") t) (hb:ss.length+1<scanBound):
  ∀(k i:Nat) (s:Shared),ss.length - i=k->i<=ss.length->St i s->SSet P w s.heap S (ddup (ss.take i))->(∀s',Moved (S::wr) G s s'->SSet P w s'.heap S (ddup ss)->R (.ok (.ret .none)) s') ->
   codeAny (model P w) A (.builtin "set.update.loop" ⟨[.ref S,.ref I],[]⟩) R s:=by
 have nw:S∉wr:=λz=>nS (W.sub _ z);have up:∀b∈wr,b∈S::wr:=λb z=>Lh _ z;intro k
 induction k with
 | zero=>
  intro i s e hi st hS hR;have:i=ss.length:=by omega
  subst this;rw[Mr] at hS;refine codeAny_builtin F.entry_set_update_loop ?_;rw[Around.under_plainId F.plain_set_update_loop _];show wpAny _ A.in1 (pyNext (.ref I) >>= λ_=>_) _ _ s;refine Pp (W.done s _ _ st λs' mv=>?_);show wpAny _ A.in1 (ret Value.none) _ _ s';exact Pq (hR s' (mv.mono up) (hS.stay λo z=>mv.heap S o nw z))
 | succ k ih=>
  intro i s e hi st hS hR;have lt:i<ss.length:=by omega
  refine codeAny_builtin F.entry_set_update_loop ?_;rw[Around.under_plainId F.plain_set_update_loop _];show wpAny _ A.in1 (pyNext (.ref I) >>= λ_=>_) _ _ s;refine Pp (W.item i s _ _ lt st λv s' hP st' mv=>?_);obtain⟨t,rfl⟩:=hval i v hP;have hS':=hS.stay λo z=>mv.heap S o nw z;show wpAny _ A.in1 (holding [Value.str (ss.getD i "") t] (setAdd S (.str (ss.getD i "") t)) >>= λ_=>_) _ _ s';refine Pp (wpAny_holding ?_);unfold setAdd;refine wpAny_holding (Pp ((PySem.strKind P w).pyHash (k:=ss.getD i "") (strKind_is P w _ t) ?_));have hl1:(ddup (ss.take i)).length<=i:=Mh (G1 _) (by rw[Mc];omega);refine sset_add (s:={s' with toks:=s'.toks+1}) hS' (by omega) λb h' sb S2=>?_;have e3:ddup (ss.take (i+1))=dd1 (ddup (ss.take i)) (ss.getD i ""):=by
   rw[Lw lt,Xb0];congr 1;simp[List.getD,lt]
  have S3:SSet P w h' S (ddup (ss.take (i+1))):=by rw[e3];exact S2
  refine Pq ⟨plainId_quiet F.plain_set_update_loop _,ih (i+1) _ (by omega) lt (W.frame _ s' _ _ st' (Np _) λb hb o q=>?_) S3 λs'' mv2 S4=>?_⟩
  ·rw[sb.2 b (λz=>nS (z ▸ hb))];exact q
  ·refine hR s'' (Moved.trans W.gtrans ((mv.mono up).then_heap (Np _) λb o hb q=>?_) mv2) S4;rw[sb.2 b (λz=>hb (z ▸ Lj))];exact q
inductive Src (h:Heap) (l:Addr) (items:Array Value):Prop
 | lst:h.IsList l items->Src h l items
 | tup:h.IsTuple l items->Src h l items
theorem Xif(a:Value){Q:Value->Shared->Prop}(h:Q (.ref s.heap.objs.size) {s with heap:=s.heap.push {cls:=.type "set",dict:=none,data:=.set #[] 0 (.fresh 0 0 (!A2 w))} }):
    codeAny (model P w) A (.call (.builtin "set.__new__") ⟨[.type "set",a],[]⟩) (wants Q E) s:=by
  refine codeAny_of_tree ?_
  show wpAny _ A.in1 (do checkBuiltinCall "set.__new__" ⟨[.type "set",a],[]⟩
                         again (.builtin "set.__new__" ⟨[.type "set",a],[]⟩)) _ _ s
  refine Pp (wpAny_of_eq (PySem.F.newCall_set_1 a) (Pq ⟨plainId_quiet PySem.F.plain_set_new _,codeAny_builtin PySem.F.entry_set_new ?_⟩));rw[Around.under_plainId PySem.F.plain_set_new _];unfold Builtin.«set.__new__» Builtin.Frozenset.newClass;have q:=sub_set_self;obtain⟨hp,g,d,tk,os⟩:=s;dsimp only
  wp_walk
  refine wpAny_askSetting (Pq ?_);dsimp only;simp only[newObj];exact Pp (wpAny_alloc (Pq (Pq h)))
end
end L2
set_option maxHeartbeats 3200000
namespace L2
open PySem PySem.Spec PyProof.Rows PySem.Calls
section
variable {P:Program}{w:World}{A:Around}{E:Value->Shared->Prop}{s:Shared}
abbrev D0 (w:World):Obj:={cls:=.type "set",dict:=none,data:=.set #[] 0 (.fresh 0 0 (!A2 w))}
theorem Xig{h:Heap}{a:Addr}(g:h.get? a=some (D0 w)):SSet P w h a []:=
 ⟨_, #[],0,_,[],g,⟨rfl,rfl,rfl⟩,rfl,λe he=>by simp at he,.nil,.nil,by decide,rfl,rfl,λ_=>rfl⟩
theorem Xih{l S:Addr}{items:Array Value}{ss:List Str}{R:Unit->Shared->Prop}(hh:A.handled=none)(src:Src s.heap l items)(hs:StrsAre items.toList ss)(hb:ss.length+1<scanBound)(hS:SSet P w s.heap S [])(hlS:l≠S)
  (hTS:∀(Q:Bool->Shared->Prop),Q false s->wpAny (model P w) A (Builtin.Frozenset.isAnySet (.ref l)) Q E s)
  (h:∀(h':Heap) (tk:Nat),SSet P w h' S (ddup ss)->(∀b o,b≠S->s.heap.get? b=some o->h'.get? b=some o)->R () {s with heap:=h',toks:=tk}):
  wpAny (model P w) A (Builtin.Frozenset.updateFrom "set.__init__" S (.ref l)) R E s:=by
 have hlen:items.size=ss.length:=by
  have:=hs.length
  rwa [Ln] at this
 have hval:∀(i:Nat) (v:Value),items[i]? = some v->∃t,v = .str (ss.getD i "") t:=λi v q=>by
  have q':items.toList[i]? = some v:=by rw[O0];exact q
  obtain⟨x,t,rfl⟩:=hs.all v (Nk q');refine⟨t,?_⟩;congr 1;rw[<-hs.strs];simp[List.getD,L1,q,strOf]
 obtain⟨oS,_,_,_,_,gS,_⟩:=id hS;have ltS:=Pz gS;unfold Builtin.Frozenset.updateFrom;refine Pp (hTS _ ?_);simp only[L8,if_false];cases src with
 | lst hl=>
  have hll:l<s.heap.objs.size:=by obtain⟨o,g,_⟩:=hl;exact Pz g
  refine Pp (wpAny_typeOf (T := "list") hl.typeIs ?_);have ne:(Value.type "list" == Value.type "dict")=false:=by decide
  simp only[ne,L8,if_false];refine Pp (wpAny_pyIter_list hl ?_);refine Pp (wpAny_runValue ?_);have nI:S∉[s.heap.objs.size,l]:=by simp only[Lo,N5,or_false,not_or];exact⟨Ll ltS,hlS.symm⟩
  have W:=(Walks.list (prog:=P) (w:=w) (A:=A.in1) (by simp[hh]) s.heap.objs.size l (Ll hll) items).toS;rw[hlen] at W;refine Xb1 ss W S nI hval hb _ 0 _ rfl (Mf _) ⟨⟨_,Heap.get?_push_size _ rfl,rfl,rfl⟩,hl.push _⟩ (hS.stay λo q=>P0 _ q) λs' mv S'=>?_;rw[Moved.eq_with mv];refine Pq (h s'.heap s'.toks S' λb o nb q=>mv.heap b o (λz=>?_) (P0 _ q));rcases Lo.mp z with z | z
  ·exact nb z
  ·exact absurd (Pz q) (by rw[Lk.mp z];exact Ml _)
 | tup hl=>
  have hll:l<s.heap.objs.size:=by obtain⟨o,g,_⟩:=hl;exact Pz g
  refine Pp (wpAny_typeOf (T := "tuple") hl.typeIs ?_);have ne:(Value.type "tuple" == Value.type "dict")=false:=by decide
  simp only[ne,L8,if_false];refine Pp (wpAny_pyIter_tuple hl ?_);refine Pp (wpAny_runValue ?_);have nI:S∉[s.heap.objs.size,l]:=by simp only[Lo,N5,or_false,not_or];exact⟨Ll ltS,hlS.symm⟩
  have W:=(Walks.tuple (prog:=P) (w:=w) (A:=A.in1) (by simp[hh]) s.heap.objs.size l (Ll hll) items).toS;rw[hlen] at W;refine Xb1 ss W S nI hval hb _ 0 _ rfl (Mf _) ⟨⟨_,Heap.get?_push_size _ rfl,rfl,rfl⟩,hl.push _⟩ (hS.stay λo q=>P0 _ q) λs' mv S'=>?_;rw[Moved.eq_with mv];refine Pq (h s'.heap s'.toks S' λb o nb q=>mv.heap b o (λz=>?_) (P0 _ q));rcases Lo.mp z with z | z
  ·exact nb z
  ·exact absurd (Pz q) (by rw[Lk.mp z];exact Ml _)
theorem Src.push{h:Heap}{l:Addr}{items:Array Value}(x:Src h l items)(o:Obj):Src (h.push o) l items:=by
 cases x with
 | lst y=>exact .lst (y.push o)
 | tup y=>exact .tup (y.push o)
theorem Src.any{l:Addr}{items:Array Value}(x:Src s.heap l items){Q:Bool->Shared->Prop}(q:Q false s):wpAny (model P w) A (Builtin.Frozenset.isAnySet (.ref l)) Q E s:=by
 cases x with
 | lst y=>
  obtain⟨o,g,c,n,d⟩:=y;obtain⟨oc,od,odt,os⟩:=o;simp only at c d;subst c d;have h1:=PySem.F.sub_list_set;have h2:=PySem.F.sub_list_frozenset;unfold Builtin.Frozenset.isAnySet
  wp_walk
  exact q
 | tup y=>
  obtain⟨o,g,c,n,d⟩:=y;obtain⟨oc,od,odt,os⟩:=o;simp only at c d;subst c d;have h1:isSubtype (.type "tuple") (.type "set")=pure false:=by rw[isSubtype_type];kernel_rfl
  have h2:isSubtype (.type "tuple") (.type "frozenset")=pure false:=by rw[isSubtype_type];kernel_rfl
  unfold Builtin.Frozenset.isAnySet
  wp_walk
  exact q
theorem Src.lt{h:Heap}{l:Addr}{items:Array Value}(x:Src h l items):l<h.objs.size:=by
 cases x with
 | lst y=>obtain⟨o,g,_⟩:=y;exact Pz g
 | tup y=>obtain⟨o,g,_⟩:=y;exact Pz g
theorem Xii{l:Addr}{items:Array Value}{ss:List Str}{Q:Value->Shared->Prop}(hh:A.handled=none)(src:Src s.heap l items)(hs:StrsAre items.toList ss)(hb:ss.length+1<scanBound)
  (h:∀(h':Heap) (tk:Nat),SSet P w h' s.heap.objs.size (ddup ss)->(∀b o,s.heap.get? b=some o->h'.get? b=some o)->Q (.ref s.heap.objs.size) {s with heap:=h',toks:=tk}):
  wpAny (model P w) A (call (.type "set") [.ref l]) Q E s:=by
 obtain⟨c,tl,hmro⟩:=PySem.F.called_set.mro;have hmade:=PySem.F.called_set.made;have hsub:=PySem.F.called_set.sub;refine wpAny_call (codeAny_of_tree ?_);show wpAny _ _ (callAny (.type "set") _) _ _ s;refine Pq ⟨Code.quiet_builtin _ (by decide +kernel),codeAny_builtin PySem.F.entry_type_call ?_⟩;rw[Around.under_plain (weight_type_call_type "set" [.ref l] []) rfl];have f1:=PySem.F.called_set.notType;have f2:=PySem.F.called_set.canCreate;have f3:=PySem.F.typeCall_set_1 (.ref l)
 repeat (any_goals (first | assumption | wp_step))
 refine codeAny_mono (Xif (.ref l) (E:=E) (Q:=λobj s1=>obj = .ref s.heap.objs.size/\s1 = {s with heap:=s.heap.push (D0 w)}) ⟨rfl,rfl⟩) λr s1 hr=>?_;cases r with
 | error e=>exact hr
 | ok fl=>
  cases fl with
  | ret obj=>
   obtain⟨rfl,rfl⟩:=hr;have gS:(s.heap.push (D0 w)).get? s.heap.objs.size=some (D0 w):=Heap.get?_push_size _ rfl;have hT:Shared.TypeIs {s with heap:=s.heap.push (D0 w)} (.ref s.heap.objs.size) "set" := ⟨_,gS,rfl⟩;have f4:=PySem.F.called_set.init.lookup;have f5:=PySem.F.called_set.init.bind (.ref s.heap.objs.size)
   repeat (any_goals (first | assumption | wp_step))
   refine codeAny_mono (codeAny_call_builtin (R:=wants (λr s2=>r = .none/\∃h' tk,s2 = {s with heap:=h',toks:=tk}/\SSet P w h' s.heap.objs.size (ddup ss)/\∀b o,s.heap.get? b=some o->h'.get? b=some o) E)
    PySem.F.called_set.init.plain PySem.F.entry_set_init (check_set_init_1 hT ?_)) λr2 s2 hr2=>?_
   ·have src':=src.push (D0 w);have lt:=src.lt;unfold Builtin.«set.__init__» noKeywords;generalize hU:Builtin.Frozenset.updateFrom=U
    wp_walk
    subst hU;refine Xih (s:={s with heap:=s.heap.push (D0 w)}) (by simp[hh]) src' hs hb (Xig gS) (Ll lt) (λQ q=>Src.any (s:={s with heap:=s.heap.push (D0 w)}) src' q) λh' tk S' kk=>?_;exact Pq ⟨rfl,h',tk,rfl,S',λb o q=>kk b o (Ll (Pz q)) (P0 _ q)⟩
   ·cases r2 with
    | error e=>exact hr2
    | ok fl2=>
     cases fl2 with
     | ret r=>
      obtain⟨rfl,h',tk,rfl,S',kk⟩:=hr2
      repeat (any_goals (first | assumption | wp_step))
      exact h _ _ S' kk
     | _=>exact hr2.elim
  | _=>exact hr.elim
end
namespace SF
theorem sIter:Slot "set" "__iter__" "set.__iter__" := PySem.F.slot_set_iter
theorem eIter:entryFor table "set.__iter__" = some Builtin.«frozenset.__iter__»:=entryFor_alias (id' := "frozenset.__iter__") (by kernel_rfl) rfl (by decide +kernel) (by kernel_rfl)
theorem sNext:Slot "set_iterator" "__next__" "set_iterator.__next__" := .of (owner := "set_iterator") (n := "__next__") (by rw[typeLookup_type,builtinLookup_eq_fast];kernel_rfl) (by decide +kernel) (by decide +kernel) (by decide +kernel) (by first | exact .inl (by decide +kernel) | exact .inr (by decide +kernel)) (by rw[isSubtype_type];kernel_rfl)
theorem eNext:entryFor table "set_iterator.__next__" = some Builtin.«set_iterator.__next__»:=entryFor_of_tree (by kernel_rfl)
theorem aNext(a:Value):argsOk "set_iterator.__next__" ⟨[a],[]⟩:=by unfold argsOk;kernel_rfl
end SF
theorem Ji{α : Type}:∀(xs:List α) (i:Nat) (hi:i<xs.length),(xs[i]::xs.eraseIdx i).Perm xs
 | x::xs,0,_=>M8 _
 | x::xs,i+1,hi=>by
  have ih:=Ji xs i (by simpa using hi);rw[List.eraseIdx_cons_succ,List.getElem_cons_succ];exact(List.Perm.swap x _ _).trans (ih.cons x)
theorem Xij{α : Type}(next:Nat->Nat):∀(n k:Nat) (left:List α) (out:Array α),left.length=n->(pickOrder.go next n k left out).toList.Perm (out.toList++left):=by
 intro n
 induction n with
 | zero=>
  intro k left out e;rw[Ma.mp e,Mm];exact M8 _
 | succ n ih=>
  intro k left out e;have hlt:next k % left.length<left.length:=Pk _ (by omega);unfold pickOrder.go;rw[Lm hlt];dsimp only;refine(ih _ _ _ (by rw[Nt hlt,e];rfl)).trans ?_;rw[Array.toList_push,Ng];exact(Ji left _ hlt).append_left _
theorem Xb2{α : Type}(next:Nat->Nat)(xs:Array α):(pickOrder next xs).toList.Perm xs.toList:=by
 have:=Xij next xs.size 0 xs.toList #[] (by simp);simpa [pickOrder] using this
section
variable {P:Program}{w:World}{A:Around}{E:Value->Shared->Prop}{s:Shared}
theorem Xik{src:Source}{n:Nat}{Q:Nat->Shared->Prop}(hn:n≠0)(h:∀i d,i<n->Q i {s with drawn:=d}):wpAny (model P w) A (choose src n) Q E s:=by
 intro Γ p hΓ;exact⟨hn,h _ _ (Pk _ (Nat.pos_of_ne_zero hn))⟩
theorem Xb3{α : Type}:∀(n:Nat) (xs:List α) (s:Shared) (Q:List α->Shared->Prop),xs.length=n->(∀os d,os.Perm xs->Q os {s with drawn:=d})->wpAny (model P w) A (drawOrder n xs) Q E s:=by
 intro n
 induction n with
 | zero=>
  intro xs s Q e h;rw[Ma.mp e] at h ⊢;unfold drawOrder;exact Pq (h [] s.drawn (M8 _))
 | succ n ih=>
  intro xs s Q e h;cases xs with
  | nil=>cases e
  | cons y ys=>
   unfold drawOrder;refine Pp (Xik (by simp) λi d hi=>?_);rw[Lm hi];dsimp only;refine Pp (ih _ _ _ (by rw[Nt hi,e];rfl) λos d' hp=>?_);exact Pq (h _ d' ((hp.cons _).trans (Ji _ i hi)))
def SAt (h:Heap) (a:Addr) (es:Array (Int×Value)) (ep:Nat) (t:SetTable):Prop:=∃o,h.get? a=some o/\o.ExactSet/\o.data = .set es ep t/\t.fits es.size=true
theorem Xil{a:Addr}{es:Array (Int×Value)}{ep:Nat}{t:SetTable}{Q:Bool->Shared->Prop}(hs:SAt s.heap a es ep t)(h:Q (!A2 w&&(!t.plain&&decide (es.size > 1))) s):wpAny (model P w) A (setDrawn a) Q E s:=by
 obtain⟨o,ho,hex,hd,hf⟩:=hs;unfold setDrawn setsByText;refine Pp (wpAny_setState_of ho hd hf ?_);dsimp only;refine Pp (Pp (wpAny_askSetting (Pq ?_)));exact Pq h
abbrev itO (f0:Value) (i:Nat) (a:Addr) (n ep:Nat):Obj:={cls:=.type "set_iterator",data:=.fields #[f0,.int i 0,.ref a,.int n 0,.int ep 0]}
inductive Ord (w:World) (h:Heap) (a:Addr) (es:Array (Int×Value)) (ep:Nat) (t:SetTable) (f0:Value) (i:Nat):List Value->Prop
 | txt:A2 w=true->f0 = .int 0 0->Ord w h a es ep t f0 i ((pickOrder (w.params.setOrder a ep) es).toList.map (·.2))
 | drw (p:Addr) (os:List Nat):A2 w=false->os.Perm (List.range es.size)->f0 = .ref p->(∃n,h.get? p=some ⟨.type "tuple",none,.seq (os.map λj=>Value.int (j:Nat) 0).toArray n, #[]⟩)->Ord w h a es ep t f0 i (os.map λj=>((es[j]?).map (·.2)).getD .none)
 | one (sl:Nat):A2 w=false->t.led=true->es.size<=1->f0 = .int sl 0->(i=0->sl=0)->(∀j,i=1->t.place[0]? = some j->sl=j+1)->Ord w h a es ep t f0 i (es.toList.map (·.2))
theorem Xim{a:Addr}{es:Array (Int×Value)}{ep:Nat}{t:SetTable}{Q:Value->Shared->Prop}(hs:SAt s.heap a es ep t)(hb:es.size<scanBound)(hl:t.led = !A2 w)(hp:t.plain=true->es.size=0)
    (h:∀(f0:Value) (vs:List Value) (h1:Heap) (d:Drawn),(∀b o,s.heap.get? b=some o->h1.get? b=some o)->h1.objs.size<=s.heap.objs.size+1->s.heap.objs.size<=h1.objs.size->(∀p,f0 = .ref p->p<h1.objs.size)->Ord w (h1.push (itO f0 0 a es.size ep)) a es ep t f0 0 vs ->
      vs.Perm (es.toList.map (·.2))->Q (.ref h1.objs.size) {s with heap:=h1.push (itO f0 0 a es.size ep),drawn:=d}):
    wpAny (model P w) A (pyIter (.ref a)) Q E s:=by
  obtain⟨o,ho,hex,hd,hf⟩:=id hs;have hT:s.TypeIs (.ref a) "set" := ⟨o,ho,hex.1⟩;refine wpAny_pyIter_slot hT SF.sIter (wpAny_call_entry SF.sIter hT SF.eIter ?_ (PySem.F.args_set_iter_1 _));unfold Builtin.«frozenset.__iter__» Builtin.Frozenset.slot0 slotArgs;simp only[List.isEmpty_nil,Os,L8, ↓reduceIte,bind_assoc,Nn,bne_self_eq_false];unfold Builtin.Frozenset.addrOf Builtin.Frozenset.sizeOf;refine Pp (Pq ?_);dsimp only;refine Pp (Pq ?_);refine Pp (Pp (wpAny_setEntries_of ho hd hf (Pq ?_)));refine Pp (Xil hs ?_);have fin:∀(f0:Value) (vs:List Value) (h1:Heap) (d:Drawn),(∀b o,s.heap.get? b=some o->h1.get? b=some o)->h1.objs.size<=s.heap.objs.size+1->s.heap.objs.size<=h1.objs.size->(∀p,f0 = .ref p->p<h1.objs.size)->Ord w (h1.push (itO f0 0 a es.size ep)) a es ep t f0 0 vs->vs.Perm (es.toList.map (·.2)) ->
      wpAny (model P w) A.in1 (do let r <-newFields "set_iterator" [f0,rawInt 0,.ref a,rawInt es.size,rawInt ep]
                                  ret r) (λfin s'=>∃r,fin = .done (.ret r)/\∃T v,s'.TypeIs r T/\typeLookup (.type T) (Str.ofString "__next__")=pure (some v)/\Q r s') E {s with heap:=h1,drawn:=d}:=λf0 vs h1 d k1 k2 k3 k4 k5 k6=>
    Pp (wpAny_newObj_type (Pq ⟨_,rfl, "set_iterator",_,⟨_,Heap.get?_push_size _ rfl,rfl⟩,SF.sNext.lookup,h f0 vs h1 d k1 k2 k3 k4 k5 k6⟩))
  by_cases hc:(!A2 w&&(!t.plain&&decide (es.size > 1)))=true
  . rw[Pt hc];simp only[Ls,Pi,decide_eq_true_eq] at hc;obtain⟨c1,c2,c3⟩:=hc;refine Pp (Xb3 _ _ _ _ Mp λos d po=>?_);have hol:os.length=es.size:=by rw[po.length_eq,Mp]
    refine Pp (wpAny_newTuple ?_ (by rw[Lf,hol];exact fits_of_scanBound hb));refine Pp (wpAny_setEpoch_of (P0 _ ho) hd hf ?_);refine fin _ _ _ d (λb o q=>P0 _ q) (by rw[size_push'];exact Li _) (by rw[size_push'];exact Np _) (λp e=>by cases e;rw[size_push'];exact Nat.lt_succ_self _) (.drw s.heap.objs.size os c1 po rfl ⟨0,P0 _ (Heap.get?_push_size _ rfl)⟩) ?_;have e:(os.map λj=>((es[j]?).map (·.2)).getD Value.none).Perm ((List.range es.size).map λj=>((es[j]?).map (·.2)).getD Value.none):=po.map _;refine e.trans ?_;have e2:((List.range es.size).map λj=>((es[j]?).map (·.2)).getD Value.none)=es.toList.map (·.2):=by
      apply List.ext_getElem?;intro i;have q:es.toList[i]? = es[i]?:=O0;rw[L1,L1,q];by_cases hi:i<es.size
      . rw[Oo hi,Nm,getElem?_pos es i hi];rfl
      . rw[Oc (by simpa using hi),getElem?_neg es i hi];rfl
    rw[e2]
  . rw[Ps hc];refine Pp (Pq ?_);refine Pp (wpAny_setEpoch_of ho hd hf ?_);cases hw:A2 w with
    | true=>exact fin _ _ _ s.drawn (λb o q=>q) (Np _) (Li _) (λp e=>by cases e) (.txt hw rfl) ((Xb2 _ es).map _)
    | false=>
      have h1:es.size<=1:=by
        cases hpl:t.plain with
        | true=>rw[hp hpl];exact Mf _
        | false=>
          simp only[hw,hpl,Bool.not_false,Ni,decide_eq_true_eq] at hc;omega
      exact fin _ _ _ s.drawn (λb o q=>q) (Np _) (Li _) (λp e=>by cases e) (.one 0 hw (by rw[hl,hw];rfl) h1 rfl (λ_=>rfl) (λj e=>by cases e)) (M8 _)
end
end L2
namespace L2
open PySem PySem.Spec PyProof.Rows PySem.Calls
section
variable {P:Program}{w:World}{A:Around}{E:Value->Shared->Prop}{s:Shared}{I a:Addr}{es:Array (Int×Value)}{ep:Nat}{t:SetTable}
def ItS (w:World) (I a:Addr) (es:Array (Int×Value)) (ep:Nat) (t:SetTable) (vs:List Value) (fp:Option Addr) (i:Nat) (h:Heap):Prop:=
 ∃f0,h.get? I=some (itO f0 i a es.size ep)/\Ord w h a es ep t f0 i vs/\SAt h a es ep t/\(∀p,f0 = .ref p->fp=some p)
theorem Xb4{i:Nat}{f0:Value}{Q:Fin->Shared->Prop}(hI:s.heap.get? I=some (itO f0 i a es.size ep))(hS:SAt s.heap a es ep t)
  (h1:∀sl,f0 = .int sl 0->wpAny (model P w) A (do
   match <-setNext a sl.toNat i ep with
   | some (x,next)=>setField (.ref I) 0 (rawInt next);setField (.ref I) 1 (rawInt ((i:Int)+1));ret x
   | none=>setField (.ref I) 2 .none;raiseNew (<-newExc (.type "StopIteration") [])) Q E s)
  (h2:∀p,f0 = .ref p->wpAny (model P w) A (do
   let some places <-seqItems? (.ref p) | unsupported "internal:set_iterator"
   match places[i]? with
   | some (.int place _)=>let x <-setNextDrawn a place.toNat ep;setField (.ref I) 1 (rawInt ((i:Int)+1));ret x
   | some _=>unsupported "internal:set_iterator"
   | none=>setField (.ref I) 0 (rawInt 0);setField (.ref I) 2 .none;raiseNew (<-newExc (.type "StopIteration") [])) Q E s)
  (hf:(∃sl,f0 = .int sl 0) \/ ∃p,f0 = .ref p):wpAny (model P w) A (Builtin.«set_iterator.__next__» ⟨[.ref I],[]⟩) Q E s:=by
 obtain⟨o,ho,hex,hd,hft⟩:=id hS;unfold Builtin.«set_iterator.__next__» slotArgs;simp only[List.isEmpty_nil,Os,L8, ↓reduceIte,bind_assoc,Nn,bne_self_eq_false];refine Pp (Pq ?_);dsimp only;refine Pp (wpAny_fieldsOf hI rfl ?_);dsimp only;refine Pp (wpAny_setEntries_of ho hd hft ?_);rw[Ps (by simp)];rcases hf with ⟨sl,rfl⟩ | ⟨p,rfl⟩
 ·exact h1 sl rfl
 ·exact h2 p rfl
theorem G2{h:Heap}{f0 x:Value}{i j n:Nat}(hI:h.get? I=some (itO f0 i a n ep))(k:Nat)(v:Value):
  (h.update I (Obj.mapFields (·.setIfInBounds k v))).get? I=some {cls:=.type "set_iterator",data:=.fields ((#[f0,.int i 0,.ref a,.int n 0,.int ep 0]:Array Value).setIfInBounds k v)}:=
 Heap.get?_update_self _ hI rfl
theorem SAt.at{h h':Heap}(x:SAt h a es ep t)(k:∀o,h.get? a=some o->h'.get? a=some o):SAt h' a es ep t:=by
 obtain⟨o,ho,r⟩:=x;exact⟨o,k o ho,r⟩
theorem Xb5{sl i:Nat}{Q:Option (Value×Nat)->Shared->Prop}(hw:A2 w=true)(hS:SAt s.heap a es ep t)(h:Q (((pickOrder (w.params.setOrder a ep) es)[i]?).map λe=>(e.2,sl)) s):wpAny (model P w) A (setNext a sl i ep) Q E s:=by
 obtain⟨o,ho,hex,hd,hf⟩:=id hS;unfold setNext setsByText;refine Pp (wpAny_setState_of ho hd hf ?_);dsimp only;refine Pp (Pp (wpAny_askSetting (Pq ?_)));rw[Pt (show (model P w).w.params.followText "set-order" = true from hw),Ps (by simp)];unfold setWalk setsByText;refine Pp (Pp (wpAny_setState_of ho hd hf ?_));dsimp only;refine Pp (Pp (wpAny_askSetting (Pq ?_)));rw[Pt (show (model P w).w.params.followText "set-order" = true from hw)];exact Pp (wpAny_askSetting (Pq (Pq h)))
theorem Xb6{sl i:Nat}{Q:Option (Value×Nat)->Shared->Prop}(hw:A2 w=false)(hl:t.led=true)(h1:es.size<=1)(hS:SAt s.heap a es ep t)
  (h:Q (match es[SetTable.below t.place sl]?,t.place[SetTable.below t.place sl]? with | some (_,x),some j=>some (x,j+1) | _,_=>none) s):wpAny (model P w) A (setNext a sl i ep) Q E s:=by
 obtain⟨o,ho,hex,hd,hf⟩:=id hS;unfold setNext setsByText;refine Pp (wpAny_setState_of ho hd hf ?_);dsimp only;refine Pp (Pp (wpAny_askSetting (Pq ?_)));rw[Ps (show ¬(model P w).w.params.followText "set-order" = true from by show ¬A2 w=true;rw[hw];decide)];have d1:(!t.plain&&decide (es.size > 1))=false:=by rw[Pw (by omega),Bool.and_false]
 refine wpAny_ite_split (λz=>?_) (λ_=>?_)
 ·have z':(!t.plain&&decide (es.size > 1))=true:=z;rw[d1] at z';cases z'
 refine Pp ?_;have m1:(!t.led && !es.isEmpty)=false:=by rw[hl];rfl
 refine wpAny_ite_split (λz=>?_) (λ_=>Pq (Pq h));have z':(!t.led && !es.isEmpty)=true:=z;rw[m1] at z';cases z'
theorem Xin{t:SetTable}(h:t.place.size<=1):SetTable.below t.place 0=0:=by
 generalize t.place=pl at *;obtain⟨l⟩:=pl
 match l,h with
 | [],_=>rfl
 | [x],_=>simp[SetTable.below,SetTable.below.go]
theorem Xio{t:SetTable}{j:Nat}(h:t.place.size<=1)(hj:t.place[0]? = some j):SetTable.below t.place (j+1)=1:=by
 generalize t.place=pl at *;obtain⟨l⟩:=pl
 match l,h,hj with
 | [x],_,hj=>
  have:x=j:=by simpa using hj
  subst this;simp[SetTable.below,SetTable.below.go]
theorem Xb7{n:Nat}(h:t.fits n=true):t.place.size=n:=by
 unfold SetTable.fits at h;simp only[Ls,beq_iff_eq] at h;exact h.1
end
section
variable {P:Program}{w:World}{A:Around}{E:Value->Shared->Prop}{s:Shared}{I a:Addr}{es:Array (Int×Value)}{ep:Nat}{t:SetTable}{vs:List Value}{fp:Option Addr}
theorem Ord.cases0{h:Heap}{f0:Value}{i:Nat}(x:Ord w h a es ep t f0 i vs):(∃sl:Int,f0 = .int sl 0) \/ ∃p,f0 = .ref p:=by
 cases x with
 | txt _ e=>exact .inl ⟨0,e⟩
 | drw p os _ _ e _=>exact .inr ⟨p,e⟩
 | one sl _ _ _ e _ _=>exact .inl ⟨sl,e⟩
theorem Xip{i:Nat}{Q:Option Value->Shared->Prop}(st:ItS w I a es ep t vs fp i s.heap)(hi:i<vs.length)(hl:vs.length=es.size)(nIa:a≠I)(nIp:∀p,fp=some p->p≠I)
  (hQ:∀h',ItS w I a es ep t vs fp (i+1) h'->Heap.SameBut I s.heap h'->Q (some vs[i]) {s with heap:=h'}):wpAny (model P w) A (pyNext (.ref I)) Q E s:=by
 obtain⟨f0,hI,hO,hS,hp⟩:=st;have hT:s.TypeIs (.ref I) "set_iterator" := ⟨_,hI,rfl⟩;unfold pyNext;refine Pp (wpAny_attempt (wpAny_callSpecial?_slot (name:=Str.ofString "__next__") hT SF.sNext (wpAny_call_entry SF.sNext hT SF.eNext ?_ (SF.aNext _))));have e1:((i:Int)+1)=((i+1:Nat):Int):=by omega
 have fin:∀(E':Value->Shared->Prop) (nx:Nat),Ord w ((s.heap.update I (Obj.mapFields (·.setIfInBounds 0 (rawInt nx)))).update I (Obj.mapFields (·.setIfInBounds 1 (rawInt ((i:Int)+1))))) a es ep t (.int nx 0) (i+1) vs ->
   wpAny (model P w) A.in1 (do
    setField (.ref I) 0 (rawInt nx)
    setField (.ref I) 1 (rawInt ((i:Int)+1))
    ret vs[i]) (λfin s'=>∃r,fin = .done (.ret r)/\wpAny (model P w) A (pure (some r)) Q E s') E' s:=λE' nx O=>by
  refine Pp (wpAny_setField hI rfl (by simp) ?_);refine Pp (wpAny_setField (G2 (x:=.none) (j:=0) hI 0 (rawInt nx)) rfl (by simp) ?_);have g:=Heap.get?_update_self (Obj.mapFields (·.setIfInBounds 1 (rawInt ((i:Int)+1)))) (G2 (x:=.none) (j:=0) hI 0 (rawInt nx)) rfl;refine Pq ⟨_,rfl,Pq (hQ _ ⟨_,g.trans ?_,O,hS.at λo q=>?_,λp z=>by cases z⟩ ((P1 ..).trans (P1 ..)))⟩
  ·rw[e1];rfl
  ·rw[((P1 s.heap I _).trans (P1 _ I _)).2 a nIa];exact q
 refine Xb4 hI hS (λsl e=>?_) (λp e=>?_) hO.cases0
 ·subst e;cases hO with
  | txt hw e=>
   cases e;have hi2:i<(pickOrder (w.params.setOrder a ep) es).size:=by simpa using hi
   refine Pp (Xb5 hw hS ?_);rw[getElem?_pos _ i hi2];have ev:((pickOrder (w.params.setOrder a ep) es).toList.map (·.2))[i]=((pickOrder (w.params.setOrder a ep) es)[i]).2:=by simp
   have f:=λE'=>fin E' 0 (.txt hw rfl);rw[ev] at f;exact f _
  | drw p os _ _ e _=>cases e
  | one sl' hw hld h1 e hz ho=>
   cases e;obtain⟨_,_,_,_,hft⟩:=id hS;have hps:=Xb7 hft;have i0:i=0:=by
    have:i<es.size:=by rw[<-hl];exact hi
    omega
   subst i0;have z0:=hz rfl;subst z0;have he:0<es.size:=by rw[<-hl];exact hi
   have hpl:0<t.place.size:=by rw[hps];exact he
   refine Pp (Xb6 hw hld h1 hS ?_);have b0:SetTable.below t.place ((0:Nat):Int).toNat=0:=Xin (by rw[hps];exact h1);rw[b0,getElem?_pos es 0 he,getElem?_pos t.place 0 hpl];have ev:(es.toList.map (·.2))[0]=(es[0]).2:=by simp
   have f:=λE'=>fin E' (t.place[0]+1) (.one (t.place[0]+1) hw hld h1 rfl (λz=>by cases z) (λj _ q=>by rw[getElem?_pos t.place 0 hpl] at q;cases q;rfl));rw[ev] at f;exact f _
 ·subst e;cases hO with
  | txt hw e=>cases e
  | one sl' hw hld h1 e hz ho=>cases e
  | drw p' os hw hp2 e htp=>
   cases e;obtain⟨n,htp⟩:=htp;have hil:i<os.length:=by simpa using hi
   have hos:os[i]<es.size:=M0.mp (hp2.mem_iff.mp (Mj hil));refine Pp (wpAny_seqItems htp rfl ?_);have g:((os.map λj=>Value.int (j:Nat) 0).toArray)[i]? = some (.int ((os[i]:Nat):Int) 0):=by simp[hil]
   dsimp only;rw[g];dsimp only;obtain⟨o,ho,hex,hd,hft⟩:=id hS;unfold setNextDrawn;refine Pp (Pp (wpAny_setState_of ho hd hft ?_));dsimp only;rw[Ps (by simp),show ((os[i]:Nat):Int).toNat=os[i] from Og _,getElem?_pos es _ hos];refine Pq ?_;refine Pp (wpAny_setField hI rfl (by simp) ?_);have ev:(os.map λj=>((es[j]?).map (·.2)).getD Value.none)[i]=(es[os[i]]).2:=by simp[hos]
   have g2:=G2 (x:=.none) (j:=0) hI 1 (rawInt ((i:Int)+1));have nI2:p≠I:=nIp p (hp p rfl);have q:=hQ (s.heap.update I (Obj.mapFields (·.setIfInBounds 1 (rawInt ((i:Int)+1))))) ⟨_,g2.trans (by rw[e1];rfl),.drw p os hw hp2 rfl ⟨n,?_⟩,hS.at λo q=>?_,λp' z=>hp p' z⟩ (P1 ..)
   ·rw[ev] at q;exact Pq ⟨_,rfl,Pq q⟩
   ·rw[(P1 s.heap I _).2 p nI2];exact htp
   ·rw[(P1 s.heap I _).2 a nIa];exact q
end
section
variable {P:Program}{w:World}{A:Around}{E:Value->Shared->Prop}{s:Shared}{I a:Addr}{es:Array (Int×Value)}{ep:Nat}{t:SetTable}{vs:List Value}{fp:Option Addr}
theorem Xb8{α : Type}{h0:Heap}{Q : α->Shared->Prop}{E':Value->Shared->Prop}(hh:A.handled=none)
  (k:∀e h',(∀b o,s.heap.get? b=some o->h'.get? b=some o)->Shared.TypeIs {s with heap:=h'} e "StopIteration" -> E' e {s with heap:=h'}):
  wpAny (model P w) A (do raiseNew (<-newExc (.type "StopIteration") []):Sem α) Q E' s:=by
 refine Pp ?_;simp only[newExc,newTuple];refine Pp (wpAny_newObj_type ?_ (by size_fits));refine Pp (m:=firstArgMember _ _) (wpAny_of_eq (a:=Value.none) (by first | rfl | (simp only[firstArgMember];rfl)) ?_);refine wpAny_newObj_type ?_ (by size_fits);simp only[raiseNew];refine Pp (wpAny_handled ?_);rw[hh];refine Pp (Pq (wpAny_throw ?_));exact k _ _ (λb o q=>P0 _ (P0 _ q)) ⟨_,Heap.get?_push_size _ rfl,rfl⟩
theorem Xiq{Q:Option Value->Shared->Prop}(hh:A.handled=none)(st:ItS w I a es ep t vs fp vs.length s.heap)(hl:vs.length=es.size)
    (hQ:∀h',(∀b o,b≠I->s.heap.get? b=some o->h'.get? b=some o)->Q none {s with heap:=h'}):wpAny (model P w) A (pyNext (.ref I)) Q E s:=by
  obtain⟨f0,hI,hO,hS,hp⟩:=st;have hT:s.TypeIs (.ref I) "set_iterator" := ⟨_,hI,rfl⟩;unfold pyNext;refine Pp (wpAny_attempt (wpAny_callSpecial?_slot (name:=Str.ofString "__next__") hT SF.sNext (wpAny_call_entry SF.sNext hT SF.eNext ?_ (SF.aNext _))));have hh1:A.in1.handled=none:=hh;have stp:∀(e:Value) (h':Heap),(∀b o,b≠I->s.heap.get? b=some o->h'.get? b=some o)->Shared.TypeIs {s with heap:=h'} e "StopIteration" ->
      wpAny (model P w) A (do if <-isInstance e (.type "StopIteration") then pure none else throw e) Q E {s with heap:=h'}:=λe h' k ty=>
    Pp (wpAny_isInstance (T := "StopIteration") (b:=true) ty isSubtype_stop (Pq (hQ h' k)))
  have keep1:∀(f:Obj->Obj) b o,b≠I->s.heap.get? b=some o->(s.heap.update I f).get? b=some o:=λf b o nb q=>by
    rw[(P1 s.heap I f).2 b nb];exact q
  have fin:∀(Q':PySem.Fin->Shared->Prop),wpAny (model P w) A.in1 (do
        setField (.ref I) 2 .none
        raiseNew (<-newExc (.type "StopIteration") [])) Q' (λe s'=>wpAny (model P w) A (do if <-isInstance e (.type "StopIteration") then pure none else throw e) Q E s') s:=λQ'=>by
    refine Pp (wpAny_setField hI rfl (by simp) ?_);refine Xb8 (h0:=s.heap) (s:={s with heap:=s.heap.update I (Obj.mapFields (·.setIfInBounds 2 Value.none))}) hh1 λe h' k ty=>?_;exact stp e h' (λb o nb q=>k b o (keep1 _ b o nb q)) ty
  refine Xb4 hI hS (λsl e=>?_) (λp e=>?_) hO.cases0
  . subst e;cases hO with
    | txt hw e=>
      cases e;refine Pp (Xb5 hw hS ?_);rw[getElem?_neg _ _ (by simp)];exact fin _
    | drw p os _ _ e _=>cases e
    | one sl' hw hld h1 e hz ho=>
      cases e;obtain⟨_,_,_,_,hft⟩:=id hS;have hps:=Xb7 hft;refine Pp (Xb6 hw hld h1 hS ?_);have hn:es[SetTable.below t.place ((sl':Nat):Int).toNat]? = none:=by
        rw[Og];by_cases h0:es.size=0
        . exact getElem?_neg _ _ (by omega)
        . have e1:es.size=1:=by omega
          have hpl:0<t.place.size:=by rw[hps,e1];decide
          have:=ho t.place[0] (by rw[hl,e1]) (getElem?_pos t.place 0 hpl);rw[this,Xio (by rw[hps];exact h1) (getElem?_pos t.place 0 hpl)];exact getElem?_neg _ _ (by omega)
      rw[hn];exact fin _
  . subst e;cases hO with
    | txt hw e=>cases e
    | one sl' hw hld h1 e hz ho=>cases e
    | drw p' os hw hp2 e htp=>
      cases e;obtain⟨n,htp⟩:=htp;refine Pp (wpAny_seqItems htp rfl ?_);dsimp only;rw[getElem?_neg _ _ (by simp)];dsimp only;refine Pp (wpAny_setField hI rfl (by simp) ?_);refine Pp (wpAny_setField (G2 (x:=.none) (j:=0) hI 0 (rawInt 0)) rfl (by simp) ?_);refine Xb8 (h0:=s.heap) (s:={s with heap:=(s.heap.update I (Obj.mapFields (·.setIfInBounds 0 (rawInt 0)))).update I (Obj.mapFields (·.setIfInBounds 2 Value.none))}) hh1 λe h' k ty=>?_;refine stp e h' (λb o nb q=>k b o ?_) ty;show ((s.heap.update I _).update I _).get? b=some o;rw[(P1 _ I _).2 b nb];exact keep1 _ b o nb q
end
namespace SF
theorem sSelf:Slot "set_iterator" "__iter__" "set_iterator.__iter__" := .of (owner := "set_iterator") (n := "__iter__") (by rw[typeLookup_type,builtinLookup_eq_fast];kernel_rfl) (by decide +kernel) (by decide +kernel) (by decide +kernel) (by first | exact .inl (by decide +kernel) | exact .inr (by decide +kernel)) (by rw[isSubtype_type];kernel_rfl)
theorem eSelf:entryFor table "set_iterator.__iter__" = some Builtin.«dict_keyiterator.__iter__»:=entryFor_alias (id' := "dict_keyiterator.__iter__") (by kernel_rfl) rfl (by decide +kernel) (by kernel_rfl)
theorem aSelf(a:Value):argsOk "set_iterator.__iter__" ⟨[a],[]⟩:=by unfold argsOk;kernel_rfl
end SF
section
variable {P:Program}{w:World}{A:Around}{E:Value->Shared->Prop}{s:Shared}{I a:Addr}{es:Array (Int×Value)}{ep:Nat}{t:SetTable}{vs:List Value}{fp:Option Addr}{ks:List Str}
theorem ItS.at{i:Nat}{h h':Heap}(x:ItS w I a es ep t vs fp i h)(k:∀b∈I::a::fp.toList,∀o,h.get? b=some o->h'.get? b=some o):ItS w I a es ep t vs fp i h':=by
 obtain⟨f0,h1,h2,h3,h4⟩:=x;refine⟨f0,k I (by simp) _ h1,?_,h3.at λo q=>k a (by simp) o q,h4⟩;cases h2 with
 | txt e1 e2=>exact .txt e1 e2
 | drw p os e1 e2 e3 e4=>
  obtain⟨n,e4⟩:=e4;exact .drw p os e1 e2 e3 ⟨n,k p (by rw[h4 p e3];simp) _ e4⟩
 | one sl e1 e2 e3 e4 e5 e6=>exact .one sl e1 e2 e3 e4 e5 e6
theorem Xir(hh:A.handled=none)(hl:vs.length=es.size)(nIa:a≠I)(nIp:∀p,fp=some p->p≠I):Walks P w A I (I::a::fp.toList) [I] vs.length (λi v=>vs[i]? = some v) (ItS w I a es ep t vs fp) where
 sub:=λb hb=>by simp at hb;simp[hb]
 frame:=λ_ _ _ st hk=>st.at hk
 item:=λi s Q E hi st hQ=>by
  refine Xip st hi hl nIa nIp λh' st' sb=>?_;exact hQ vs[i] h' s.toks (by simp[hi]) st' λb o hb e=>by rw[sb.2 b (λz=>hb (by simp[z]))];exact e
 done:=λs Q E st hQ=>Xiq hh st hl λh' k=>hQ h' s.toks λb o hb e=>k b o (λz=>hb (by simp[z])) e
 self:=λi s Q E st hQ=>by
  obtain⟨f0,h1,_⟩:=st;have hT:s.TypeIs (.ref I) "set_iterator" := ⟨_,h1,rfl⟩;refine wpAny_pyIter_slot hT SF.sSelf (wpAny_call_entry SF.sSelf hT SF.eSelf ?_ (SF.aSelf _));show wpAny _ _ (ret (.ref I)) _ _ s;exact Pq ⟨_,rfl, "set_iterator",_,hT,SF.sNext.lookup,hQ⟩
theorem Xis{r:Addr}{Q:Bool->Shared->Prop}(hT:s.TypeIs (.ref r) "set")(h:Q false s):wpAny (model P w) A (Builtin.List.listLengthHint (.ref r)) Q E s:=by
 unfold Builtin.List.listLengthHint;refine Pp (wpAny_specialOf hT PySem.F.slot_set_len.lookup ?_);generalize hid:("set.__len__" : String)=id0
 wp_delta
 rw[show splitId id0=some ("set", "__len__") from by subst hid;decide +kernel];subst hid;refine Pp (wpAny_isInstance (T := "set") (b:=true) hT (by rw[isSubtype_type];kernel_rfl) ?_);refine wpAny_ite_split (λz=>absurd z (by decide)) (λ_=>?_);refine wpAny_ite_split (λ_=>?_) (λz=>absurd (by decide +kernel) z);exact Pp (wpAny_typeOf hT (Pq h))
end
end L2
namespace L2
open PySem PySem.Spec PyProof.Rows PySem.Calls
section
variable {P:Program}{w:World}{A:Around}{E:Value->Shared->Prop}{s:Shared}{a:Addr}{ks:List Str}
theorem Xit{R:Result->Shared->Prop}{S:Addr}{res:Value}{c0:Nat}(hh:A.handled=none)(hs:SSet P w s.heap a ks)(nS:S≠a)(gS:s.heap.get? S=some {cls:=.type "list",data:=.seq #[] c0})
  (hR:∀s' acc c vs ls,(∀b o,b≠S->s.heap.get? b=some o->s'.heap.get? b=some o)->s'.os=s.os->s'.gens=s.gens->s'.heap.get? S=some {cls:=.type "list",dict:=none,data:=.seq acc c,slots := #[]}->acc.toList=vs->StrsAre vs ls->ls.Perm ks->R (.ok (.ret res)) s'):
  wpAny (model P w) A.in1 (Builtin.List.listExtendWith (.ref S) (.ref a) res)
   (λfin s'=>match fin with | .done f=>R (.ok f) s' | .again c'=>c'.quiet=true/\codeAny (model P w) A c' R s') (λe s'=>R (.error e) s') s:=by
 obtain⟨o,es,ep,t,ls0,ho,hex,hd,hel,hst,hpm,hb,hf,hl,hpl⟩:=id hs;have hT:s.TypeIs (.ref a) "set" := ⟨o,ho,hex.1⟩;have la:=Pz ho;have lS:=Pz gS;unfold Builtin.List.listExtendWith;refine Pp (wpAny_typeOf (T := "set") hT ?_);have n1:Builtin.List.listSameRef (.ref S) (.ref a)=false:=by simp[Builtin.List.listSameRef,nS]
 have n2:(Value.type "set" == Value.type "list")=false:=by decide
 have n3:(Value.type "set" == Value.type "tuple")=false:=by decide
 simp only[n1,n2,n3,Bool.or_false,L8,if_false];refine Pp (Xim ⟨o,ho,hex,hd,hf⟩ hb hl hpl λf0 vs h1 d k1 z1 z2 kp O pv=>?_);have hvl:vs.length=es.size:=by rw[pv.length_eq,Lf,Ln]
 have nI:∀b,b<h1.objs.size->b≠h1.objs.size:=λb q=>Ll q;have kI:∀b o,s.heap.get? b=some o->(h1.push (itO f0 0 a es.size ep)).get? b=some o:=λb o q=>P0 _ (k1 b o q);obtain⟨fp,hfp⟩:∃fp:Option Addr,(∀p,f0 = .ref p->fp=some p)/\∀p,fp=some p->p≠h1.objs.size/\p≠S:=by
  cases f0 with
  | ref p=>
   refine⟨some p,⟨λq e=>(by cases e;rfl),λq e=>?_⟩⟩;cases e;refine⟨Ll (kp p rfl),λz=>?_⟩;subst z;cases O with
   | drw p' os _ _ e ht=>
    cases e;obtain⟨n,ht⟩:=ht;rw[kI _ _ gS] at ht;have hc:=congrArg Obj.cls (L5 ht);exact absurd hc (by simp)
   | txt _ e=>cases e
   | one _ _ _ _ e _ _=>cases e
  | _=>exact⟨none,⟨λq e=>(by cases e),λq e=>(by cases e)⟩⟩
 have st0:ItS w h1.objs.size a es ep t vs fp 0 (h1.push (itO f0 0 a es.size ep)):=⟨f0,Heap.get?_push_size _ rfl,O,⟨o,kI _ _ ho,hex,hd,hf⟩,hfp.1⟩;have W:=Xir (P:=P) (w:=w) (A:=A.in1) (I:=h1.objs.size) (a:=a) (es:=es) (ep:=ep) (t:=t) (vs:=vs) (fp:=fp) hh hvl (Ll (L4 la z2)) (λp e=>(hfp.2 p e).1);have nSf:S∉h1.objs.size::a::fp.toList:=by
  simp only[Lo,not_or];refine⟨Ll (L4 lS z2),nS,λz=>?_⟩;cases hfq:fp with
  | none=>rw[hfq] at z;simp at z
  | some p=>
   rw[hfq] at z;have:S=p:=by simpa using z
   exact(hfp.2 p hfq).2 this.symm
 have key:∀(h:Heap) (c1:Nat),ItS w h1.objs.size a es ep t vs fp 0 h->(∀b o,b≠S->s.heap.get? b=some o->h.get? b=some o)->h.get? S=some {cls:=.type "list",data:=.seq #[] c1} ->
   codeAny (model P w) A (.builtin "list.extend.loop" ⟨[.ref S,.ref h1.objs.size,res],[]⟩) R {s with heap:=h,drawn:=d}:=by
  intro h c1 hst1 hk gS1;refine codeAny_extend_loopS W.toS (by rw[hvl];exact fits_of_scanBound hb) S nSf res vs.length 0 _ #[] c1 rfl (Mf _) hst1 gS1 (ItemsOf.nil _) λs' acc c hm gS' hacc=>?_;have hav:acc.toList=vs:=by
   apply List.ext_getElem?;intro i;by_cases hi:i<vs.length
   ·have hi2:i<acc.size:=by rw[hacc.1];exact hi
    have:=hacc.2 i acc[i] (getElem?_pos acc i hi2);rw[this];simp[hi2]
   ·rw[Oc (by rw[Ln,hacc.1];omega),Oc (by omega)]
  have hls:StrsAre vs (vs.map strOf):=strsAre_map vs λv hv=>hst.all v (pv.mem_iff.mp hv);refine hR s' acc c vs (vs.map strOf) (λb o nb q=>hm.heap b o (λz=>?_) (hk b o nb q)) hm.os hm.gens gS' hav hls ?_
  ·rcases Lo.mp z with z | z
   ·exact nb z
   ·exact absurd (L4 (Pz q) z2) (by rw[Lk.mp z];exact Ml _)
  ·have:=pv.map strOf;rw[hst.strs] at this;exact this.trans hpm
 have gS1:=kI _ _ gS;have hT1:Shared.TypeIs {s with heap:=h1.push (itO f0 0 a es.size ep),drawn:=d} (.ref a) "set" := ⟨o,kI _ _ ho,hex.1⟩;refine Pp (wpAny_holding (Xis hT1 ?_));refine wpAny_ite_split (λ_=>?_) (λ_=>Pq ⟨plainId_quiet PySem.F.plain_extend_loop _,key _ c0 st0 (λb o _ q=>kI b o q) gS1⟩);refine Pp (wpAny_rule (Pp ?_));show wpAny _ _ (updateSeq S (·.push .none) >>= λ_=>updateSeq S (·.pop)) _ _ _;refine Pp (wpAny_updateSeq gS1 rfl ?_);have gS2:=Heap.get?_update_self (Obj.mapSeq (·.push Value.none)) gS1 rfl;refine wpAny_updateSeq (hz:=by seq_fits) gS2 rfl ?_;have gS3:=Heap.get?_update_self (Obj.mapSeq (·.pop)) gS2 rfl;have other:∀b,b≠S->(((h1.push (itO f0 0 a es.size ep)).update S (Obj.mapSeq (·.push Value.none))).update S (Obj.mapSeq (·.pop))).get? b=(h1.push (itO f0 0 a es.size ep)).get? b:=λb nb=>
  (Heap.get?_update_other _ _ (Ne.symm nb)).trans (Heap.get?_update_other _ _ (Ne.symm nb))
 refine Pq ⟨plainId_quiet PySem.F.plain_extend_loop _,key _ _ (st0.at λb hb2 o q=>?_) (λb o nb q=>?_) gS3⟩
 ·rw[other b (λz=>nSf (z ▸ hb2))];exact q
 ·rw[other b nb];exact kI b o q
theorem Xiu{R:List Value->Shared->Prop}(hh:A.handled=none)(hs:SSet P w s.heap a ks)
    (h:∀s' vs ls,(∀b o,s.heap.get? b=some o->s'.heap.get? b=some o)->s'.os=s.os->s'.gens=s.gens->StrsAre vs ls->ls.Perm ks->R vs s'):wpAny (model P w) A (collect (.ref a)) R E s:=by
  have la:a<s.heap.objs.size:=by obtain⟨o,_,_,_,_,g,_⟩:=hs;exact Pz g
  unfold collect;refine Pp (wpAny_runValue (codeAny_builtin entry_proto_collect' ?_));rw[Around.under_plainId PySem.F.plain_proto_collect _];show wpAny _ A.in1 (newList [] >>= λl=>again (.builtin "list.__iadd__" ⟨[l,Value.ref a],[]⟩)) _ _ s;refine Pp (wpAny_newObj_type ?_);refine Pq ⟨plainId_quiet PySem.F.plain_list_iadd _,codeAny_builtin entry_list_iadd' ?_⟩;rw[Around.under_plainId PySem.F.plain_list_iadd _];have gS:(s.heap.push {cls:=.type "list",data:=.seq ([]:List Value).toArray}).get? s.heap.objs.size=some {cls:=.type "list",data:=.seq #[] 0}:=Heap.get?_push_size _ rfl;show wpAny _ A.in1 (Builtin.List.listExtendWith (.ref s.heap.objs.size) (.ref a) (.ref s.heap.objs.size)) _ _ _;have key:=Xit (A:=A) (s:={s with heap:=s.heap.push {cls:=.type "list",data:=.seq ([]:List Value).toArray} }) (S:=s.heap.objs.size) (res:=.ref s.heap.objs.size)
    (R:=λq s'=>∃acc c vs ls,q = .ok (.ret (.ref s.heap.objs.size))/\(∀b o,s.heap.get? b=some o->s'.heap.get? b=some o)/\s'.os=s.os/\s'.gens=s.gens/\s'.heap.get? s.heap.objs.size=some {cls:=.type "list",dict:=none,data:=.seq acc c,slots := #[]}/\acc.toList=vs/\StrsAre vs ls/\ls.Perm ks)
    hh (hs.stay λo q=>P0 _ q) (Oz la) gS (λs' acc c vs ls k e1 e2 g e3 e4 e5=>⟨acc,c,vs,ls,rfl,λb o q=>k b o (Ll (Pz q)) (P0 _ q),e1,e2,g,e3,e4,e5⟩)
  have done:∀(q:Result) (s':Shared),(∃acc c vs ls,q = .ok (.ret (.ref s.heap.objs.size))/\(∀b o,s.heap.get? b=some o->s'.heap.get? b=some o)/\s'.os=s.os/\s'.gens=s.gens/\s'.heap.get? s.heap.objs.size=some {cls:=.type "list",dict:=none,data:=.seq acc c,slots := #[]}/\acc.toList=vs/\StrsAre vs ls/\ls.Perm ks) ->
      wants (λv s2=>wpAny (model P w) A (match v with
        | .ref l=>(do match (<-load l).data with
                        | .seq xs _=>pure xs.toList
                        | _=>unsupported "internal:collect")
        | _=>unsupported "internal:collect") R E s2) E q s':=λq s' ⟨acc,c,vs,ls,e0,k,e1,e2,g,e3,e4,e5⟩=>by
    subst e0;show wpAny _ A (load s.heap.objs.size >>= _) _ _ s';refine Pp (wpAny_load g ?_);refine Pq ?_;rw[e3];exact h s' vs ls k e1 e2 e4 e5
  refine wpAny_mono key (λfin s' x=>?_) λe s' x=>?_
  . cases fin with
    | done f=>exact done _ _ x
    | again c1=>exact⟨x.1,codeAny_mono x.2 λq s2 y=>done q s2 y⟩
  . obtain⟨_,_,_,_,e',_⟩:=x;cases e'
end
section
variable {X:Cx}{pins:List (Addr×Obj)}{σ:St}{H:Hp}{s s':Shared}
theorem Inv.moved(I:Inv X pins σ H s)(k:∀b u,s.heap.get? b=some u->s'.heap.get? b=some u)(ho:s'.os=s.os)(hg:s'.gens=s.gens):Inv X pins σ H s':=by
 have J:=I.kept (h':=s'.heap) (t':=s'.toks) k;exact⟨J.ok,ho.trans I.os,by rw[hg];exact I.bare,J.base,J.loc,J.cell,J.free,J.freeC,J.pin,J.hok,J.len⟩
theorem Inv.laidM{a:Addr}{o:HO}(I:Inv X pins σ H s)(k:∀b u,s.heap.get? b=some u->s'.heap.get? b=some u)(ho:s'.os=s.os)(hg:s'.gens=s.gens)(hp:s.heap.objs.size<=a)(new:A5 X.prog X.w (upd H a o) s'.heap a o):Inv X pins σ (upd H a o) s':=by
 have J:=I.laid (h':=s'.heap) (t':=s'.toks) k hp new;exact⟨J.ok,ho.trans I.os,by rw[hg];exact I.bare,J.base,J.loc,J.cell,J.free,J.freeC,J.pin,J.hok,J.len⟩
end
section
variable {P:Program}{w:World}{A:Around}{E:Value->Shared->Prop}{s:Shared}{ks:List Str}
theorem Xb9{r:Addr}{Q:Value->Shared->Prop}(h64:ks.length<64)
  (hc:∀(R:List Value->Shared->Prop),(∀s' vs ls,(∀b o,s.heap.get? b=some o->s'.heap.get? b=some o)->s'.os=s.os->s'.gens=s.gens->StrsAre vs ls->ls.Perm ks->R vs s')->wpAny (model P w) A.in1 (collect (.ref r)) R E s)
  (h:∀(s1 s':Shared) (vs:List Value) (ls:List Str) (e:Nat),(∀b o,s.heap.get? b=some o->s1.heap.get? b=some o)->s1.os=s.os->s1.gens=s.gens->(∀b o,s1.heap.get? b=some o->s'.heap.get? b=some o)->s'.os=s1.os->s'.gens=s1.gens->s'.heap.get? s1.heap.objs.size=some (seqObj "list" vs.toArray e)->StrsAre vs ls->ls.Perm ks->sortedS ls=true->Q (.ref s1.heap.objs.size) s'):
  wpAny (model P w) A (call (.builtin "sorted") [.ref r]) Q E s:=by
 refine Calls.call_function_entry kind_sorted plain_sorted entry_sorted (args_sorted1 _) ?_;unfold Builtin.«sorted»;refine Pp (m:=checkCount "sorted" 1 1 _) (Pq ?_);refine Pp (hc _ λs1 vs ls k1 o1 g1 st p=>?_);have hl:vs.length<64:=by rw[st.length,p.length_eq];exact h64
 refine Pp (wpAny_newList ?_ (by rw[Pr];omega));have gL:(s1.heap.push (seqObj "list" vs.toArray 0)).get? s1.heap.objs.size=some (seqObj "list" vs.toArray 0):=Heap.get?_push_size _ rfl;refine Pp (wpAny_holding (wpAny_call_entry (s:={s1 with heap:=s1.heap.push (seqObj "list" vs.toArray 0)}) slot_list_sort ⟨_,gL,rfl⟩ entry_list_sort (list_sort_treeK strKind_oneLt gL st.keysOf (λa b rest e=>keyKind_strs (by rw[<-e];exact st)) hl λst' pp so=>⟨_,rfl,?_⟩) (args_list_sort _)));obtain⟨ls',a1,a2,a3⟩:=sorted_out_str st pp so;obtain⟨e,he⟩:=sortedHeap_at (out:=(arrOf st').map (·.2)) gL;refine Pq ⟨_,rfl,h s1 _ ((arrOf st').map (·.2)).toList ls' e k1 o1 g1 (λb o q=>?_) rfl rfl he a1 (a2.trans p) a3⟩;have lt:=Pz q;show (sortedHeap (s1.heap.push (seqObj "list" vs.toArray 0)) s1.heap.objs.size vs ((arrOf st').map (·.2))).get? b=some o;rw[sortedHeap_old (Ll lt) (by rw[size_push'];exact Nf lt)];exact P0 _ q
end
def Eo (P:Program) (w:World) (a:Addr) (ks:List Str):HO:=.ext λh=>SSet P w h a ks
theorem Xiv{ss:List Str}{vs:List Value}(h:StrsAre vs ss):Vals (ss.map V.str) vs:=by
 induction h with
 | nil=>exact .nil
 | cons x t _ ih=>exact .cons ⟨t,rfl⟩ ih
theorem Jj:∀{ss:List Str} {vs:List Value},Vals (ss.map V.str) vs->StrsAre vs ss
 | [],_,r=>by cases r;exact .nil
 | x::ss,_,r=>by
  cases r with
  | cons r1 r2=>
   obtain⟨t,rfl⟩:=r1;exact .cons x t (Jj r2)
section
variable {X:Cx}
theorem G3:X.calm=true->B1 X (.type "set") (λxs H Q=>∃p ss,xs=[.ref p]/\(SqL X.K H p (ss.map V.str)\/SqT X.K H p (ss.map V.str))/\ss.length+1<scanBound/\∀a,H a=none->Q (.ref a) (upd H a (Eo X.prog X.w a (ddup ss)))):=by
 intro hcalm pins s σ H xs us Q I r h;obtain⟨p,ss,rfl,hq,hb,q⟩:=h;obtain⟨u,rfl,rx⟩:=Ca r;cases rx;obtain⟨its,r',src⟩:∃its:List Value,Vals (ss.map V.str) its/\Src s.heap p its.toArray:=by
  rcases hq with hq | hq
  ·obtain⟨its,r',pl,_⟩:=I.list hq;exact⟨its,r',.lst pl.isList⟩
  ·obtain⟨its,r',pl,_⟩:=I.tuple hq;exact⟨its,r',.tup pl⟩
 refine Xii (I.ok.hd hcalm) src (Jj r') hb λh' tk S k=>?_;refine⟨.ref s.heap.objs.size,_,I.laidM (s':={s with heap:=h',toks:=tk}) k rfl rfl (Li _) ?_,rfl,q _ (I.hok.fresh (Li _))⟩;exact⟨S,by obtain⟨o,_,_,_,_,g,_⟩:=S;exact⟨o,g⟩,λh1 h2 S1 kk=>S1.stay kk⟩
theorem Xca{pins:List (Addr×Obj)}{σ:St}{H:Hp}{s s1 s':Shared}{Q:VK}{vs:List Value}{ls ks:List Str}{e:Nat}(I:Inv X pins σ H s)(h64:ks.length<64)(k1:∀b o,s.heap.get? b=some o->s1.heap.get? b=some o)(o1:s1.os=s.os)(g1:s1.gens=s.gens)
  (k2:∀b o,s1.heap.get? b=some o->s'.heap.get? b=some o) (o2:s'.os=s1.os) (g2:s'.gens=s1.gens) (he:s'.heap.get? s1.heap.objs.size=some (seqObj "list" vs.toArray e)) (st:StrsAre vs ls) (p:ls.Perm ks)
  (q:∀l,H l=none->Q (.ref l) (upd H l (.lst (ls.map V.str)))):EP X pins σ Q (.ref s1.heap.objs.size) s':=by
 have I1:=I.moved k1 o1 g1;refine⟨.ref s1.heap.objs.size,_,I1.laidM k2 o2 g2 (Li _) (show A5 X.prog X.w _ s'.heap _ (.lst (ls.map V.str)) from ⟨?_,vs,e,Xiv st,he⟩),rfl,q _ (I1.hok.fresh (Li _))⟩;rw[Lf,p.length_eq,Pr];omega
theorem Jk:X.calm=true->B1 X (.builtin "sorted") (λxs H Q=>∃a ks,xs=[.ref a]/\H a=some (Eo X.prog X.w a ks)/\ks.length<64/\∀l ls,H l=none->ls.Perm ks->sortedS ls=true->Q (.ref l) (upd H l (.lst (ls.map V.str)))):=by
 intro hcalm pins s σ H xs us Q I r h;obtain⟨a,ks,rfl,ha,h64,q⟩:=h;obtain⟨u,rfl,rx⟩:=Ca r;cases rx;obtain⟨S,_⟩:=(show A5 X.prog X.w H s.heap a (.ext λh=>SSet X.prog X.w h a ks) from I.hok a _ ha);refine Xb9 h64 (λR k=>Xiu (by show X.A.in1.handled=none;simp[I.ok.hd hcalm]) S k) λs1 s' vs ls e k1 o1 g1 k2 o2 g2 he st p so=>?_;exact Xca I h64 k1 o1 g1 k2 o2 g2 he st p λl hl=>q l ls hl p so
end
theorem Inv.turned2{X:Cx}{pins:List (Addr×Obj)}{σ:St}{H:Hp}{s:Shared}{h':Heap}{t':Nat}{e1 e2:Addr}(I:Inv X pins σ H s)(k:∀b o,b≠e1->b≠e2->s.heap.get? b=some o->h'.get? b=some o)(f1:FpOk X pins H e1)(f2:FpOk X pins H e2):Inv X pins σ H {s with heap:=h',toks:=t'}:=by
 have no:∀b u,H b=some u->b≠e1/\b≠e2:=λb u q=>⟨λz=>(by rw[z,f1.1] at q;cases q),λz=>(by rw[z,f2.1] at q;cases q)⟩;have nn:∀b,b∉[e1,e2]->b≠e1/\b≠e2:=λb hb=>by simpa using hb
 refine I.step (g':=s.gens) (d':=s.drawn) (ch:=[e1,e2]) (λb hb=>?_) (λb o _ _ hc q _=>k b o (nn b hc).1 (nn b hc).2 q) (λb o _ _ hc q _=>⟨o.slots,k b o (nn b hc).1 (nn b hc).2 q⟩) (λ_ _ _ _ n=>n) (λb o hc q=>⟨o,k b o (nn b hc).1 (nn b hc).2 q⟩) (λ_ _ q=>q) (λ_ _ _ q=>q) (λb ps q=>⟨#[],by rw[q];simp⟩) (λm hm=>?_) (λb u q=>?_) I.bare
 ·have hb':b=e1\/b=e2:=by simpa using hb
  rcases hb' with z | z
  ·subst z;exact⟨f1.2.2.2.1,f1.2.1,f1.2.2.2.2.1,f1.2.2.2.2.2⟩
  ·subst z;exact⟨f2.2.2.2.1,f2.2.1,f2.2.2.2.2.1,f2.2.2.2.2.2⟩
 ·obtain⟨o,es,ep,ho,r⟩:=hm;exact⟨o,es,ep,k _ o (Ne.symm f1.2.1) (Ne.symm f2.2.1) ho,r⟩
 ·refine(I.hok b u q).stay (λc v hc z=>k c v ?_ ?_ z) (λ_ z=>z) λ_ _ z=>z
  ·rcases hc with y | y
   ·rw[y];exact(no b u q).1
   ·exact(no c _ y).1
  ·rcases hc with y | y
   ·rw[y];exact(no b u q).2
   ·exact(no c _ y).2
def Ite (K:PySem.W.Frag) (a:Addr):It:=
 ⟨λi H=>∃xs x,SqL K H a xs/\xs[i]? = some x,λi H x H'=>∃tp,x = .ref tp/\H tp=none/\∀xs,SqL K H a xs->∃y,xs[i]? = some y/\H'=upd H tp (.tup [.int i,y]),λi H=>∃xs,SqL K H a xs/\xs.length<=i⟩
theorem Xiw{P:Program}{w:World}{K:PySem.W.Frag}{es:List Expr}{k:Nat}{p:Pos}(a e it:Addr)(ne:e≠it):Turn P w K (.Tuple es k p) (Ite K a) [e,it] e (λi h=>(∃old,IsEnum h e it i old)/\h.IsListIter it a i) where
 mem:=by simp
 obj:=λi h st b hb=>by
  have hb':b=e\/b=it:=by simpa using hb
  rcases hb' with z | z
  ·subst z;obtain⟨⟨old,q⟩,_⟩:=st;exact⟨_,q,λv z=>by
    have z':Data.fields _=Data.cell v:=z;cases z'⟩
  ·subst z;obtain⟨o,q,c,d⟩:=st.2;exact⟨o,q,λv z=>by rw[d] at z;cases z⟩
 keep:=λi h h' st k=>by
  obtain⟨⟨old,q⟩,l⟩:=st;exact⟨⟨old,k e (by simp) _ q⟩,l.at λo z=>k it (by simp) o z⟩
 item:=by
  intro X hP hw hK hc i pins s σ H E I hf st hg;subst hP hw hK;obtain⟨xs,x,hq,hx⟩:=hg;obtain⟨its,rv,pl,hz⟩:=I.list hq;obtain⟨u,hu,ru⟩:=rv.get hx;have f1:=hf e (by simp);have f2:=hf it (by simp);obtain⟨⟨old,q⟩,l⟩:=st;refine wpAny_pyNext_enum_item q l pl.isList (x:=u) (by simpa using hu) ne λh' qo l' tp sz kk=>?_;have I1:Inv X pins σ H {s with heap:=h',toks:=s.toks+1}:=I.turned2 kk f1 f2;refine⟨_,rfl,?_⟩;have le:e<s.heap.objs.size:=Pz q;obtain⟨ol,hol,_⟩:=id l;have lit:it<s.heap.objs.size:=Pz hol;unfold letOwnedTupleGo;refine Pp (wpAny_load qo ?_);dsimp only;rw[Pt (by simp[rawInt])];refine Pp (wpAny_rule ?_);show wpAny _ _ (setField (.ref e) 0 .none) _ _ _;refine wpAny_setField qo rfl (by simp) ?_;have g:=Heap.get?_update_self (Obj.mapFields (·.setIfInBounds 0 Value.none)) qo rfl;have sb:=P1 h' e (Obj.mapFields (·.setIfInBounds 0 Value.none));have I2:Inv X pins σ (upd H s.heap.objs.size (.tup [.int i,x])) {s with heap:=h'.update e (Obj.mapFields (·.setIfInBounds 0 Value.none)),toks:=s.toks+1}:=by
   have J:=I.laid (a:=s.heap.objs.size) (o:=.tup [.int i,x]) (h':=s.heap.push {cls:=.type "tuple",data:=.seq #[.int i s.toks,u]}) (t':=s.toks+1) (λb o z=>P0 _ z) (Li _) (show A5 X.prog X.w _ _ _ (.tup [.int i,x]) from ⟨by show 2<=sizeLine;decide,[.int i s.toks,u],.cons ⟨_,rfl⟩ (.cons ru .nil),IsTup.new _ _⟩);have g1:FpOk X pins (upd H s.heap.objs.size (.tup [.int i,x])) e:=⟨by rw[Ac (Ll le)];exact f1.1,f1.2⟩;have g2:FpOk X pins (upd H s.heap.objs.size (.tup [.int i,x])) it:=⟨by rw[Ac (Ll lit)];exact f2.1,f2.2⟩;refine J.turned2 (λb o n1 n2 z=>?_) g1 g2;show (h'.update e _).get? b=some o;rw[sb.2 b n1];by_cases hb:b=s.heap.objs.size
   ·subst hb;have z':(s.heap.push {cls:=.type "tuple",data:=.seq #[.int i s.toks,u]}).get? s.heap.objs.size=some o:=z;rw[Heap.get?_push_size _ rfl] at z';cases z';exact tp
   ·have z':(s.heap.push {cls:=.type "tuple",data:=.seq #[.int i s.toks,u]}).get? b=some o:=z;rw[Heap.get?_push_ne _ _ _ hb] at z';exact kk b o n1 n2 z'
  refine⟨.ref s.heap.objs.size,_,I2,rfl,⟨_,rfl,I.hok.fresh (Li _),λys hy=>⟨x,by rw[I.list_inj hy hq];exact hx,rfl⟩⟩,⟨⟨u,g.trans ?_⟩,l'.at λo z=>?_⟩,λb hb=>?_⟩
  ·rfl
  ·rw[sb.2 it (Ne.symm ne)];exact z
  ·have hb':b=e\/b=it:=by simpa using hb
   rcases hb' with z | z
   ·subst z;rw[Ac (Ll le)];exact f1.1
   ·subst z;rw[Ac (Ll lit)];exact f2.1
 done:=by
  intro X hP hw hK hc i pins s σ H E I hf st hg;subst hP hw hK;obtain⟨xs,hq,hx⟩:=hg;obtain⟨its,rv,pl,hz⟩:=I.list hq;have hl:=rv.length;have f2:=hf it (by simp);obtain⟨⟨old,q⟩,l⟩:=st;exact wpAny_pyNext_enum_end (I.ok.hd hc) q l pl.isList (by simp;omega) λh' eb=>⟨rfl,I.turned (t':=s.toks) (λb o hb z=>eb b o hb z) f2.1 f2.2.1 f2.2.2.2.1 f2.2.2.2.2.1 f2.2.2.2.2.2⟩
 self:=λ_ _ _ _ _ st h=>by
  obtain⟨⟨old,q⟩,_⟩:=st;exact wpAny_pyIter_enum q h
def Xix (K:PySem.W.Frag) (ta:TA):TI:=fun σ H R=>ta σ H λvs H1=>∃a,vs=[.ref a]/\(∃xs,SqL K H1 a xs)/\R (Ite K a) H1
theorem Xiy{X:Cx}{es:List Expr}{k:Nat}{p2:Pos}{l:Expr}{ta:TA}{p pos:Pos}(hg:Gl X "enumerate")(hm:X.mg "enumerate" = none)(ha:PA X [l] ta)(hs:starEach [l] X.env=[(false,eval l X.env)]:=by rfl):PI X (.Tuple es k p2) (.Call (.Name "enumerate" p) [l] [] pos) (Xix X.K ta):=by
 intro pins s σ H R I h;refine Call_ (Fl I hg hm (show bootBuiltins "enumerate" = some (.type "enumerate") by decide +kernel) (PyProof.Rows.callWith_type1 (thn (ha pos pins s σ H _ I h) λus s1 ⟨vs,H1,I1,r1,q1⟩=>?_) hs rfl));obtain⟨a,e,⟨xs,hq⟩,q⟩:=q1;subst e;cases r1 with
 | cons r rr=>
  cases rr;cases r;obtain⟨its,rv,pl,hz⟩:=I1.list hq;refine call_enumerate_list pl.isList λh' qe ql sz kk=>?_;refine wpAny_pyIter_enum qe ?_;have I2:Inv X pins σ H1 {s1 with heap:=h'}:=I1.kept (t':=s1.toks) kk;refine⟨_,[s1.heap.objs.size+1,s1.heap.objs.size],_,_,H1,rfl,I2,Xiw a _ _ (Nat.succ_ne_self _),⟨⟨_,qe⟩,ql⟩,λb hb=>?_,q⟩;have hb':b=s1.heap.objs.size+1\/b=s1.heap.objs.size:=by simpa using hb
  rcases hb' with z | z
  ·subst z;exact I1.fpOk (Np _) (I1.hok.fresh (Np _))
  ·subst z;exact I1.fpOk (Li _) (I1.hok.fresh (Li _))
section
variable {X:Cx}{es:List Expr}{t:St->Hp->(Hp->Prop)->Prop}{e:Expr}{te:TE}{pos:Pos}
def Xiz (te:TE) (t:St->Hp->(Hp->Prop)->Prop):St->Hp->(Hp->Prop)->Prop:=fun σ H Q=>te σ H λx H1=>∃z,x = .str z/\z.length<=400/\(∀c∈z.cps.toList,c<16 ^ 8)/\t σ H1 Q
theorem Xi0{p:Pos}(ha:PE X e te)(h:PJ X es t)(he:evalEach (.FormattedValue e 114 none p::es) X.env=eval (.FormattedValue e 114 none p) X.env::evalEach es X.env:=by rfl):PJ X (.FormattedValue e 114 none p::es) (Xiz te t):=by
 intro out pins s σ H Q I hw hl;rw[he];rw[Lv] at hl;refine joinParts_cons (wpAny_FormattedValue_repr (thn (ha pins s σ H _ I hw) λv s1 ⟨x,H1,I1,r1,q1⟩=>?_));obtain⟨z,ez,h1,h2,q⟩:=q1;subst ez;obtain⟨tk,rfl⟩:=r1;have hz:=StrLaws.reprText_len z h2;have hz2:(reprText z).length<=sizeLine:=by rw[Pr];omega
 refine wpAny_pyReprObj_str ?_ hz2;refine formatField_str (λt' k=>⟨by rw[Ek];omega,?_⟩) hz2;exact h _ pins _ σ H1 Q ((I1.tok _).tok _) q (by rw[Ek];omega)
theorem Xcb:∀(ss:List Str) (l:List Value),l.length=ss.length->(∀i (hi:i<ss.length),∃t,l[i]? = some (.str ss[i] t))->StrsAre l ss
 | [],l,e,_=>by rw[Ma.mp e];exact .nil
 | y::ys,[],e,_=>by cases e
 | y::ys,v::vs,e,each=>by
  obtain⟨t,q⟩:=each 0 (by simp);have:v = .str y t:=by simpa using q
  subst this;refine .cons y t (Xcb ys vs (by simpa using e) λi hi=>?_);obtain⟨t',e'⟩:=each (i+1) (by simpa using hi);exact⟨t',by simpa using e'⟩
theorem Xcc:X.calm=true->B1 X (.builtin "sorted") (λxs H Q=>∃d kvs ss,xs=[.ref d]/\Rd H d (.dK kvs)/\kvs.map (·.1)=ss.map (λx=>(Sum.inr x:Key))/\ss.length<64/\∀l ls,H l=none->ls.Perm ss->sortedS ls=true->Q (.ref l) (upd H l (.lst (ls.map V.str)))):=by
 intro hcalm pins s σ H xs us Q I r h;obtain⟨d,kvs,ss,rfl,hd,hk,h64,q⟩:=h;obtain⟨u,rfl,rx⟩:=Ca r;cases rx;obtain⟨hz,hm,vs,rv,o,es,ep,ho,hex,hdd,hr⟩:=Dy I.hok hd;have hkl:kvs.length=ss.length:=by have:=congrArg List.length hk;simpa using this
 have hvl:vs.length=ss.length:=by rw[<-hkl];exact(Paired.length rv).symm
 have hvk:vs.map (·.1)=ss.map (λx=>(Sum.inr x:Key)):=by rw[<-hk];exact rv.keys.symm
 have each:∀acc:Array Value,ItemsOf (λi v=>∃k x,vs[i]? = some (k,x)/\(Au X.prog X.w).is k v=true) acc vs.length->StrsAre acc.toList ss:=λacc hacc=>by
  refine Xcb ss _ (by rw[Ln,hacc.1,hvl]) λi hi=>?_;have hi2:i<acc.size:=by rw[hacc.1,hvl];exact hi
  obtain⟨k',x,hx,his⟩:=hacc.2 i acc[i] (getElem?_pos acc i hi2);have hk':k'=Sum.inr ss[i]:=by
   have:=congrArg (λl=>l[i]?) hvk;simp only[L1,hx,Nm,Lm hi] at this;exact L5 this
  subst hk';obtain⟨t,e⟩:=Value.isStrOf_shape his;exact⟨t,by rw[O0,getElem?_pos acc i hi2,e]⟩
 refine Xb9 h64 (λR kR=>PySem.W.kdu_collect (PySem.W.kdl_dict (knd:=Au X.prog X.w) (kvs:=vs) (ep:=ep) hm) (by show X.A.in1.handled=none;simp[I.ok.hd hcalm]) ⟨o,es,ho,hex,hdd,hr⟩ (by rw[hvl,Pr];omega) (λh' tk acc kk hacc=>kR {s with heap:=h',toks:=tk} acc.toList ss kk rfl rfl (each acc hacc) (M8 _)))
  λs1 s' vs ls e k1 o1 g1 k2 o2 g2 he st p so=>Xca I h64 k1 o1 g1 k2 o2 g2 he st p λl hl=>q l ls hl p so
def rSlS:V->Option Int->Option Int->Hp->VK->Prop:=λx lo hi H Q=>∃z,x = .str z/\lo=none/\(∃j,hi=some j)/\z.length<=1000/\Q (.str (Txt.slice z lo hi)) H
end
end L2
set_option maxHeartbeats 4000000
namespace L2
open PySem PySem.Spec PyProof.Rows
def leS (x y:Str):Prop:=x.cps.toList<=y.cps.toList
theorem Xi1{x y:Str}(h:x.cps.toList=y.cps.toList):x=y:=by
 obtain⟨⟨a⟩⟩:=x;obtain⟨⟨b⟩⟩:=y;have:a=b:=h;rw[this]
theorem Xcd{x y:Str}(h:leS x y)(g:leS y x):x=y:=Xi1 (List.le_antisymm h g)
theorem Xce{x y z:Str}(h:leS x y)(g:leS y z):leS x z:=List.le_trans h g
theorem G4(x y:Str):leS x y\/leS y x:=List.le_total _ _
def ltS (x y:Str):Prop:=x.cps.toList<y.cps.toList
instance (x y:Str):Decidable (ltS x y):=inferInstanceAs (Decidable (x.cps.toList<y.cps.toList))
instance (x y:Str):Decidable (leS x y):=inferInstanceAs (Decidable (x.cps.toList<=y.cps.toList))
theorem Dj(x:Str):¬ltS x x:=List.lt_irrefl _
theorem Ep{x y z:Str}(h:ltS x y)(g:ltS y z):ltS x z:=List.lt_trans h g
theorem Jl{x y:Str}:¬ltS x y↔leS y x:=List.not_lt
theorem ltS_of{x y:Str}(h:leS x y)(n:x≠y):ltS x y:=by
 by_cases q:ltS x y
 ·exact q
 ·exact absurd (Xcd h (Jl.mp q)) n
theorem Xi2{x y:Str}(h:ltS x y):leS x y:=List.le_of_lt h
theorem F3{x y:Str}(h:ltS x y):x≠y:=λe=>Dj y (e ▸ h)
theorem Xcf:∀(l:List Str) (p:Str),risingS p l=true->(p::l).Pairwise leS
 | [],p,_=>by simp
 | x::r,p,h=>by
  have h':(!ltCps x.cps.toList p.cps.toList&&risingS x r)=true:=h;rw[Ls,ltCps_eq] at h';have ih:=Xcf r x h'.2;have hpx:leS p x:=by
   have:=h'.1;simp only[Pi,decide_eq_false_iff_not] at this;exact this
  refine Nw.mpr ⟨λy hy=>?_,ih⟩;rcases Lo.mp hy with e | e
  ·rw[e];exact hpx
  ·exact Xce hpx ((Nw.mp ih).1 y e)
theorem Xcg:∀(l:List Str),sortedS l=true->l.Pairwise leS
 | [],_=>by simp
 | x::r,h=>Xcf r x h
theorem E8:∀{a b:List Str},a.Perm b->a.Pairwise leS->b.Pairwise leS->a=b
 | [],b,p,_,_=>by rw[List.nil_perm.mp p]
 | x::a,[],p,_,_=>by have:=p.length_eq;simp at this
 | x::a,y::b,p,ha,hb=>by
  obtain⟨a1,a2⟩:=Nw.mp ha;obtain⟨b1,b2⟩:=Nw.mp hb;have e:x=y:=by
   have hx:x∈y::b:=p.mem_iff.mp Lj;have hy:y∈x::a:=p.mem_iff.mpr Lj;rcases Lo.mp hx with e | hx
   ·exact e
   ·rcases Lo.mp hy with e | hy
    ·exact e.symm
    ·exact Xcd (a1 y hy) (b1 x hx)
  subst e;rw[E8 (List.Perm.cons_inv p) a2 b2]
def srt (l:List Str):List Str:=l.mergeSort λx y=>decide (leS x y)
theorem Dk(l:List Str):(srt l).Perm l:=List.mergeSort_perm ..
theorem Er(l:List Str):(srt l).Pairwise leS:=by
 have h:=List.pairwise_mergeSort (le:=λx y=>decide (leS x y)) (λa b c h1 h2=>Pu (Xce (Px h1) (Px h2)))
  (λa b=>by rcases G4 a b with h | h<;>simp[h]) l
 exact h.imp λh=>Px h
theorem Jm{ls ks:List Str}(p:ls.Perm ks)(h:sortedS ls=true):ls=srt ks:=E8 (p.trans (Dk ks).symm) (Xcg _ h) (Er _)
theorem Xi3{a b:List Str}(p:a.Perm b):srt a=srt b:=E8 ((Dk a).trans (p.trans (Dk b).symm)) (Er _) (Er _)
theorem Jn{l:List Str}{x:Str}:x∈srt l↔x∈l:=(Dk l).mem_iff
def dit (row:List Str):List Str:=srt (ddup row)
theorem Ag{row:List Str}{x:Str}:x∈dit row↔x∈row:=Jn.trans (Jh row x)
theorem Cz(row:List Str):(dit row).Nodup:=(Dk _).nodup_iff.mpr (F2 row)
theorem C0(row:List Str):(dit row).Pairwise ltS:=by
 have h1:=Er (ddup row);have h2:(dit row).Pairwise (· ≠ ·):=Cz row;exact(h1.and h2).imp λh=>ltS_of h.1 h.2
theorem F4(row:List Str):(dit row).length<=row.length:=by
 have:=(Dk (ddup row)).length_eq;have h:=G1 row;unfold dit;omega
theorem F5{a b:List Str}(ha:a.Nodup)(hb:b.Nodup)(h:∀x,x∈a↔x∈b):a.Perm b:=(List.perm_ext_iff_of_nodup ha hb).mpr h
theorem Xch{ls row ks:List Str}(p:ls.Perm ks)(h:sortedS ls=true)(nd:ks.Nodup)(m:∀x,x∈ks↔x∈row):ls=dit row:=
 E8 (p.trans ((F5 nd (F2 row) λx=>(m x).trans (Jh row x).symm).trans (Dk _).symm)) (Xcg _ h) (Er _)
structure Fn (P:Program) (w:World) (K:PySem.W.Frag) (mg:Str->Option Value) (base:Heap) (CX:CXT) (k:Nat) (x:Str) (ps:List Str) (sp:Sp):Prop where
 ex:∃f fd,mg x=some (.ref f)/\PySem.W.keepIn K (.ref f)=true/\Binds K fd ps []/\FnOk P w K mg base CX k f fd ps sp
section
variable {X:Cx}{CX:CXT}{k:Nat}{ps:List Str}{sp:Sp}{E:XK}{x:Str}{p pos:Pos}{e:Expr}{es:List Expr}{t:TA}
theorem Ap(F:Fn X.prog X.w X.K X.mg X.base CX k x ps sp)(hr:Room k X.A)(hg:Gl X x)(hx:Passes CX X E)
  (ha:PA X (e::es) t) (hdb:(x==("__debug__" : Str))=false:=by decide) (he:starEach (e::es) X.env=(false,eval e X.env)::starEach es X.env:=by rfl) (hpl:(backTo pos (starEach es X.env)).any (·.1)=false:=by rfl):
  PE X (.Call (.Name x p) (e::es) [] pos) (Xas sp [] E t):=by
 obtain⟨f,fd,hm,hk,hb,hF⟩:=F.ex;exact Xgp hF hr hg hm hk hb .nil hx ha hdb he hpl
theorem Xi4{st:Stmt}{rest:List Stmt}{D:Ends}{σ:St}{H:Hp}(P:St->Hp->Prop)(h2:∃u,PSs X rest u/\∀σ' H',P σ' H'->u D σ' H')
  (h1:∀nx,(∀σ' H',P σ' H'->nx σ' H')->∃t,PS X st t/\t {D with nx:=nx} σ H):∃t,PSs X (st::rest) t/\t D σ H:=by
 obtain⟨u,hu,ru⟩:=h2;obtain⟨t,ht,rt⟩:=h1 (u D) ru;exact⟨Gs t u,Ai ht hu,rt⟩
end
theorem A9{c:Bool}{A B:Prop}(h1:c=true->A)(h2:c=false->B):if c=true then A else B:=by
 cases c with
 | true=>exact Di (h1 rfl)
 | false=>exact Ce (h2 rfl)
theorem Same.upd{H H':Hp}{a:Addr}{o:HO}(s:Same H H')(h:H a=none):Same H (upd H' a o):=λb u e=>by
 rw[Ac (Aq e h)];exact s b u e
theorem Same.upd0{H:Hp}{a:Addr}{o:HO}(h:H a=none):Same H (L2.upd H a o):=(Same.refl H).upd h
theorem ku{H:Hp}{b p:Addr}{o u:HO}(h:H b=some o)(hp:H p=none):upd H p u b=some o:=by
 rw[Ac (Aq h hp)];exact h
theorem Same.step{H H1:Hp}{p:Addr}{o:HO}(s:Same H H1)(hp:H1 p=none):Same H (L2.upd H1 p o):=s.upd (s.free hp)
theorem Same.go{H H1:Hp}{p q:Addr}{o:HO}(s:Same H H1)(hp:H1 p=none)(hq:L2.upd H1 p o q=none):Same H (L2.upd H1 p o):=s.step hp
theorem Jo{α : Type}(f : α->V)(xs:List α)(b:Nat)(hb:b<=xs.length):Cb (xs.map f) none (some (b:Int))=(xs.take b).map f:=by
 unfold Cb;rw[HT.sIx_none,List.drop_zero,HT.sIx_nat,Lf,List.map_take,Nat.sub_zero,Od hb]
theorem F6{α : Type}(f : α->V)(xs:List α)(a:Nat)(ha:a<=xs.length):Cb (xs.map f) (some (a:Int)) none=(xs.drop a).map f:=by
 unfold Cb;rw[HT.sIx_none,HT.sIx_nat,Lf,Od ha,List.map_drop];exact N8 (by rw[Ol,Lf];omega)
theorem Xi5{α : Type}(f : α->V)(xs:List α)(a b:Nat)(hab:a<=b)(hb:b<=xs.length):Cb (xs.map f) (some (a:Int)) (some (b:Int))=((xs.drop a).take (b - a)).map f:=by
 unfold Cb;rw[HT.sIx_nat,HT.sIx_nat,Lf,Od hb,Od (Mh hab hb),List.map_take,List.map_drop]
def Xci (fsc:Scope) (fN N:List Str) (cap:List (Option Nat)) (scope:Scope):Bool:=
 (scope.names.all λy=>decide (scope.names.lookup y.1=some y.2)) &&
 (scope.names.all λy=>decide (y.2 ≠ .free)||decide (fsc.names.lookup y.1=some .cell)||decide (fsc.names.lookup y.1=some .free))&&decide (cap.length=N.length) &&
 ((List.range N.length).all λi=>match cap[i]?,N[i]? with
  | some (some j),some x=>decide (fN[j]? = some x)&&decide (scope.names.lookup x=some .free)
  | _,_=>true)
theorem CompScope.of{X:Cx}{N:List Str}{cap:List (Option Nat)}{scope:Scope}(fsc:Scope)(fN:List Str)(h1:X.env.scope=fsc)(h2:X.N=fN)(hk:scope.kind = .function)(h:Xci fsc fN N cap scope=true):CompScope X N cap scope:=by
 unfold Xci at h;simp only[Ls,L6,M5,decide_eq_true_eq] at h;obtain⟨⟨⟨a1,a3⟩,a4⟩,a5⟩:=h;refine⟨hk,a1,λy hy e=>?_,a4,λi x j hN hc=>?_⟩
 ·show X.env.scope.names.lookup y.1=some .cell\/X.env.scope.names.lookup y.1=some .free;rw[h1];rcases a3 y hy with (z | z) | z
  ·exact absurd e z
  ·exact .inl z
  ·exact .inr z
 ·have hi:i<N.length:=(L9.mp hN).1;have q:=a5 i (M0.mpr hi);rw[hc,hN] at q;simp only[Ls,decide_eq_true_eq] at q;rw[h2];exact q
section
variable {X:Cx}
theorem Dl(K:PySem.W.Frag)(h:X.K=K):IxR X (Iu K):=by subst h;exact Iv
theorem Xi6(K:PySem.W.Frag)(h:X.K=K):B1 X (.builtin "len") (λxs H Q=>∃p ys,xs=[.ref p]/\(SqL K H p ys\/SqT K H p ys)/\Q (.int ys.length) H):=by subst h;exact Bo
theorem Xcj(K:PySem.W.Frag)(h:X.K=K):OpR X (compareOp .In) (rIn K false):=by subst h;exact Xg3
end
theorem Jp{cap:List (Option Nat)}{tt:TT}{te:TE}{J:It}{σ:St}{H1:Hp}{F:Addr->Hp->Prop}{j:Nat}(n:Nat)(hn:n<sizeLine)(vs:Nat->V)(ok:Nat->Bool)(ys:Nat->V)
  (hgo:∀i H2,i<n->Same H1 H2->J.go i H2/\∀x H3,J.yld i H2 x H3->H3=H2/\x=vs i)
  (hst:∀H2,Same H1 H2->J.stop n H2)
  (tst:∀i H2 Q,i<n->Same H1 H2->(∀H',Same H2 H'->Q (ok i) H')->tt ((Bi cap σ).set j (some (vs i))) H2 Q)
  (step:∀i H2 Q,i<n->ok i=true->Same H1 H2->(∀H',Same H2 H'->Q (ys i) H')->te ((Bi cap σ).set j (some (vs i))) H2 Q)
  (hd:∀D H2,H1 D=none->Same H1 H2->H2 D=some (.lst (((List.range n).filter ok).map ys))->F D H2):C8 cap (A6 j) tt te J σ H1 F:=by
 refine El n vs (λD i σ2 H2=>(∀v, σ2.set j v=(Bi cap σ).set j v)/\Same H1 H2/\H2 D=some (.lst (((List.range i).filter ok).map ys))) ?_ ?_ ?_ ?_ ?_
 ·intro D hD;exact⟨λ_=>rfl,(Same.refl H1).step hD,Ab⟩
 ·rintro D i σ2 H2 hD hi ⟨_,s2,_⟩;exact hgo i H2 hi s2
 ·rintro D σ2 H2 hD ⟨_,s2,_⟩;exact hst H2 s2
 ·rintro D i σ2 H2 hD hi ⟨e,s2,hb⟩;show tt (σ2.set j (some (vs i))) H2 _;rw[e];refine tst i H2 _ hi s2 λH3 s3=>?_;have s13:=s2.trans s3;have hb3:=s3 _ _ hb;have hss:∀v,((Bi cap σ).set j (some (vs i))).set j v=(Bi cap σ).set j v:=λv=>by rw[Pn]
  have hl:(((List.range i).filter ok).map ys).length<=i:=by
   rw[Lf];exact Mh (Ms ..) (by rw[Mp];omega)
  refine A9 (λhk=>?_) (λhk=>?_)
  ·refine step i H3 _ hi hk s13 λH4 s4=>?_;refine wput hi (s4 _ _ hb3) (by omega) ⟨hss,λb u e'=>?_,?_⟩
   ·rw[Ac (Aq e' hD)];exact s4 _ _ (s13 b u e')
   ·rw[Ab,Mg,Lx,Lu];simp[hk]
  ·refine wskip hi ⟨hss,s13,?_⟩;rw[hb3,Mg,Lx,Lu];simp[hk]
 ·rintro D σ2 H2 hD ⟨_,s2,hb⟩;exact hd D H2 hD s2 hb
theorem Xi7{cap:List (Option Nat)}{te:TE}{J:It}{σ:St}{H1:Hp}{F:Addr->Hp->Prop}{j:Nat}(n:Nat)(hn:n<sizeLine)(vs:Nat->V)(ys:Nat->V)
  (hgo:∀i H2,i<n->Same H1 H2->J.go i H2/\∀x H3,J.yld i H2 x H3->H3=H2/\x=vs i)
  (hst:∀H2,Same H1 H2->J.stop n H2)
  (step:∀i H2 Q,i<n->Same H1 H2->(∀H',Same H2 H'->Q (ys i) H')->te ((Bi cap σ).set j (some (vs i))) H2 Q)
  (hd:∀D H2,H1 D=none->Same H1 H2->H2 D=some (.lst ((List.range n).map ys))->F D H2):C8 cap (A6 j) C7 te J σ H1 F:=
 Jp n hn vs (λ_=>true) ys hgo hst (λi H2 Q _ _ k=>k H2 (Same.refl _)) (λi H2 Q hi _ s k=>step i H2 Q hi s k) λD H2 hD s e=>hd D H2 hD s (by rw[e,L0.mpr (λ_ _=>rfl)])
theorem Xck{X:Cx}:Passes (CX1 X.prog X.w) X E0:=λ_ _ _ _ _ _ _ h=>by
 obtain⟨_,_,_,_,_,_,_,_,_,h⟩:=h;exact h.elim
structure DefAt (K:PySem.W.Frag) (x:Str) (st:Stmt):Prop where
 ex:∃f fd,PySem.W.nsIn K mainGlobals x=some (some (.ref f))/\PySem.W.keepIn K (.ref f)=true/\Fun K x x st f fd
theorem DefAt.of{K:PySem.W.Frag}{x:Str}{st:Stmt}{f:Addr}{oc:Value}{od an:Option Addr}{osl:Array (Option Value)}{kV doc pm cdv ct:Value}(a:PySem.W.nsIn K mainGlobals x=some (some (.ref f)))
  (l:K.lookup f=some ⟨oc,od,.func (PySem.W.fnOf x x (Dh st) (Cd st) (Ak st) .none kV doc pm an cdv ct),osl⟩) (c:PySem.W.codeIn K cdv x=true) (k:PySem.W.keepIn K (.ref f)=true):DefAt K x st:=
 ⟨⟨f,_,a,k,Xbi l c k⟩⟩
theorem Fn.of{P:Program}{w:World}{K:PySem.W.Frag}{h:Heap}{mg:Str->Option Value}{base:Heap}{CX:CXT}{k:Nat}{x:Str}{st:Stmt}{ps:List Str}{sp:Sp}(X:K.In h)(G:h.Ns mainGlobals mg)(D:DefAt K x st)
  (hb:∀(kV doc pm:Value) (an:Option Addr) (cdv ct:Value) (us:List Value),us.length=ps.length->bindArgs (PySem.W.fnOf x x (Dh st) (Cd st) (Ak st) .none kV doc pm an cdv ct) ⟨us,[]⟩=pure (ps.zip us))
  (ok:∀f fd,Fun K x x st f fd->FnOk P w K mg base CX k f fd ps sp):Fn P w K mg base CX k x ps sp:=by
 obtain⟨f,fd,a,hk,F⟩:=D.ex;exact⟨⟨f,fd,PySem.W.mg_of X G a,hk,F.binds hb,ok f fd F⟩⟩
structure ExcAt (K:PySem.W.Frag) (x:Str) (C:Addr):Prop where
 a:PySem.W.nsIn K mainGlobals x=some (some (.ref C))
 e:PySem.W.excIn K C bmV "ValueError.__new__" = true
 ga:PySem.W.findIn K (.ref C) "__getattribute__" = some (some (.builtin "BaseException.__getattribute__"))
 gn:PySem.W.findIn K (.ref C) "__getattr__" = some none
 cl:PySem.W.findIn K (.ref C) "__class__" = some (some (.builtin "object.__class__"))
 sb:PySem.W.subIn K (.ref C) (.type "BaseException")=some true
 so:PySem.W.subIn K (.ref C) (.type "object")=some true
 sv:PySem.W.subIn K (.ref C) (.type "ValueError")=some true
 ss:PySem.W.subIn K (.ref C) (.ref C)=some true
 ic:PySem.W.isClsIn K C=true
 ty:PySem.W.typeIn K (.ref C)=some (.type "type")
section
variable {K:PySem.W.Frag}{x:Str}{C:Addr}
end
structure ClsAt (K:PySem.W.Frag) (x:Str) (C:Addr):Prop where
 a:PySem.W.nsIn K mainGlobals x=some (some (.ref C))
 ic:PySem.W.isClsIn K C=true
 ty:PySem.W.typeIn K (.ref C)=some (.type "type")
theorem G5(x:Str)(row:List Str):inV (.str x) (row.map V.str)=decide (x∈row):=by
 unfold inV;rw[M3,Nv,decide_eq_true_eq];constructor
 ·rintro ⟨y,hy,e⟩;obtain⟨z,hz,rfl⟩:=Lz.mp hy;have:z=x:=by simpa [eqV] using e
  rw[<-this];exact hz
 ·intro hx;exact⟨.str x,Lz.mpr ⟨x,hx,rfl⟩,by simp[eqV]⟩
theorem G6(row:List Str):(row.map V.str).all Dg=true:=by
 rw[L6];intro v h;obtain⟨x,_,rfl⟩:=Lz.mp h;rfl
theorem Xi8{K:PySem.W.Frag}{cap:List (Option Nat)}{tt:TT}{te:TE}{a:Addr}{xs:List V}{σ:St}{H1:Hp}{F:Addr->Hp->Prop}{p q:Nat}(hpq:p≠q)(hS:SqL K H1 a xs)(hn:xs.length<sizeLine)(ok:Nat->Bool)(ys:Nat->V)
  (tst:∀(i:Nat) x H2 Q,xs[i]? = some x->Same H1 H2->(∀H',Same H2 H'->Q (ok i) H')->tt (((Bi cap σ).set p (some (.int i))).set q (some x)) H2 Q)
  (step:∀(i:Nat) x H2 Q,xs[i]? = some x->ok i=true->Same H1 H2->(∀H',Same H2 H'->Q (ys i) H')->te (((Bi cap σ).set p (some (.int i))).set q (some x)) H2 Q)
  (hd:∀D H2,H1 D=none->Same H1 H2->H2 D=some (.lst (((List.range xs.length).filter ok).map ys))->F D H2):C8 cap (Ib K 2 (Ia (A6 p) (Ia (A6 q) Xai))) tt te (Ite K a) σ H1 F:=by
 intro D hD;refine⟨wN xs.length λi σ2 H2=>(∀u v,(σ2.set p u).set q v=((Bi cap σ).set p u).set q v)/\Same H1 H2/\H2 D=some (.lst (((List.range i).filter ok).map ys)),⟨xs.length,by simp,Mf _,λ_ _=>rfl,(Same.refl H1).step hD,Ab⟩,?_⟩;rintro i m σ1 H2 ⟨rfl,hi,e,s2,hb⟩;have hS2:SqL K H2 a xs:=s2.seq hS;by_cases hlt:i<xs.length
 ·have hx:xs[i]? = some xs[i]:=Lm hlt;refine .inr ⟨⟨xs,xs[i],hS2,hx⟩,?_⟩;rintro x H3 ⟨tp,rfl,ht,hy⟩;obtain⟨y,hy1,rfl⟩:=hy xs hS2;rw[hx] at hy1;cases hy1;refine⟨tp,_,rfl,SqT.of Ab,rfl,_,_,rfl,_,_,rfl,rfl,?_⟩;have s3:Same H1 (upd H2 tp (.tup [.int i,xs[i]])):=s2.step ht;have hb3:upd H2 tp (.tup [.int i,xs[i]]) D=some (.lst (((List.range i).filter ok).map ys)):=ku hb ht;rw[e];refine tst i _ _ _ hx s3 λH4 s4=>?_;have s14:=s3.trans s4;have hb4:=s4 _ _ hb3;have hss:∀u v,(((((Bi cap σ).set p (some (.int i))).set q (some xs[i])).set p u).set q v)=((Bi cap σ).set p u).set q v:=λu v=>by
   rw[List.set_comm _ _ (Ne.symm hpq),Pn,Pn]
  have hl:(((List.range i).filter ok).map ys).length<=i:=by
   rw[Lf];exact Mh (Ms ..) (by rw[Mp];omega)
  refine A9 (λhk=>?_) (λhk=>?_)
  ·refine step i _ H4 _ hx hk s14 λH5 s5=>?_;refine wput hlt (s5 _ _ hb4) (by omega) ⟨hss,λb u e'=>?_,?_⟩
   ·rw[Ac (Aq e' hD)];exact s5 _ _ (s14 b u e')
   ·rw[Ab,Mg,Lx,Lu];simp[hk]
  ·refine wskip hlt ⟨hss,s14,?_⟩;rw[hb4,Mg,Lx,Lu];simp[hk]
 ·have ei:i=xs.length:=by omega
  subst ei;exact .inl ⟨⟨xs,hS2,Li _⟩,hd D H2 hD s2 hb⟩
theorem D1{X:Cx}{pos:Pos}{es:List Expr}{k:Nat}{t:TGs}(K:PySem.W.Frag)(n:Nat)(hK:X.K=K)(hc:X.calm=true)(h:PGs X es t)
  (hn:(assignEach es X.env).length=n:=by rfl) (hst:(assignEach es X.env).findIdx? (·.1)=none:=by rfl):PG X (.Tuple es k pos) (Ib K n t):=by
 subst hK;exact Xf9 hc h hn hst
theorem B7{α : Type}(d : α)(p : α->Bool):∀(xs:List α),((List.range xs.length).filter λi=>p (xs.getD i d)).map (λi=>xs.getD i d)=xs.filter p:=by
 intro xs;have go:∀n,n<=xs.length->((List.range n).filter λi=>p (xs.getD i d)).map (λi=>xs.getD i d)=(xs.take n).filter p:=by
  intro n
  induction n with
  | zero=>intro _;rfl
  | succ n ih=>
   intro h;have hn:n<xs.length:=by omega
   have e:xs.getD n d=xs[n]:=by simp[List.getD,hn]
   rw[Mg,Lx,Lu,ih (by omega),Lw hn,Lx,Md,Md,e];split
   ·simp[hn]
   ·simp
 rw[go _ (Li _),Mr]
abbrev TM:=St->Hp->(St->Hp->Prop)->Prop
def PM (X:Cx) (m:Sem Unit) (t:TM):Prop:=∀(pins:List (Addr×Obj)) (s:Shared) (σ:St) (H:Hp) (Q:St->Hp->Prop),Inv X pins σ H s->t σ H Q ->
 wpAny (model X.prog X.w) X.A m (λ_ s'=>∃σ' H',Inv X pins σ' H' s'/\Q σ' H') X.xe s
def Dm (e:Expr) (d:Nat) (tg iter:Expr) (ifs:List Expr) (act:Sem Unit) (it acc:Value) (env:Env):Sem Fin:=do
 standAt iter.pos
 match <-pyNext it with
 | none=>pure (.done .next)
 | some v=>
  letOwnedTupleGo tg it v
  assign tg env v
  let mut ok:=true
  for c in ifs do
   if ok then ok <-isTrue c env (eval c env)
  if ok then act
  again (.compLoop e d it acc env)
structure Cm (e:Expr):Prop where
 den1 : ∀ (P : Program) (w : World) (d : Nat) (it acc : Value) (env : Env), (model P w).den (.compLoop e d it acc env) = (compTurn e d it acc env).onRaise (fun x => do noteFrame x env; theTreesLotGoes x)
 den2 : ∀ (P : Program) (w : World) (d : Nat) (it acc : Value) (env : Env), (model P w).den (.compStart e d it acc env) = (compStart e d it acc env).onRaise (fun x => do noteFrame x env; standAt theWindowsPlace)
 und1:∀(A:Around) (d:Nat) (it acc:Value) (env:Env),A.under (.compLoop e d it acc env)=A
 und2:∀(A:Around) (d:Nat) (it acc:Value) (env:Env),A.under (.compStart e d it acc env)=A
theorem F7{elt:Expr}{gs:List Comprehension}{sc:Scope}{p:Pos}:Cm (.ListComp elt gs sc p):=⟨λ_ _ _ _ _ _=>rfl,λ_ _ _ _ _ _=>rfl,λ_ _ _ _ _=>rfl,λ_ _ _ _ _=>rfl⟩
theorem Xi9{k v:Expr}{gs:List Comprehension}{sc:Scope}{p:Pos}:Cm (.DictComp k v gs sc p):=⟨λ_ _ _ _ _ _=>rfl,λ_ _ _ _ _ _=>rfl,λ_ _ _ _ _=>rfl,λ_ _ _ _ _=>rfl⟩
def tLp (g:TG) (tt:TT) (tm:TM) (J:It) (σ:St) (H1:Hp) (F:St->Hp->Prop):Prop:=
 ∃W:Nat->Nat->St->Hp->Prop,(∃m,W 0 m σ H1)/\∀i m σ1 H2,W i m σ1 H2 ->
  (J.stop i H2/\F σ1 H2)\/(J.go i H2/\∀x H3,J.yld i H2 x H3->g x σ1 H3 fun σ2 H4=>tt σ2 H4 λb H5=>
   if b=true then tm σ2 H5 fun σ3 H6=>∃m',m'<m/\W (i+1) m' σ3 H6 else ∃m',m'<m/\W (i+1) m' σ2 H5)
section
variable {Y:Cx}{e tg iter:Expr}{d:Nat}{ifs:List Expr}{act:Sem Unit}{acc:Value}{g:TG}{tt:TT}{tm:TM}{pins:List (Addr×Obj)}{σ:St}{H:Hp}{s:Shared}{J:It}{fp:List Addr}{it:Addr}{tn:Nat->Heap->Prop}{F:St->Hp->Prop}{R:Result->Shared->Prop}
theorem Xcl(cm:Cm e)(hx:Y.xe=λ_ _=>False)(hc:Y.calm=true)(eq:compTurn e d (.ref it) acc Y.env=Dm e d tg iter ifs act (.ref it) acc Y.env)(hg:PG Y tg g)(ht:PIfs Y ifs tt)(hm:PM Y act tm)
  (I:Inv Y pins σ H s) (T:Turn Y.prog Y.w Y.K tg J fp it tn) (h0:tn 0 s.heap) (hf:∀b∈fp,FpOk Y pins H b) (hb:tLp g tt tm J σ H F) (fin:∀σ' H' s',Inv Y pins σ' H' s'->F σ' H'->R (.ok .next) s'):
  codeAny (model Y.prog Y.w) Y.A (.compLoop e d (.ref it) acc Y.env) R s:=by
 obtain⟨W,⟨m0,w0⟩,turn⟩:=hb;have stat:∀{H':Hp},(∀b∈fp,H' b=none)->∀b∈fp,FpOk Y pins H' b:=λhn b hb=>⟨hn b hb,(hf b hb).2⟩;refine codeAny_loop rfl (λn s'=>∃i σ1 H2,Inv Y pins σ1 H2 s'/\tn i s'.heap/\(∀b∈fp,H2 b=none)/\W i n σ1 H2) (λn s' hI=>?_) m0 ⟨0, σ,H,I,h0,λb hb=>(hf b hb).1,w0⟩;obtain⟨i, σ1,H2,I',st',fr',w'⟩:=hI;rw[cm.den1,cm.und1];refine wpAny_noted ?_;rw[eq];have no:∀{α : Type} {t:Sem α} {Q : α->Shared->Prop} {E':Value->Shared->Prop} {s₁ : Shared},wpAny (model Y.prog Y.w) Y.A t Q Y.xe s₁->wpAny (model Y.prog Y.w) Y.A t Q E' s₁:=λh=>wpAny_mono h (λ_ _ q=>q) λ_ _ z=>by rw[hx] at z;exact z.elim
 unfold Dm;rcases turn i n σ1 H2 w' with ⟨stop,q⟩ | ⟨go,step⟩
 ·refine Pp (wpAny_standAt (Pp (thn (T.done Y rfl rfl rfl hc i pins s' σ1 H2 _ I' (stat fr') st' stop) λr s1 ⟨hr,I1⟩=>?_)));subst hr;exact Pq (fin σ1 H2 s1 I1 q)
 ·refine Pp (wpAny_standAt (Pp (thn (T.item Y rfl rfl rfl hc i pins s' σ1 H2 _ I' (stat fr') st' go) λr s1 ⟨u,hr,h4⟩=>?_)));subst hr;refine Pp (thn h4 λ_ s5 ⟨x,H5,I5,r5,y5,st5,fr5⟩=>?_);have I5':=I5.pinned (stat fr5) (T.obj _ _ st5);refine Pp (thn (no (hg _ s5 σ1 H5 x u _ I5' r5 (step x H5 y5))) λ_ s6 ⟨σ6,H6,I6,q6⟩=>?_);refine Pp (thn (no (ht _ s6 σ6 H6 _ I6 q6)) λb s7 ⟨H7,I7,q7⟩=>?_);have again:∀{s8:Shared} {σ8:St} {H8:Hp},Inv Y (pins++Fq fp s5.heap) σ8 H8 s8->(∃m',m'<n/\W (i+1) m' σ8 H8)->∃m,m<n/\∃i σ1 H2,Inv Y pins σ1 H2 s8/\tn i s8.heap/\(∀b∈fp,H2 b=none)/\W i m σ1 H2:=λ{s8 σ8 H8} I8 ⟨m',hm,w8⟩=>by
   refine⟨m',hm,i+1, σ8,H8,I8.unpinned,T.keep _ _ _ st5 λb hb o e=>(I8.pin (b,o) (L7 _ (L7 _ (Gv hb e)))).1,λb hb=>?_,w8⟩;obtain⟨o,e,d⟩:=T.obj _ _ st5 b hb;exact(I8.pin (b,o) (L7 _ (L7 _ (Gv hb e)))).2.1
  cases b with
  | false=>
   rw[Ps L3] at q7;exact Pq ⟨rfl,again I7 q7⟩
  | true=>
   rw[Pt rfl] at q7;exact Pp (thn (no (hm _ s7 σ6 H7 _ I7 q7)) λ_ s8 ⟨σ8,H8,I8,q8⟩=>Pq ⟨rfl,again I8 q8⟩)
theorem Xcm{prog:Program}{w:World}{A:Around}{env:Env}{itv:Value}{cl:Comprehension}(cm:Cm e)(hcl:(clausesOf e)[d]? = some cl)(has:cl.is_async=0)
  (h0:codeAny (model prog w) A (.compLoop e d itv acc env) R s)
  (h:wpAny (model prog w) A (pyIter itv) (λit' s'=>codeAny (model prog w) A (.compLoop e d it' acc env) R s') (notedBy (model prog w) A env λx s'=>R (.error x) s') s):
  codeAny (model prog w) A (.compStart e d itv acc env) R s:=by
 refine codeAny_of_tree ?_;rw[cm.den2,cm.und2];refine wpAny_notedAt ?_;unfold compStart;rw[hcl];have e1:(Option.elim (some cl) false λx=>x.is_async != 0)=false:=by
  show (cl.is_async != 0)=false;rw[has];rfl
 rw[e1,Ps L3];show wpAny _ A (ask >>= _) _ _ s;refine Pp (wpAny_askSetting (wpAny_ite ?_));split
 ·first
   | exact Pp (Pq (Pq (And.intro rfl h0)))
   | exact Pq (And.intro rfl h0)
 ·first
   | exact Pp (wpAny_rule (Pp (wpAny_standAt (Pp (wpAny_mono h (λit' s' h'=>Pq (And.intro rfl h')) λ_ _ x=>x)))))
   | (refine Pp (wpAny_rule ?_);show wpAny _ _ (standAt cl.iter.pos >>= _) _ _ s;exact Pp (wpAny_standAt (Pp (wpAny_mono h (λit' s' h'=>Pq (And.intro rfl h')) λ_ _ x=>x))))
end
def F8 (te:TE) (D:Addr):TM:=fun σ H Q=>te σ H λy H6=>∃ys,H6 D=some (.lst ys)/\ys.length<sizeLine/\Q σ (upd H6 D (.lst (ys++[y])))
theorem G7{Y:Cx}{elt:Expr}{te:TE}{D:Addr}(he:PE Y elt te):PM Y (do let _ <-call (.builtin "list.append") [.ref D,<-eval elt Y.env]) (F8 te D):=by
 intro pins s σ H Q I h;refine Pp (thn (he pins s σ H _ I h) λyv s8 ⟨y,H8,I8,r8,ys,hD,hlt,q8⟩=>?_);exact Pp (thn (Gx (X:=Y) _ s8 σ H8 (.ref D) [y] (.ref D) [yv] (λ_ H9=>Q σ H9) I8 rfl (.cons r8 .nil) ⟨_,ys,y,rfl,rfl,hD,hlt,q8⟩) λ_ s9 ⟨_,H9,I9,_,q9⟩=>Pq ⟨σ,H9,I9,q9⟩)
def Xcn (tk tv:TE) (D:Addr):TM:=fun σ H Q=>tk σ H λk H1=>tv σ H1 λv H2=>∃kvs ky,k=kV ky/\H2 D=some (.dK kvs)/\kvs.length<sizeLine/\Q σ (upd H2 D (.dK (A7 kvs ky v)))
theorem Xja{Y:Cx}{kx vx:Expr}{tk tv:TE}{D:Addr}(hk:PE Y kx tk)(hv:PE Y vx tv):PM Y (do
  let kv <-eval kx Y.env
  let vv <-holding [kv] (eval vx Y.env)
  standAt {kx.pos with endLine:=vx.pos.endLine,endCol:=vx.pos.endCol}
  holding [kv,vv] (dictSet D kv vv)) (Xcn tk tv D):=by
 intro pins s σ H Q I h;refine Pp (thn (hk pins s σ H _ I h) λkv s1 ⟨k,H1,I1,rk,q1⟩=>Pp (wpAny_holding (thn (hv pins s1 σ H1 _ I1 q1) λvv s2 ⟨v,H2,I2,rv,kvs,ky,ek,hD,hl,q⟩=>Pp (wpAny_standAt (wpAny_holding ?_)))));subst ek;obtain⟨z,hd,vs,rel,dd⟩:=Xbb I2.hok hD;have hz:vs.length<=sizeLine:=by rw[<-rel.length];exact z
 have hl':(A7 kvs ky v).length<=sizeLine:=by have:=E5 kvs ky v;omega
 refine wpAny_dictSet_pairs (knd:=Au Y.prog Y.w) (hsz:=hz) (Dx rk) dd λh' dd' hs=>⟨σ,_,?_,q⟩;have he:∃q,h'.get? D=some q:=let ⟨q,_,_,hq,_⟩:=dd'; ⟨q,hq⟩;exact Ix I2 (by rw[hD];exact True.intro) hs he (Xbc hl' hd (rel.put ky rv) dd')
def Xco (wi:TI) (g:TG) (tt:TT) (tm:TM):TM:=fun σ H Q=>wi σ H λJ H1=>tLp g tt tm J σ H1 Q
theorem Xjb{Y:Cx}{e tg iter:Expr}{ifs:List Expr}{d:Nat}{D:Addr}{wi:TI}{g:TG}{tt:TT}{tm:TM}{act:Sem Unit}(cm:Cm e)(hx:Y.xe=λ_ _=>False)(hc:Y.calm=true)(hcl:(clausesOf e)[d]? = some ⟨tg,iter,ifs,0⟩)
  (eq:∀it,compTurn e d it (.ref D) Y.env=Dm e d tg iter ifs act it (.ref D) Y.env) (hi:PI Y tg iter wi) (hg:PG Y tg g) (ht:PIfs Y ifs tt) (hm:PM Y act tm)
  (hs:∀x,foldedSetIterable iter Y.env x=pure x:=by intro _;rfl):PM Y (do
   let x <-eval iter Y.env
   standAt iter.pos
   let x <-foldedSetIterable iter Y.env x
   let _ <-runOwn (.compStart e d (<-holding [x] (pyIter x)) (.ref D) Y.env) Y.env) (Xco wi g tt tm):=by
 intro pins s σ H Q I h;refine Pp (thn (hi pins s σ H _ I h) λv s1 h1=>Pp (wpAny_standAt (Pp (wpAny_of_eq (hs v) (Pp (wpAny_holding (thn h1 λitv s2 h2=>?_)))))));obtain⟨it,fp,tn,J,H2,ei,I2,T,st2,f2,lp⟩:=h2;subst ei;refine Pp (wpAny_runOwn ?_);have go:∀s3,s3=s2->codeAny (model Y.prog Y.w) Y.A (.compLoop e d (.ref it) (.ref D) Y.env) (λr s'=>match r with | .ok _=>∃σ' H',Inv Y pins σ' H' s'/\Q σ' H' | .error e=>False) s3:=by
  rintro s3 rfl;exact Xcl cm hx hc (eq _) hg ht hm I2 T st2 f2 lp fun σ' H' s' I' q=>⟨σ',H',I',q⟩
 have st:=Xcm (s:=s2) (R:=λr s'=>match r with | .ok _=>∃σ' H',Inv Y pins σ' H' s'/\Q σ' H' | .error e=>False) cm hcl rfl (go s2 rfl) (T.self Y.A 0 s2 _ _ st2 (go s2 rfl));refine codeAny_mono st λr s' hr=>?_;cases r with
 | ok f=>exact Pq hr
 | error e=>exact hr.elim
def Xcp (cap:List (Option Nat)) (o0:Addr->HO) (g:TG) (tt:TT) (tm:Addr->TM) (J:It) (σ:St) (H1:Hp) (F:Addr->Hp->Prop):Prop:=
 ∀D,H1 D=none->tLp g tt (tm D) J (Bi cap σ) (upd H1 D (o0 D)) λ_ H2=>F D H2
def Xcq (cap:List (Option Nat)) (o0:HO) (g:TG) (tt:TT) (tm:Addr->TM) (J:It) (σ:St) (H1:Hp) (F:Addr->Hp->Prop):Prop:=
 ∀D,H1 D=none->tLp g tt (tm D) J (Bi cap σ) (upd H1 D o0) λ_ H2=>F D H2
section
variable {X:Cx}{N:List Str}{cap:List (Option Nat)}{scope:Scope}{e tg iter:Expr}{ifs:List Expr}{g:TG}{tt:TT}{tm:Addr->TM}{E:Value->Shared->Prop}{newAcc:Sem Value}{ob:Obj}{o0:HO}{o1:Addr->HO}{act:Addr->Env->Sem Unit}
theorem Xcr(C:CompScope X N cap scope)(hcalm:X.calm=true)(cm:Cm e)(hcl:(clausesOf e)[0]? = some ⟨tg,iter,ifs,0⟩)
  (hnew:∀(s:Shared) (Q:Value->Shared->Prop) (E':Value->Shared->Prop),Q (.ref s.heap.objs.size) {s with heap:=s.heap.push ob}->wpAny (model X.prog X.w) X.A newAcc Q E' s)
  (hlay:∀pins σ H s,Inv X pins σ H s->Inv X pins σ (upd H s.heap.objs.size (o1 s.heap.objs.size)) {s with heap:=s.heap.push ob})
  (heq:∀it D env,compTurn e 0 it (.ref D) env=Dm e 0 tg iter ifs (act D env) it (.ref D) env)
  (hg:∀s0 H0 ex,PG (X.comp N scope s0 H0 ex) tg g) (ht:∀s0 H0 ex,PIfs (X.comp N scope s0 H0 ex) ifs tt) (hm:∀D s0 H0 ex,PM (X.comp N scope s0 H0 ex) (act D (X.comp N scope s0 H0 ex).env) (tm D))
  {pins:List (Addr×Obj)} {σ:St} {H:Hp} {s:Shared} {J:It} {fp:List Addr} {it:Addr} {tn:Nat->Heap->Prop} {F:Addr->Hp->Prop} {RR:Value->Addr->Result->Shared->Prop}
  (I:Inv X pins σ H s) (T:Turn X.prog X.w X.K tg J fp it tn) (h0:tn 0 s.heap) (hf:∀b∈fp,FpOk X pins H b) (hb:Xcp cap o1 g tt tm J σ H F)
  (fin:∀D L H' s' m,Inv X pins σ H' s'->FpOk X pins H' L->s'.heap.Ns L m->F D H'->RR (.ref D) L (.ok .next) s'):
  wpAny (model X.prog X.w) X.A newAcc (λacc s₃=>wpAny (model X.prog X.w) X.A (newFunctionEnv scope X.env.globals (B3 X.env scope.names []) [] X.env.qual none .none (some X.env)) (λcenv s₄=>
   codeAny (model X.prog X.w) X.A (.compStart e 0 (.ref it) acc {cenv with scope:=relabel scope X.env}) (RR acc cenv.locals) s₄) E s₃) E s:=by
 have hDn:H s.heap.objs.size=none:=I.hok.fresh (Li _);have lp:=hb s.heap.objs.size hDn;have flt:∀b∈fp,b<s.heap.objs.size:=λb hb=>by
  obtain⟨o,e,_⟩:=T.obj _ _ h0 b hb;exact Pz e
 refine hnew s _ _ (Xht ?_);have I3:Inv X pins σ (upd H s.heap.objs.size (o1 s.heap.objs.size)) {s with heap:=s.heap.push ob}:=hlay pins σ H s I;generalize e3:({s with heap:=s.heap.push ob}:Shared)=s3 at I3;have es3:s3.heap=s.heap.push ob:=by rw[<-e3]
 have hsz:s3.heap.objs.size=s.heap.objs.size+1:=by rw[es3,Heap.size_push]
 have hf3:∀b∈fp,FpOk X pins (upd H s.heap.objs.size (o1 s.heap.objs.size)) b:=λb hb=>by
  obtain⟨f0,f⟩:=hf b hb;exact⟨by rw[Ac (Ll (flt b hb))];exact f0,f⟩
 have flt3:∀b∈fp,b<s3.heap.objs.size:=λb hb=>by rw[hsz];exact Nf (flt b hb)
 have hk:∀b o,s3.heap.get? b=some o->(pushCells (s3.heap.push {cls:=.type "dict",data:=.dict #[]}) scope.names).get? b=some o:=λb o e=>pushCells_keeps _ _ b o (P0 _ e);have IY:=Xhu (tk:=s3.toks) C I3 hf3 flt3;generalize eY:X.comp N scope s3 (upd H s.heap.objs.size (o1 s.heap.objs.size)) fp=Y at IY;have hz3:(s3.heap.push {cls:=.type "dict",data:=.dict #[]}).objs.size=s3.heap.objs.size+1:=Heap.size_push ..;have hst1:tn 0 (pushCells (s3.heap.push {cls:=.type "dict",data:=.dict #[]}) scope.names):=T.keep _ _ _ h0 λb hb o e=>hk b o (by rw[es3];exact P0 _ e);have fY:∀{H':Hp},(∀b∈fp,H' b=none)->∀b∈fp,FpOk Y [] H' b:=λ{H'} hn b hb=>by
  subst eY;obtain⟨_,f1,f2,_,f4,_⟩:=hf3 b hb;refine⟨hn b hb,Ll (flt3 b hb),λz=>?_,.inl hb,λx c h=>?_,λp hp=>absurd (show p∈([]:List (Addr×Obj)) from hp) (by simp)⟩
  ·rcases Lo.mp (I3.stkSub b z) with e | e
   ·exact f1 e
   ·exact f2 e
  ·rcases Xbn (s:=s3) C I3.ok hz3 h with ⟨a,_⟩ | ⟨_,a⟩
   ·exact λz=>Ml _ (N3 a (by rw[z];exact flt3 b hb))
   ·exact f4 x c a
 have loop:∀s4:Shared,s4 = {s3 with heap:=pushCells (s3.heap.push {cls:=.type "dict",data:=.dict #[]}) scope.names} ->
   codeAny (model X.prog X.w) X.A (.compLoop e 0 (.ref it) (.ref s.heap.objs.size) (compEnvC scope (F0 X scope s3) s3.heap.objs.size X.env))
    (RR (.ref s.heap.objs.size) s3.heap.objs.size) s4:=by
  rintro s4 rfl;have pP:Y.prog=X.prog:=by subst eY;rfl
  have pW:Y.w=X.w:=by subst eY;rfl
  have pK:Y.K=X.K:=by subst eY;rfl
  have pC:Y.calm=true:=by subst eY;exact hcalm
  have pA:Y.A=X.A:=by subst eY;rfl
  have pE:Y.env=compEnvC scope (F0 X scope s3) s3.heap.objs.size X.env:=by subst eY;rfl
  have pX:Y.xe=λ_ _=>False:=by subst eY;rfl
  have T':Turn Y.prog Y.w Y.K tg J fp it tn:=by rw[pP,pW,pK];exact T
  have go:=Xcl (Y:=Y) (acc:=.ref s.heap.objs.size) (pins:=[]) (R:=RR (.ref s.heap.objs.size) s3.heap.objs.size) cm pX pC (heq _ _ _) (by subst eY;exact hg _ _ _) (by subst eY;exact ht _ _ _) (show PM Y (act s.heap.objs.size Y.env) (tm s.heap.objs.size) by subst eY;exact hm _ _ _ _)
   IY T' hst1 (fY λb hb=>(hf3 b hb).1) lp ?_
  ·rw[pP,pW,pA,pE] at go;exact go
  ·intro σ' H2 s1 I1 q;have IX:Inv X pins σ H2 s1:=by
    subst eY;refine I3.call' (ch:=fp) I1.os I1.base I1.hok I1.bare λb hb=>?_;obtain⟨_,f1,_,f3,f4,f5⟩:=hf3 b hb;exact⟨f3,f1,f4,f5⟩
   have hL:H2 s3.heap.objs.size=none:=by
    have z:=I1.free;rw[pE] at z;exact z
   obtain⟨m,hm,_⟩:=I1.loc;rw[pE] at hm;exact fin s.heap.objs.size s3.heap.objs.size H2 s1 m IX (I3.fpOk (Li _) hL) hm q
 have lp:=loop _ rfl;have T1:=T.self;subst e3;exact Xcm cm hcl rfl lp (T1 X.A 0 _ _ _ hst1 lp)
structure AccA (X:Cx) (newAcc:Sem Value) (ob:Obj) (o1:Addr->HO):Prop where
 new:∀(s:Shared) (Q:Value->Shared->Prop) (E':Value->Shared->Prop),Q (.ref s.heap.objs.size) {s with heap:=s.heap.push ob}->wpAny (model X.prog X.w) X.A newAcc Q E' s
 lay:∀pins σ H s,Inv X pins σ H s->Inv X pins σ (upd H s.heap.objs.size (o1 s.heap.objs.size)) {s with heap:=s.heap.push ob}
structure Acc (X:Cx) (newAcc:Sem Value) (ob:Obj) (o0:HO):Prop where
 new:∀(s:Shared) (Q:Value->Shared->Prop) (E':Value->Shared->Prop),Q (.ref s.heap.objs.size) {s with heap:=s.heap.push ob}->wpAny (model X.prog X.w) X.A newAcc Q E' s
 lay:∀pins σ H s,Inv X pins σ H s->Inv X pins σ (upd H s.heap.objs.size o0) {s with heap:=s.heap.push ob}
theorem G8:Acc X (newList []) {cls:=.type "list",data:=.seq ([]:List Value).toArray} (.lst []):=⟨λs Q E' h=>wpAny_newObj_type h,λpins σ H s I=>I.lnew (t':=s.toks) .nil (Mf _)⟩
theorem Xjc:Acc X newDict {cls:=.type "dict",data:=.dict #[]} (.dK []):=⟨λs Q E' h=>wpAny_newObj_type h,λpins σ H s I=>I.laid (a:=s.heap.objs.size) (o:=.dK []) (t':=s.toks) (λ_ _ q=>P0 _ q) (Li _) (Xbf s.heap I.big)⟩
def Xjd (cap:List (Option Nat)) (o0:Addr->HO) (wi:TI) (g:TG) (tt:TT) (tm:Addr->TM):TE:=fun σ H Q=>wi σ H λJ H1=>Xcp cap o0 g tt tm J σ H1 λD H2=>Q (.ref D) H2
theorem Xje{wi:TI}{pos:Pos}{gens:List Comprehension}(ac:AccA X newAcc ob o1)(he:eval e X.env=comprehension e scope X.env pos newAcc false (eval iter X.env))(hcls:clausesOf e=⟨tg,iter,ifs,0⟩::gens)
  (C:CompScope X N cap scope) (hcalm:X.calm=true) (cm:Cm e) (hi:PI X tg iter wi)
  (heq:∀it D env,compTurn e 0 it (.ref D) env=Dm e 0 tg iter ifs (act D env) it (.ref D) env)
  (hg:∀s0 H0 ex,PG (X.comp N scope s0 H0 ex) tg g) (ht:∀s0 H0 ex,PIfs (X.comp N scope s0 H0 ex) ifs tt) (hm:∀D s0 H0 ex,PM (X.comp N scope s0 H0 ex) (act D (X.comp N scope s0 H0 ex).env) (tm D))
  (hs:∀x,foldedSetIterable iter X.env x=pure x):PE X e (Xjd cap o1 wi g tt tm):=by
 intro pins s σ H Q I h;rw[he];refine wpAny_comprehension_free (use:=none) hcls hs (Xbj (Jd C I.ok)) C.kind (λx hx hl=>by rw[C.uniq x hx,hl]) (thn (hi pins s σ H _ I h) λv s1 h1=>thn h1 λitv s2 h2=>?_);obtain⟨it,fp,tn,J,H2,ei,I2,T,st2,f2,R⟩:=h2;subst ei;refine Xcr (RR:=λacc L=>compPost (model X.prog X.w) X.A X.xe none (EP X pins σ Q) acc L) C hcalm cm (by rw[hcls];rfl) ac.new ac.lay heq hg ht hm I2 T st2 f2 R ?_;intro D L H' s' m I' fL hm q;refine⟨m,hm,λh' hs'=>?_⟩;obtain⟨f0,f1,_,f3,f4,f5⟩:=fL;exact⟨.ref D,H',I'.turned (t':=s'.toks) (λb o hb e=>(hs'.2 b hb).trans e) f0 f1 f3 f4 f5,rfl,q⟩
def Jq (cap:List (Option Nat)) (o0:HO) (wi:TI) (g:TG) (tt:TT) (tm:Addr->TM):TE:=fun σ H Q=>wi σ H λJ H1=>Xcq cap o0 g tt tm J σ H1 λD H2=>Q (.ref D) H2
theorem Jr{wi:TI}{pos:Pos}{gens:List Comprehension}(ac:Acc X newAcc ob o0)(he:eval e X.env=comprehension e scope X.env pos newAcc false (eval iter X.env))(hcls:clausesOf e=⟨tg,iter,ifs,0⟩::gens)
  (C:CompScope X N cap scope) (hcalm:X.calm=true) (cm:Cm e) (hi:PI X tg iter wi)
  (heq:∀it D env,compTurn e 0 it (.ref D) env=Dm e 0 tg iter ifs (act D env) it (.ref D) env)
  (hg:∀s0 H0 ex,PG (X.comp N scope s0 H0 ex) tg g) (ht:∀s0 H0 ex,PIfs (X.comp N scope s0 H0 ex) ifs tt) (hm:∀D s0 H0 ex,PM (X.comp N scope s0 H0 ex) (act D (X.comp N scope s0 H0 ex).env) (tm D))
  (hs:∀x,foldedSetIterable iter X.env x=pure x):PE X e (Jq cap o0 wi g tt tm):=
 Xje (o1:=λ_=>o0) ⟨ac.new,ac.lay⟩ he hcls C hcalm cm hi heq hg ht hm hs
def Xcs (i:Nat) (cap:List (Option Nat)) (o0:HO) (wi:TI) (g:TG) (tt:TT) (tm:Addr->TM):TS:=λD σ H=>wi σ H λJ H1=>Xcq cap o0 g tt tm J σ H1 λl H2=>D.nx (σ.set i (some (.ref l))) H2
theorem Xct{wi:TI}{i:Nat}{y:Str}{py spos cpos:Pos}{gens:List Comprehension}(ac:Acc X newAcc ob o0)(he:∀use,evalThenUse e X.env use=(do let _ <-comprehension e scope X.env cpos newAcc false (eval iter X.env) (some use)))(hcls:clausesOf e=⟨tg,iter,ifs,0⟩::gens)
  (C:CompScope X N cap scope) (hcalm:X.calm=true) (cm:Cm e) (hN:X.N.Nodup) (hiN:X.N[i]? = some y) (hy:X.env.scope.names.lookup y=some .local) (hi:PI X tg iter wi)
  (heq:∀it D env,compTurn e 0 it (.ref D) env=Dm e 0 tg iter ifs (act D env) it (.ref D) env)
  (hg:∀s0 H0 ex,PG (X.comp N scope s0 H0 ex) tg g) (ht:∀s0 H0 ex,PIfs (X.comp N scope s0 H0 ex) ifs tt) (hm:∀D s0 H0 ex,PM (X.comp N scope s0 H0 ex) (act D (X.comp N scope s0 H0 ex).env) (tm D))
  (hsw:swapsWith e (some (.Name y py)) spos.line X.env=pure true) (hs:∀x,foldedSetIterable iter X.env x=pure x):PS X (.Assign [.Name y py] e spos) (Xcs i cap o0 wi g tt tm):=by
 intro pins s σ H D I h;rw[exec_Assign_Name_used _ _ _ _ hsw];refine Pp (wpAny_standAt (Pp ?_));rw[he];refine Pp (thn (wpAny_comprehension_free (use:=some (assign (.Name y py) X.env)) (Q:=λ_ s'=>SP X pins D .next s') hcls hs (Xbj (Jd C I.ok)) C.kind (λx hx hl=>by rw[C.uniq x hx,hl])
  (thn (hi pins s σ H _ I h) λv s1 h1=>thn h1 λitv s2 h2=>?_)) (λ_ s' hq=>Pq (Pq hq)))
 obtain⟨it,fp,tn,J,H2,ei,I2,T,st2,f2,R⟩:=h2;subst ei;refine Xcr (o1:=λ_=>o0) (RR:=λacc L=>compPost (model X.prog X.w) X.A X.xe (some (assign (.Name y py) X.env)) (λ_ s'=>SP X pins D .next s') acc L) C hcalm cm (by rw[hcls];rfl) ac.new ac.lay heq hg ht hm I2 T st2 f2 R ?_;intro l L H' s' m I' fL hm q;obtain⟨f0,f1,_,f3,f4,f5⟩:=fL;show wpAny _ X.A (assign (.Name y py) X.env (.ref l)) _ _ s';refine wpAny_assign_Name (Xac I' hN hiN (.inl hy) (show Af (.ref l) (.ref l) from rfl) (λs3 I3 ⟨a,sb,ha⟩=>?_) (.inr hy));have hLa:L≠a:=by
  rcases ha with rfl | ha
  ·exact f1
  ·exact λz=>f4 y a ha z.symm
 refine⟨m,hm.sameBut sb hLa,λh' hs'=>?_⟩;exact⟨_,H',I3.turned (t':=s3.toks) (λb o hb e=>(hs'.2 b hb).trans e) f0 f1 f3 f4 f5,q⟩
end
def act2 (elt tg iter tg2 iter2:Expr) (ifs ifs2:List Expr) (scope:Scope) (pos:Pos) (D:Addr) (env:Env):Sem Unit:=do
      let x <-eval iter2 env
      standAt iter2.pos
      let x <-foldedSetIterable iter2 env x
      let _ <-runOwn (.compStart (.ListComp elt [⟨tg,iter,ifs,0⟩,⟨tg2,iter2,ifs2,0⟩] scope pos) 1 (<-holding [x] (pyIter x)) (.ref D) env) env
theorem Xjf(elt tg iter tg2 iter2:Expr)(ifs ifs2:List Expr)(scope:Scope)(pos:Pos)(it:Value)(D:Addr)(env:Env):
  compTurn (.ListComp elt [⟨tg,iter,ifs,0⟩,⟨tg2,iter2,ifs2,0⟩] scope pos) 0 it (.ref D) env=Dm (.ListComp elt [⟨tg,iter,ifs,0⟩,⟨tg2,iter2,ifs2,0⟩] scope pos) 0 tg iter ifs (act2 elt tg iter tg2 iter2 ifs ifs2 scope pos D env) it (.ref D) env:=by
 unfold compTurn Dm act2;dsimp only;simp only[List.getElem?_cons_zero,List.getElem?_cons_succ,bind_assoc,pure_bind];simp;rfl
section
variable {X:Cx}{N:List Str}{cap:List (Option Nat)}{scope:Scope}{tg iter tg2 iter2 elt kx vx:Expr}{ifs ifs2:List Expr}{g g2:TG}{tt tt2:TT}{te tk tv:TE}{wi wi2:TI}{pos:Pos}
theorem F9(C:CompScope X N cap scope)(hcalm:X.calm=true)(hi:PI X tg iter wi)
  (hg:∀s0 H0 ex,PG (X.comp N scope s0 H0 ex) tg g) (ht:∀s0 H0 ex,PIfs (X.comp N scope s0 H0 ex) ifs tt) (he:∀s0 H0 ex,PE (X.comp N scope s0 H0 ex) elt te)
  (hs:∀x,foldedSetIterable iter X.env x=pure x:=by intro _;rfl):PE X (.ListComp elt [⟨tg,iter,ifs,0⟩] scope pos) (Xhv cap wi g tt te):=
 Jr (act := fun D env => do let _ <- call (.builtin "list.append") [.ref D, <- eval elt env]) G8 rfl rfl C hcalm F7 hi (fun it D env => rfl) hg ht (fun D s0 H0 ex => G7 (he s0 H0 ex)) hs
theorem E9{i:Nat}{y:Str}{py spos:Pos}(C:CompScope X N cap scope)(hcalm:X.calm=true)(hN:X.N.Nodup)(hiN:X.N[i]? = some y)(hy:X.env.scope.names.lookup y=some .local)(hi:PI X tg iter wi)
  (hg:∀s0 H0 ex,PG (X.comp N scope s0 H0 ex) tg g) (ht:∀s0 H0 ex,PIfs (X.comp N scope s0 H0 ex) ifs tt) (he:∀s0 H0 ex,PE (X.comp N scope s0 H0 ex) elt te)
  (hsw:swapsWith (.ListComp elt [⟨tg,iter,ifs,0⟩] scope pos) (some (.Name y py)) spos.line X.env=pure true:=by rfl)
  (hs:∀x,foldedSetIterable iter X.env x=pure x:=by intro _;rfl):PS X (.Assign [.Name y py] (.ListComp elt [⟨tg,iter,ifs,0⟩] scope pos) spos) (Xbo i cap wi g tt te):=
 Xct (act := fun D env => do let _ <- call (.builtin "list.append") [.ref D, <- eval elt env]) G8 (fun use => rfl) rfl C hcalm F7 hN hiN hy hi (fun it D env => rfl) hg ht (fun D s0 H0 ex => G7 (he s0 H0 ex)) hsw hs
theorem Xcu(C:CompScope X N cap scope)(hcalm:X.calm=true)(hi:PI X tg iter wi)
  (hg:∀s0 H0 ex,PG (X.comp N scope s0 H0 ex) tg g) (ht:∀s0 H0 ex,PIfs (X.comp N scope s0 H0 ex) ifs tt) (hk:∀s0 H0 ex,PE (X.comp N scope s0 H0 ex) kx tk) (hv:∀s0 H0 ex,PE (X.comp N scope s0 H0 ex) vx tv)
  (hs:∀x,foldedSetIterable iter X.env x=pure x:=by intro _;rfl):PE X (.DictComp kx vx [⟨tg,iter,ifs,0⟩] scope pos) (Jq cap (.dK []) wi g tt (Xcn tk tv)):=
 Jr Xjc rfl rfl C hcalm Xi9 hi (λit D env=>compTurn_dict kx vx tg iter ifs scope pos it D env) hg ht (λD s0 H0 ex=>Xja (hk s0 H0 ex) (hv s0 H0 ex)) hs
theorem Xcv(C:CompScope X N cap scope)(hcalm:X.calm=true)(hi:PI X tg iter wi)
  (hg:∀s0 H0 ex,PG (X.comp N scope s0 H0 ex) tg g) (ht:∀s0 H0 ex,PIfs (X.comp N scope s0 H0 ex) ifs tt)
  (hi2:∀s0 H0 ex,PI (X.comp N scope s0 H0 ex) tg2 iter2 wi2) (hg2:∀s0 H0 ex,PG (X.comp N scope s0 H0 ex) tg2 g2) (ht2:∀s0 H0 ex,PIfs (X.comp N scope s0 H0 ex) ifs2 tt2) (he:∀s0 H0 ex,PE (X.comp N scope s0 H0 ex) elt te)
  (hs:∀x,foldedSetIterable iter X.env x=pure x:=by intro _;rfl) (hs2:∀s0 H0 ex x,foldedSetIterable iter2 (X.comp N scope s0 H0 ex).env x=pure x:=by intro _ _ _ _;rfl):
  PE X (.ListComp elt [⟨tg,iter,ifs,0⟩,⟨tg2,iter2,ifs2,0⟩] scope pos) (Jq cap (.lst []) wi g tt λD=>Xco wi2 g2 tt2 (F8 te D)):=
 Jr (act:=λD env=>act2 elt tg iter tg2 iter2 ifs ifs2 scope pos D env) G8 rfl rfl C hcalm F7 hi (λit D env=>Xjf ..) hg ht (λD s0 H0 ex=>Xjb (Y:=X.comp N scope s0 H0 ex) (e:=.ListComp elt [⟨tg,iter,ifs,0⟩,⟨tg2,iter2,ifs2,0⟩] scope pos) (d:=1) F7 rfl hcalm rfl (λit=>rfl) (hi2 s0 H0 ex) (hg2 s0 H0 ex) (ht2 s0 H0 ex) (G7 (he s0 H0 ex)) (hs2 s0 H0 ex)) hs
end
mutual
def DAt (H:Hp):PyData->V->Prop
 | .none,v=>v = .non
 | .bool b,v=>v = .bl b
 | .int i,v=>v = .int i
 | .str x,v=>v = .str x
 | .list ds,v=>∃p xs,v = .ref p/\H p=some (.lst xs)/\DAll H ds xs
 | .tuple ds,v=>∃p xs,v = .ref p/\H p=some (.tup xs)/\DAll H ds xs
 | .dict _,_=>False
def DAll (H:Hp):List PyData->List V->Prop
 | [],vs=>vs=[]
 | d::ds,vs=>∃v r,vs=v::r/\DAt H d v/\DAll H ds r
end
mutual
theorem DAt.same{H H':Hp}(s:Same H H'):∀(d:PyData) (v:V),DAt H d v->DAt H' d v
 | .none,v,h=>by unfold DAt at h ⊢; exact h
 | .bool b,v,h=>by unfold DAt at h ⊢; exact h
 | .int i,v,h=>by unfold DAt at h ⊢; exact h
 | .str x,v,h=>by unfold DAt at h ⊢; exact h
 | .list ds,v,h=>by
  unfold DAt at h ⊢;obtain⟨p,xs,h1,h2,h3⟩:=h;exact⟨p,xs,h1,s _ _ h2,DAll.same s ds xs h3⟩
 | .tuple ds,v,h=>by
  unfold DAt at h ⊢;obtain⟨p,xs,h1,h2,h3⟩:=h;exact⟨p,xs,h1,s _ _ h2,DAll.same s ds xs h3⟩
 | .dict _,v,h=>by unfold DAt at h;exact h.elim
theorem DAll.same{H H':Hp}(s:Same H H'):∀(ds:List PyData) (vs:List V),DAll H ds vs->DAll H' ds vs
 | [],vs,h=>by unfold DAll at h ⊢; exact h
 | d::ds,vs,h=>by
  unfold DAll at h ⊢;obtain⟨v,r,h1,h2,h3⟩:=h;exact⟨v,r,h1,DAt.same s d v h2,DAll.same s ds r h3⟩
end
theorem C1{H:Hp}:DAll H [] []:=by unfold DAll;rfl
theorem C9{H:Hp}{d:PyData}{ds:List PyData}{v:V}{vs:List V}(h:DAt H d v)(hs:DAll H ds vs):DAll H (d::ds) (v::vs):=by unfold DAll;exact⟨v,vs,rfl,h,hs⟩
theorem Js{H:Hp}{d:PyData}{v:V}:∀{ds:List PyData} {vs:List V},DAll H ds vs->DAt H d v->DAll H (ds++[d]) (vs++[v])
 | [],vs,h,hd=>by
  unfold DAll at h;subst h;exact C9 hd C1
 | e::ds,vs,h,hd=>by
  unfold DAll at h;obtain⟨u,r,rfl,h2,h3⟩:=h;exact C9 h2 (Js h3 hd)
theorem Ga{H:Hp}:∀{ds:List PyData} {vs:List V},DAll H ds vs->vs.length=ds.length
 | [],vs,h=>by unfold DAll at h;subst h;rfl
 | e::ds,vs,h=>by
  unfold DAll at h;obtain⟨u,r,rfl,h2,h3⟩:=h;rw[Lv,Lv,Ga h3]
theorem Xcw{H:Hp}:∀{ds:List PyData} {vs:List V} {i:Nat} {d:PyData},DAll H ds vs->ds[i]? = some d->∃v,vs[i]? = some v/\DAt H d v
 | [],vs,i,d,h,e=>by simp at e
 | c::ds,vs,0,d,h,e=>by
  unfold DAll at h;obtain⟨u,r,rfl,h2,h3⟩:=h;simp at e;subst e;exact⟨u,rfl,h2⟩
 | c::ds,vs,i+1,d,h,e=>by
  unfold DAll at h;obtain⟨u,r,rfl,h2,h3⟩:=h;simpa using Xcw h3 (by simpa using e)
theorem Jt{H:Hp}(row:List Str):DAll H (row.map PyData.str) (row.map V.str):=by
 induction row with
 | nil=>exact C1
 | cons x r ih=>exact C9 (by unfold DAt;rfl) ih
theorem Xjg{H:Hp}(row:List Int):DAll H (row.map PyData.int) (row.map V.int):=by
 induction row with
 | nil=>exact C1
 | cons x r ih=>exact C9 (by unfold DAt;rfl) ih
theorem Ju{H:Hp}{ds:List PyData}{p:Addr}{xs:List V}(h:H p=some (.tup xs))(hs:DAll H ds xs):DAt H (.tuple ds) (.ref p):=by unfold DAt;exact⟨p,xs,rfl,h,hs⟩
theorem Xcx{H:Hp}{ds:List PyData}{p:Addr}{xs:List V}(h:H p=some (.lst xs))(hs:DAll H ds xs):DAt H (.list ds) (.ref p):=by unfold DAt;exact⟨p,xs,rfl,h,hs⟩
theorem Xjh{H:Hp}{ds:List PyData}{v:V}(h:DAt H (.tuple ds) v):∃p xs,v = .ref p/\H p=some (.tup xs)/\DAll H ds xs:=by unfold DAt at h;exact h
section
variable {X:Cx}{pins:List (Addr×Obj)}{σ:St}{H:Hp}{s:Shared}
mutual
theorem Dn(I:Inv X pins σ H s):∀(d:PyData) (v:V) (u:Value),DAt H d v->Af v u->∃as,Reads s.heap u d as
 | .none,v,u,h,r=>by unfold DAt at h;subst h;cases r;exact⟨_,.none⟩
 | .bool b,v,u,h,r=>by unfold DAt at h;subst h;cases r;exact⟨_,.bool b⟩
 | .int i,v,u,h,r=>by unfold DAt at h;subst h;obtain⟨t,rfl⟩:=r;exact⟨_,.int i t⟩
 | .str x,v,u,h,r=>by unfold DAt at h;subst h;obtain⟨t,rfl⟩:=r;exact⟨_,.str x t⟩
 | .list ds,v,u,h,r=>by
  unfold DAt at h;obtain⟨p,xs,rfl,hp,hs⟩:=h;cases r;obtain⟨its,rv,pl,hz⟩:=I.list (SqL.of (K:=X.K) hp);obtain⟨as,ra⟩:=Jv I ds xs its hs rv;obtain⟨o,ho,hc,n,hd⟩:=pl.isList;exact⟨_,.list ho hc hd (by simpa using ra)⟩
 | .tuple ds,v,u,h,r=>by
  unfold DAt at h;obtain⟨p,xs,rfl,hp,hs⟩:=h;cases r;obtain⟨its,rv,pl,hz⟩:=I.tuple (SqT.of (K:=X.K) hp);obtain⟨as,ra⟩:=Jv I ds xs its hs rv;obtain⟨o,ho,hc,n,hd⟩:=pl;exact⟨_,.tuple ho hc hd (by simpa using ra)⟩
 | .dict _,v,u,h,r=>by unfold DAt at h;exact h.elim
theorem Jv(I:Inv X pins σ H s):∀(ds:List PyData) (vs:List V) (us:List Value),DAll H ds vs->Vals vs us->∃as,ReadsAll s.heap us ds as
 | [],vs,us,h,r=>by unfold DAll at h;subst h;cases r;exact⟨_,.nil⟩
 | d::ds,vs,us,h,r=>by
  unfold DAll at h;obtain⟨v,vr,rfl,h1,h2⟩:=h;cases r with
  | cons r1 r2=>
   obtain⟨a1,q1⟩:=Dn I d v _ h1 r1;obtain⟨a2,q2⟩:=Jv I ds vr _ h2 r2;exact⟨_,.cons q1 q2⟩
end
theorem Xji(hu:X.A.units+3<cLine):OpR X (compareOp .Eq) (λx y H Q=>∃d d',DAt H d x/\DAt H d' y/\d.canLay0=true/\d'.canLay0=true/\min d.depth d'.depth<=3/\Q (.bl (PyData.eqv d d')) H):=by
 intro pins s σ H x y v u Q I rx ry h;obtain⟨d,d',h1,h2,c1,c2,hd,q⟩:=h;obtain⟨as,ra⟩:=Dn I d x v h1 rx;obtain⟨bs,rb⟩:=Dn I d' y u h2 ry;exact SeqAt.compareEq_reads ra rb c1 c2 (by omega) ⟨.bl _,H,I,rfl,q⟩
theorem Xjj(hu:X.A.units+3<cLine):OpR X (compareOp .NotEq) (λx y H Q=>∃d d',DAt H d x/\DAt H d' y/\d.canLay0=true/\d'.canLay0=true/\min d.depth d'.depth<=3/\Q (.bl (!PyData.eqv d d')) H):=by
 intro pins s σ H x y v u Q I rx ry h;obtain⟨d,d',h1,h2,c1,c2,hd,q⟩:=h;obtain⟨as,ra⟩:=Dn I d x v h1 rx;obtain⟨bs,rb⟩:=Dn I d' y u h2 ry;exact SeqAt.compareNe_reads ra rb c1 c2 (by omega) ⟨.bl _,H,I,rfl,q⟩
theorem Xjk(hu:X.A.units+4<cLine):OpR X (compareOp .In) (λx y H Q=>∃d ds,DAt H d x/\DAt H (.list ds) y/\d.canLay0=true/\PyData.canLayAll0 ds=true/\d.depth<=3/\Q (.bl (ds.any λe=>PyData.eqv e d)) H):=by
 intro pins s σ H x y v u Q I rx ry h;obtain⟨d,ds,h1,h2,c1,c2,hd,q⟩:=h;obtain⟨as,ra⟩:=Dn I d x v h1 rx;obtain⟨bs,rb⟩:=Dn I (.list ds) y u h2 ry;exact SeqAt.in_list_reads rb ra c2 c1 (by omega) ⟨.bl _,H,I,rfl,q⟩
end
mutual
def Be:PyData->Bool
 | .none | .int _=>true
 | .str x=>PyData.strOk x
 | .list xs | .tuple xs=>Co xs
 | .bool _ | .dict _=>false
def Co:List PyData->Bool
 | []=>true
 | x::xs=>Be x&&Co xs
end
mutual
theorem Fa:∀d:PyData,Be d=true->d.canLay0=true
 | .none,_=>rfl
 | .int _,_=>rfl
 | .str x,h=>h
 | .list xs,h=>Fb xs h
 | .tuple xs,h=>Fb xs h
 | .bool _,h=>nomatch h
 | .dict _,h=>nomatch h
theorem Fb:∀ds:List PyData,Co ds=true->PyData.canLayAll0 ds=true
 | [],_=>rfl
 | d::ds,h=>by
  have h':(Be d&&Co ds)=true:=h;rw[Ls] at h';show (d.canLay0&&PyData.canLayAll0 ds)=true;rw[Fa d h'.1,Fb ds h'.2];rfl
end
mutual
theorem Gb:∀(d d':PyData),Be d=true->Be d'=true->(PyData.eqv d d'=true↔d=d')
 | .none,d',_,h=>by cases d'<;>simp[PyData.eqv]
 | .int i,d',_,h=>by cases d'<;>simp_all [PyData.eqv,Be]
 | .str x,d',_,h=>by cases d'<;>simp_all [PyData.eqv,Be]
 | .list xs,d',g,h=>by
  cases d' with
  | list ys=>
   have:=Jw xs ys g h;simp only[PyData.eqv,this,PyData.list.injEq]
  | _=>simp[PyData.eqv]
 | .tuple xs,d',g,h=>by
  cases d' with
  | tuple ys=>
   have:=Jw xs ys g h;simp only[PyData.eqv,this,PyData.tuple.injEq]
  | _=>simp[PyData.eqv]
 | .bool _,_,g,_=>nomatch g
 | .dict _,_,g,_=>nomatch g
theorem Jw:∀(xs ys:List PyData),Co xs=true->Co ys=true->(PyData.eqvAll xs ys=true↔xs=ys)
 | [],[],_,_=>by simp[PyData.eqvAll]
 | [],_::_,_,_=>by simp[PyData.eqvAll]
 | _::_,[],_,_=>by simp[PyData.eqvAll]
 | x::xs,y::ys,g,h=>by
  have g':(Be x&&Co xs)=true:=g;have h':(Be y&&Co ys)=true:=h;rw[Ls] at g' h';have e1:=Gb x y g'.1 h'.1;have e2:=Jw xs ys g'.2 h'.2;simp only[PyData.eqvAll,Ls,e1,e2,List.cons.injEq]
end
theorem Xjl{α : Type}[DecidableEq α](f : α->PyData)(inj:∀a b,f a=f b->a=b)(a b : α)(ha:Be (f a)=true)(hb:Be (f b)=true):PyData.eqv (f a) (f b)=decide (a=b):=by
 rw[M3,Gb _ _ ha hb,decide_eq_true_eq];exact⟨inj a b,λe=>by rw[e]⟩
theorem plainAll_map{α : Type}(f : α->PyData):∀(xs:List α),(∀x∈xs,Be (f x)=true)->Co (xs.map f)=true
 | [],_=>rfl
 | x::xs,h=>by
  show (Be (f x)&&Co (xs.map f))=true;rw[h x Lj,plainAll_map f xs λy hy=>h y (Lh _ hy)];rfl
section
variable {X:Cx}{tg:Expr}
def Xcy (tl:TE):TI:=fun σ H R=>tl σ H λx H1=>∃d kvs,x = .ref d/\((H1 d=some (.dK kvs)/\∀o,R (Itd d o kvs) (upd H1 d (.frz o (.dK kvs)))) \/ ∃o,H1 d=some (.frz o (.dK kvs))/\R (Itd d o kvs) H1)
theorem Et{l:Expr}{tl:TE}(hl:PE X l tl):PI X tg l (Xcy tl):=by
 intro pins s σ H R I h;refine thn (hl pins s σ H _ I h) λv s1 ⟨x,H1,I1,r1,q1⟩=>?_;obtain⟨d,kvs,e,q⟩:=q1;subst e;cases r1;rcases q with ⟨hH,q⟩ | ⟨o,hH,q⟩
 ·obtain⟨hz,hm,vs,rv,o,es,ep,ho,hex,hd,r⟩:=I1.hok d _ hH;have hlen:kvs.length=vs.length:=Paired.length rv;refine wpAny_pyIter_dict (knd:=Au X.prog X.w) hm ⟨o,es,ho,hex,hd,r⟩ ?_;have I2:=I1.freeze hH ho;refine⟨s1.heap.objs.size,[s1.heap.objs.size],_,_,_,rfl,I2.kept (t':=s1.toks) λb o e=>P0 _ e,Jf d _ o es ep hd kvs (Ll (Pz ho)),⟨_,Heap.get?_push_size _ rfl,rfl,by rw[hlen];rfl⟩,λb hb=>?_,q o⟩;have e:b=s1.heap.objs.size:=by simpa using hb
  subst e;exact I2.fpOk (Li _) (I2.hok.fresh (Li _))
 ·obtain⟨ho',hok⟩:=(show A5 X.prog X.w H1 s1.heap d (.frz o (.dK kvs)) from I1.hok d _ hH);obtain⟨hz,hm,vs,rv,o',es,ep,ho,hex,hd,r⟩:=hok;have eo:o'=o:=by rw[ho'] at ho;exact(L5 ho).symm
  subst eo;have hlen:kvs.length=vs.length:=Paired.length rv;refine wpAny_pyIter_dict (knd:=Au X.prog X.w) hm ⟨o',es,ho,hex,hd,r⟩ ?_;refine⟨s1.heap.objs.size,[s1.heap.objs.size],_,_,_,rfl,I1.kept (t':=s1.toks) λb o e=>P0 _ e,Jf d _ o' es ep hd kvs (Ll (Pz ho)),⟨_,Heap.get?_push_size _ rfl,rfl,by rw[hlen];rfl⟩,λb hb=>?_,q⟩;have e:b=s1.heap.objs.size:=by simpa using hb
  subst e;exact I1.fpOk (Li _) (I1.hok.fresh (Li _))
end
def hid (D:Addr) (H:Hp):Hp:=λb=>if b=D then none else H b
theorem Eu(D:Addr)(H:Hp):Same (hid D H) H:=λb o e=>by
 unfold hid at e;split at e
 ·cases e
 ·exact e
theorem Xcz(D:Addr)(H:Hp)(o:HO):hid D (upd H D o)=hid D H:=by
 funext b;unfold hid;split
 ·rfl
 ·rename_i h;rw[Ac h]
theorem Gc{D:Addr}{H H':Hp}(s:Same H H'):Same (hid D H) (hid D H'):=λb o e=>by
 unfold hid at e ⊢;split at e
 ·cases e
 ·rename_i h;rw[Ps h];exact s b o e
theorem B4{D b:Addr}{H:Hp}{o:HO}(h:H b=some o)(n:b≠D):hid D H b=some o:=by
 unfold hid;rw[Ps n];exact h
theorem Xc0{D p:Addr}{H:Hp}{o:HO}{ds:List PyData}{xs:List V}(hD:H D=some o)(np:H p=none)(h:DAll (hid D (upd H p (.tup xs))) ds xs):DAt (hid D (upd H p (.tup xs))) (.tuple ds) (.ref p):=
 Ju (B4 Ab (Aq hD np).symm) h
section
variable {tt:TT}{te:TE}{J:It}{σ:St}{H0 H1:Hp}{D:Addr}{F:St->Hp->Prop}{j:Nat}{xs0:List V}
theorem Jx(n:Nat)(vs:Nat->V)(ok:Nat->Bool)(dat:Nat->PyData)(acc:List PyData)(hH:H0 D=none)(s0:Same H0 H1)(hxs:H1 D=some (.lst xs0))(hall:DAll (hid D H1) acc xs0)(hbd:acc.length+n<sizeLine)
  (hgo:∀i H2,i<n->Same H0 H2->J.go i H2/\∀x H3,J.yld i H2 x H3->H3=H2/\x=vs i)
  (hst:∀H2,Same H0 H2->J.stop n H2)
  (tst:∀(i:Nat) H2 Q,i<n->Same H0 H2->(∀H',Same H2 H'->Q (ok i) H')->tt (σ.set j (some (vs i))) H2 Q)
  (step:∀(i:Nat) xs H2 Q,i<n->ok i=true->Same H0 H2->H2 D=some (.lst xs)->(∀v H',Same H2 H'->DAt (hid D H') (dat i) v->Q v H')->te (σ.set j (some (vs i))) H2 Q)
  (fin:∀σ' H2 xs,(∀v, σ'.set j v = σ.set j v)->Same H0 H2->H2 D=some (.lst xs)->DAll (hid D H2) (acc++((List.range n).filter ok).map dat) xs->F σ' H2):
  tLp (A6 j) tt (F8 te D) J σ H1 F:=by
 refine⟨wN n λi σ2 H2=>(∀v, σ2.set j v = σ.set j v)/\Same H0 H2/\∃xs,H2 D=some (.lst xs)/\DAll (hid D H2) (acc++((List.range i).filter ok).map dat) xs,⟨n,by simp,Mf _,λ_=>rfl,s0,xs0,hxs,by simpa using hall⟩,?_⟩;rintro i m σ1 H2 ⟨rfl,hi,e,s2,xs,hD,hal⟩;by_cases hlt:i<n
 ·obtain⟨h1,h2⟩:=hgo i H2 hlt s2;refine .inr ⟨h1,λx H3 y=>?_⟩;obtain⟨e1,e2⟩:=h2 x H3 y;subst e1 e2;show tt (σ1.set j (some (vs i))) H3 _;rw[e];refine tst i H3 _ hlt s2 λH4 s4=>?_;have s04:=s2.trans s4;have hD4:=s4 _ _ hD;have hal4:=DAll.same (Gc (D:=D) s4) _ _ hal;have hss:∀v,(σ.set j (some (vs i))).set j v = σ.set j v:=λv=>by rw[Pn]
  have hl:xs.length<=acc.length+i:=by
   rw[Ga hal,Lp,Lf];have:((List.range i).filter ok).length<=i:=Mh (Ms ..) (by rw[Mp];omega);omega
  refine A9 (λhk=>?_) (λhk=>?_)
  ·show te (σ.set j (some (vs i))) H4 _;refine step i xs H4 _ hlt hk s04 hD4 λv H5 s5 hv=>?_;refine⟨xs,s5 _ _ hD4,by omega,?_⟩;refine wskip hlt ⟨hss,λb u e'=>?_,xs++[v],Ab,?_⟩
   ·rw[Ac (Aq e' hH)];exact s5 _ _ (s04 b u e')
   ·rw[Xcz,Mg,Lx,Lu,<-Ng];simp only[Md,hk,if_true,Oe,Ly,Op];exact Js (DAll.same (Gc (D:=D) s5) _ _ hal4) hv
  ·refine wskip hlt ⟨hss,s04,xs,hD4,?_⟩;rw[Mg,Lx];simpa [hk] using hal4
 ·have ei:i=n:=by omega
  subst ei;exact .inl ⟨hst H2 s2,fin σ1 H2 xs e s2 hD hal⟩
theorem Xjm{tm:TM}(n:Nat)(vs:Nat->V)(acc:Nat->List PyData)(hH:H0 D=none)(s0:Same H0 H1)(hxs:H1 D=some (.lst xs0))(hall:DAll (hid D H1) (acc 0) xs0)(Eσ:St->Prop)(hE:Eσ σ)
  (hgo:∀i H2,i<n->Same H0 H2->J.go i H2/\∀x H3,J.yld i H2 x H3->H3=H2/\x=vs i)
  (hst:∀H2,Same H0 H2->J.stop n H2)
  (step:∀(i:Nat) σ1 xs H2 (Q:St->Hp->Prop),i<n->Eσ σ1->Same H0 H2->H2 D=some (.lst xs)->DAll (hid D H2) (acc i) xs->(∀σ' H' xs',Eσ σ'->Same H0 H'->H' D=some (.lst xs')->DAll (hid D H') (acc (i+1)) xs'->Q σ' H')->tm (σ1.set j (some (vs i))) H2 Q)
  (fin:∀σ' H2 xs,Same H0 H2->H2 D=some (.lst xs)->DAll (hid D H2) (acc n) xs->F σ' H2):
  tLp (A6 j) C7 tm J σ H1 F:=by
 refine⟨wN n λi σ2 H2=>Eσ σ2/\Same H0 H2/\∃xs,H2 D=some (.lst xs)/\DAll (hid D H2) (acc i) xs,⟨n,by simp,Mf _,hE,s0,xs0,hxs,hall⟩,?_⟩;rintro i m σ1 H2 ⟨rfl,hi,e,s2,xs,hD,hal⟩;by_cases hlt:i<n
 ·obtain⟨h1,h2⟩:=hgo i H2 hlt s2;refine .inr ⟨h1,λx H3 y=>?_⟩;obtain⟨e1,e2⟩:=h2 x H3 y;subst e1 e2;unfold A6 C7;dsimp only;rw[Pt rfl];exact step i σ1 xs H3 _ hlt e s2 hD hal fun σ' H' xs' e' s' hD' hal'=>wskip hlt ⟨e',s',xs',hD',hal'⟩
 ·have ei:i=n:=by omega
  subst ei;exact .inl ⟨hst H2 s2,fin σ1 H2 xs s2 hD hal⟩
theorem Xjn{tm:TM}(n:Nat)(vs:Nat->V)(acc:Nat->List PyData)(G:Hp->Prop)(hH:H0 D=none)(s0:Same H0 H1)(g0:G H1)(hxs:H1 D=some (.lst xs0))(hall:DAll (hid D H1) (acc 0) xs0)(Eσ:St->Prop)(hE:Eσ σ)
  (hgo:∀i H2,i<n->Same H0 H2->J.go i H2/\∀x H3,J.yld i H2 x H3->H3=H2/\x=vs i)
  (hst:∀H2,Same H0 H2->J.stop n H2)
  (step:∀(i:Nat) σ1 xs H2 (Q:St->Hp->Prop),i<n->Eσ σ1->Same H0 H2->G H2->H2 D=some (.lst xs)->DAll (hid D H2) (acc i) xs->(∀σ' H' xs',Eσ σ'->Same H0 H'->G H'->H' D=some (.lst xs')->DAll (hid D H') (acc (i+1)) xs'->Q σ' H')->tm (σ1.set j (some (vs i))) H2 Q)
  (fin:∀σ' H2 xs,Same H0 H2->G H2->H2 D=some (.lst xs)->DAll (hid D H2) (acc n) xs->F σ' H2):
  tLp (A6 j) C7 tm J σ H1 F:=by
 refine⟨wN n λi σ2 H2=>Eσ σ2/\Same H0 H2/\G H2/\∃xs,H2 D=some (.lst xs)/\DAll (hid D H2) (acc i) xs,⟨n,by simp,Mf _,hE,s0,g0,xs0,hxs,hall⟩,?_⟩;rintro i m σ1 H2 ⟨rfl,hi,e,s2,g2,xs,hD,hal⟩;by_cases hlt:i<n
 ·obtain⟨h1,h2⟩:=hgo i H2 hlt s2;refine .inr ⟨h1,λx H3 y=>?_⟩;obtain⟨e1,e2⟩:=h2 x H3 y;subst e1 e2;unfold A6 C7;dsimp only;rw[Pt rfl];exact step i σ1 xs H3 _ hlt e s2 g2 hD hal fun σ' H' xs' e' s' g' hD' hal'=>wskip hlt ⟨e',s',g',xs',hD',hal'⟩
 ·have ei:i=n:=by omega
  subst ei;exact .inl ⟨hst H2 s2,fin σ1 H2 xs s2 g2 hD hal⟩
end
section
variable {X:Cx}{pos np hpos:Pos}{body:List Stmt}{b0:Stmt}{suite:List Stmt}{x:Str}{Cc:Addr}{tb:(Addr->St->Hp->Prop)->TS}{th:TS}
end
section
variable {X:Cx}
theorem Xjo:X.calm=true->B1 X (.builtin "any") (λxs H Q=>∃(a:Addr) (bs:List Bool),xs=[.ref a]/\H a=some (.lst (bs.map V.bl))/\Q (.bl (bs.any id)) H):=by
 intro hc pins s σ H xs us Q I r h;obtain⟨a,bs,rfl,ha,q⟩:=h;obtain⟨u,rfl,ru⟩:=Ca r;cases ru;obtain⟨its,rv,p,hz⟩:=I.list (SqL.of ha);have hl:=rv.length;rw[Lf] at hl;refine call_any_walk (wpAny_pyIter_list p.isList ?_);have hlt:a≠s.heap.objs.size:=by
  obtain⟨o,ho,_⟩:=p.isList;exact Ll (Pz ho)
 refine⟨s.heap.objs.size,_,_,_,_,_,λj=>bs.getD j false,rfl,Walks.list (A:=X.A.in1) (show X.A.in1.handled=none from I.ok.hd hc) s.heap.objs.size a hlt its.toArray,⟨⟨_,Heap.get?_push_size _ rfl,rfl,rfl⟩,p.isList.push _⟩,λi v s' Q' E' hP hQ=>?_,λh' tk k=>?_⟩
 ·have hv:its[i]? = some v:=by simpa using hP
  have hi:i<its.length:=(L9.mp hv).1;have g:(bs.map V.bl)[i]? = some (.bl (bs[i]'(by omega))):=by
   rw[L1,Lm (by omega)];rfl
  obtain⟨u,hu,ru⟩:=rv.get g;rw[hv] at hu;cases hu;cases ru;have e:bs.getD i false=bs[i]'(by omega):=by simp[List.getD,(by omega:i<bs.length)]
  have hQ':Q' (bs.getD i false) s':=hQ;rw[e] at hQ';exact wpAny_truthy_bool hQ'
 ·refine⟨.bl (bs.any id),H,I.kept (t':=tk) λb o e=>k b o (λz=>?_) (P0 _ e),?_,q⟩
  ·have z':b=s.heap.objs.size:=by simpa using z
   exact absurd (Pz e) (by rw[z'];exact Ml _)
  ·show Value.bool _=Value.bool _;congr 1;rw[Lq,<-hl];rw[M3,Nv,Nv];constructor
   ·rintro ⟨j,hj,e⟩;have hj':=M0.mp hj;refine⟨_,Mj hj',?_⟩;simpa [List.getD,hj'] using e
   ·rintro ⟨b,hb,e⟩;obtain⟨j,hj,rfl⟩:=Mv.mp hb;exact⟨j,M0.mpr hj,by simpa [List.getD,hj] using e⟩
end
end L2
namespace HT
open PySem PySem.Spec PyProof.Rows PySem.Calls L2
section
variable {prog:Program}{w:World}{A:Around}{E:Value->Shared->Prop}{s:Shared}
end
end HT
namespace L2
open PySem PySem.Spec PyProof.Rows
section
variable {X:Cx}{pos p2:Pos}{e:Expr}{te:TE}
def tRevT (te:TE):TE:=fun σ H Q=>te σ H λx H1=>∃a xs,x = .ref a/\H1 a=some (.tup xs)/\∀p,H1 p=none->Q (.ref p) (upd H1 p (.tup xs.reverse))
end
section
variable {X:Cx}{es:List Expr}{t:L2.St->Hp->(Hp->Prop)->Prop}{e:Expr}{te:TE}{pos:Pos}
def Xjp (te:TE) (t:L2.St->Hp->(Hp->Prop)->Prop):L2.St->Hp->(Hp->Prop)->Prop:=fun σ H Q=>te σ H λx H1=>∃(a:Addr) (ss:List Str),x = .ref a/\H1 a=some (.tup (ss.map V.str))/\ss.length<=24/\(∀z∈ss,z.length<=20/\∀c∈z.cps.toList,c<16 ^ 8)/\t σ H1 Q
theorem Xc1:∀(ss:List Str),(∀z∈ss,z.length<=20/\∀c∈z.cps.toList,c<16 ^ 8)->piled (ss.map reprText)<=204 * ss.length
 | [],_=>by simp[piled]
 | z::ss,h=>by
  obtain⟨h1,h2⟩:=h z Lj;have:=StrLaws.reprText_len z h2;have ih:=Xc1 ss λy hy=>h y (Lh _ hy);rw[Ly,piled_cons,Lv];omega
theorem Xjq(ts:List Str):(tupleText ts).length<=piled ts+3:=by
 unfold tupleText;rw[strLen_append,strLen_append];have e1:((("(" : String):Str)).length=1:=rfl;have e3:(((if ts.length==1 then ",)" else ")" : String):Str)).length<=2:=by split<;>decide
 rw[e1];by_cases h:ts=[]
 ·subst h;have:(Str.join ", " []).length=0:=rfl;omega
 ·have:=join_length_add ts h;omega
theorem Xc2{P:Program}{w:World}:∀{ss:List Str} {us:List Value},(∀z∈ss,z.length<=20/\∀c∈z.cps.toList,c<16 ^ 8)->Vals (ss.map V.str) us->ReprAll P w us (ss.map reprText)
 | [],_,_,r=>by cases r;exact .nil
 | z::ss,_,h,r=>by
  cases r with
  | cons r1 r2=>
   obtain⟨tk,rfl⟩:=r1;obtain⟨h1,h2⟩:=h z Lj;have:=StrLaws.reprText_len z h2;exact .cons (ReprIs.str z tk (by rw[Pr];omega)) (Xc2 (λy hy=>h y (Lh _ hy)) r2)
theorem Xjr{k:Nat}{p:Pos}(hr:Room k X.A)(ha:PE X e te)(h:PJ X es t)(he:evalEach (.FormattedValue e 114 none p::es) X.env=eval (.FormattedValue e 114 none p) X.env::evalEach es X.env:=by rfl):PJ X (.FormattedValue e 114 none p::es) (Xjp te t):=by
 intro out pins s σ H Q I hw hl;rw[he];rw[Lv] at hl;refine joinParts_cons (wpAny_FormattedValue_repr (thn (ha pins s σ H _ I hw) λv s1 ⟨x,H1,I1,r1,q1⟩=>?_));obtain⟨a,ss,ez,hp,h1,h2,q⟩:=q1;subst ez;cases r1;obtain⟨its,rv,pl,hz⟩:=I1.tuple (SqT.of (K:=X.K) hp);obtain⟨o,ho,hc,n,hd⟩:=pl;have hz1:=Xjq (ss.map reprText);have hz2:=Xc1 ss h2;have hz3:(tupleText (ss.map reprText)).length<=5000:=by omega
 have hz4:(tupleText (ss.map reprText)).length<=sizeLine:=by rw[Pr];omega
 refine wpAny_pyReprObj_tuple (g:=[]) ⟨o,ho,hc⟩ hr.gd (by simp) hr.units0 ho hd (Xc2 h2 (by simpa using rv)) (λu tk=>?_) hz4;refine formatField_str (λt' k=>⟨by rw[Ek];omega,?_⟩) hz4;exact h _ pins _ σ H1 Q ((I1.tok _).tok _) q (by rw[Ek];omega)
end
def D3 (c:Addr) (q:Str):Heap->Prop:=λh=>h.CodeRec (.ref c) q
def D4 (f:Addr) (fd:FuncData):Heap->Prop:=λh=>∃o,h.get? f=some o/\o.data = .func fd
theorem Xjs{c:Addr}{q:Str}:∀h1 h2:Heap,D3 c q h1->(∀o,h1.get? c=some o->h2.get? c=some o)->D3 c q h2:=by
 rintro h1 h2 ⟨c1,o,vs,t,e,ho,r⟩ k;cases e;exact⟨c,o,vs,t,rfl,k _ ho,r⟩
theorem Xc3{f:Addr}{fd:FuncData}:∀h1 h2:Heap,D4 f fd h1->(∀o,h1.get? f=some o->h2.get? f=some o)->D4 f fd h2:=by
 rintro h1 h2 ⟨o,ho,r⟩ k;exact⟨o,k _ ho,r⟩
theorem Xjt{CX:CXT}{P:Program}{w:World}{K:PySem.W.Frag}{mg:Str->Option Value}{base:Heap}{A:Around}{outer:List Env}{s:Shared}{H:Hp}{k:Nat}{f c:Addr}{name qual:Str}{params:Arguments}{body:Expr}{scope:Scope}{pm ctv:Value}
  {N ps:List Str} {us:List Value} {vs:List V} {Q:VK} {E:XK} {t:TE}
  (hf:H f=some (.ext (D4 f (PySem.W.kla_fn name qual params body scope [] pm (.ref c) ctv)))) (hc:H c=some (.ext (D3 c qual))) (S:FnScope N ps scope) (hr:Room (k+1) A) (e0:Env0 P w K mg base A outer s H)
  (hl:vs.length=ps.length) (r:Vals vs us) (hb:bindArgs (PySem.W.kla_fn name qual params body scope [] pm (.ref c) ctv) ⟨us,[]⟩=pure (ps.zip us))
  (ht:PE (B6 CX P w K mg base N qual scope f (.ref c) A outer s H E) body t) (hq:t (start N vs) H Q):
  codeAny (model P w) A (.call (.ref f) ⟨us,[]⟩) (CR CX outer P w H s Q E) s:=by
 obtain⟨⟨of,hof,hod⟩,_⟩:=e0.hok f _ hf;obtain⟨hcod,_⟩:=e0.hok c _ hc;have lim:s.heap.NoLimit:=e0.mod.nolimit.keeps λb o e=>(e0.bs b o e).1;have hkind:∀y∈ps.zip us,scope.names.lookup y.1=some .local\/(scope.names.lookup y.1=some .cell/\((cellsFrom (s.heap.objs.size+1) scope.names []).lookup y.1).isSome=true):=λ⟨n,v⟩ hy=>by
  rcases S.par n (O8 hy).1 with q | q
  ·exact .inl q
  ·exact .inr ⟨q,PySem.W.cellsFrom_some _ _ _ (.inl q)⟩
 refine PySem.W.kla_callFunE hr.depth hof hod S.co S.gen rfl hcod ?_;rw[hb];refine Pq ?_;refine wpAny_newFunctionEnv_cells S.kind hkind λenv he s1 x=>?_;subst he;refine⟨lim.keeps x.toInCall.keep,PySem.W.kla_codeExpr ?_⟩;have I:Inv (B6 CX P w K mg base N qual scope f (.ref c) A outer s H E) [] (start N vs) H s1:=Xay S hr.hd e0 hl r x;refine wpAny_mono (ht [] s1 (start N vs) H _ I hq) (λu s' hs=>?_) λe s' hs=>hs;obtain⟨v,H',J,rv,q⟩:=hs;exact⟨v,H',J.os,J.bare,J.base,J.hok,rv,q⟩
def BmOk (mg:Str->Option Value) (base:Heap):Prop:=∃bm ob,mg "__builtins__" = some (.ref bm)/\bm≠builtinsNs/\base.get? bm=some ob/\ob.cls = .type "module" /\ ob.dict=some builtinsNs/\ob.data = .plain
def Ao (T:Addr) (pos:Pos) (q:Str) (H:Hp):Prop:=H T=some (.tbl #[]) \/ ∃c,H T=some (.tbl #[rawInt pos.line,rawInt pos.col,.ref c])/\H c=some (.ext (D3 c q))
def tLam (T:Addr) (q:Str) (params:Arguments) (body:Expr) (scope:Scope) (pos:Pos):TE:=λ_ H Q=>Ao T pos q H /\
 ∀(f c:Addr) (pm ctv:Value) (H':Hp),H f=none->H' f=some (.ext (D4 f (PySem.W.kla_fn "<lambda>" q params body scope [] pm (.ref c) ctv)))->H' c=some (.ext (D3 c q))->Ao T pos q H'->(∀b o,H b=some o->b≠T->H' b=some o)->Q (.ref f) H'
section
variable {X:Cx}{T c0:Addr}{params:Arguments}{body:Expr}{scope:Scope}{pos:Pos}{q:Str}
theorem Xju{pins:List (Addr×Obj)}{σ:St}{H:Hp}{s:Shared}{h':Heap}{tk:Nat}{fd:FuncData}{o:Obj}(I:Inv X pins σ H s)(k:∀b o,s.heap.get? b=some o->h'.get? b=some o)(hsz:s.heap.objs.size<=h'.objs.size)(ho:o.data = .func fd)(hfr:o.isFreed=false):
  Inv X pins σ (upd H h'.objs.size (.ext (D4 h'.objs.size fd))) {s with heap:=h'.push o,toks:=tk}:=by
 refine I.laid (t':=tk) (h':=h'.push o) (λb ob e=>P0 _ (k b ob e)) hsz ?_;exact⟨⟨o,Heap.get?_push_size _ hfr,ho⟩,⟨o,Heap.get?_push_size _ hfr⟩,Xc3⟩
theorem Xjv{pins:List (Addr×Obj)}{σ:St}{H:Hp}{s:Shared}{h':Heap}{tk:Nat}{fd:FuncData}{o:Obj}{c:Addr}{ps:Array Value}(I:Inv X pins σ H s)(hT:H T=some (.tbl #[]))(hx:Heap.ExtBut T s.heap h')(hge:s.heap.objs.size<=c)(hlt:c<h'.objs.size)
  (hrec:h'.CodeRec (.ref c) q) (htb:h'.get? T=some (PySem.W.tabObj (#[]++ps))) (ho:o.data = .func fd) (hfr:o.isFreed=false):
  Inv X pins σ (upd (upd (upd H T (.tbl ps)) c (.ext (D3 c q))) h'.objs.size (.ext (D4 h'.objs.size fd))) {s with heap:=h'.push o,toks:=tk}:=by
 have htb':h'.get? T=some {cls:=.none,data:=.fields ps}:=by simpa using htb
 have nf:∀b u,s.heap.get? b=some u->b≠c/\b≠h'.objs.size:=λb u e=>by
  have z:=L4 (Pz e) hge;exact⟨Ll z,Ll (N3 z hlt)⟩
 have nH:∀b u,H b=some u->b≠c/\b≠h'.objs.size:=λb u e=>by
  have z:=L4 (I.hok.lt e) hge;exact⟨Ll z,Ll (N3 z hlt)⟩
 have nT:∀b,H b=none->b≠T:=λb n z=>by rw[z,hT] at n;cases n
 have kp:∀b u,b≠T->s.heap.get? b=some u->(h'.push o).get? b=some u:=λb u n e=>P0 _ (hx b u n e);have up:∀b u,H b=some u->b≠T->(upd (upd (upd H T (.tbl ps)) c (.ext (D3 c q))) h'.objs.size (.ext (D4 h'.objs.size fd))) b=some u:=λb u e n=>by
  rw[Ac (nH b u e).2,Ac (nH b u e).1,Ac n];exact e
 refine I.step (g':=s.gens) (d':=s.drawn) (t':=tk) (h':=h'.push o) (ch:=[]) (λ_ z=>nomatch z) (λb u _ _ _ e n=>kp b u (nT b n) e) (λb u _ _ _ e n=>⟨u.slots,kp b u (nT b n) e⟩) (λb u _ e n=>?_) (λb u _ e=>?_)
  (λb xs e=>up b _ e λz=>by rw[z,hT] at e;cases e) (λb u v e=>up b _ e λz=>by rw[z,hT] at e;cases e) (λb pz e=>?_) (λm hn=>(hn.extBut hx (nT _ I.free)).push _) ?_ I.bare
 ·rw[Ac (nf b u e).2,Ac (nf b u e).1,Ac (nT b n)];exact n
 ·by_cases z:b=T
  ·exact⟨_,z ▸ P0 _ htb'⟩
  ·exact⟨u,kp b u z e⟩
 ·by_cases z:b=T
  ·subst z;rw[hT] at e;cases e;refine⟨ps,?_⟩;rw[Ac (nH b _ hT).2,Ac (nH b _ hT).1,Ab];simp
  ·exact⟨#[],by rw[up b _ e z];simp⟩
 ·intro b u e;by_cases z1:b=h'.objs.size
  ·subst z1;rw[Ab] at e;cases e;exact⟨⟨o,Heap.get?_push_size _ hfr,ho⟩,⟨o,Heap.get?_push_size _ hfr⟩,Xc3⟩
  ·rw[Ac z1] at e;by_cases z2:b=c
   ·subst z2;rw[Ab] at e;cases e;obtain⟨c1,oc,vs,t,e1,hoc,r⟩:=hrec;cases e1;exact⟨⟨b,oc,vs,t,rfl,P0 _ hoc,r⟩,⟨oc,P0 _ hoc⟩,Xjs⟩
   ·rw[Ac z2] at e;by_cases z3:b=T
    ·subst z3;rw[Ab] at e;cases e;exact P0 _ htb'
    ·rw[Ac z3] at e;refine(I.hok b u e).stay (λd v hd g=>kp d v ?_ g) (λd g=>up d _ g λz=>by rw[z,hT] at g;cases g) λd xs g=>up d _ g λz=>by rw[z,hT] at g;cases g
     rcases hd with rfl | hd
     ·exact z3
     ·intro z;rw[z,hT] at hd;cases hd
theorem Xjw(hbm:BmOk X.mg X.base)(hdef:defaultsOf params X.env=([],[]))(hcl:closureFor scope X.env=pure [])(hcode:X.env.code = .ref c0)(hhd:PySem.W.codeHdIn X.K c0 T=true)(hq:X.env.qual ++ "<lambda>" = q):
  PE X (.Lambda params body scope pos) (tLam T q params body scope pos):=by
 intro pins s σ H Q I h;obtain⟨tab,k⟩:=h;obtain⟨bm,ob,b1,b2,b3,b4,b5,b6⟩:=hbm;have hg:s.heap.Ns mainGlobals X.mg:=I.mod.glob.keeps I.bk;have C:PySem.W.CodeHd s.heap c0 T:=PySem.W.codeHd_of_K I.kIn hhd;have nb:bm≠T:=λz=>by
  have n:=(I.bs bm ob b3).2;rw[z] at n;rcases tab with e | ⟨c,e,_⟩<;>(rw[e] at n;cases n)
 have hbG:bm≠mainGlobals:=λz=>by
  obtain⟨o,es,ep,e,hd,_⟩:=I.mod.glob;rw[z,e] at b3;cases b3;rw[hd] at b6;cases b6
 have hB:s.heap.BuiltinsAt X.mg T:=⟨bm,ob,b1,b2,hbG,nb,I.bk _ _ b3,b4,b5,b6⟩;refine PySem.W.kla_eval hdef ?_;rw[hq];rcases tab with e | ⟨c,e,ec⟩
 ·have hP:s.heap.get? T=some (PySem.W.tabObj #[]):=I.hok T _ e;have hgT:mainGlobals≠T:=λz=>by
   obtain⟨o,es,ep,e2,hd,_⟩:=hg;rw[z,hP] at e2;cases e2;cases hd
  refine PySem.W.kla_makeFunction (mg:=X.mg) (clos:=[]) hcl I.ok.glob hg hcode C hP trivial rfl hgT hB λc' ctv h' tk hx hge hlt hrec htb=>?_;have J:=Xjv (tk:=tk) (o:=PySem.W.kla_obj "<lambda>" q params body scope [] ((X.mg "__name__").getD .none) c' ctv) I e hx hge hlt hrec htb rfl rfl;have ltf:∀b o,H b=some o->b<c':=λb o eb=>L4 (I.hok.lt eb) hge;have ncT:c'≠T:=(Ll (ltf _ _ e)).symm;have nfc:c'≠h'.objs.size:=Ll hlt;have nTf:T≠h'.objs.size:=Ll (N3 (ltf _ _ e) hlt);refine⟨.ref h'.objs.size,_,J,rfl,k _ c' _ ctv _ (I.hok.fresh (Ob (Pe hge hlt))) Ab (by rw[Ac nfc,Ab]) (.inr ⟨c',by rw[Ac nTf,Ac ncT.symm,Ab],by rw[Ac nfc,Ab]⟩) λb o eb nb=>?_⟩;rw[Ac (Ll (N3 (ltf _ _ eb) hlt)),Ac (Ll (ltf _ _ eb)),Ac nb];exact eb
 ·have hP:s.heap.get? T=some (PySem.W.tabObj #[rawInt pos.line,rawInt pos.col,.ref c]):=I.hok T _ e;refine PySem.W.kla_makeFunctionHit (mg:=X.mg) (clos:=[]) (cv:=.ref c) hcl I.ok.glob hg hcode C hP trivial (by simp[codeAmong,rawInt]) hB λctv h' tk hk hsz=>?_;have J:=Xju (tk:=tk) (fd:=PySem.W.kla_fn "<lambda>" q params body scope [] ((X.mg "__name__").getD .none) (.ref c) ctv) (o:={cls:=.type "function",data:=.func (PySem.W.kla_fn "<lambda>" q params body scope [] ((X.mg "__name__").getD .none) (.ref c) ctv)}) I hk hsz rfl rfl;have nf:∀b o,H b=some o->b≠h'.objs.size:=λb o eb=>Ll (L4 (I.hok.lt eb) hsz);refine⟨.ref h'.objs.size,_,J,rfl,k _ c _ ctv _ (I.hok.fresh hsz) Ab (by rw[Ac (nf _ _ ec)];exact ec) (.inr ⟨c,by rw[Ac (nf _ _ e)];exact e,by rw[Ac (nf _ _ ec)];exact ec⟩) λb o eb _=>?_⟩;rw[Ac (nf b o eb)];exact eb
end
end L2
namespace SH
open PySem PySem.Spec PyProof.Rows L2
structure Bl (mg:Str->Option Value):Prop where
 len:mg "len" = none
 range:mg "range" = none
 list:mg "list" = none
 min:mg "min" = none
 isi:mg "isinstance" = none
 all:mg "all" = none
 str:mg "str" = none
 val:mg "ValueError" = none
 sorted:mg "sorted" = none
 set:mg "set" = none
 enum:mg "enumerate" = none
 int:mg "int" = none
 bool:mg "bool" = none
 tuple:mg "tuple" = none
 any:mg "any" = none
 dict:mg "dict" = none
 sum:mg "sum" = none
 max:mg "max" = none
structure DrawOk (H:Hp) (dr sc:Addr):Prop where
 ex:∃(ns:List Int) (p:Nat) (c m k:Int),H dr=some (.lst [.ref sc,.int p,.int c,.int m,.int k])/\H sc=some (.lst (ns.map V.int))/\p<=ns.length/\ns.length<=63/\0<=m/\m<1000000007
def Jy (K:PySem.W.Frag):Sp:=λvs H Q _=>∃(a:Addr) (ns:List Int),vs=[.ref a]/\SqL K H a (ns.map V.int)/\ns.length<=63/\∀dr sc H',H dr=none->H sc=none->DrawOk H' dr sc->Same H H'->Q (.ref dr) H'
def Xc4:Sp:=λvs H Q _=>∃(dr sc:Addr) (n:Int),vs=[.ref dr,.int n]/\0<n/\n<=1000/\DrawOk H dr sc /\
 ∀r H',0<=r->r<n->DrawOk H' dr sc->(∀b o,H b=some o->b≠dr->H' b=some o)->Q (.int r) H'
abbrev NP:List Str:=["_law_draw", "_law_many", "_law_cell", "_law_got"]
def D5 (H:Hp) (dr sc:Addr) (ns:List Int) (p:Nat) (c m k:Int):Prop:=H dr=some (.lst [.ref sc,.int p,.int c,.int m,.int k])/\H sc=some (.lst (ns.map V.int))
theorem cpow3{m:Int}(h0:0<=m)(h1:m<1000000007):CPow m 3:=⟨by decide,by decide,by omega⟩
def D6 (row:List Str) (x:Str) (a b:Nat):List Str:=row.take a++[x]++(row.drop a).take (b - a)++[x]++row.drop b
theorem Xc5(row:List Str)(x:Str)(a b:Nat)(hab:a<=b):(D6 row x a b).Perm (x::x::row):=by
 unfold D6;have e:row=row.take a++((row.drop a).take (b - a)++row.drop b):=by
  have e1:row.drop b=(row.drop a).drop (b - a):=by rw[List.drop_drop];congr 1;omega
  rw[e1,Mo,Mo]
 generalize hA:row.take a=A at *;generalize hB:(row.drop a).take (b - a)=B at *;generalize hC:row.drop b=C at *;rw[e];have p1:(A++[x]++B++[x]++C).Perm (x::(A++B++[x]++C)):=by
  have:A++[x]++B++[x]++C=A++x::(B++[x]++C):=by simp
  rw[this];refine N6.trans ?_;simp
 refine p1.trans (List.Perm.cons x ?_);have:A++B++[x]++C=(A++B)++x::C:=by simp
 rw[this];refine N6.trans ?_;simp
def Jz:Sp:=λvs H Q _=>∃(r:Addr) (row:List Str) (x:Str) (a b:Nat),vs=[.ref r,.str x,.int a,.int b]/\H r=some (.lst (row.map V.str))/\row.length<=1000/\a<=b/\b<=row.length /\
 ∀l H',H l=none->H' l=some (.lst ((D6 row x a b).map V.str))->Same H H'->Q (.ref l) H'
abbrev NPut:List Str:=["_law_row_here", "_law_name", "_law_at", "_law_to", "_law_told"]
def Az (x:Str):Nat->List Str->List Int
 | _,[]=>[]
 | n,y::r=>if y=x then (n:Int)::Az x (n+1) r else Az x (n+1) r
def plc (row:List Str) (x:Str):List Int:=Az x 0 row
theorem Xc6(x y:Str):∀(n:Nat) (r:List Str),Az x n (r++[y])=Az x n r++(if y=x then [((n+r.length:Nat):Int)] else [])
 | n,[]=>by
  show (if y=x then ((n:Nat):Int)::Az x (n+1) [] else Az x (n+1) [])=_;split<;>simp[Az]
 | n,z::r=>by
  have ih:=Xc6 x y (n+1) r;show (if z=x then (n:Int)::Az x (n+1) (r++[y]) else Az x (n+1) (r++[y]))=(if z=x then (n:Int)::Az x (n+1) r else Az x (n+1) r)++_;rw[ih,Lv,show n+1+r.length=n+(r.length+1) by omega];split<;>simp
theorem G9(x:Str):∀(n:Nat) (r:List Str),(Az x n r).length=r.count x
 | _,[]=>rfl
 | n,z::r=>by
  show (if z=x then (n:Int)::Az x (n+1) r else Az x (n+1) r).length=_;rw[List.count_cons];split
  ·rename_i e;rw[Lv,G9,Pt (by simpa using e)]
  ·rename_i e;rw[G9,Ps (by simpa using e)];rfl
theorem J3(row:List Str)(x:Str):(plc row x).length=row.count x:=G9 x 0 row
theorem J4(r:List Str)(x y:Str):plc (r++[y]) x=plc r x++(if y=x then [(r.length:Int)] else []):=by
 have e:=Xc6 x y 0 r;rw[O1] at e;exact e
structure Wh (H:Hp) (kvs:List (Key×V)) (row:List Str):Prop where
 keys:∀k∈kvs.map (·.1),∃x,k=Sum.inr x/\x∈row
 val:∀x∈row,∃l,An kvs (Sum.inr x:Key)=some (.ref l)/\H l=some (.lst ((plc row x).map V.int))
 none:∀x,x∉row->An kvs (Sum.inr x:Key)=none
 nd:(kvs.map (·.1)).Nodup
 len:kvs.length<=row.length
theorem Xc7{kvs:List (Key×V)}{k:Key}{v:V}{l:V}(h:An kvs k=some l):(A7 kvs k v).map (·.1)=kvs.map (·.1):=by
 unfold A7;rw[Dw,h,Pt Pd,Mb];refine Mu λp _=>?_;show (if p.1=k then (p.1,v) else p).1=p.1;split<;>rfl
theorem Wh.snoc{H H':Hp}{kvs:List (Key×V)}{row:List Str}(w:Wh H kvs row)(y:Str)(l:Addr)(hl:H' l=some (.lst ((plc (row++[y]) y).map V.int)))
  (s:∀b xs,H b=some (.lst xs)->H' b=some (.lst xs)):Wh H' (A7 kvs (Sum.inr y) (.ref l)) (row++[y]):=by
 refine⟨λk hk=>?_,λx hx=>?_,λx hx=>?_,?_,?_⟩
 ·by_cases hy:y∈row
  ·obtain⟨l0,e,_⟩:=w.val y hy;rw[Xc7 e] at hk;obtain⟨x,e1,e2⟩:=w.keys k hk;exact⟨x,e1,Nb _ e2⟩
  ·rw[Fy _ (w.none y hy),Lu] at hk;rcases Lr.mp hk with hk | hk
   ·obtain⟨x,e1,e2⟩:=w.keys k hk;exact⟨x,e1,Nb _ e2⟩
   ·exact⟨y,by simpa using hk,by simp⟩
 ·rw[Fx];by_cases e:x=y
  ·subst e;exact⟨l,Pt rfl,hl⟩
  ·have hx':x∈row:=by
    rcases Lr.mp hx with z | z
    ·exact z
    ·exact absurd (Lk.mp z) e
   obtain⟨l0,e1,e2⟩:=w.val x hx';refine⟨l0,by rw[Ps (λz=>e (Nl z))];exact e1,?_⟩;rw[J4,Ps (λz=>e z.symm),Mm];exact s _ _ e2
 ·rw[Fx];have h1:x∉row:=λz=>hx (Nb _ z);have h2:x≠y:=λz=>hx (by rw[z];simp);rw[Ps (λz=>h2 (Nl z))];exact w.none x h1
 ·by_cases hy:y∈row
  ·obtain⟨l0,e,_⟩:=w.val y hy;rw[Xc7 e];exact w.nd
  ·exact Xhs _ w.nd (w.none y hy)
 ·have:=E5 kvs (Sum.inr y:Key) (.ref l);have:=w.len;rw[Lp,Mx];omega
def Ge:Sp:=λvs H Q _=>∃(r:Addr) (row:List Str),vs=[.ref r]/\H r=some (.lst (row.map V.str))/\row.length<=1000 /\
 ∀d kvs H',H d=none->H' d=some (.dK kvs)->Wh H' kvs row->Same H H'->Q (.ref d) H'
abbrev NWh:List Str:=["_law_row_here", "_law_told", "_law_at"]
def inn (a b:Int) (ys:List Int):List Int:=ys.filter λt=>decide (a<t)&&decide (t<b)
theorem J5(a b:Int)(ys:List Int):(inn a b ys).length<=ys.length:=Ms ..
def words3:List Str:=["same", "cross", "around"]
def Da (a b c e:Int) (same:Bool):Str:=
 if (same||decide (0<(inn a b [c,e]).length))=true then words3.getD (inn a b [c,e]).length "apart" else if c<a/\b<e then "within" else "apart"
def spWord:Sp:=λvs H Q _=>∃(d l1 l2:Addr) (kvs:List (Key×V)) (x y:Str) (a b c e:Int),vs=[.ref d,.str x,.str y]/\Rd H d (.dK kvs)/\An kvs (Sum.inr x:Key)=some (.ref l1)/\An kvs (Sum.inr y:Key)=some (.ref l2) /\
 H l1=some (.lst [.int a,.int b])/\H l2=some (.lst [.int c,.int e])/\∀H',Same H H'->Q (.str (Da a b c e (decide (x=y)))) H'
abbrev NWo:List Str:=["_law_where_here", "_law_one", "_law_other", "_law_low", "_law_high", "_law_inner"]
theorem Rd.same{H H':Hp}{d:Addr}{o:HO}(r:Rd H d o)(s:Same H H'):Rd H' d o:=by
 rcases r with r | ⟨u,r⟩
 ·exact .inl (s _ _ r)
 ·exact .inr ⟨u,s _ _ r⟩
theorem DGet.rd{H:Hp}{a:Addr}{kvs:List (Key×V)}{x:Str}{v:V}(e:Rd H a (.dK kvs))(h:An kvs (Sum.inr x:Key)=some v):DGet H a (.str x) (some v):=.inl ⟨kvs,Sum.inr x,e,rfl,h.symm⟩
theorem Xjx{row:List Str}{x:Str}(h:row.count x=2):∃a b,plc row x=[a,b]:=by
 have e:=J3 row x;rw[h] at e
 match q:plc row x,e with
 | [a,b],_=>exact⟨a,b,rfl⟩
abbrev NBa:List Str:=["_law_row_here", "_law_name", "_law_where_here", "_law_met", "_law_at", "_law_other"]
abbrev NBc:List Str:=["_law_one", "_law_name", "_law_where_here"]
abbrev Ev:Str := "kqvzbdgmprtxhnjfwlycsaeiou"
def signOf (i:Nat):Str:=⟨#[(Ev.cps.toList).getD i 0]⟩
def Gf (st:Nat) (late:Bool) (k:Nat):Str:=
 if late=true then (repS "m" ((st+k * k) % 7)++signOf ((st+k) % 26)) ++ "y" else signOf ((st+k) % 26)++repS "m" ((st+k * k) % 7)
def Bc (st:Nat) (late:Bool) (n:Nat):List Str:=(List.range n).map (Gf st late)
theorem Xjy:∀st<26,∀late:Bool,(Bc st late 14).Nodup:=by decide +kernel
theorem J6{st:Nat}{late:Bool}{n:Nat}(hs:st<26)(hn:n<=14):(Bc st late n).Nodup:=by
 refine(Xjy st hs late).sublist ?_;unfold Bc;refine List.Sublist.map _ ?_;have e:List.range 14=List.range n++(List.range (14 - n)).map (n + ·):=by
  rw[<-List.range_add];congr 1;omega
 rw[e];exact List.sublist_append_left ..
def But (dr:Addr) (H H':Hp):Prop:=∀b o,H b=some o->b≠dr->H' b=some o
theorem But.trans{dr:Addr}{H H1 H2:Hp}(a:But dr H H1)(b:But dr H1 H2):But dr H H2:=λc o e h=>b c o (a c o e h) h
theorem But.same{dr:Addr}{H H1 H2:Hp}(a:But dr H H1)(b:Same H1 H2):But dr H H2:=λc o e h=>b c o (a c o e h)
theorem But.free{dr b:Addr}{H H':Hp}{o:HO}(a:But dr H H')(hd:H' dr=some o)(h:H' b=none):H b=none:=by
 cases q:H b with
 | none=>rfl
 | some u=>
  by_cases e:b=dr
  ·rw[e,hd] at h;cases h
  ·rw[a b u q e] at h;cases h
theorem But.upd{dr a:Addr}{H H':Hp}{o:HO}(x:But dr H H')(h:H a=none):But dr H (L2.upd H' a o):=λb u e hb=>by
 rw[Ac (Aq e h)];exact x b u e hb
theorem DrawOk.at{H:Hp}{dr sc:Addr}(d:DrawOk H dr sc):∃xs,H dr=some (.lst xs):=let ⟨_,_,_,_,_,h,_⟩:=d.ex; ⟨_,h⟩
theorem DrawOk.same{H H':Hp}{dr sc:Addr}(d:DrawOk H dr sc)(s:Same H H'):DrawOk H' dr sc:=
 let ⟨ns,p,c,m,k,h1,h2,r⟩:=d.ex; ⟨ns,p,c,m,k,s _ _ h1,s _ _ h2,r⟩
theorem DrawOk.upd{H:Hp}{dr sc a:Addr}{o:HO}(d:DrawOk H dr sc)(h1:a≠dr)(h2:a≠sc):DrawOk (L2.upd H a o) dr sc:=
 let ⟨ns,p,c,m,k,e1,e2,r⟩:=d.ex; ⟨ns,p,c,m,k,by rw[Ac h1.symm];exact e1,by rw[Ac h2.symm];exact e2,r⟩
theorem DrawOk.ne{H:Hp}{dr sc a:Addr}(d:DrawOk H dr sc)(h:H a=none):a≠dr/\a≠sc:=by
 obtain⟨ns,p,c,m,k,e1,e2,r⟩:=d.ex;exact⟨(Aq e1 h).symm,(Aq e2 h).symm⟩
def J7:Sp:=λvs H Q _=>∃(dr sc:Addr) (n:Nat),vs=[.ref dr,.int n]/\n<=14/\DrawOk H dr sc /\
 ∀l st late H',H l=none->st<26->H' l=some (.lst ((Bc st late n).map V.str))->l≠sc->DrawOk H' dr sc->But dr H H'->Q (.ref l) H'
abbrev FnPick (P:Program) (w:World) (K:PySem.W.Frag) (mg:Str->Option Value) (base:Heap):Prop:=Fn P w K mg base CX0 1 "_law_pick" ["_law_draw", "_law_many"] Xc4
abbrev NNa:List Str:=["_law_draw", "_law_many", "_law_base", "_law_start", "_law_late", "_law_told", "_law_k", "_law_sign", "_law_hum"]
theorem Xjz{i:Nat}(h:i<26):atI Ev.cps.toList (i:Int)=some ((Ev.cps.toList).getD i 0):=by
 have hl:i<Ev.cps.toList.length:=h;refine Fu ?_;rw[Lm hl];simp[List.getD,Lm hl]
theorem Fc{l:List Str}(h:l.Nodup){row:List Str}(p:row.Perm (l++l)):∀y∈row,row.count y=2:=λy hy=>by
 rw[p.count_eq,Nz];have hy':y∈l:=by
  rcases Lr.mp (p.mem_iff.mp hy) with z | z
  ·exact z
  ·exact z
 have e1:l.count y<=1:=List.nodup_iff_count.mp h y;have e2:0<l.count y:=Ot.mpr hy';omega
theorem Xc8{A row more:List Str}{x:Str}(p:row.Perm (A++A))(q:more.Perm (x::x::row)):more.Perm ((A++[x])++(A++[x])):=by
 refine q.trans (((p.cons x).cons x).trans ?_);have e:(A++[x])++(A++[x])=A++x::(A++x::[]):=by simp
 rw[e];refine List.Perm.trans ?_ N6.symm;refine List.Perm.cons x ?_;have e2:A++(A++x::[])=(A++A)++x::[]:=by simp
 rw[e2];refine List.Perm.trans ?_ N6.symm;simp
abbrev NRo:List Str:=["_law_draw", "_law_names_here", "_law_cut", "_law_row_here", "_law_name", "_law_at", "_law_to", "_law_more"]
def Xo1:Sp:=λvs H Q _=>∃(dr sc:Addr) (m:Nat),vs=[.ref dr,.int m]/\m<=14/\DrawOk H dr sc /\
 ∀(l:Addr) (row:List Str) (n st:Nat) (late:Bool) (H':Hp),H l=none->n<=m->st<26->H' l=some (.lst (row.map V.str))->row.Perm (Bc st late n++Bc st late n)->DrawOk H' dr sc->But dr H H'->Q (.ref l) H'
abbrev NIs:List Str:=["_law_draw", "_law_most", "_law_few", "_law_many"]
theorem J8(row:List Str)(x:Str):((List.range row.length).filter λi=>decide (row.getD i Str.empty=x)).map (λi:Nat=>(i:Int))=plc row x:=by
 have go:∀n,n<=row.length->((List.range n).filter λi=>decide (row.getD i Str.empty=x)).map (λi:Nat=>(i:Int))=plc (row.take n) x:=by
  intro n
  induction n with
  | zero=>intro _;rfl
  | succ n ih=>
   intro h;have hn:n<row.length:=by omega
   have e:row.getD n Str.empty=row[n]:=by simp[List.getD,hn]
   rw[Mg,Lx,Lu,ih (by omega),Lw hn,J4,Md,e,Mc,Od (by omega)];by_cases q:row[n]=x
   ·rw[Pt q,Pt (Pu q)];rfl
   ·rw[Ps q,Ps (by simpa using q)];rfl
 rw[go _ (Li _),Mr]
def okN (x:Str):Prop:=x.length<=20/\∀c∈x.cps.toList,c<0x110000
def J9 (C:Addr):Sp:=λvs H Q E=>∃(r:Addr) (row:List Str) (x:Str),vs=[.ref r,.str x]/\H r=some (.lst (row.map V.str))/\okN x /\
 (x∈row->∀H',Same H H'->Q .non H')/\(x∉row->∀H',Same H H'->E (.ref C) none H')
def spDitches:Sp:=λvs H Q _=>∃(r:Addr) (row:List Str),vs=[.ref r]/\H r=some (.lst (row.map V.str))/\row.length<=60 /\
 ∀l H',H l=none->H' l=some (.lst ((dit row).map V.str))->Same H H'->Q (.ref l) H'
def Ka (C:Addr):Sp:=λvs H Q E=>∃(r:Addr) (row:List Str) (x:Str),vs=[.ref r,.str x]/\H r=some (.lst (row.map V.str))/\okN x/\row.length<=1000 /\
 (x∈row->∃a b,plc row x=[a,b]/\∀l H',H l=none->H' l=some (.tup [.int a,.int b])->Same H H'->Q (.ref l) H')/\(x∉row->∀H',Same H H'->E (.ref C) none H')
abbrev NEn:List Str:=["row", "name", "found"]
abbrev NEc:List Str:=["at", "end", "name"]
end SH
namespace L2
open PySem PySem.Spec PyProof.Rows
theorem He(x y:Str):decide (V.str x=V.str y)=decide (x=y):=by
 by_cases z:x=y
 ·rw[z];simp
 ·rw[Pw z,Pw (λq=>z (by injection q))]
theorem Db{α : Type}(f : α->V)(d : α)(xs:List α){i:Nat}(hi:i<xs.length):(xs.map f).getD i .non=f (xs.getD i d):=by simp[List.getD,hi]
end L2
namespace SH
open PySem PySem.Spec PyProof.Rows L2
theorem Wh.names{H:Hp}{kvs:List (Key×V)}{row:List Str}(w:Wh H kvs row):∃ss:List Str,kvs.map (·.1)=ss.map (λx=>(Sum.inr x:Key))/\ss.Nodup/\∀x,x∈ss↔x∈row:=by
 have e:∀ks:List Key,(∀k∈ks,∃x,k=Sum.inr x)->∃ss:List Str,ks=ss.map (λx=>(Sum.inr x:Key)):=by
  intro ks
  induction ks with
  | nil=>intro _;exact⟨[],rfl⟩
  | cons k r ih=>
   intro h;obtain⟨x,rfl⟩:=h k Lj;obtain⟨ss,rfl⟩:=ih λk hk=>h k (Lh _ hk);exact⟨x::ss,rfl⟩
 obtain⟨ss,hs⟩:=e (kvs.map (·.1)) λk hk=>let ⟨x,h,_⟩:=w.keys k hk; ⟨x,h⟩;have inj:∀x,x∈ss↔(Sum.inr x:Key)∈kvs.map (·.1):=λx=>by
  rw[hs,Lz];constructor
  ·exact λh=>⟨x,h,rfl⟩
  ·rintro ⟨y,hy,e⟩;rw[<-Nl e];exact hy
 refine⟨ss,hs,?_,λx=>?_⟩
 ·have:=w.nd;rw[hs] at this;exact List.Pairwise.of_map _ (λa b hab e=>hab (congrArg _ e)) this
 ·rw[inj];constructor
  ·intro h;obtain⟨y,e,hy⟩:=w.keys _ h;rw[Nl e];exact hy
  ·intro h;obtain⟨l,e,_⟩:=w.val x h;exact Fz e
structure Isl (row:List Str):Prop where
 ex:∃n st late,n<=14/\st<26/\row.Perm (Bc st late n++Bc st late n)
theorem Xj0{st n:Nat}{late:Bool}(hn:n<=14){x:Str}(h:x∈Bc st late n):x∈Bc st late 14:=by
 unfold Bc at h ⊢;obtain⟨i,hi,rfl⟩:=Lz.mp h;exact Lz.mpr ⟨i,M0.mpr (by have:=M0.mp hi;omega),rfl⟩
instance (x:Str):Decidable (okN x):=inferInstanceAs (Decidable (_/\_))
theorem Xj1:∀st<26,∀late:Bool,∀x∈Bc st late 14,okN x:=by decide +kernel
theorem Isl.two{row:List Str}(h:Isl row):∀y∈row,row.count y=2:=by
 obtain⟨n,st,late,hn,hs,p⟩:=h.ex;exact Fc (J6 hs hn) p
theorem Isl.len{row:List Str}(h:Isl row):row.length<=28:=by
 obtain⟨n,st,late,hn,hs,p⟩:=h.ex;have:=p.length_eq;unfold Bc at this;simp at this;omega
theorem Isl.ok{row:List Str}(h:Isl row):∀y∈row,okN y:=λy hy=>by
 obtain⟨n,st,late,hn,hs,p⟩:=h.ex;refine Xj1 st hs late y (Xj0 hn ?_);rcases Lr.mp (p.mem_iff.mp hy) with z | z<;>exact z
def Xo2:List Str->Str
 | [] => "noneatal"
 | y::_=>Txt.slice y none (some 7)++Str.ofString "q"
theorem Xj2{x:Str}(h:okN x):Be (.str x)=true:=by
 show PyData.strOk x=true;unfold PyData.strOk;rw[<-Array.all_toList,L6];intro c hc;exact Pu (h.2 c hc)
theorem Xc9{row:List Str}{x:Str}{i:Int}:i∈plc row x ↔ ∃k:Nat,i=k/\row[k]? = some x:=by
 rw[<-J8,Lz];constructor
 ·rintro ⟨k,hk,rfl⟩;obtain⟨h1,h2⟩:=Lg.mp hk;have hk':=M0.mp h1;refine⟨k,rfl,?_⟩;have:=Px h2;rw[Lm hk'];simpa [List.getD,hk'] using this
 ·rintro ⟨k,rfl,hk⟩;have hk':k<row.length:=(L9.mp hk).1;refine⟨k,Lg.mpr ⟨M0.mpr hk',Pu ?_⟩,rfl⟩;simp[List.getD,hk]
theorem Xj3(row:List Str)(x:Str):(plc row x).Pairwise (· < ·):=by
 rw[<-J8,Ox];refine List.Pairwise.imp ?_ (List.Pairwise.filter _ (List.pairwise_lt_range (n:=row.length)));intro a b h;omega
def pl (row:List Str) (x:Str):Int×Int:=((plc row x).getD 0 0,(plc row x).getD 1 0)
theorem Xda{row:List Str}{x:Str}{a b:Int}(h:plc row x=[a,b]):pl row x=(a,b):=by
 unfold pl;rw[h];rfl
theorem Fd{row:List Str}{x:Str}(h:row.count x=2):plc row x=[(pl row x).1,(pl row x).2]:=by
 obtain⟨a,b,e⟩:=Xjx h;rw[Xda e,e]
theorem Bv{row:List Str}{x:Str}(h:row.count x=2):(pl row x).1<(pl row x).2:=by
 have h1:=Xj3 row x;rw[Fd h] at h1;simpa using h1
theorem Ew{row:List Str}{x y:Str}(hx:row.count x=2)(hy:row.count y=2)(n:x≠y):(pl row x).1≠(pl row y).1/\(pl row x).1≠(pl row y).2/\(pl row x).2≠(pl row y).1/\(pl row x).2≠(pl row y).2:=by
 have key:∀i,i∈plc row x->i∈plc row y->False:=λi h1 h2=>by
  obtain⟨k,e1,g1⟩:=Xc9.mp h1;obtain⟨m,e2,g2⟩:=Xc9.mp h2;have:k=m:=by omega
  subst this;rw[g1] at g2;exact n (L5 g2)
 rw[Fd hx,Fd hy] at key;refine⟨λe=>key (pl row x).1 (by simp) (by rw[e];simp),λe=>key (pl row x).1 (by simp) (by rw[e];simp),λe=>key (pl row x).2 (by simp) (by rw[e];simp),λe=>key (pl row x).2 (by simp) (by rw[e];simp)⟩
def nIn (a b:Int) (ys:List Int):Nat:=(inn a b ys).length
theorem Bw(a b c e:Int):nIn a b [c,e]=(if a<c/\c<b then 1 else 0)+(if a<e/\e<b then 1 else 0):=by
 unfold nIn inn;simp only[Md,Oe,Ls,decide_eq_true_eq];split<;>split<;>rfl
def lieT (a b c e:Int):Str:=if a=c/\b=e then "same" else if nIn c e [a,b]=1 then "cross" else if nIn c e [a,b]=2 then "within" else if nIn a b [c,e]=2 then "around" else "apart"
theorem Xj4{a b c e:Int}(h1:a<b)(h2:c<e)(n1:a≠c)(n2:a≠e)(n3:b≠c)(n4:b≠e):lieT a b c e=Da a b c e false:=by
  unfold lieT Da;rw[Ps (λz=>n1 z.1)];have e1:=Bw a b c e;have e2:=Bw c e a b;have e3:(inn a b [c,e]).length=nIn a b [c,e]:=rfl;rw[e3];generalize nIn a b [c,e]=p at *;generalize nIn c e [a,b]=q at *;by_cases p1:a<c/\c<b<;>by_cases p2:a<e/\e<b<;>by_cases q1:c<a/\a<e<;>by_cases q2:c<b/\b<e <;>
    (first | rw[Pt p1] at e1 | rw[Ps p1] at e1)<;>(first | rw[Pt p2] at e1 | rw[Ps p2] at e1) <;>
    (first | rw[Pt q1] at e2 | rw[Ps q1] at e2)<;>(first | rw[Pt q2] at e2 | rw[Ps q2] at e2)<;>subst e1 e2<;>first
    | (exfalso;omega)
    | rfl
    | (have hw:(c<a/\b<e):=by omega
       rw[Pt hw];rfl)
    | (have hw:¬(c<a/\b<e):=by omega
       rw[Ps hw];rfl)
theorem Xj5{a b:Int}:lieT a b a b=Da a b a b true:=by
 unfold lieT Da;rw[Pt ⟨rfl,rfl⟩,Bool.true_or,Pt rfl];have e1:=Bw a b a b;have e3:(inn a b [a,b]).length=nIn a b [a,b]:=rfl;rw[e3,e1,Ps (by omega),Ps (by omega)];rfl
def lieR (row:List Str) (x y:Str):Str:=lieT (pl row x).1 (pl row x).2 (pl row y).1 (pl row y).2
theorem Ey{row:List Str}{x y:Str}(hx:row.count x=2)(hy:row.count y=2):lieR row x y=Da (pl row x).1 (pl row x).2 (pl row y).1 (pl row y).2 (decide (x=y)):=by
 unfold lieR;by_cases n:x=y
 ·subst n;rw[Pu rfl];exact Xj5
 ·rw[Pw n];obtain⟨n1,n2,n3,n4⟩:=Ew hx hy n;exact Xj4 (Bv hx) (Bv hy) n1 n2 n3 n4
def crs (row:List Str):List (Str×Str):=(dit row).flatMap λx=>((dit row).filter λy=>decide (ltS x y)&&decide (lieR row x y = "cross")).map λy=>(x,y)
def prD (p:Str×Str):PyData:=.tuple [.str p.1,.str p.2]
structure Spn (H:Hp) (kvs:List (Key×V)) (row:List Str) (ns:List Str):Prop where
 keys:kvs.map (·.1)=ns.map (λx=>(Sum.inr x:Key))
 val:∀x∈ns,∃l,An kvs (Sum.inr x:Key)=some (.ref l)/\H l=some (.tup [.int (pl row x).1,.int (pl row x).2])
theorem Spn.mono{H H':Hp}{kvs:List (Key×V)}{row ns:List Str}(s:Spn H kvs row ns)(h:Same H H'):Spn H' kvs row ns:=⟨s.keys,λx hx=>let ⟨l,h1,h2⟩:=s.val x hx; ⟨l,h1,h _ _ h2⟩⟩
end SH
namespace L2
open PySem
theorem hu3{A:Around}{k:Nat}(hr:Room k A):A.units+3<cLine:=by have:=hr.units;omega
theorem hu4{A:Around}{k:Nat}(hr:Room k A):A.units+4<cLine:=by have:=hr.units;omega
end L2
namespace SH
open PySem PySem.Spec PyProof.Rows L2
structure Row2 (row:List Str):Prop where
 two:∀y∈row,row.count y=2
 ok:∀y∈row,okN y
 len:row.length<=60
theorem Isl.row2{row:List Str}(h:Isl row):Row2 row:=⟨h.two,h.ok,by have:=h.len;omega⟩
def spSpans:Sp:=λvs H Q _=>∃(r:Addr) (row:List Str),vs=[.ref r]/\H r=some (.lst (row.map V.str))/\Row2 row /\
 ∀d kvs H',H d=none->H' d=some (.dK kvs)->Spn H' kvs row (dit row)->Same H H'->Q (.ref d) H'
def Lie4 (a b c e:Int):Prop:=c<=e/\(b=e->a=c)
theorem lie4{row:List Str}{x y:Str}(hx:row.count x=2)(hy:row.count y=2):Lie4 (pl row x).1 (pl row x).2 (pl row y).1 (pl row y).2:=
 ⟨Int.le_of_lt (Bv hy),λe=>by
  by_cases n:x=y
  ·rw[n]
  ·exact absurd e (Ew hx hy n).2.2.2⟩
theorem Xj6{a b c e:Int}(n:¬(a=c/\b=e))(h:((decide (c<a)&&decide (a<e))==(decide (c<b)&&decide (b<e)))=false):lieT a b c e = "cross" := by
 unfold lieT;rw[Ps n,Pt];rw[Bw];rw[<-Bool.decide_and,<-Bool.decide_and] at h;by_cases q1:c<a/\a<e<;>by_cases q2:c<b/\b<e<;>simp[q1,q2] at h ⊢
theorem Xj7{a b c e:Int}(n:¬(a=c/\b=e))(h:((decide (c<a)&&decide (a<e))==(decide (c<b)&&decide (b<e)))=true)(h2:(decide (c<a)&&decide (a<e))=true):lieT a b c e = "within" := by
 unfold lieT;rw[h2,beq_iff_eq] at h;simp only[Ls,decide_eq_true_eq] at h2;have h3:c<b/\b<e:=by simpa using h.symm
 rw[Ps n,Bw,Pt h2,Pt h3,Ps (by decide),Pt rfl]
theorem Xj8{a b c e:Int}(l:Lie4 a b c e)(n:¬(a=c/\b=e))(h:((decide (c<a)&&decide (a<e))==(decide (c<b)&&decide (b<e)))=true)(h2:(decide (c<a)&&decide (a<e))=false):lieT a b c e=if (decide (a<c)&&decide (c<b))=true then "around" else "apart" := by
 unfold lieT;rw[h2,beq_iff_eq] at h;have h2:¬(c<a/\a<e):=λz=>by rw[Pu z.1,Pu z.2] at h2;cases h2
 have h3:¬(c<b/\b<e):=λz=>by rw[Pu z.1,Pu z.2] at h;cases h
 rw[Ps n,Bw,Ps h2,Ps h3,Ps (by decide),Ps (by decide),Bw];obtain⟨l1,l2⟩:=l;have key:a<c/\c<b->a<e/\e<b:=λz=>by
  have:b≠e:=λq=>n ⟨l2 q,q⟩;omega
 by_cases q:a<c/\c<b
 ·rw[Pt q,Pt (key q),Pt rfl,Pt (by simp[q])]
 ·rw[Ps q,Ps (by split<;>decide),Ps (by simpa using q)]
def spLieOf:Sp:=λvs H Q _=>∃(p q:Addr) (a b c e:Int),vs=[.ref p,.ref q]/\H p=some (.tup [.int a,.int b])/\H q=some (.tup [.int c,.int e])/\Lie4 a b c e/\∀H',Same H H'->Q (.str (lieT a b c e)) H'
theorem Kb{ta tb tc:TE}{σ:L2.St}{H:Hp}{Q:VK}{x y z:Int}(ha:∀Q':VK,Q' (.int x) H->ta σ H Q')(hb:∀Q':VK,Q' (.int y) H->tb σ H Q')(hc:∀Q':VK,Q' (.int z) H->tc σ H Q')(h:Q (.bl (decide (x<y)&&decide (y<z))) H):
  Ik (rI0 λi j=>.bl (decide (i<j))) (rI0 λi j=>.bl (decide (i<j))) ta tb tc σ H Q:=by
 refine ha _ (hb _ ⟨x,y,rfl,rfl,_,rfl,?_⟩);refine A9 (λq=>hc _ ⟨y,z,rfl,rfl,?_⟩) (λq=>?_)
 ·rw[q,Ni] at h;exact h
 ·rw[q,Nh] at h;exact h
def Fe:Sp:=λvs H Q _=>∃(r:Addr) (row:List Str),vs=[.ref r]/\H r=some (.lst (row.map V.str))/\Row2 row /\
 ∀l xs H',H l=none->H' l=some (.lst xs)->DAll (hid l H') ((crs row).map prD) xs->Same H H'->Q (.ref l) H'
abbrev NSp:List Str:=["name", "row"]
abbrev NLo:List Str:=["here", "there", "first", "last"]
abbrev NCr:List Str:=["row", "span"]
abbrev NCc:List Str:=["one", "other", "span"]
theorem Spn.snoc{H H':Hp}{kvs:List (Key×V)}{row ns:List Str}{x:Str}{l:Addr}(s:Spn H kvs row ns)(nx:x∉ns)(h:H' l=some (.tup [.int (pl row x).1,.int (pl row x).2]))(k:∀b xs,H b=some (.tup xs)->H' b=some (.tup xs)):
  Spn H' (A7 kvs (Sum.inr x) (.ref l)) row (ns++[x]):=by
 have hn:An kvs (Sum.inr x:Key)=none:=by
  cases e:An kvs (Sum.inr x:Key) with
  | none=>rfl
  | some v=>
   exfalso;have:=Fz e;rw[s.keys] at this;obtain⟨y,hy,e2⟩:=Lz.mp this;rw[Nl e2] at hy;exact nx hy
 refine⟨by rw[Fy _ hn,Lu,Lu,s.keys];rfl,λy hy=>?_⟩;rw[Fx];by_cases e:y=x
 ·subst e;exact⟨l,Pt rfl,h⟩
 ·have hy':y∈ns:=by
   rcases Lr.mp hy with z | z
   ·exact z
   ·exact absurd (Lk.mp z) e
  obtain⟨l0,h1,h2⟩:=s.val y hy';exact⟨l0,by rw[Ps (λz=>e (Nl z))];exact h1,k _ _ h2⟩
theorem Spn.get{H:Hp}{kvs:List (Key×V)}{row ns:List Str}{d:Addr}{x:Str}(s:Spn H kvs row ns)(hd:Rd H d (.dK kvs))(hx:x∈ns):∃l,DGet H d (.str x) (some (.ref l))/\H l=some (.tup [.int (pl row x).1,.int (pl row x).2]):=by
 obtain⟨l,h1,h2⟩:=s.val x hx;exact⟨l,DGet.rd hd h1,h2⟩
theorem Spn.at{H:Hp}{kvs:List (Key×V)}{row ns:List Str}(s:Spn H kvs row ns)(i:Nat)(hi:i<ns.length):(kvs.map λp=>kV p.1).getD i .non = .str (ns.getD i Str.empty):=by
 have e:(kvs.map λp=>kV p.1)=ns.map V.str:=by
  have:(kvs.map λp=>kV p.1)=(kvs.map (·.1)).map kV:=by rw[Mb];rfl
  rw[this,s.keys,Mb];rfl
 rw[e];exact Db V.str Str.empty ns hi
theorem Spn.len{H:Hp}{kvs:List (Key×V)}{row ns:List Str}(s:Spn H kvs row ns):kvs.length=ns.length:=by
 have:=congrArg List.length s.keys;simpa using this
theorem Cp{ns:List Str}{i:Nat}(hi:i<ns.length):ns.getD i Str.empty∈ns:=by
 have:ns.getD i Str.empty=ns[i]:=by simp[List.getD,hi]
 rw[this];exact Mj hi
theorem Kc{H:Hp}:∀{ss:List Str} {xs:List V},DAll H (ss.map PyData.str) xs->xs=ss.map V.str
 | [],xs,h=>by unfold List.map DAll at h;exact h
 | s::ss,xs,h=>by
  rw[Ly] at h;unfold DAll at h;obtain⟨v,r,rfl,h1,h2⟩:=h;unfold DAt at h1;rw[h1,Kc h2];rfl
def Bp (how:Str) (off:Bool):Bool:=if how = "within" then off else (!decide (how = "apart") || !off)
def told (ss:List Str):List Str:=srt (ddup ss)
def Ae (row plot:List Str):Bool:=decide (plot=told plot)&&plot.all (λx=>decide (x∈row))&&plot.all λx=>(dit row).all λy=>Bp (lieR row x y) (decide (y∈plot))
def trD (t:Str×Str×Str):PyData:=.tuple [.str t.1,.str t.2.1,.str t.2.2]
def Ez (row:List Str) (x y:Str):Bool:=decide (lieR row x y = "within")||(decide (lieR row x y = "apart")&&decide (ltS x y))
def bars (row:List Str):List (Str×Str×Str):=(dit row).flatMap λx=>((dit row).filter (Ez row x)).map λy=>(x,y,lieR row x y)
def Kd (bs:List (Str×Str×Str)) (plot:List Str):Bool:=bs.all λt => !(decide (t.1∈plot) && !decide (decide (t.2.1∈plot)=decide (t.2.2 = "within")))
def Ke (row plot:List Str):Bool:=decide (plot=(dit row).filter λy=>decide (y∈plot))&&Kd (bars row) plot
theorem Xj9{a b c e:Int}(h1:a<b)(h2:c<e)(n1:a≠c)(n2:a≠e)(n3:b≠c)(n4:b≠e)(h:lieT a b c e = "apart"):lieT c e a b = "apart" := by
 unfold lieT at h ⊢;rw[Ps (λz=>n1 z.1)] at h;rw[Ps (λz=>n1 z.1.symm)];have e1:=Bw a b c e;have e2:=Bw c e a b;generalize nIn a b [c,e]=p at *;generalize nIn c e [a,b]=q at *;by_cases p1:a<c/\c<b<;>by_cases p2:a<e/\e<b<;>by_cases q1:c<a/\a<e<;>by_cases q2:c<b/\b<e <;>
  (first | rw[Pt p1] at e1 | rw[Ps p1] at e1)<;>(first | rw[Pt p2] at e1 | rw[Ps p2] at e1) <;>
  (first | rw[Pt q1] at e2 | rw[Ps q1] at e2)<;>(first | rw[Pt q2] at e2 | rw[Ps q2] at e2)<;>subst e1 e2<;>first
  | (exfalso;omega)
  | rfl
  | (exfalso;revert h;decide +kernel)
theorem Xka{row:List Str}{x y:Str}(hx:row.count x=2)(hy:row.count y=2)(h:lieR row x y = "apart"):lieR row y x = "apart" := by
 by_cases n:x=y
 ·subst n;exact h
 ·obtain⟨n1,n2,n3,n4⟩:=Ew hx hy n;exact Xj9 (Bv hx) (Bv hy) n1 n2 n3 n4 h
theorem Ff(row:List Str)(x:Str):lieR row x x = "same" := by
 unfold lieR lieT;rw[Pt ⟨rfl,rfl⟩]
theorem Kf{l:List Str}(h:l.Pairwise ltS):l.Pairwise leS:=h.imp λh=>Xi2 h
theorem Dp{l:List Str}(h:l.Pairwise ltS):l.Nodup:=h.imp λh=>F3 h
theorem Kg{l:List Str}(h:l.Nodup):(ddup l).Perm l:=F5 (F2 l) h (Jh l)
theorem Hf{l:List Str}(h:l.Pairwise ltS):told l=l:=E8 ((Dk _).trans (Kg (Dp h))) (Er _) (Kf h)
theorem Kh(l:List Str):(told l).Pairwise ltS:=C0 l
theorem Xdb{l:List Str}{x:Str}:x∈told l↔x∈l:=Ag
theorem Xdc{row plot:List Str}:(plot=(dit row).filter λy=>decide (y∈plot))↔(plot=told plot/\∀x∈plot,x∈row):=by
 constructor
 ·intro h;have hp:plot.Pairwise ltS:=by
   rw[h];exact(C0 row).filter _
  refine⟨(Hf hp).symm,λx hx=>?_⟩;rw[h] at hx;exact Ag.mp (Lg.mp hx).1
 ·rintro ⟨h1,h2⟩;have hp:plot.Pairwise ltS:=by rw[h1];exact Kh plot
  have hq:((dit row).filter λy=>decide (y∈plot)).Pairwise ltS:=(C0 row).filter _;refine E8 (F5 (Dp hp) (Dp hq) λx=>?_) (Kf hp) (Kf hq);rw[Lg,decide_eq_true_eq,Ag];exact⟨λh=>⟨h2 x h,h⟩,λh=>h.2⟩
theorem Hg{row:List Str}{t:Str×Str×Str}:t∈bars row↔t.1∈row/\t.2.1∈row/\Ez row t.1 t.2.1=true/\t.2.2=lieR row t.1 t.2.1:=by
 unfold bars;rw[O4];constructor
 ·rintro ⟨x,hx,h⟩;obtain⟨y,hy,rfl⟩:=Lz.mp h;obtain⟨h1,h2⟩:=Lg.mp hy;exact⟨Ag.mp hx,Ag.mp h1,h2,rfl⟩
 ·rintro ⟨h1,h2,h3,h4⟩;refine⟨t.1,Ag.mpr h1,Lz.mpr ⟨t.2.1,Lg.mpr ⟨Ag.mpr h2,h3⟩,?_⟩⟩;rw[<-h4]
theorem Xkb{row plot:List Str}(h:∀y∈row,row.count y=2):Ke row plot=Ae row plot:=by
 unfold Ke Ae;by_cases hp:plot=(dit row).filter λy=>decide (y∈plot)
 ·obtain⟨p1,p2⟩:=Xdc.mp hp;have e1:plot.all (λx=>decide (x∈row))=true:=L6.mpr λx hx=>Pu (p2 x hx);rw[Pu hp,Pu p1,e1,Ni,Ni];show Kd (bars row) plot=(true&&_);rw[Ni,M3];unfold Kd;rw[L6,L6];constructor
  ·intro hf x hx;rw[L6];intro y hy;have hyr:=Ag.mp hy;unfold Bp;by_cases hw:lieR row x y = "within"
   ·rw[Pt hw];have:=hf (x,y,lieR row x y) (Hg.mpr ⟨p2 x hx,hyr,by unfold Ez;rw[Pu hw];rfl,rfl⟩);simpa [hx,hw] using this
   ·rw[Ps hw];by_cases ha:lieR row x y = "apart"
    ·have hne:x≠y:=λz=>by
      rw[z,Ff] at ha
      revert ha
      decide
     have ha2:=Xka (h x (p2 x hx)) (h y hyr) ha;have key:y∉plot:=λhy2=>by
      rcases G4 x y with hle | hle
      ·have hlt:=ltS_of hle hne;have:=hf (x,y,lieR row x y) (Hg.mpr ⟨p2 x hx,hyr,by unfold Ez;rw[Pu ha,Pu hlt,O7,Bool.or_true],rfl⟩);rw[ha] at this;simp[hx,hy2] at this
       revert this
       decide
      ·have hlt:=ltS_of hle (λz=>hne z.symm);have:=hf (y,x,lieR row y x) (Hg.mpr ⟨hyr,p2 x hx,by unfold Ez;rw[Pu ha2,Pu hlt,O7,Bool.or_true],rfl⟩);rw[ha2] at this;simp[hx,hy2] at this
       revert this
       decide
     rw[Pw key];simp
    ·rw[Pw ha];rfl
  ·intro hf t ht;obtain⟨h1,h2,h3,h4⟩:=Hg.mp ht;by_cases hx:t.1∈plot
   ·have:=hf t.1 hx;rw[L6] at this;have:=this t.2.1 (Ag.mpr h2);rw[h4];unfold Bp at this;by_cases hw:lieR row t.1 t.2.1 = "within"
    ·rw[Pt hw] at this;simp[hw,Px this]
    ·rw[Ps hw] at this;have ha:lieR row t.1 t.2.1 = "apart" := by
      unfold Ez at h3;rw[Pw hw,Bool.false_or,Ls] at h3;exact Px h3.1
     rw[ha] at this;have hn:t.2.1∉plot:=by simpa using this
     have hne:¬(("apart" : Str) = "within"):=by decide
     simp[hn,ha,hne]
   ·simp[hx]
 ·rw[Pw hp,Nh];by_cases p1:plot=told plot
  ·have:¬ ∀x∈plot,x∈row:=λp2=>hp (Xdc.mpr ⟨p1,p2⟩);have e1:plot.all (λx=>decide (x∈row))=false:=by
    rw[Oy];intro z;rw[L6] at z;exact this λx hx=>Px (z x hx)
   rw[e1,Bool.and_false,Nh]
  ·rw[Pw p1,Nh,Nh]
theorem Ki{H:Hp}:∀{bs:List Bool} {xs:List V},DAll H (bs.map PyData.bool) xs->xs=bs.map V.bl
 | [],xs,h=>by unfold List.map DAll at h;exact h
 | s::ss,xs,h=>by
  rw[Ly] at h;unfold DAll at h;obtain⟨v,r,rfl,h1,h2⟩:=h;unfold DAt at h1;rw[h1,Ki h2];rfl
theorem Xkc(a b:List Str)(h:PyData.tuple (a.map PyData.str)=PyData.tuple (b.map PyData.str)):a=b:=by
 injection h with h
 exact(Ou (λx y e=>by injection e)).mp h
theorem Xdd{ss:List Str}(h:∀y∈ss,okN y):Co (ss.map PyData.str)=true:=plainAll_map PyData.str ss λx hx=>Xj2 (h x hx)
theorem D7{ss:List Str}(h:∀y∈ss,okN y):Be (.tuple (ss.map PyData.str))=true:=Xdd h
theorem Xkd{ss:List Str}(h:∀y∈ss,okN y):Be (.list (ss.map PyData.str))=true:=Xdd h
theorem Gg:∀(ss:List Str),PyData.depthAll (ss.map PyData.str)=0
 | []=>rfl
 | s::ss=>by
  rw[Ly];unfold PyData.depthAll;rw[Gg ss];rfl
theorem Xke(a b:List Str):min (PyData.depth (.tuple (a.map PyData.str))) (PyData.depth (.tuple (b.map PyData.str)))<=3:=by
 have e:PyData.depth (.tuple (a.map PyData.str))=PyData.depthAll (a.map PyData.str)+1:=rfl;rw[e,Gg];omega
theorem Kj{a b:List Str}(ha:∀y∈a,okN y)(hb:∀y∈b,okN y):PyData.eqv (.tuple (a.map PyData.str)) (.tuple (b.map PyData.str))=decide (a=b):=
 Xjl (λl:List Str=>PyData.tuple (l.map PyData.str)) Xkc a b (D7 ha) (D7 hb)
theorem D8{H:Hp}{p:Addr}{ss:List Str}(h:H p=some (.tup (ss.map V.str))):DAt H (.tuple (ss.map PyData.str)) (.ref p):=Ju h (Jt ss)
def spTold (K:PySem.W.Frag):Sp:=λvs H Q _=>∃(p:Addr) (ss:List Str),vs=[.ref p]/\(SqL K H p (ss.map V.str)\/SqT K H p (ss.map V.str))/\ss.length<=60 /\
 ∀l H',H l=none->H' l=some (.tup ((told ss).map V.str))->Same H H'->Q (.ref l) H'
def spAllows:Sp:=λvs H Q _=>∃(how:Str) (off:Bool),vs=[.str how,.bl off]/\Q (.bl (Bp how off)) H
def Kk:Sp:=λvs H Q _=>∃(r p:Addr) (row ss:List Str),vs=[.ref r,.ref p]/\H r=some (.lst (row.map V.str))/\Row2 row/\H p=some (.tup (ss.map V.str))/\(∀y∈ss,okN y)/\ss.length<=60 /\
 ∀H',Same H H'->Q (.bl (Ae row ss)) H'
abbrev NIp:List Str:=["row", "plot", "span"]
abbrev NI1:List Str:=["name", "span"]
abbrev NI2:List Str:=["name", "other", "plot", "span"]
theorem Spn.has{H:Hp}{kvs:List (Key×V)}{row:List Str}{x:Str}(s:Spn H kvs row (dit row)):(An kvs (Sum.inr x:Key)).isSome=decide (x∈row):=by
 by_cases hx:x∈row
 ·obtain⟨l,h1,_⟩:=s.val x (Ag.mpr hx);rw[h1,Pu hx];rfl
 ·rw[Pw hx];cases e:An kvs (Sum.inr x:Key) with
  | none=>rfl
  | some v=>
   exfalso;have:=Fz e;rw[s.keys] at this;obtain⟨y,hy,e2⟩:=Lz.mp this;rw[Nl e2] at hy;exact hx (Ag.mp hy)
theorem Xde{ss:List Str}(h:∀y∈ss,okN y):∀y∈told ss,okN y:=λy hy=>h y (Xdb.mp hy)
theorem Xkf{α : Type}(d : α)(p : α->Bool)(xs:List α):((List.range xs.length).map λi=>p (xs.getD i d)).any id=xs.any p:=by
 have e:(List.range xs.length).map (λi=>p (xs.getD i d))=xs.map p:=by
  have:=B7 d (λ_=>true) xs;rw[L0.mpr (λ_ _=>rfl),L0.mpr (λ_ _=>rfl)] at this
  conv=>rhs;rw[<-this]
  rw[Mb];rfl
 rw[e,List.any_map];rfl
theorem Xdf{α : Type}(f : α->List Bool):∀(xs:List α),(xs.flatMap f).all id=xs.all λx=>(f x).all id
 | []=>rfl
 | x::xs=>by
  rw[N0,List.all_append,List.all_cons,Xdf f xs]
theorem Xkg{α β : Type}(d : α)(f : α->List β)(xs:List α):(List.range xs.length).flatMap (λi=>f (xs.getD i d))=xs.flatMap f:=by
 have this:=B7 d (λ_=>true) xs;rw[L0.mpr (λ_ _=>rfl),L0.mpr (λ_ _=>rfl)] at this
 conv=>rhs;rw[<-this]
 rw[List.flatMap_map]
end SH
namespace L2
open PySem PySem.Spec PyProof.Rows
def Xo3 (K:PySem.W.Frag) (i:Nat):TE:=fun σ H Q=>∃v, σ[i]? = some (some v)/\∃p ss,v = .ref p/\(SqL K H p (ss.map V.str)\/SqT K H p (ss.map V.str))/\ss.length<=60/\∀l H',H l=none->H' l=some (.lst ((dit ss).map V.str))->Same H H'->Q (.ref l) H'
end L2
namespace SH
open PySem PySem.Spec PyProof.Rows L2
def Aj (ss:List Str) (x:Str):List Str:=srt (ss.filter (λy=>decide (y≠x))++(if x∈ss then [] else [x]))
def Xo4 (row:List Str) (x:Str) (ys:List Str):List (Str×Str×Str):=(ys.filter (Ez row x)).map λy=>(x,y,lieR row x y)
def spAskPlot (C:Addr):Sp:=λvs H Q E=>∃(r p:Addr) (row ss:List Str),vs=[.ref r,.ref p]/\H r=some (.lst (row.map V.str))/\Row2 row/\H p=some (.tup (ss.map V.str))/\(∀y∈ss,okN y)/\ss.length<=24 /\
 (Ae row ss=true->∀H',Same H H'->Q .non H')/\(Ae row ss=false->∀H',Same H H'->E (.ref C) none H')
theorem Xkh{ss:List Str}(h:∀y∈ss,okN y):∀z∈ss,z.length<=20/\∀c∈z.cps.toList,c<16 ^ 8:=λz hz=>⟨(h z hz).1,λc hc=>N3 ((h z hz).2 c hc) (by decide)⟩
def mid (row:List Str) (x:Str):List Str:=((row.dropWhile λy=>decide (y≠x)).tail).takeWhile λy=>decide (y≠x)
theorem Xdg{x y:Str}{r:List Str}(h:x∉y::r):decide (y≠x)=true:=by
 have:y≠x:=λe=>h (by rw[e];exact Lj);simpa using this
theorem Xki{A R:List Str}{x:Str}(h:x∉A):(A++x::R).dropWhile (λy=>decide (y≠x))=x::R:=by
 induction A with
 | nil=>rw[N1,Nq,Ps (by simp)]
 | cons y r ih=>
  rw[O3,Nq,Pt (Xdg h)];exact ih λz=>h (Lh _ z)
theorem Xkj{A R:List Str}{x:Str}(h:x∉A):(A++x::R).takeWhile (λy=>decide (y≠x))=A:=by
 induction A with
 | nil=>rw[N1,Nr,Ps (by simp)]
 | cons y r ih=>
  rw[O3,Nr,Pt (Xdg h)];rw[ih λz=>h (Lh _ z)]
theorem Kl{A B C:List Str}{x:Str}(hA:x∉A)(hB:x∉B):mid (A++x::(B++x::C)) x=B:=by
 unfold mid;rw[Xki hA,List.tail_cons,Xkj hB]
theorem split1{x:Str}:∀{row:List Str},x∈row->∃A R,row=A++x::R/\x∉A:=by
 intro row
 induction row with
 | nil=>intro h;cases h
 | cons y r ih=>
  intro h;by_cases e:x=y
  ·exact⟨[],r,by rw[e];rfl,by simp⟩
  ·obtain⟨A,R,h1,h2⟩:=ih ((Lo.mp h).resolve_left e);exact⟨y::A,R,by rw[h1];rfl,λz=>(Lo.mp z).elim e h2⟩
theorem split2{row:List Str}{x:Str}(h:row.count x=2):∃A B C,row=A++x::(B++x::C)/\x∉A/\x∉B/\x∉C:=by
 obtain⟨A,R,h1,h2⟩:=split1 (Ot.mp (by omega:0<row.count x));rw[h1,Nz,N9.mpr h2,Oh] at h;have hR:R.count x=1:=by omega
 obtain⟨B,C,h3,h4⟩:=split1 (Ot.mp (by omega:0<R.count x));rw[h3,Nz,N9.mpr h4,Oh] at hR;exact⟨A,B,C,by rw[h1,h3],h2,h4,N9.mp (by omega)⟩
theorem Gh(x:Str):∀(n:Nat) (l r:List Str),Az x n (l++r)=Az x n l++Az x (n+l.length) r
 | n,[],r=>rfl
 | n,y::l,r=>by
  have ih:=Gh x (n+1) l r;have e:n+(y::l).length=n+1+l.length:=by rw[Lv];omega
  rw[e];show (if y=x then (n:Int)::Az x (n+1) (l++r) else Az x (n+1) (l++r))=(if y=x then (n:Int)::Az x (n+1) l else Az x (n+1) l)++_;rw[ih];split<;>rfl
theorem Hh(x:Str):∀(n:Nat) (l:List Str),∀i∈Az x n l,(n:Int)<=i/\i<n+l.length
 | n,[]=>λi h=>by cases h
 | n,y::l=>λi h=>by
  have ih:=Hh x (n+1) l;have h':i=n\/i∈Az x (n+1) l:=by
   change i∈(if y=x then (n:Int)::Az x (n+1) l else Az x (n+1) l) at h;split at h
   ·exact Lo.mp h
   ·exact .inr h
  rw[Lv];rcases h' with rfl | h'
  ·omega
  ·have:=ih i h';omega
theorem Hi{x:Str}:∀(n:Nat) (l:List Str),x∉l->Az x n l=[]
 | _,[],_=>rfl
 | n,y::l,h=>by
  show (if y=x then (n:Int)::Az x (n+1) l else Az x (n+1) l)=[];rw[Ps (λe=>h (by rw[e];exact Lj))];exact Hi _ _ λz=>h (Lh _ z)
theorem Xkk{row:List Str}{x y:Str}(hx:row.count x=2)(n:x≠y):nIn (pl row x).1 (pl row x).2 (plc row y)=(mid row x).count y:=by
 obtain⟨A,B,C,e,hA,hB,hC⟩:=split2 hx;have ex:plc row x=[(A.length:Int),((A.length+1+B.length:Nat):Int)]:=by
  unfold plc;rw[e,Gh,Hi _ _ hA];show []++(if x=x then _ else _)=_;rw[Pt rfl,Gh,Hi _ _ hB];show []++(_::([]++(if x=x then _ else _)))=_;rw[Pt rfl,Hi _ _ hC];simp
 have ey:plc row y=Az y 0 A++(Az y (A.length+1) B++Az y (A.length+1+B.length+1) C):=by
  unfold plc;rw[e,Gh];show _++(if x=y then _ else _)=_;rw[Ps n,Gh];show _++(_++(if x=y then _ else _))=_;rw[Ps n];simp
 rw[Xda ex,ey];unfold nIn inn;rw[Lx,Lx];have e1:(Az y 0 A).filter (λt=>decide ((A.length:Int)<t)&&decide (t<((A.length+1+B.length:Nat):Int)))=[]:=by
  rw[Nc];intro i hi;have:=Hh y 0 A i hi;simp;intro;omega
 have e2:(Az y (A.length+1) B).filter (λt=>decide ((A.length:Int)<t)&&decide (t<((A.length+1+B.length:Nat):Int)))=Az y (A.length+1) B:=by
  rw[L0];intro i hi;have:=Hh y (A.length+1) B i hi;simp;omega
 have e3:(Az y (A.length+1+B.length+1) C).filter (λt=>decide ((A.length:Int)<t)&&decide (t<((A.length+1+B.length:Nat):Int)))=[]:=by
  rw[Nc];intro i hi;have:=Hh y _ C i hi;simp;intro;omega
 rw[e1,e2,e3,N1,Mm,G9];rw[e,Kl hA hB]
def Ax (row:List Str) (x y:Str):Prop:=lieR row x y = "cross"
instance (row:List Str) (x y:Str):Decidable (Ax row x y):=inferInstanceAs (Decidable (_=_))
theorem Km{a b c e:Int}:Da a b c e false = "cross" ↔ nIn a b [c,e]=1:=by
 unfold Da;have e3:(inn a b [c,e]).length=nIn a b [c,e]:=rfl;have h2:(inn a b [c,e]).length<=2:=J5 a b [c,e];rw[e3] at *;generalize nIn a b [c,e]=q at *
 match q,h2 with
 | 0,_=>
  rw[Ps (by decide)];split<;>decide
 | 1,_=>rw[Pt (by decide)];decide
 | 2,_=>rw[Pt (by decide)];decide
theorem Hj{row:List Str}{x y:Str}(hx:row.count x=2)(hy:row.count y=2)(n:x≠y):Ax row x y↔(mid row x).count y=1:=by
 unfold Ax;rw[Ey hx hy,Pw n,Km,<-Fd hy,Xkk hx n]
theorem D9{row:List Str}{x:Str}(hx:row.count x=2):¬Ax row x x:=by
 unfold Ax lieR lieT;rw[Pt ⟨rfl,rfl⟩];decide
theorem Cq{row:List Str}{x y:Str}(hx:row.count x=2)(hy:row.count y=2)(h:Ax row x y):Ax row y x:=by
 by_cases n:x=y
 ·subst n;exact h
 ·obtain⟨n1,n2,n3,n4⟩:=Ew hx hy n;unfold Ax at *;rw[Ey hx hy,Pw n,Km,Bw] at h;rw[Ey hy hx,Pw (λe=>n e.symm),Km,Bw];have l1:=Bv hx;have l2:=Bv hy;generalize (pl row x).1=a at *;generalize (pl row x).2=b at *;generalize (pl row y).1=c at *;generalize (pl row y).2=e at *;by_cases p1:a<c/\c<b<;>by_cases p2:a<e/\e<b<;>by_cases q1:c<a/\a<e<;>by_cases q2:c<b/\b<e <;>
  (first | rw[Pt p1] at h | rw[Ps p1] at h)<;>(first | rw[Pt p2] at h | rw[Ps p2] at h) <;>
  (first | rw[Pt q1] | rw[Ps q1])<;>(first | rw[Pt q2] | rw[Ps q2])<;>omega
theorem Xdh{x:Str}{p:Str->Bool}(h:p x=true):∀row:List Str,mid (row.filter p) x=(mid row x).filter p:=by
 have tk:∀l:List Str,(l.filter p).takeWhile (λy=>decide (y≠x))=(l.takeWhile λy=>decide (y≠x)).filter p:=by
  intro l
  induction l with
  | nil=>rfl
  | cons y r ih=>
   by_cases e:y=x
   ·subst e;rw[Md,Pt h,Nr,Ps (by simp),Nr,Ps (by simp)];rfl
   ·rw[Nr,Pt (Pu e),Md,Md];by_cases q:p y=true
    ·rw[Pt q,Pt q,Nr,Pt (Pu e),ih]
    ·rw[Ps q,Ps q,ih]
 intro row;unfold mid;rw[<-tk];congr 1
 induction row with
 | nil=>rfl
 | cons y r ih=>
  by_cases e:y=x
  ·subst e;rw[Md,Pt h,Nq,Ps (by simp),Nq,Ps (by simp)];rfl
  ·rw[Nq,Pt (Pu e),<-ih,Md];by_cases q:p y=true
   ·rw[Pt q,Nq,Pt (Pu e)]
   ·rw[Ps q]
theorem Xkl{row row':List Str}{x y:Str}(hx:row.count x=2)(hy:row.count y=2)(hx':row'.count x=2)(hy':row'.count y=2)
  (e:row.filter (λz=>decide (z=x\/z=y))=row'.filter (λz=>decide (z=x\/z=y))):Ax row x y↔Ax row' x y:=by
 by_cases n:x=y
 ·subst n;exact⟨λh=>absurd h (D9 hx),λh=>absurd h (D9 hx')⟩
 ·rw[Hj hx hy n,Hj hx' hy' n];have h1:∀r:List Str,(mid r x).count y=(mid (r.filter λz=>decide (z=x\/z=y)) x).count y:=λr=>by
   rw[Xdh (by simp),List.count_filter (by simp)]
  rw[h1 row,h1 row',e]
def Bq (row:List Str):Prop:=∀x∈row,∀y∈row,∀z∈row,Ax row x y->Ax row x z->¬Ax row y z
theorem Xkm:Bq []:=λx h=>by cases h
theorem Xdi{row more:List Str}{x:Str}(h:Bq row)(h2:∀y∈row,row.count y=2)(h2':∀y∈more,more.count y=2)(hin:∀y∈more,y=x\/y∈row)
  (hf:∀p:Str->Bool,p x=false->more.filter p=row.filter p) (hb:∀y∈more,∀z∈more,Ax more x y->Ax more x z->¬Ax more y z):Bq more:=by
 intro a ha b hb' c hc k1 k2 k3;have s12:=Cq (h2' a ha) (h2' b hb') k1;have s13:=Cq (h2' a ha) (h2' c hc) k2;have s23:=Cq (h2' b hb') (h2' c hc) k3;by_cases ea:a=x
 ·subst ea;exact hb b hb' c hc k1 k2 k3
 by_cases eb:b=x
 ·subst eb;exact hb a ha c hc s12 k3 k2
 by_cases ec:c=x
 ·subst ec;exact hb a ha b hb' s13 s23 k1
 have ra:=(hin a ha).resolve_left ea;have rb:=(hin b hb').resolve_left eb;have rc:=(hin c hc).resolve_left ec;have go:∀u v:Str,u≠x->v≠x->u∈row->v∈row->u∈more->v∈more->Ax more u v->Ax row u v:=λu v nu nv hu hv mu mv k=>
  (Xkl (h2' u mu) (h2' v mv) (h2 u hu) (h2 v hv) (hf _ (by
   rw[decide_eq_false_iff_not];rintro (e | e)
   ·exact nu e.symm
   ·exact nv e.symm))).mp k
 exact h a ra b rb c rc (go a b ea eb ra rb ha hb' k1) (go a c ea ec ra rc ha hc k2) (go b c eb ec rb rc hb' hc k3)
theorem Xkn{row:List Str}{x:Str}{a b:Nat}(hab:a<=b){p:Str->Bool}(h:p x=false):(D6 row x a b).filter p=row.filter p:=by
 unfold D6;have e:row=row.take a++((row.drop a).take (b - a)++row.drop b):=by
  have e1:row.drop b=(row.drop a).drop (b - a):=by rw[List.drop_drop];congr 1;omega
  rw[e1,Mo,Mo]
 conv=>rhs;rw[e]
 simp[Lx,Md,h]
theorem Xko{A C:List Str}{x y:Str}(hx:(A++[x,x]++C).count x=2)(hy:(A++[x,x]++C).count y=2):¬Ax (A++[x,x]++C) x y:=by
 by_cases n:x=y
 ·subst n;exact D9 hx
 ·rw[Hj hx hy n];have hA:x∉A:=by
   rw[<-N9];rw[Nz,Nz,Oh,Oh] at hx;omega
  have e:A++[x,x]++C=A++x::([]++x::C):=by simp
  rw[e,Kl hA (by simp)];simp
theorem Xkp{row:List Str}{x:Str}{a:Nat}{p:Str->Bool}(h:p x=false):(row.take a++[x,x]++row.drop a).filter p=row.filter p:=by
 simp[Lx,Md,h];rw[<-Lx,Mo]
theorem Xdj{F:List Str}{x y:Str}(hF:F.Nodup)(hx:x∈F)(n:x≠y):(mid (F++F.reverse) x).count y≠1:=by
 obtain⟨A,B,rfl,hA⟩:=split1 hx;have hB:x∉B:=by
  have h1:=(M6.mp hF).2.1;exact(Mn.mp h1).1
 have e:(A++x::B)++(A++x::B).reverse=A++x::((B++B.reverse)++x::A.reverse):=by simp
 rw[e,Kl hA (by simp[hB]),Nz,List.count_reverse];omega
theorem Ea{ns:List Str}(hn:ns.Nodup)(c:Nat){x y:Str}(h2:∀z∈ns,(ns++(ns.take c).reverse++(ns.drop c).reverse).count z=2)
  (h:(x∈ns.take c/\y∈ns.take c)\/(x∈ns.drop c/\y∈ns.drop c)):¬Ax (ns++(ns.take c).reverse++(ns.drop c).reverse) x y:=by
 have sub:(∀z,z∈ns.take c->z∈ns)/\∀z,z∈ns.drop c->z∈ns:=⟨λz=>O5,λz=>Oi⟩;have hx:x∈ns:=h.elim (λz=>sub.1 _ z.1) λz=>sub.2 _ z.1;have hy:y∈ns:=h.elim (λz=>sub.1 _ z.2) λz=>sub.2 _ z.2;by_cases n:x=y
 ·subst n;exact D9 (h2 x hx)
 rw[Hj (h2 x hx) (h2 y hy) n];have key:(mid (ns++(ns.take c).reverse++(ns.drop c).reverse) x).count y=(mid ((ns++(ns.take c).reverse++(ns.drop c).reverse).filter λz=>decide (z=x\/z=y)) x).count y:=by
  rw[Xdh (by simp),List.count_filter (by simp)]
 rw[key];have dj:∀z,z∈ns.take c->z∈ns.drop c->False:=by
  have:=hn;rw[<-Mo c ns] at this;intro z h1 h2;exact(M6.mp this).2.2 z h1 z h2 rfl
 have e0:ns.filter (λz=>decide (z=x\/z=y))=(ns.take c).filter (λz=>decide (z=x\/z=y))++(ns.drop c).filter (λz=>decide (z=x\/z=y)):=by
  rw[<-Lx,Mo]
 rw[Lx,Lx,e0,List.filter_reverse,List.filter_reverse];rcases h with ⟨h1,h2⟩ | ⟨h1,h2⟩
 ·have e:(ns.drop c).filter (λz=>decide (z=x\/z=y))=[]:=by
   rw[Nc];intro z hz q;rcases Px q with q | q
   ·exact dj x h1 (q ▸ hz)
   ·exact dj y h2 (q ▸ hz)
  rw[e,Mm,List.reverse_nil,Mm];exact Xdj ((hn.sublist (Nx ..)).filter _) (Lg.mpr ⟨h1,by simp⟩) n
 ·have e:(ns.take c).filter (λz=>decide (z=x\/z=y))=[]:=by
   rw[Nc];intro z hz q;rcases Px q with q | q
   ·exact dj x (q ▸ hz) h1
   ·exact dj y (q ▸ hz) h2
  rw[e,N1,List.reverse_nil,Mm];exact Xdj ((hn.sublist (List.drop_sublist ..)).filter _) (Lg.mpr ⟨h1,by simp⟩) n
theorem noThree_grid{ns:List Str}(hn:ns.Nodup)(c:Nat)(h2:∀z∈ns,(ns++(ns.take c).reverse++(ns.drop c).reverse).count z=2):Bq (ns++(ns.take c).reverse++(ns.drop c).reverse):=by
 have mem:∀z,z∈ns++(ns.take c).reverse++(ns.drop c).reverse->z∈ns.take c\/z∈ns.drop c:=by
  intro z hz;rw[<-Lr,Mo];simp only[Lr,List.mem_reverse] at hz;rcases hz with (h | h) | h
  ·exact h
  ·exact O5 h
  ·exact Oi h
 intro x hx y hy z hz k1 k2 k3;rcases mem x hx with a | a<;>rcases mem y hy with b | b<;>rcases mem z hz with d | d
 ·exact Ea hn c h2 (.inl ⟨a,b⟩) k1
 ·exact Ea hn c h2 (.inl ⟨a,b⟩) k1
 ·exact Ea hn c h2 (.inl ⟨a,d⟩) k2
 ·exact Ea hn c h2 (.inr ⟨b,d⟩) k3
 ·exact Ea hn c h2 (.inl ⟨b,d⟩) k3
 ·exact Ea hn c h2 (.inr ⟨a,d⟩) k2
 ·exact Ea hn c h2 (.inr ⟨a,b⟩) k1
 ·exact Ea hn c h2 (.inr ⟨a,b⟩) k1
def spBarredN:Sp:=λvs H Q _=>∃(r:Addr) (row:List Str) (x:Str),vs=[.ref r,.str x]/\H r=some (.lst (row.map V.str))/\row.length<=1000/\(∀y∈row,row.count y=2)/\x∈row /\
 ∀b H',(b=false->∀y∈row,∀z∈row,Ax row x y->Ax row x z->¬Ax row y z)->Same H H'->Q (.bl b) H'
def spRowN:Sp:=λvs H Q _=>∃(dr sc nl:Addr) (ns:List Str),vs=[.ref dr,.ref nl]/\DrawOk H dr sc/\H nl=some (.lst (ns.map V.str))/\nl≠dr/\ns.Nodup/\ns.length<=14 /\
 ∀(l:Addr) (row:List Str) (H':Hp),H l=none->H' l=some (.lst (row.map V.str))->row.Perm (ns++ns)->Bq row->DrawOk H' dr sc->But dr H H'->Q (.ref l) H'
def spIslandN:Sp:=λvs H Q _=>∃(dr sc:Addr) (m:Nat),vs=[.ref dr,.int m]/\m<=14/\DrawOk H dr sc /\
 ∀(l:Addr) (row:List Str) (n st:Nat) (late:Bool) (H':Hp),H l=none->n<=m->st<26->H' l=some (.lst (row.map V.str))->row.Perm (Bc st late n++Bc st late n)->Bq row->DrawOk H' dr sc->But dr H H'->Q (.ref l) H'
theorem Xdk{p:Prop}{_:Decidable p}(h:decide p=false):¬p:=Py h
theorem Wh.pl{H:Hp}{kvs:List (Key×V)}{row:List Str}{x:Str}(w:Wh H kvs row)(hx:x∈row)(h:row.count x=2):∃l,An kvs (Sum.inr x:Key)=some (.ref l)/\H l=some (.lst [.int (pl row x).1,.int (pl row x).2]):=by
 obtain⟨l,h1,h2⟩:=w.val x hx;rw[Fd h] at h2;exact⟨l,h1,h2⟩
def deg2 {α : Type} (R : α -> α->Bool) (l:List α):Nat:=(l.map λx=>l.countP (R x)).sum
theorem Xkq{a b:List Nat}(p:a.Perm b):a.sum=b.sum:=by
 induction p with
 | nil=>rfl
 | cons x _ ih=>simp[ih]
 | swap x y l=>simp;omega
 | trans _ _ h1 h2=>exact h1.trans h2
theorem Xkr{α : Type}{R : α -> α->Bool}{a b:List α}(p:a.Perm b):deg2 R a=deg2 R b:=by
 unfold deg2;have e:(a.map λx=>a.countP (R x))=a.map λx=>b.countP (R x):=Mu λx _=>p.countP_eq _;rw[e];exact Xkq (p.map _)
theorem E1{α : Type}(f g : α->Nat):∀l:List α,(l.map λx=>f x+g x).sum=(l.map f).sum+(l.map g).sum
 | []=>rfl
 | x::r=>by simp[E1 f g r];omega
theorem Dq{α : Type}(p : α->Bool):∀l:List α,(l.map λx=>if p x=true then 1 else 0).sum=l.countP p
 | []=>rfl
 | x::r=>by
  rw[Ly,Mt,Dq p r,Mw];omega
theorem Xdl{α : Type}:∀l:List α,(l.map λ_=>0).sum=0
 | []=>rfl
 | _::r=>by rw[Ly,Mt,Xdl r]
theorem mantel{α : Type}[DecidableEq α]{R : α -> α->Bool}:∀(n:Nat) (l:List α),l.length=n->l.Nodup->(∀x∈l,R x x=false)->(∀x∈l,∀y∈l,R x y=R y x) ->
  (∀x∈l,∀y∈l,∀z∈l,R x y=true->R x z=true->R y z=false)->2 * deg2 R l<=n * n:=by
 intro n
 induction n using Nat.strongRecOn with
 | ind n ih=>
  intro l hl nd irr sy tri;by_cases h:∃u∈l,∃v∈l,R u v=true
  ·obtain⟨u,hu,v,hv,huv⟩:=h;have nuv:u≠v:=λe=>by subst e;rw[irr u hu] at huv;cases huv
   have p1:l.Perm (u::l.erase u):=List.perm_cons_erase hu;have hv':v∈l.erase u:=(List.mem_erase_of_ne nuv.symm).mpr hv;have p2:l.Perm (u::v::(l.erase u).erase v):=p1.trans (List.Perm.cons u (List.perm_cons_erase hv'));generalize (l.erase u).erase v=r at p2;have hlen:=p2.length_eq;simp only[Lv] at hlen;have nd':=p2.nodup_iff.mp nd;have mr:∀x∈r,x∈l:=λx hx=>p2.mem_iff.mpr (Lh _ (Lh _ hx));have ndr:r.Nodup:=(Mn.mp (Mn.mp nd').2).2;have ihr:=ih r.length (by omega) r rfl ndr (λx hx=>irr x (mr x hx)) (λx hx y hy=>sy x (mr x hx) y (mr y hy)) (λx hx y hy z hz=>tri x (mr x hx) y (mr y hy) z (mr z hz));have e:deg2 R l=2+2 * (r.countP (R u)+r.countP (R v))+deg2 R r:=by
    rw[Xkr p2];unfold deg2;rw[Ly,Ly,Mt,Mt];have ef:(r.map λx=>(u::v::r).countP (R x))=r.map λx=>((if R u x=true then 1 else 0)+(if R v x=true then 1 else 0))+r.countP (R x):=by
     refine Mu λx hx=>?_;rw[Mw,Mw,sy x (mr x hx) u hu,sy x (mr x hx) v hv];omega
    rw[ef,E1,E1,Dq,Dq,Mw,Mw,Mw,Mw,irr u hu,irr v hv,huv,sy v hv u hu,huv];simp;omega
   have le:r.countP (R u)+r.countP (R v)<=r.length:=by
    rw[<-Dq (R u),<-Dq (R v),<-E1];have:∀m:List α,(∀x∈m,x∈l)->(m.map λx=>(if R u x=true then 1 else 0)+(if R v x=true then 1 else 0)).sum<=m.length:=by
     intro m
     induction m with
     | nil=>intro _;exact Li _
     | cons x t iht=>
      intro hm;have h1:=iht λy hy=>hm y (Lh _ hy);have hx:=hm x Lj;have h2:(if R u x=true then 1 else 0)+(if R v x=true then 1 else 0)<=1:=by
       by_cases a:R u x=true
       ·have:=tri u hu v hv x hx huv a;rw[this,Pt a];decide
       ·rw[Ps a];split<;>decide
      rw[Ly,Mt,Lv];omega
    exact this r mr
   have hn:n=r.length+2:=by omega
   rw[e,hn];have:(r.length+2) * (r.length+2)=r.length * r.length+4 * r.length+4:=by
    rw[Nat.add_mul,Nat.mul_add];omega
   rw[this];omega
  ·have z:deg2 R l=0:=by
    unfold deg2;have:(l.map λx=>l.countP (R x))=l.map λ_=>0:=by
     refine Mu λx hx=>?_;rw[List.countP_eq_zero];intro y hy q;exact h ⟨x,hx,y,hy,q⟩
    rw[this];exact Xdl l
   rw[z];exact Mf _
theorem Xdm{α β : Type}(p : α -> β->Bool)(m:List β):∀l:List α,(l.map λx=>m.countP (p x)).sum=(m.map λy=>l.countP λx=>p x y).sum
 | []=>by
  show 0=_
  induction m with
  | nil=>rfl
  | cons y r ih=>rw[Ly,Mt,<-ih];rfl
 | x::l=>by
  rw[Ly,Mt,Xdm p m l];have e:(m.map λy=>(x::l).countP λx=>p x y)=m.map λy=>(if p x y=true then 1 else 0)+l.countP λx=>p x y:=by
   refine Mu λy _=>?_;rw[Mw];omega
  rw[e,E1,Dq]
theorem Xks{row:List Str}(h2:∀y∈row,row.count y=2):2 * (crs row).length=deg2 (λx y=>decide (Ax row x y)) (dit row):=by
 have e:(crs row).length=((dit row).map λx=>(dit row).countP λy=>decide (ltS x y)&&decide (Ax row x y)).sum:=by
  unfold crs;rw[List.length_flatMap];congr 1;refine Mu λx _=>?_;rw[Lf,Mi];rfl
 have e2:=Xdm (λx y=>decide (ltS x y)&&decide (Ax row x y)) (dit row) (dit row);have e3:2 * (crs row).length=((dit row).map λx=>(dit row).countP λy=>decide (ltS x y)&&decide (Ax row x y)).sum+((dit row).map λy=>(dit row).countP λx=>decide (ltS x y)&&decide (Ax row x y)).sum:=by
  rw[<-e2,e];omega
 rw[e3,<-E1];unfold deg2;congr 1;refine Mu λx hx=>?_;rw[<-Dq,<-Dq,<-Dq,<-E1];congr 1;refine Mu λy hy=>?_;have hx':=Ag.mp hx;have hy':=Ag.mp hy;by_cases c:Ax row x y
 ·have c':=Cq (h2 x hx') (h2 y hy') c;have n:x≠y:=λe=>by subst e;exact D9 (h2 x hx') c
  by_cases l:ltS x y
  ·have l':¬ltS y x:=λq=>Dj x (Ep l q);simp[c,c',l,l']
  ·have l':ltS y x:=ltS_of (Jl.mp l) n.symm;simp[c,c',l,l']
 ·have c':¬Ax row y x:=λq=>c (Cq (h2 y hy') (h2 x hx') q);simp[c,c']
theorem Xkt{row:List Str}(h2:∀y∈row,row.count y=2)(h3:Bq row)(hl:(dit row).length<=14):(crs row).length<=49:=by
 have m:=mantel (R:=λx y=>decide (Ax row x y)) (dit row).length (dit row) rfl (Cz row) (λx hx=>Pw (D9 (h2 x (Ag.mp hx))))
  (λx hx y hy=>by
   by_cases c:Ax row x y
   ·rw[Pu c,Pu (Cq (h2 x (Ag.mp hx)) (h2 y (Ag.mp hy)) c)]
   ·rw[Pw c,Pw λq=>c (Cq (h2 y (Ag.mp hy)) (h2 x (Ag.mp hx)) q)])
  (λx hx y hy z hz a b=>Pw (h3 x (Ag.mp hx) y (Ag.mp hy) z (Ag.mp hz) (Px a) (Px b)))
 rw[<-Xks h2] at m;have:(dit row).length * (dit row).length<=14 * 14:=Nat.mul_le_mul hl hl;omega
def upB (row:List Str) (x y:Str):Bool:=decide (y=x)||decide (lieR row x y = "within")
def span (row:List Str) (x:Str):Nat:=((pl row x).2 - (pl row x).1).toNat
theorem Xku(a b c e:Int):lieT a b c e = "same" \/ lieT a b c e = "cross" \/ lieT a b c e = "within" \/ lieT a b c e = "around" \/ lieT a b c e = "apart" := by
 unfold lieT;split
 ·exact .inl rfl
 ·split
  ·exact .inr (.inl rfl)
  ·split
   ·exact .inr (.inr (.inl rfl))
   ·split
    ·exact .inr (.inr (.inr (.inl rfl)))
    ·exact .inr (.inr (.inr (.inr rfl)))
theorem Xkv{row:List Str}{x y:Str}(hx:row.count x=2)(hy:row.count y=2)(n:x≠y)(h:lieR row x y = "around"):span row y<span row x:=by
 obtain⟨n1,n2,n3,n4⟩:=Ew hx hy n;have l1:=Bv hx;have l2:=Bv hy;unfold span;unfold lieR lieT at h;rw[Ps (λz=>n1 z.1)] at h;split at h
 ·exact absurd h (by decide)
 ·split at h
  ·exact absurd h (by decide)
  ·split at h
   ·rename_i q;rw[Bw] at q;generalize (pl row x).1=a at *;generalize (pl row x).2=b at *;generalize (pl row y).1=c at *;generalize (pl row y).2=e at *;by_cases p1:a<c/\c<b
    ·by_cases p2:a<e/\e<b
     ·omega
     ·rw[Pt p1,Ps p2] at q;omega
    ·rw[Ps p1] at q;split at q<;>omega
   ·exact absurd h (by decide)
theorem Xdn{row:List Str}{x y:Str}(hx:row.count x=2)(hy:row.count y=2)(h:lieR row x y = "same"):x=y:=by
 refine Classical.byContradiction λn=>?_;obtain⟨n1,n2,n3,n4⟩:=Ew hx hy n;unfold lieR lieT at h;rw[Ps (λz=>n1 z.1)] at h;split at h
 ·exact absurd h (by decide)
 ·split at h
  ·exact absurd h (by decide)
  ·split at h
   ·exact absurd h (by decide)
   ·exact absurd h (by decide)
theorem least{α : Type}(f : α->Nat):∀l:List α,l≠[]->∃a∈l,∀b∈l,f a<=f b
 | [],h=>absurd rfl h
 | [a],_=>⟨a,Lj,λb hb=>by rw[Lk.mp hb];exact Li _⟩
 | a::c::r,_=>by
  obtain⟨m,hm,hl⟩:=least f (c::r) (by simp);by_cases q:f a<=f m
  ·exact⟨a,Lj,λb hb=>by
    rcases Lo.mp hb with e | e
    ·rw[e];exact Li _
    ·exact Mh q (hl b e)⟩
  ·exact⟨m,Lh _ hm,λb hb=>by
    rcases Lo.mp hb with e | e
    ·rw[e];omega
    ·exact hl b e⟩
def cands (row:List Str):List (List Str):=(dit row).map (λa=>(dit row).filter (upB row a))++(crs row).map λp=>(dit row).filter λy=>upB row p.1 y||upB row p.2 y
theorem Xkw{row S:List Str}(h2:∀y∈row,row.count y=2)(h3:Bq row)(hne:S≠[])(hg:Ae row S=true):S∈cands row:=by
 have hg':=hg;rw[<-Xkb h2] at hg';unfold Ke at hg';rw[Ls] at hg';have hS:=Px hg'.1;unfold Ae at hg;rw[Ls,Ls] at hg;obtain⟨⟨_,hrow⟩,hal⟩:=hg;have inr:∀x∈S,x∈row:=λx hx=>Px (L6.mp hrow x hx);have al:∀x∈S,∀y∈row,Bp (lieR row x y) (decide (y∈S))=true:=λx hx y hy=>L6.mp (L6.mp hal x hx) y (Ag.mpr hy);have within:∀x∈S,∀y∈row,lieR row x y = "within" -> y∈S:=λx hx y hy e=>by
  have:=al x hx y hy;unfold Bp at this;rw[Pt e] at this;exact Px this
 have apart:∀x∈S,∀y∈S,lieR row x y ≠ "apart" := λx hx y hy e=>by
  have:=al x hx y (inr y hy);unfold Bp at this;rw[Ps (by rw[e];decide),e,Pu hy] at this;exact absurd this (by decide)
 have how:∀a∈S,∀c∈S,upB row a c=false->¬span row c<span row a->Ax row a c:=λa ha c hc hu hs=>by
  have hu':=Bool.or_eq_false_iff.mp hu;have n1:c≠a:=Py hu'.1;have n2:=Py hu'.2;rcases Xku (pl row a).1 (pl row a).2 (pl row c).1 (pl row c).2 with q | q | q | q | q
  ·exact absurd (Xdn (h2 a (inr a ha)) (h2 c (inr c hc)) q).symm n1
  ·exact q
  ·exact absurd q n2
  ·exact absurd (Xkv (h2 a (inr a ha)) (h2 c (inr c hc)) (λe=>n1 e.symm) q) hs
  ·exact absurd q (apart a ha c hc)
 have upin:∀a∈S,∀y∈row,upB row a y=true->y∈S:=λa ha y hy q=>by
  rcases Pb.mp q with q | q
  ·rw[Px q];exact ha
  ·exact within a ha y hy (Px q)
 obtain⟨a,ha,la⟩:=least (span row) S hne;unfold cands;rw[Lr];by_cases hall:∀c∈S,upB row a c=true
 ·left;rw[Lz];refine⟨a,Ag.mpr (inr a ha),?_⟩;rw[hS];refine Pl λy hy=>?_;by_cases q:y∈S
  ·rw[hall y q,Pu q]
  ·rw[Pw q,Oy];exact λz=>q (upin a ha y (Ag.mp hy) z)
 ·right;have hne2:S.filter (λc => !upB row a c)≠[]:=λe=>hall λc hc=>by
   rw[Nc] at e;have:=e c hc;simpa using this
  obtain⟨b,hb,lb⟩:=least (span row) _ hne2;obtain⟨hbS,hbu⟩:=Lg.mp hb;have hbu:upB row a b=false:=by simpa using hbu
  have cab:=how a ha b hbS hbu (by have:=la b hbS;omega);have all2:∀c∈S,upB row a c=true\/upB row b c=true:=λc hc=>by
   refine Classical.byContradiction λz=>?_;have z1:upB row a c=false:=by
    cases q:upB row a c with
    | false=>rfl
    | true=>exact absurd (.inl q) z
   have z2:upB row b c=false:=by
    cases q:upB row b c with
    | false=>rfl
    | true=>exact absurd (.inr q) z
   have k1:=how a ha c hc z1 (by have:=la c hc;omega);have k2:=how b hbS c hc z2 (by have:=lb c (Lg.mpr ⟨hc,by simp[z1]⟩);omega);exact h3 a (inr a ha) b (inr b hbS) c (inr c hc) cab k1 k2
  have key:∀p q:Str,p∈S->q∈S->(∀c∈S,upB row p c=true\/upB row q c=true)->(dit row).filter (λy=>upB row p y||upB row q y)=S:=λp q hp hq h=>by
   conv=>rhs;rw[hS]
   refine Pl λy hy=>?_;by_cases m:y∈S
   ·rw[Pu m,Pb];exact h y m
   ·rw[Pw m,Bool.or_eq_false_iff];exact⟨Oy.mpr λz=>m (upin p hp y (Ag.mp hy) z),Oy.mpr λz=>m (upin q hq y (Ag.mp hy) z)⟩
  have nab:a≠b:=λe=>by subst e;exact D9 (h2 a (inr a ha)) cab
  have mk:∀p q:Str,p∈S->q∈S->ltS p q->Ax row p q->(p,q)∈crs row:=λp q hp hq l c=>by
   unfold crs;rw[O4];refine⟨p,Ag.mpr (inr p hp),Lz.mpr ⟨q,Lg.mpr ⟨Ag.mpr (inr q hq),?_⟩,rfl⟩⟩;rw[Ls];exact⟨Pu l,Pu c⟩
  rw[Lz];by_cases l:ltS a b
  ·exact⟨(a,b),mk a b ha hbS l cab,key a b ha hbS all2⟩
  ·have l':=ltS_of (Jl.mp l) nab.symm;exact⟨(b,a),mk b a hbS ha l' (Cq (h2 a (inr a ha)) (h2 b (inr b hbS)) cab),key b a hbS ha λc hc=>(all2 c hc).symm⟩
theorem nd_le{α : Type}[DecidableEq α]:∀{a b:List α},a.Nodup->(∀x∈a,x∈b)->a.length<=b.length
 | [],_,_,_=>Mf _
 | x::r,b,h,s=>by
  obtain⟨h1,h2⟩:=Mn.mp h;have hx:=s x Lj;have:=nd_le (a:=r) (b:=b.erase x) h2 λy hy=>(List.mem_erase_of_ne (show y≠x from λe=>h1 (e ▸ hy))).mpr (s y (Lh _ hy));rw[List.length_erase_of_mem hx] at this;have:0<b.length:=List.length_pos_of_mem hx;rw[Lv];omega
end SH
namespace L2
open PySem PySem.Spec PyProof.Rows
open PySem.W (KasT kas_asc kas_desc kas_rev kas_tail3 kas_descPart kas_count kas_place kas_bin kas_sort kas_ask kas_item kat_run kat_snds kat_kind kat_lt KatLex kat_cons kat_go kat_yes kat_no kat_one kat_nil KatTups)
def KAll {α : Type} (n:Nat) (P : α->Prop):KasT α->Prop
 | .ret a=>P a
 | .ask i j k=>i<n/\j<n/\∀b,KAll n P (k b)
theorem KAll.bind{α β : Type}{n:Nat}{P : α->Prop}{Q : β->Prop}{f : α->KasT β}(hf:∀a,P a->KAll n Q (f a)):∀{t:KasT α},KAll n P t->KAll n Q (t.bind f)
 | .ret a,h=>hf a h
 | .ask i j k,h=>⟨h.1,h.2.1,λb=>KAll.bind hf (h.2.2 b)⟩
def Gd (n:Nat) (p:Array Nat):Prop:=p.Perm (List.toArray (List.range n))
theorem Gd.lt{n:Nat}{p:Array Nat}(h:Gd n p)(hn:0<n)(i:Nat):p.getD i 0<n:=by
 by_cases hi:i<p.size
 ·have e:p.getD i 0=p[i]:=by simp[Array.getD,hi]
  rw[e];have:p[i]∈p:=Array.getElem_mem hi;have:=h.mem_iff.mp this;simpa using this
 ·have e:p.getD i 0=0:=by simp[Array.getD,hi]
  rw[e];exact hn
theorem Gd.rev{n:Nat}{p:Array Nat}(h:Gd n p)(i j:Nat):Gd n (kas_rev p i j):=(mirror_perm p i j _).trans h
theorem Kn{n:Nat}(hn:0<n){p:Array Nat}(h:Gd n p):∀f m,KAll n (λ_=>True) (kas_asc p f m)
 | 0,_=>trivial
 | f+1,m=>⟨h.lt hn _,h.lt hn _,λb=>by
  cases b with
  | true=>exact trivial
  | false=>exact Kn hn h f (m+1)⟩
theorem Hk{n:Nat}(hn:0<n):∀f (p:Array Nat) m q,Gd n p->KAll n (λr=>Gd n r.1) (kas_desc f p m q)
 | 0,p,m,q,h=>h
 | f+1,p,m,q,h=>⟨h.lt hn _,h.lt hn _,λb=>by
  cases b with
  | true=>
   show KAll n _ (if q > 0 then kas_desc f (kas_rev p (m - (q+1)) m) (m+1) 0 else kas_desc f p (m+1) 0);split
   ·exact Hk hn f _ _ _ (h.rev _ _)
   ·exact Hk hn f _ _ _ h
  | false=>
   refine⟨h.lt hn _,h.lt hn _,λd=>?_⟩;cases d with
   | true=>exact h
   | false=>exact Hk hn f _ _ _ h⟩
theorem Xdo{n:Nat}(hn:0<n){p:Array Nat}(h:Gd n p)(m r:Nat):KAll n (λr=>Gd n r.2) (kas_tail3 m r p):=by
 unfold kas_tail3;refine KAll.bind (P:=λ_=>True) (Q:=λ(r:Nat×Array Nat)=>Gd n r.2) (λa _=>?_) (Kn hn (h.rev 0 m) _ _);exact h.rev 0 m
theorem Xdp{n:Nat}(hn:0<n){p:Array Nat}(h:Gd n p)(m r:Nat):KAll n (λr=>Gd n r.2) (kas_descPart m r p):=by
 refine KAll.bind (P:=λr=>Gd n r.1) (λa ha=>?_) (Hk hn _ _ _ _ h);split
 ·exact Xdo hn (ha.rev _ _) _ _
 ·exact Xdo hn ha _ _
theorem Xkx{n:Nat}(hn:0<n){p:Array Nat}(h:Gd n p)(r:Nat):KAll n (λr=>Gd n r.2) (kas_count r p):=by
 refine KAll.bind (P:=λ_=>True) (λa _=>?_) (Kn hn h _ _);split
 ·exact h
 ·split
  ·refine⟨h.lt hn _,h.lt hn _,λb=>?_⟩;cases b with
   | true=>exact h
   | false=>exact Xdp hn (h.rev _ _) _ _
  ·exact Xdp hn h _ _
theorem Ko{n:Nat}(hn:0<n){p:Array Nat}(h:Gd n p)(k:Nat):∀f l r,KAll n (λ_=>True) (kas_place p k f l r)
 | 0,_,_=>trivial
 | f+1,l,r=>by
  show KAll n _ (if l ≥ r then _ else _);split
  ·exact trivial
  ·refine⟨h.lt hn _,h.lt hn _,λb=>?_⟩;cases b with
   | true=>exact Ko hn h k f _ _
   | false=>exact Ko hn h k f _ _
theorem Xdq{n:Nat}(hn:0<n):∀f (p:Array Nat) k,Gd n p->KAll n (Gd n) (kas_bin f p k)
 | 0,p,_,h=>h
 | f+1,p,k,h=>KAll.bind (P:=λ_=>True) (λl _=>Xdq hn f _ _ ((bubble_perm p k _).trans h)) (Ko hn h k _ _ _)
theorem Xdr{n:Nat}(hn:0<n):KAll n (Gd n) (kas_sort n):=by
 refine KAll.bind (P:=λr=>Gd n r.2) (λa ha=>?_) (Xkx hn (Array.Perm.refl _) n);split
 ·exact Xdq hn _ _ _ ha
 ·exact ha
section
variable {prog:Program}{w:World}{A:Around}{E:Value->Shared->Prop}{s:Shared}
def TupS (h:Heap) (v:Value):Prop:=∃a o xs n ss,v = .ref a/\h.get? a=some o/\o.cls = .type "tuple" /\ o.data = .seq xs n/\StrsAre xs.toList ss/\ss≠[]
end
section
variable {X:Cx}
end
section
variable {X:Cx}
theorem Xds(hu:X.A.units+4<cLine):OpR X (compareOp .NotIn) (λx y H Q=>∃d ds,DAt H d x/\DAt H (.list ds) y/\d.canLay0=true/\PyData.canLayAll0 ds=true/\d.depth<=3/\Q (.bl (!ds.any λe=>PyData.eqv e d)) H):=by
 intro pins s σ H x y v u Q I rx ry h;obtain⟨d,ds,h1,h2,c1,c2,hd,q⟩:=h;obtain⟨as,ra⟩:=Dn I d x v h1 rx;obtain⟨bs,rb⟩:=Dn I (.list ds) y u h2 ry;exact SeqAt.notIn_list_reads rb ra c2 c1 (by omega) ⟨.bl _,H,I,rfl,q⟩
end
end L2
namespace SH
open PySem PySem.Spec PyProof.Rows L2
def Bj (ss:List Str):PyData:=.tuple (ss.map PyData.str)
def Plts (row:List Str) (H:Hp) (ps:List Addr):Prop:=∀p∈ps,∃ss:List Str,H p=some (.tup (ss.map V.str))/\Ae row ss=true
theorem Br{row ss:List Str}(h:Ae row ss=true):(∀x∈ss,x∈row)/\ss.Pairwise ltS:=by
 unfold Ae at h;rw[Ls,Ls] at h;refine⟨λx hx=>Px (L6.mp h.1.2 x hx),?_⟩;rw[Px h.1.1];exact Kh ss
theorem Xdt{row ss:List Str}(h:Ae row ss=true):ss.length<=(dit row).length:=
 nd_le (Dp (Br h).2) λx hx=>Ag.mpr ((Br h).1 x hx)
theorem Xdu(row:List Str):Ae row []=true:=by
 unfold Ae;rw[Hf .nil];rfl
structure Fresh (row:List Str) (H:Hp) (f:Addr) (xs:List V) (Ts:List (List Str)):Prop where
 at':H f=some (.lst xs)
 all:DAll H (Ts.map Bj) xs
 nd:Ts.Nodup
 ok:∀T∈Ts,T≠[]/\Ae row T=true
end SH
namespace L2
open PySem PySem.Spec PyProof.Rows
def Tups (H:Hp) (ps:List Addr) (Ts:List (List Str)):Prop:=ps.length=Ts.length/\∀i,i<ps.length->H (ps.getD i 0)=some (.tup ((Ts.getD i []).map V.str))
theorem Tups.same{H H':Hp}{ps:List Addr}{Ts:List (List Str)}(h:Tups H ps Ts)(s:Same H H'):Tups H' ps Ts:=⟨h.1,λi hi=>s _ _ (h.2 i hi)⟩
theorem Tups.nil(H:Hp):Tups H [] []:=⟨rfl,λi hi=>absurd hi (Mz _)⟩
theorem Tups.cons{H:Hp}{p:Addr}{T:List Str}{ps:List Addr}{Ts:List (List Str)}(h:H p=some (.tup (T.map V.str)))(r:Tups H ps Ts):Tups H (p::ps) (T::Ts):=by
 refine⟨by simp[r.1],λi hi=>?_⟩;cases i with
 | zero=>exact h
 | succ i=>exact r.2 i (by simpa using hi)
theorem Tups.app{H:Hp}:∀{ps qs:List Addr} {Ts Us:List (List Str)},Tups H ps Ts->Tups H qs Us->Tups H (ps++qs) (Ts++Us)
 | [],qs,Ts,Us,h,g=>by
  have:Ts=[]:=Ma.mp h.1.symm;rw[this];exact g
 | p::ps,qs,[],Us,h,g=>by have:=h.1;simp at this
 | p::ps,qs,T::Ts,Us,h,g=>by
  have r:Tups H ps Ts:=⟨by simpa using h.1,λi hi=>by simpa using h.2 (i+1) (by simpa using hi)⟩;exact Tups.cons (h.2 0 (by simp)) (Tups.app r g)
open PySem.W (KasT kas_asc kas_desc kas_rev kas_tail3 kas_descPart kas_count kas_place kas_bin kas_sort kas_ask kas_item kat_run kat_snds kat_kind kat_lt KatLex kat_cons kat_go kat_yes kat_no kat_one kat_nil KatTups)
def A4 {α : Type} (lt:Nat->Nat->Bool):KasT α -> α
 | .ret a=>a
 | .ask i j k=>A4 lt (k (lt i j))
theorem Fg{α β : Type}{lt:Nat->Nat->Bool}{f : α->KasT β}:∀t:KasT α,A4 lt (t.bind f)=A4 lt (f (A4 lt t))
 | .ret _=>rfl
 | .ask i j k=>Fg (k (lt i j))
theorem Xdv{α : Type}{n:Nat}{lt:Nat->Nat->Bool}{P : α->Prop}{G : α->Shared->Prop}{s:Shared}{cmp:Nat->Nat->(Bool->Shared->Prop)->Shared->Prop}(hc:∀i j C,i<n->j<n->C (lt i j) s->cmp i j C s):
  ∀{t:KasT α},KAll n P t->G (A4 lt t) s->t.kasWp cmp G s
 | .ret a,_,h=>h
 | .ask i j k,h,g=>hc i j _ h.1 h.2.1 (Xdv hc (h.2.2 _) g)
theorem KAll.run{α : Type}{n:Nat}{lt:Nat->Nat->Bool}{P : α->Prop}:∀{t:KasT α},KAll n P t->P (A4 lt t)
 | .ret a,h=>h
 | .ask i j k,h=>KAll.run (t:=k (lt i j)) (h.2.2 (lt i j))
structure Lin (n:Nat) (lt:Nat->Nat->Bool):Prop where
 irr:∀i,lt i i=false
 tr:∀i j k,lt i j=true->lt j k=true->lt i k=true
 tot:∀i j,i<n->j<n->i≠j->lt i j=true\/lt j i=true
section
variable {n:Nat}{lt:Nat->Nat->Bool}{p:Array Nat}
def B8 (lt:Nat->Nat->Bool) (p:Array Nat) (m:Nat):Prop:=∀i j,i<j->j<m->lt (p.getD i 0) (p.getD j 0)=true
def Xdw (lt:Nat->Nat->Bool) (p:Array Nat) (m:Nat):Prop:=∀i j,i<j->j<m->lt (p.getD j 0) (p.getD i 0)=true
theorem Gd.size{p:Array Nat}(h:Gd n p):p.size=n:=by
 have:=h.size_eq;simpa using this
theorem Gd.inj{p:Array Nat}(h:Gd n p){i j:Nat}(hi:i<n)(hj:j<n)(ne:i≠j):p.getD i 0≠p.getD j 0:=λe=>by
 have sz:=h.size;have nd:p.toList.Nodup:=by
  have q:p.toList.Perm (List.range n):=by simpa using h.toList
  exact q.nodup_iff.mpr List.nodup_range
 have hi':i<p.toList.length:=by rw[Ln,sz];exact hi
 have hj':j<p.toList.length:=by rw[Ln,sz];exact hj
 have e1:p.getD i 0=p.toList[i]:=by simp[Array.getD,sz,hi]
 have e2:p.getD j 0=p.toList[j]:=by simp[Array.getD,sz,hj]
 rw[e1,e2] at e;exact ne ((List.getElem_inj nd).mp e)
theorem Lin.flip(L:Lin n lt)(h:Gd n p){i j:Nat}(hi:i<n)(hj:j<n)(ne:i≠j)(e:lt (p.getD i 0) (p.getD j 0)=false):lt (p.getD j 0) (p.getD i 0)=true:=by
 have hn:0<n:=by omega
 rcases L.tot _ _ (h.lt hn i) (h.lt hn j) (h.inj hi hj ne) with z | z
 ·rw[z] at e;cases e
 ·exact z
theorem Kp(L:Lin n lt)(h:Gd n p):∀f m,1<=m->m+f<=n->B8 lt p m->m<=A4 lt (kas_asc p f m)/\A4 lt (kas_asc p f m)<=m+f/\B8 lt p (A4 lt (kas_asc p f m)) /\
  (A4 lt (kas_asc p f m)<m+f->lt (p.getD (A4 lt (kas_asc p f m)) 0) (p.getD (A4 lt (kas_asc p f m) - 1) 0)=true)
 | 0,m,_,_,so=>⟨Li _,Li _,so,λz=>absurd z (by show ¬m<m+0;omega)⟩
 | f+1,m,h1,hn,so=>by
  have e:A4 lt (kas_asc p (f+1) m)=A4 lt (if lt (p.getD m 0) (p.getD (m - 1) 0)=true then KasT.ret m else kas_asc p f (m+1)):=rfl;cases c:lt (p.getD m 0) (p.getD (m - 1) 0) with
  | true=>
   rw[e,c,Pt rfl];exact⟨Li _,by show m<=_;omega,so,λ_=>c⟩
  | false=>
   rw[e,c,Ps (by decide)];have c':=L.flip h (by omega) (by omega) (by omega) c;obtain⟨a1,a2,a3,a4⟩:=Kp L h f (m+1) (by omega) (by omega) (λi j hij hj=>by
    by_cases hjm:j<m
    ·exact so i j hij hjm
    ·have:j=m:=by omega
     subst this;by_cases hi:i=j - 1
     ·subst hi;exact c'
     ·exact L.tr _ _ _ (so i (j - 1) (by omega) (by omega)) c')
   exact⟨by omega,by omega,a3,λz=>a4 (by omega)⟩
theorem Xdx(L:Lin n lt)(h:Gd n p):∀f m,1<=m->m+f<=n->Xdw lt p m->∃r,A4 lt (kas_desc f p m 0)=(p,r,0)/\m<=r/\r<=m+f/\Xdw lt p r
 | 0,m,_,_,so=>⟨m,rfl,Li _,Li _,so⟩
 | f+1,m,h1,hn,so=>by
  have e:A4 lt (kas_desc (f+1) p m 0)=A4 lt (if lt (p.getD m 0) (p.getD (m - 1) 0)=true then (if 0 > 0 then kas_desc f (kas_rev p (m - (0+1)) m) (m+1) 0 else kas_desc f p (m+1) 0)
   else .ask (p.getD (m - 1) 0) (p.getD m 0) λd=>if d=true then .ret (p,m,0) else kas_desc f p (m+1) (0+1)):=rfl
  cases c:lt (p.getD m 0) (p.getD (m - 1) 0) with
  | true=>
   rw[e,c,Pt rfl,Ps (by omega)];obtain⟨r,a1,a2,a3,a4⟩:=Xdx L h f (m+1) (by omega) (by omega) (λi j hij hj=>by
    by_cases hjm:j<m
    ·exact so i j hij hjm
    ·have:j=m:=by omega
     subst this;by_cases hi:i=j - 1
     ·subst hi;exact c
     ·exact L.tr _ _ _ c (so i (j - 1) (by omega) (by omega)))
   exact⟨r,a1,by omega,by omega,a4⟩
  | false=>
   rw[e,c,Ps (by decide)];have c':=L.flip h (by omega) (by omega) (by omega) c;refine⟨m,?_,Li _,by omega,so⟩;show A4 lt (if lt (p.getD (m - 1) 0) (p.getD m 0)=true then _ else _)=_;rw[Pt c'];rfl
theorem Kq(p:Array Nat)(i:Nat):p.getD i 0=(p[i]?).getD 0:=by simp
theorem Xdy{m:Nat}(hm:m<=p.size){i:Nat}(hi:i<m):(kas_rev p 0 m).getD i 0=p.getD (m - 1 - i) 0:=by
 rw[Kq,Kq];show ((mirror p 0 m ((m - 0) / 2))[i]?).getD 0=_;rw[getElem?_mirror_all hm,Pt (by omega)];congr 2;omega
theorem Xky(L:Lin n lt)(h:Gd n p)(hn:1<=n):∃m p',A4 lt (kas_count n p)=(m,p')/\1<=m/\m<=n/\Gd n p'/\B8 lt p' m:=by
 have sz:=h.size;unfold kas_count;rw[Fg];obtain⟨a1,a2,a3,a4⟩:=Kp (lt:=lt) L h (n - 1) 1 (Li _) (by omega) (λi j hij hj=>by omega);generalize A4 lt (kas_asc p (n - 1) 1)=r at *;by_cases e1:(r==n)=true
 ·rw[Pt e1];exact⟨r,p,rfl,a1,by omega,h,a3⟩
 ·rw[Ps e1];have rn:r≠n:=λz=>e1 (by rw[z];exact beq_self_eq_true _);by_cases e2:r > 1
  ·rw[Pt e2];refine⟨r,p,?_,a1,by omega,h,a3⟩;show A4 lt (if lt (p.getD 0 0) (p.getD (r - 1) 0)=true then _ else _)=_;rw[Pt (a3 0 (r - 1) (by omega) (by omega))];rfl
  ·rw[Ps e2];obtain rfl:r=1:=by omega
   have a4:=a4 (by omega);unfold kas_descPart;rw[Fg];obtain⟨r2,b1,b2,b3,b4⟩:=Xdx (lt:=lt) L h (n - (1+1)) (1+1) (by omega) (by omega) (λi j hij hj=>by
    have:j=1:=by omega
    subst this;have:i=0:=by omega
    subst this;exact a4)
   rw[b1];dsimp only;rw[Ps (by omega)];unfold kas_tail3;rw[Fg];have hrv:=h.rev 0 r2;obtain⟨c1,c2,c3,_⟩:=Kp (lt:=lt) L hrv (n - r2) r2 (by omega) (by omega) (λi j hij hj=>by
    rw[Xdy (by omega) (by omega),Xdy (by omega) (by omega)];exact b4 _ _ (by omega) (by omega))
   exact⟨_,_,rfl,by omega,by omega,hrv,c3⟩
theorem Kr(L:Lin n lt)(h:Gd n p){k:Nat}(hk:k<n)(so:B8 lt p k):∀f l r,r - l<=f->l<=r->r<=k->(∀i,i<l->lt (p.getD i 0) (p.getD k 0)=true)->(∀i,r<=i->i<k->lt (p.getD k 0) (p.getD i 0)=true) ->
  A4 lt (kas_place p k f l r)<=k/\(∀i,i<A4 lt (kas_place p k f l r)->lt (p.getD i 0) (p.getD k 0)=true)/\(∀i,A4 lt (kas_place p k f l r)<=i->i<k->lt (p.getD k 0) (p.getD i 0)=true)
 | 0,l,r,hf,hlr,hr,hl,hg=>by
  have:l=r:=by omega
  subst this;exact⟨hr,hl,hg⟩
 | f+1,l,r,hf,hlr,hr,hl,hg=>by
  unfold kas_place;by_cases e:l ≥ r
  ·rw[Pt e];have:l=r:=by omega
   subst this;exact⟨hr,hl,hg⟩
  ·rw[Ps e];have e2:A4 lt (KasT.ask (p.getD k 0) (p.getD ((l+r) / 2) 0) λc=>if c=true then kas_place p k f l ((l+r) / 2) else kas_place p k f ((l+r) / 2+1) r)=A4 lt (if lt (p.getD k 0) (p.getD ((l+r) / 2) 0)=true then kas_place p k f l ((l+r) / 2) else kas_place p k f ((l+r) / 2+1) r):=rfl;rw[e2];have hm1:l<=(l+r) / 2:=by omega
   have hm2:(l+r) / 2<r:=by omega
   generalize (l+r) / 2=md at *;cases c:lt (p.getD k 0) (p.getD md 0) with
   | true=>
    rw[Pt rfl];refine Kr L h hk so f l md (by omega) (by omega) (by omega) hl λi h1 h2=>?_;by_cases e3:i=md
    ·rw[e3];exact c
    ·exact L.tr _ _ _ c (so md i (by omega) h2)
   | false=>
    rw[Ps (by decide)];have c':=L.flip h hk (by omega) (by omega) c;refine Kr L h hk so f (md+1) r (by omega) (by omega) hr (λi hi=>?_) hg;by_cases e3:i=md
    ·rw[e3];exact c'
    ·exact L.tr _ _ _ (so i md (by omega) (by omega)) c'
theorem Xdz{k l:Nat}(hk:k<p.size)(hl:l<=k)(i:Nat):(bubble p k (k - l)).getD i 0=if i=l then p.getD k 0 else if l<i/\i<=k then p.getD (i - 1) 0 else p.getD i 0:=by
 simp only[Kq];rw[getElem?_bubble hk _ (by omega),show k - (k - l)=l by omega];by_cases h1:i=l
 ·rw[Pt h1,Pt h1]
 ·rw[Ps h1,Ps h1];by_cases h2:l<i/\i<=k
  ·rw[Pt h2,Pt h2]
  ·rw[Ps h2,Ps h2]
theorem Xd0(L:Lin n lt):∀f (p:Array Nat) k,Gd n p->k+f<=n->B8 lt p k->B8 lt (A4 lt (kas_bin f p k)) (k+f)
 | 0,p,k,_,_,so=>so
 | f+1,p,k,h,hk,so=>by
  have sz:=h.size;have e:A4 lt (kas_bin (f+1) p k)=A4 lt ((kas_place p k k 0 k).bind λl=>kas_bin f (bubble p k (k - l)) (k+1)):=rfl;rw[e,Fg];obtain⟨a1,a2,a3⟩:=Kr (lt:=lt) L h (k:=k) (by omega) so k 0 k (by omega) (by omega) (Li _) (λi z=>absurd z (Mz _)) (λi h1 h2=>by omega);generalize A4 lt (kas_place p k k 0 k)=l at *;have:=Xd0 L f (bubble p k (k - l)) (k+1) ((bubble_perm p k _).trans h) (by omega) (λi j hij hj=>by
   rw[Xdz (by omega) a1,Xdz (by omega) a1];by_cases i1:i=l
   ·rw[Pt i1,Ps (by omega),Pt (by omega)];exact a3 _ (by omega) (by omega)
   ·rw[Ps i1];by_cases i2:l<i/\i<=k
    ·rw[Pt i2,Ps (by omega),Pt (by omega)];exact so _ _ (by omega) (by omega)
    ·rw[Ps i2];by_cases j1:j=l
     ·rw[Pt j1];exact a2 i (by omega)
     ·rw[Ps j1];by_cases j2:l<j/\j<=k
      ·rw[Pt j2];by_cases z:i=j - 1
       ·omega
       ·exact so _ _ (by omega) (by omega)
      ·rw[Ps j2];exact so _ _ hij (by omega))
  rw[show k+(f+1)=k+1+f by omega];exact this
theorem Xkz(L:Lin n lt)(hn:0<n):B8 lt (A4 lt (kas_sort n)) n:=by
 unfold kas_sort;rw[Fg];obtain⟨m,p',e,h1,h2,h3,h4⟩:=Xky (lt:=lt) L (p:=List.toArray (List.range n)) (Array.Perm.refl _) hn;rw[e];dsimp only;by_cases hm:m<n
 ·rw[Pt hm];have:=Xd0 L (n - max m 1) p' (max m 1) h3 (by omega) (by rw[show max m 1=m by omega];exact h4)
  rwa [show max m 1+(n - max m 1)=n by omega] at this
 ·rw[Ps hm];have:m=n:=by omega
  subst this;exact h4
end
open PySem.W (KasT kas_asc kas_desc kas_rev kas_tail3 kas_descPart kas_count kas_place kas_bin kas_sort kas_ask kas_item kat_run kat_snds kat_kind kat_lt KatLex kat_cons kat_go kat_yes kat_no kat_one kat_nil KatTups)
def ltL:List Str->List Str->Bool
 | [],[]=>false
 | [],_::_=>true
 | _::_,[]=>false
 | x::a,y::b=>if x=y then ltL a b else decide (ltS x y)
theorem Ks:∀a,ltL a a=false
 | []=>rfl
 | x::a=>by
  show (if x=x then ltL a a else _)=false;rw[Pt rfl];exact Ks a
theorem Xd1:∀a b c,ltL a b=true->ltL b c=true->ltL a c=true
 | [],[],c,h,_=>by cases h
 | [],_::_,[],_,g=>by cases g
 | [],_::_,_::_,_,_=>rfl
 | _::_,[],_,h,_=>by cases h
 | _::_,_::_,[],_,g=>by cases g
 | x::a,y::b,z::c,h,g=>by
  have h:(if x=y then ltL a b else decide (ltS x y))=true:=h;have g:(if y=z then ltL b c else decide (ltS y z))=true:=g;show (if x=z then ltL a c else decide (ltS x z))=true;by_cases e1:x=y
  ·subst e1;rw[Pt rfl] at h;by_cases e2:x=z
   ·rw[Pt e2] at g ⊢;exact Xd1 a b c h g
   ·rw[Ps e2] at g ⊢;exact g
  ·rw[Ps e1] at h;by_cases e2:y=z
   ·subst e2;rw[Ps e1];exact h
   ·rw[Ps e2] at g;have q:=Ep (Px h) (Px g);rw[Ps (F3 q)];exact Pu q
theorem Xd2:∀a b,a≠b->ltL a b=true\/ltL b a=true
 | [],[],n=>absurd rfl n
 | [],_::_,_=>.inl rfl
 | _::_,[],_=>.inr rfl
 | x::a,y::b,n=>by
  show (if x=y then ltL a b else decide (ltS x y))=true\/(if y=x then ltL b a else decide (ltS y x))=true;by_cases e:x=y
  ·subst e;rw[Pt rfl,Pt rfl];exact Xd2 a b λz=>n (by rw[z])
  ·rw[Ps e,Ps (λz=>e z.symm)];rcases G4 x y with z | z
   ·exact .inl (Pu (ltS_of z e))
   ·exact .inr (Pu (ltS_of z λq=>e q.symm))
section
variable {prog:Program}{w:World}{A:Around}{E:Value->Shared->Prop}{s:Shared}
def Xd3 (h:Heap) (v:Value) (ss:List Str):Prop:=∃a o xs n,v = .ref a/\h.get? a=some o/\o.cls = .type "tuple" /\ o.data = .seq xs n/\StrsAre xs.toList ss
def TupsO (h:Heap) (vs:List Value) (Ts:List (List Str)):Prop:=vs.length=Ts.length/\∀i,i<vs.length->Xd3 h (vs.getD i .none) (Ts.getD i [])
end
section
variable {X:Cx}
end
theorem Xk0(x y:Str)(xs ys:List Str):ltL (x::xs) (y::ys)=if x=y then ltL xs ys else decide (ltS x y):=rfl
theorem Xk1:ltL [] []=false:=rfl
theorem Xk2(y:Str)(ys:List Str):ltL [] (y::ys)=true:=rfl
theorem Xk3(x:Str)(xs:List Str):ltL (x::xs) []=false:=rfl
theorem Xk4(A:Around)(s:Shared)(a:Str)(t:Tok)(c:Str)(u:Tok):∃e,SeqAt.EqAt A s (.str a t) (.str c u) e/\(e=true↔a=c):=
 ⟨(a==c),SeqAt.EqAt.str_str a t c u,by simp⟩
theorem Xk5(A:Around)(s:Shared)(a:Str)(t:Tok)(c:Str)(u:Tok)(prog:Program)(w:World)(E:Value->Shared->Prop)(Q:Value->Shared->Prop)(h:Q (.bool (decide (ltS a c))) s):
  wpAny (model prog w) A (richCompare .Lt (.str a t) (.str c u)) Q E s:=
 (PyProof.Rows.lt_str h:wpAny (model prog w) A (compareOp .Lt (.str a t) (.str c u)) Q E s)
section
open PySem.SeqAt
open PySem.AutoSeq1 (wpAny_loadPart')
open PySem.MeetsSeq PySem.MeetsSeq2 PySem.MeetsSeq3
theorem Xk6(l b:Addr)(items items2:Array Value)(n n2:Nat)(dd dd2:Option Addr)(sl sl2:Array (Option Value))(ns ms:List Str)(hi:StrsAre items.toList ns)(hj:StrsAre items2.toList ms):
  Meets (Builtin.«tuple.__lt__» ⟨[.ref l,.ref b],[]⟩)
   (λ_ R s=>s.heap.get? l=some {cls:=.type "tuple",dict:=dd,data:=.seq items n,slots:=sl}/\s.heap.get? b=some {cls:=.type "tuple",dict:=dd2,data:=.seq items2 n2,slots:=sl2} /\
    R (.ok (.ret (.bool (ltL ns ms)))) s):=
 .of_wp λprog w A R s h=>by
  obtain⟨hp,g,d,tk,os⟩:=s;obtain⟨hl,hb,h⟩:=h;have f2:=AutoSeq1.sub_tuple_tuple;have z1:items.size=ns.length:=by rw[<-hi.length];simp
  have z2:items2.size=ms.length:=by rw[<-hj.length];simp
  wp_walk using wpAny_loadPart' hl,wpAny_loadPart' hb,wpAny_forIn_list _ (λrest b s'=>b.1=none/\s'=⟨hp,g,d,tk,os⟩/\∃(vs ws:List Value) (ns' ms':List Str),rest=vs.zip ws /\
   StrsAre vs ns'/\StrsAre ws ms'/\ns'.length+items2.size=ms'.length+items.size/\R (.ok (.ret (.bool (ltL ns' ms')))) ⟨hp,g,d,tk,os⟩) _
  case turn=>
   rintro ⟨y,x⟩ rest b s' ⟨hb',rfl,vs,ws,ns',ms',hz,hvi,hwi,hlen,hR⟩;cases hvi with
   | nil=>rw[List.zip_nil_left] at hz;cases hz
   | cons a t hvi'=>
    cases hwi with
    | nil=>rw[List.zip_nil_right] at hz;cases hz
    | cons c u hwi'=>
     rw[List.zip_cons_cons] at hz;injection hz with hyx hrest
     injection hyx with hy hx
     subst hy hx;rw[Xk0] at hR;simp only[Lv] at hlen;obtain⟨e,he,hiff⟩:=Xk4 A.in1 ⟨hp,g,d,tk,os⟩ a t c u;refine Pp (he prog w _ _ ?_);cases e with
     | true=>
      rw[Pt (hiff.mp rfl)] at hR
      wp_walk
      exact⟨rfl,rfl,_,_,_,_,hrest,hvi',hwi',by omega,hR⟩
     | false=>
      rw[Ps (λq=>absurd (hiff.mpr q) L3)] at hR;have hri:=Xk5 A.in1 ⟨hp,g,d,tk,os⟩ a t c u prog w
      wp_walk using hri
      exact⟨_,rfl,by simpa using hR⟩
  case fin=>
   rintro ⟨b1,b2⟩ s' ⟨hb',rfl,vs,ws,ns',ms',hz,hvi,hwi,hlen,hR⟩;simp only at hb';subst hb';have hv:ltL ns' ms'=decide (items.size<items2.size):=by
    cases hvi with
    | nil=>
     cases hwi with
     | nil=>
      simp only[Nn] at hlen;rw[Xk1];exact(Pw (by omega)).symm
     | cons c u hw=>
      simp only[Nn,Lv] at hlen;rw[Xk2];exact(Pu (by omega)).symm
    | cons a t hv=>
     cases hwi with
     | nil=>
      simp only[Nn,Lv] at hlen;rw[Xk3];exact(Pw (by omega)).symm
     | cons c u hw=>
      rw[List.zip_cons_cons] at hz;cases hz
   rw[hv] at hR
   wp_walk
   exact⟨_,rfl,by simpa [Builtin.Tuple.tupleCompareSizes] using hR⟩
  case h=>
   exact⟨rfl,rfl,items.toList,items2.toList,ns,ms,rfl,hi,hj,by omega,h⟩
end
open PySem.W (KasT kas_sort kas_ask kas_item kat_run kat_snds kat_kind kat_lt KatLex kat_cons kat_go kat_yes kat_no kat_one kat_nil KatTups)
section
variable {prog:Program}{w:World}{A:Around}{E:Value->Shared->Prop}{s:Shared}
theorem Xk7{l b:Addr}{items items2:Array Value}{ns ms:List Str}{Q:Value->Shared->Prop}(hl:IsTup s.heap l items)(hb:IsTup s.heap b items2)(hi:StrsAre items.toList ns)(hj:StrsAre items2.toList ms)
  (hu:A.units<cLine) (h:Q (.bool (ltL ns ms)) s):wpAny (model prog w) A (compareOp .Lt (.ref l) (.ref b)) Q E s:=by
 obtain⟨⟨cls,dd,data,sl⟩,ho,hc,n,hd⟩:=id hl;obtain⟨⟨cls2,dd2,data2,sl2⟩,ho2,hc2,n2,hd2⟩:=id hb;simp only at hc hd hc2 hd2;subst hc hd hc2 hd2;exact richCompare_meets_room (op:=.Lt) ⟨_,ho,rfl⟩ ⟨_,ho2,rfl⟩ PySem.F.slot_tuple_lt PySem.F.entry_tuple_lt (PySem.F.args_tuple_lt_2 _ _) (Xk6 l b items items2 n n2 dd dd2 sl sl2 ns ms hi hj)
  ⟨ho,ho2,show Value.bool (ltL ns ms)≠Value.notImplemented/\Q (.bool (ltL ns ms)) s from ⟨(λx=>nomatch x),h⟩⟩ hu
def Cf (n:Nat) (a:List Str) (m:Nat) (b:List Str):Bool:=if n=m then ltL a b else decide (n<m)
theorem Xd4{vs:List Value}{ss:List Str}(h:StrsAre vs ss):ItemsAre (Au prog w) (ss.map Sum.inr) vs:=by
 induction h with
 | nil=>exact .nil
 | cons x t r ih=>exact .cons (show Dd (.inr x) (.str x t)=true by simp[Dd,Value.isStrOf]) ih
def Gi (h:Heap) (v:Value) (n:Nat) (ss:List Str):Prop:=∃a o xs k t u,v = .ref a/\h.get? a=some o/\o.cls = .type "tuple" /\ o.data = .seq xs k/\xs.toList=[.int n t,u]/\Xd3 h u ss
theorem Xk8{x y:Value}{n m:Nat}{as bs:List Str}{C:Bool->Shared->Prop}(hu:A.units<cLine)(hx:Gi s.heap x n as)(hy:Gi s.heap y m bs)(h:C (Cf n as m bs) s):wpAny (model prog w) A (keyLt' (tuples' true) x y) C E s:=by
 obtain⟨a,o,xs,k,t,u,rfl,h1,h2,h3,h4,h5⟩:=hx;obtain⟨b,o',ys,k',t',u',rfl,g1,g2,g3,g4,g5⟩:=hy;refine kat_lt h1 h3 g1 g3 ?_;rw[h4,g4];have ef:decide (xs.size<ys.size)=false:=by
  have e1:xs.size=2:=by rw[<-Ln,h4];rfl
  have e2:ys.size=2:=by rw[<-Ln,g4];rfl
  rw[e1,e2];decide
 rw[ef];show KatLex prog w A true false C [(.int n t,.int m t'),(u,u')] 0 s;unfold Cf at h;refine kat_cons (wpAny_eqBool_int ?_);refine kat_go (λe=>kat_yes ?_) (λe=>kat_no ?_)
 ·have e:n=m:=by have:=Px e;omega
  rw[Pt e] at h;obtain⟨c,oc,cs,kc,rfl,c1,c2,c3,c4⟩:=h5;obtain⟨d,od,ds,kd,rfl,d1,d2,d3,d4⟩:=g5;refine kat_cons (wpAny_eqBool_tuple (knd:=Au prog w) hu ⟨oc,cs,kc,c1,c2,c3,Xd4 c4⟩ ⟨od,ds,kd,d1,d2,d3,Xd4 d4⟩ ?_);refine kat_go (λe2=>kat_yes (kat_nil ?_)) (λe2=>kat_no ?_)
  ·have e2:as=bs:=by
    have:=Px e2;exact Ou (λ_ _ q=>Nl q) |>.mp this
   rw[e2,Ks] at h;exact h
  ·exact kat_one _ _ (Xk7 ⟨oc,c1,c2,kc,c3⟩ ⟨od,d1,d2,kd,d3⟩ c4 d4 hu h)
 ·have e:¬n=m:=λz=>by
   have:=Py e;omega
  rw[Ps e] at h;refine oneLt_int ?_;have:decide ((n:Int)<(m:Int))=decide (n<m):=by simp
  rw[this];exact h
end
open PySem.W (KasT kas_sort kas_ask kas_item kat_run kat_snds kat_kind KatTups)
section
variable {X:Cx}{pins:List (Addr×Obj)}{σ:List (Option V)}{H:Hp}{s:Shared}
theorem Inv.unpin{p:Addr×Obj}(I:Inv X (p::pins) σ H s):Inv X pins σ H s:=
 I.pins_of λq hq=>I.pin q (L7 _ (Lh _ hq))
theorem Xk9{D:Addr}{e1:Nat}{ys:List V}{out:List Value}(I:Inv X ((D,seqObj "list" #[] e1)::pins) σ H s)(hD:X.s₀.heap.objs.size<=D)(hnp:∀p∈X.pn++pins,p.1≠D)(hv:Vals ys out)(hz:ys.length<=sizeLine):
  Inv X pins σ (upd H D (.lst ys)) {s with heap:=s.heap.update D (Obj.mapSeq λ_=>out.toArray)}:=by
 obtain⟨hg,hn,hl,hf,_⟩:=I.pin (D,seqObj "list" #[] e1) (L7 _ Lj);have J:=I.unpin;have sb:=P1 s.heap D (Obj.mapSeq λ_=>out.toArray);obtain⟨c2,hc2⟩:∃c2,(s.heap.update D (Obj.mapSeq λ_=>out.toArray)).get? D=some (seqObj "list" out.toArray c2):=⟨_,get?_update_seq hg λ_=>out.toArray⟩;have kp:∀b o,b≠D->s.heap.get? b=some o->(s.heap.update D (Obj.mapSeq λ_=>out.toArray)).get? b=some o:=λb o n e=>(sb.2 b n).trans e;have nD:∀b u,H b=some u->b≠D:=λb u e z=>by rw[z,hn] at e;cases e
 have up:∀b u,H b=some u->(upd H D (.lst ys)) b=some u:=λb u e=>by rw[Ac (nD b u e)];exact e
 refine J.step (g':=s.gens) (d':=s.drawn) (t':=s.toks) (ch:=[D]) (λb hb=>?_) (λb o _ _ hc e _=>kp b o (λz=>hc (by rw[z];exact M9 _)) e) (λb o _ _ hc e _=>⟨o.slots,kp b o (λz=>hc (by rw[z];exact M9 _)) e⟩)
  (λb o hc e n=>?_) (λb o hc e=>⟨o,kp b o (λz=>hc (by rw[z];exact M9 _)) e⟩) (λb xs e=>up b _ e) (λb o u e=>up b _ e) (λb pz e=>⟨#[],by rw[up b _ e];simp⟩) (λm hm=>hm.sameBut sb (Ne.symm hl)) ?_ J.bare
 ·rw[Lk.mp hb];refine⟨.inr hD,hl,λx c e z=>?_,λp hp=>hnp p hp⟩;obtain⟨v,o,ho,hd⟩:=J.cell x c e;rw[z,hg] at ho;cases ho;cases hd
 ·rw[Ac (λz=>hc (by rw[z];exact M9 _))];exact n
 ·intro b u e;by_cases z:b=D
  ·subst z;rw[Ab] at e;cases e;exact⟨hz,out,c2,hv,hc2⟩
  ·rw[Ac z] at e;refine(J.hok b u e).stay (λd v hd g=>kp d v ?_ g) (λd g=>up d _ g) λd xs g=>up d _ g;rcases hd with rfl | hd
   ·exact z
   ·exact nD d _ hd
end
open PySem.W (KasT kas_sort kas_ask kas_item kat_run kat_snds kat_kind KatTups)
def Dr (Ts:List (List Str)) (i j:Nat):Bool:=Cf (Ts.getD i []).length (Ts.getD i []) (Ts.getD j []).length (Ts.getD j [])
theorem Xd5(n:Nat)(a:List Str):Cf n a n a=false:=by unfold Cf;rw[Pt rfl];exact Ks a
theorem Xla{n m k:Nat}{a b c:List Str}(h:Cf n a m b=true)(g:Cf m b k c=true):Cf n a k c=true:=by
 unfold Cf at *;by_cases e1:n=m
 ·rw[Pt e1] at h;by_cases e2:m=k
  ·rw[Pt e2] at g;rw[Pt (e1.trans e2)];exact Xd1 _ _ _ h g
  ·rw[Ps e2] at g;rw[Ps (by omega)];have:=Px g;exact Pu (by omega)
 ·rw[Ps e1] at h;have h:=Px h;by_cases e2:m=k
  ·rw[Ps (by omega)];exact Pu (by omega)
  ·rw[Ps e2] at g;have g:=Px g;rw[Ps (by omega)];exact Pu (by omega)
theorem Xlb{n m:Nat}{a b:List Str}(h:a≠b):Cf n a m b=true\/Cf m b n a=true:=by
 unfold Cf;by_cases e:n=m
 ·rw[Pt e,Pt e.symm];exact Xd2 _ _ h
 ·rw[Ps e,Ps (Ne.symm e)];rcases Nat.lt_or_ge n m with z | z
  ·exact .inl (Pu z)
  ·exact .inr (Pu (by omega))
theorem linP{Ts:List (List Str)}(nd:Ts.Nodup):Lin Ts.length (Dr Ts) where
 irr i:=Xd5 _ _
 tr i j k:=Xla
 tot i j hi hj ne:=Xlb λe=>ne (by
  have e1:Ts.getD i []=Ts[i]:=by simp[List.getD,hi]
  have e2:Ts.getD j []=Ts[j]:=by simp[List.getD,hj]
  rw[e1,e2] at e;exact(List.getElem_inj nd).mp e)
def Turns (X:Cx) (f:Addr) (H:Hp) (ps:List Addr) (Ts:List (List Str)):Prop:=
 ∀(pins:List (Addr×Obj)) (σ:L2.St) (s1:Shared) (H1:Hp) (i:Nat),i<ps.length->Same H H1->Inv X pins σ H1 s1 ->
  wpAny (model X.prog X.w) X.A.in1.in1 (call (.ref f) [.ref (ps.getD i 0)]) (λu s'=>∃t H2,u = .ref t/\Inv X pins σ H2 s'/\H2 t=some (.tup [.int (Ts.getD i []).length,.ref (ps.getD i 0)])/\Same H1 H2) (λ_ _=>False) s1
section
variable {X:Cx}{pins:List (Addr×Obj)}{σ:L2.St}{H:Hp}{s:Shared}
theorem Xlc{t p:Addr}{n:Nat}{ss:List Str}(I:Inv X pins σ H s)(ht:H t=some (.tup [.int n,.ref p]))(hp:H p=some (.tup (ss.map V.str))):Gi s.heap (.ref t) n ss:=by
 obtain⟨its,r,⟨o,ho,hc,k,hd⟩,_⟩:=I.tuple (SqT.of (K:=X.K) ht);obtain⟨its2,r2,⟨o2,ho2,hc2,k2,hd2⟩,_⟩:=I.tuple (SqT.of (K:=X.K) hp);cases r with
 | cons r1 r'=>
  cases r' with
  | cons r2' r''=>
   cases r'';obtain⟨tk,rfl⟩:∃tk,_=Value.int n tk:=r1;cases r2';exact⟨t,o,_,k,tk,.ref p,rfl,ho,hc,hd,rfl,p,o2,_,k2,rfl,ho2,hc2,hd2,by simpa using Jj r2⟩
theorem Xd6{D kS:Addr}{e1:Nat}{ks:List V}{st:SortSt}{out:List Addr}{A:Around}{E:Value->Shared->Prop}{P:PySem.Fin->Shared->Prop}(I:Inv X ((D,seqObj "list" #[] e1)::pins) σ H s)(hD:X.s₀.heap.objs.size<=D)(hnp:∀p∈X.pn++pins,p.1≠D)
  (hk:H kS=some (.lst ks)) (ho:(arrOf st).map (·.2)=(out.map Value.ref).toArray) (hf:failedOf st=none) (hz:out.length<64) (h:∀s',Inv X pins σ (upd (upd H kS (.lst [])) D (.lst (out.map V.ref))) s'->P (.done (.ret .none)) s'):
  wpAny (model X.prog X.w) A (ksk_tail D false e1 (.ref kS) st) P E s:=by
 obtain⟨z,its,n,r,hl,e⟩:=I.lstM hk;have J:=I.lset (its':=[]) (f:=λ_ => #[]) (ys:=[]) (t':=s.toks) hk e rfl .nil (by decide);unfold ksk_tail
 try dsimp only
 rw[ho];simp only[L8,if_false];refine Pp (listUpdate_at e rfl ?_ (by rw[Lq,<-hl];exact z) (Mf _));refine Pp (wpAny_letGo ?_);obtain⟨hg,_⟩:=J.pin (D,seqObj "list" #[] e1) (L7 _ Lj);refine Pp (seqEpoch_at hg rfl ?_);refine Pp (listUpdate_at hg rfl ?_ (Mf _) (by rw[Lq,Lf,Pr];omega));rw[hf];simp only[bne_self_eq_false,L8,if_false];refine Pq (h _ ?_);have vr:Vals (out.map V.ref) (out.map Value.ref):=by
  clear ho hz h
  induction out with
  | nil=>exact .nil
  | cons p t ih=>exact .cons rfl ih
 exact Xk9 J hD hnp vr (by rw[Lf,Pr];omega)
theorem Xld{D kS:Addr}{e1:Nat}{ks:List V}{ps:List Addr}{Ts:List (List Str)}{its:List Value}{A:Around}{E:Value->Shared->Prop}{P:PySem.Fin->Shared->Prop}(I:Inv X ((D,seqObj "list" #[] e1)::pins) σ H s)(hu:A.units<cLine)(hD:X.s₀.heap.objs.size<=D)(hnp:∀p∈X.pn++pins,p.1≠D)
  (hk:H kS=some (.lst ks)) (hlen:its.length=ps.length) (hT:ps.length=Ts.length) (nd:Ts.Nodup) (hp:∀i,i<ps.length->Gi s.heap (its.getD i .none) (Ts.getD i []).length (Ts.getD i [])) (h64:ps.length<64)
  (h:∀(p:Array Nat) s',Gd ps.length p->B8 (Dr Ts) p ps.length->Inv X pins σ (upd (upd H kS (.lst [])) D (.lst ((p.toList.map λi=>ps.getD i 0).map V.ref))) s'->P (.done (.ret .none)) s'):
  wpAny (model X.prog X.w) A (ksk_end D false (ps.map Value.ref).toArray e1 (.ref kS) its.toArray) P E s:=by
 have hsz:(ps.map Value.ref).toArray.size=ps.length:=by simp
 have L:=linP nd;rw[<-hT] at L;have outs:∀p:Array Nat,Gd ps.length p->(p.toList.map λi=>(ps.map Value.ref).getD i Value.none)=((p.toList.map λi=>ps.getD i 0).map Value.ref):=λp g=>by
  rw[Mb];refine Mu λi hi=>?_;have hi':i<ps.length:=by
   have:=(Array.perm_iff_toList_perm.mp g).mem_iff.mp hi;simpa using this
  simp[List.getD,hi']
 unfold ksk_end
 try dsimp only
 simp only[L8,if_false];by_cases h2:(ps.map Value.ref).toArray.size<2
 ·rw[Pt h2,Pt h2];refine Pp (Pq ?_);rw[StateT.run_pure];refine Pp (Pq ?_)
  try dsimp only
  have g0:Gd ps.length (List.toArray (List.range ps.length)):=Array.Perm.refl _;refine Xd6 (st:=SortSt.mk' general' (its.toArray.zip (ps.map Value.ref).toArray) #[] 7 none) (out:=(List.toArray (List.range ps.length)).toList.map λi=>ps.getD i 0) I hD hnp hk ?_ rfl (by simpa using h64) λs' J=>h _ s' g0 (λi j hij hj=>by omega) J;rw[<-outs _ g0];show ((its.toArray.zip (ps.map Value.ref).toArray).map (·.2))=_;apply Array.toList_inj.mp;simp only[Array.toList_map,List.zip_toArray];rw[List.map_snd_zip (by simp[hlen])];refine List.ext_getElem (by simp) λi h1 h2=>?_;simp[List.getD] at h1 ⊢;simp[h1]
 ·rw[Ps h2,Ps h2];have fst:∀(l:List Value) (q:∀v∈l,∃n ss,Gi s.heap v n ss),∃fs,KatTups s.heap l fs/\fs.length=l.length/\∀f∈fs,∃(x:Int) (t:Tok),f = .int x t:=by
   intro l
   induction l with
   | nil=>exact λ_=>⟨[],KatTups.nil,rfl,λ_ h=>by cases h⟩
   | cons v l ih=>
    intro q;obtain⟨fs,t1,t2,t3⟩:=ih λu hm=>q u (Lh _ hm);obtain⟨n,ss,a,o,xs,k,t,u,rfl,g1,g2,g3,g4,_⟩:=q v Lj;refine⟨.int n t::fs,KatTups.cons g1 g2 g3 ?_ t1,by simp[t2],λf hf=>?_⟩
    ·have:xs[0]? = xs.toList[0]?:=by simp
     rw[this,g4];rfl
    ·rcases Lo.mp hf with e | e
     ·exact⟨_,_,e⟩
     ·exact t3 f e
  obtain⟨fs,t1,t2,t3⟩:=fst its λv hv=>by
   obtain⟨i,hi,rfl⟩:=Mv.mp hv;have:=hp i (by omega);have e:its.getD i .none=its[i]:=by simp[List.getD,hi]
   rw[e] at this;exact⟨_,_,this⟩
  refine Pp (kat_kind (T:=.type "int") t1 (by omega) (λv hm=>?_) (by decide) ?_)
  ·obtain⟨x,t,rfl⟩:=t3 v hm;exact .now
  have eb:((Value.type "int") != Value.type "tuple")=true:=by decide
  rw[eb];refine Pp (wpAny_mono (kat_run (κ:=tuples' true) (ks:=its) (vs:=ps.map Value.ref) (Q:=λst' s'=>s'=s/\failedOf st'=none/\∃p,Gd ps.length p/\B8 (Dr Ts) p ps.length/\(arrOf st').map (·.2)=(p.toList.map λi=>(ps.map Value.ref).getD i Value.none).toArray)
   (G:=λp s'=>s'=s/\Gd ps.length p/\B8 (Dr Ts) p ps.length) (by simp[hlen]) (by rw[Lf];omega) (by rw[Lf];exact h64) (λp st' s' a1 a2 a3 a4=>⟨a4.1,a3,p,a4.2.1,a4.2.2,kat_snds (by simp[hlen]) a2⟩) ?_) ?_ λ_ _ e=>e)
  ·rw[Lf];refine Xdv (n:=ps.length) (lt:=Dr Ts) (λi j C hi hj hC=>?_) (Xdr (n:=ps.length) (by omega)) ⟨rfl,(Xdr (n:=ps.length) (by omega)).run,Xkz L (by omega)⟩;show wpAny _ _ (keyLt' (tuples' true) (its.getD i Value.none) (its.getD j Value.none)) C _ _;exact Xk8 hu (hp i hi) (hp j hj) hC
  rintro ⟨⟨⟩,st'⟩ s' ⟨rfl,hf,p,g,so,ea⟩
  try dsimp only
  refine Xd6 (out:=p.toList.map λi=>ps.getD i 0) I hD hnp hk (by rw[ea,outs p g]) hf (by rw[Lf,Ln,g.size];exact h64) λs' J=>h p s' g so J
end
section
variable {X:Cx}{pins:List (Addr×Obj)}{σ:L2.St}{H:Hp}{s:Shared}
theorem Xle{D kS f:Addr}{e1:Nat}{ps:List Addr}{Ts:List (List Str)}{A:Around}{E:Value->Shared->Prop}{P:PySem.Fin->Shared->Prop}(hA:A=X.A.in1.in1)(I:Inv X ((D,seqObj "list" #[] e1)::pins) σ (upd H kS (.lst [])) s)(hkS:H kS=none)(hu:A.units<cLine)(hD:X.s₀.heap.objs.size<=D)(hnp:∀p∈X.pn++pins,p.1≠D)(hDn:H D=none)
  (hT:Tups H ps Ts) (nd:Ts.Nodup) (h64:ps.length<64) (turn:Turns X f H ps Ts)
  (h:∀(p:Array Nat) (H':Hp) s',Gd ps.length p->B8 (Dr Ts) p ps.length->Same H H'->H' D=some (.lst ((p.toList.map λi=>ps.getD i 0).map V.ref))->Inv X pins σ H' s'->P (.done (.ret .none)) s'):
  wpAny (model X.prog X.w) A (ksk_rest D (.ref f) false (ps.map Value.ref).toArray e1 (.ref kS)) P E s:=by
 subst hA;unfold ksk_rest;refine Pp (wpAny_rule ?_)
 first
  | rw[List.forIn_toArray]
  | (rw[<-Ov];simp only[List.toList_toArray])
  | rw[<-Ov]
 refine Pp (ksk_fold (λi s'=>∃(H':Hp) (ks:List V),Inv X ((D,seqObj "list" #[] e1)::pins) σ H' s'/\Same H H'/\H' kS=some (.lst ks)/\ks.length=i/\∀j,j<i->∃t,ks[j]? = some (.ref t)/\H' t=some (.tup [.int (Ts.getD j []).length,.ref (ps.getD j 0)])) (ps.map Value.ref) 0 s
  ⟨_,[],I,Same.upd0 hkS,Ab,rfl,λj hj=>absurd hj (Mz _)⟩ ?step ?done)
 case step=>
  rintro j x s' hx ⟨H',ks,J,sm,hk,hkl,hks⟩;simp only[O1] at hkl hks ⊢;obtain⟨hj,ex⟩:=L9.mp hx;rw[Lf] at hj;have ex':x = .ref (ps.getD j 0):=by rw[<-ex];simp[List.getD,hj]
  subst ex';refine Pp (wpAny_attempt (wpAny_mono (turn _ σ s' H' j hj sm J) (λv s'' he=>?_) λ_ _ hF=>hF.elim));obtain⟨t,H2,rfl,J2,ht,sm2⟩:=he
  try dsimp only
  have hk2:=sm2 _ _ hk;obtain⟨z,its,n,r,hl,e⟩:=J2.lstM hk2;have ntk:t≠kS:=λq=>by rw[q,hk2] at ht;cases ht
  refine Pp (listUpdate_at e rfl ?_ (by rw[Lq,<-hl];exact z) (by rw[Array.size_push,Lq,<-hl,hkl,Pr];omega));refine Pq ⟨rfl,_,ks++[.ref t],J2.lset (ys:=ks++[.ref t]) (its':=its++[.ref t]) (t':=s''.toks) hk2 e (by simp) (r.append (.cons (show Af (.ref t) (.ref t) from rfl) .nil)) (by rw[Lp,Mx,hkl,Pr];omega),(sm.trans sm2).upd hkS,Ab,by simp[hkl],λi hi=>?_⟩;by_cases q:i=j
  ·subst q;exact⟨t,by rw[My (by omega),hkl];simp,by rw[Ac ntk];exact ht⟩
  ·obtain⟨t',a1,a2⟩:=hks i (by omega);refine⟨t',by rw[M4 (by omega)];exact a1,?_⟩;rw[Ac λq=>by rw[q,hk] at a2;cases a2];exact sm2 _ _ a2
 case done=>
  rintro s' ⟨H',ks,J,sm,hk,hkl,hks⟩;simp only[O1,Lf] at hkl hks
  try dsimp only
  obtain⟨z,its,n,r,hl,e⟩:=J.lstM hk;refine Pp (listItems_at e rfl ?_);have hTs:=hT.same sm;have nkD:kS≠D:=λq=>by
   obtain⟨_,hn,_⟩:=J.pin (D,seqObj "list" #[] e1) (L7 _ Lj);have hn:H' D=none:=hn;rw[<-q,hk] at hn;cases hn
  refine Xld (ks:=ks) J hu hD hnp hk (by omega) hT.1 nd (λi hi=>?_) h64 λp s2 g so J2=>h p _ s2 g so ((sm.upd hkS).upd hDn) Ab J2;obtain⟨t,a1,a2⟩:=hks i hi;obtain⟨u,hu1,hu2⟩:=r.get a1;have hu2:u=Value.ref t:=hu2;have e2:its.getD i .none = .ref t:=by simp[List.getD,hu1,hu2]
  rw[e2];exact Xlc J a2 (hTs.2 i hi)
theorem Xlf{l f:Addr}{ps:List Addr}{Ts:List (List Str)}{Q:VK}(I:Inv X pins σ H s)(hu:X.A.in1.in1.units<cLine)(hl:H l=some (.lst (ps.map V.ref)))(hT:Tups H ps Ts)(nd:Ts.Nodup)(h64:ps.length<64)(turn:Turns X f H ps Ts)
  (h:∀(D:Addr) (p:Array Nat) (H':Hp),H D=none->Gd ps.length p->B8 (Dr Ts) p ps.length->Same H H'->H' D=some (.lst ((p.toList.map λi=>ps.getD i 0).map V.ref))->Q (.ref D) H'):
  wpAny (model X.prog X.w) X.A (call (.builtin "sorted") [.ref l] [(Str.ofString "key",.ref f)]) (EP X pins σ Q) X.xe s:=by
 obtain⟨its,rv,pl,hz⟩:=I.list (SqL.of hl);have hits:its=ps.map Value.ref:=by
  clear hT h64 turn h pl hl hz
  induction ps generalizing its with
  | nil=>cases rv;rfl
  | cons p t ih=>
   cases rv with
   | cons r t'=>cases r;rw[ih _ t'];rfl
 subst hits;refine call_function_entry_kw kind_sorted plain_sorted entry_sorted (ksk_s1 _ _) ?_;unfold Builtin.«sorted»;refine Pp (m:=checkCount "sorted" 1 1 _) (Pq ?_);refine Pp (collect_list pl.isList ?_ (by rw[Lf,Pr];omega));refine Pp (wpAny_newList ?_ (by rw[Lf,Pr];omega));generalize hvs:ps.map Value.ref=vs at *;have hvl:vs.length=ps.length:=by rw[<-hvs,Lf]
 have hsz:((s.heap.push (seqObj "list" #[] 0)).update s.heap.objs.size (Obj.mapSeq (· ++ vs.toArray))).objs.size=s.heap.objs.size+1:=by
  rw[Heap.size_update,size_push']
 have hoL:(((s.heap.push (seqObj "list" #[] 0)).update s.heap.objs.size (Obj.mapSeq (· ++ vs.toArray))).push (seqObj "list" vs.toArray 0)).get? (s.heap.objs.size+1)=some (seqObj "list" vs.toArray 0):=by
  rw[<-hsz];exact Heap.get?_push_size _ rfl
 have keep:∀b o,s.heap.get? b=some o->(((s.heap.push (seqObj "list" #[] 0)).update s.heap.objs.size (Obj.mapSeq (· ++ vs.toArray))).push (seqObj "list" vs.toArray 0)).get? b=some o:=λb o q=>by
  have hlt:b<s.heap.objs.size:=Pz q;rw[Heap.get?_push_ne _ _ _ (by rw[hsz];exact Ll (Nf hlt)),Heap.get?_update_ne _ _ _ _ (Ll hlt),Heap.get?_push_ne _ _ _ (Ll hlt)];exact q
 have hszA:(((s.heap.push (seqObj "list" #[] 0)).update s.heap.objs.size (Obj.mapSeq (· ++ vs.toArray))).push (seqObj "list" vs.toArray 0)).objs.size=s.heap.objs.size+2:=by
  rw[size_push',hsz]
 show wpAny _ _ _ _ _ {s with heap:=((s.heap.push (seqObj "list" #[] 0)).update s.heap.objs.size (Obj.mapSeq (· ++ vs.toArray))).push (seqObj "list" vs.toArray 0)};rw[hsz];generalize hhA:((s.heap.push (seqObj "list" #[] 0)).update s.heap.objs.size (Obj.mapSeq (· ++ vs.toArray))).push (seqObj "list" vs.toArray 0)=hA at *;refine Pp (wpAny_holding (wpAny_call_entry_kw slot_list_sort ⟨_,hoL,rfl⟩ entry_list_sort ?body (ksk_l1 _ _)))
 case body=>
  show wpAny (model X.prog X.w) X.A.in1.in1 (Builtin.«list.sort» ⟨[.ref (s.heap.objs.size+1)],[(Str.ofString "key",.ref f)]⟩) _ _ _;rw[ksk_t1];unfold ksk_tree;refine Pp (listItems_at hoL rfl ?_);refine Pp (listUpdate_at hoL rfl ?_ (by rw[Lq,hvl,Pr];omega) (Mf _));obtain⟨e1,ho1⟩:∃e1,(hA.update (s.heap.objs.size+1) (Obj.mapSeq λ_=>(#[]:Array Value))).get? (s.heap.objs.size+1)=some (seqObj "list" #[] e1):=⟨_,get?_update_seq hoL λ_ => #[]⟩;refine Pp (seqEpoch_at ho1 rfl ?_);refine Pp (wpAny_newTuple ?_ (by show vs.length<=_;rw[hvl,Pr];omega));refine Pp (wpAny_newList ?_ (Mf _));refine wpAny_holding ?_;have hkS:((hA.update (s.heap.objs.size+1) (Obj.mapSeq λ_=>(#[]:Array Value))).push (seqObj "tuple" vs.toArray 0)).objs.size=s.heap.objs.size+3:=by rw[size_push',Heap.size_update,hszA]
  have k6:∀b o,s.heap.get? b=some o->(((hA.update (s.heap.objs.size+1) (Obj.mapSeq λ_=>(#[]:Array Value))).push (seqObj "tuple" vs.toArray 0)).push (seqObj "list" #[] 0)).get? b=some o:=λb o e=>by
   refine P0 _ (P0 _ ?_);rw[Heap.get?_update_ne _ _ _ _ (Ll (Nf (Pz e)))];exact keep b o e
  have ho6:(((hA.update (s.heap.objs.size+1) (Obj.mapSeq λ_=>(#[]:Array Value))).push (seqObj "tuple" vs.toArray 0)).push (seqObj "list" #[] 0)).get? (s.heap.objs.size+1)=some (seqObj "list" #[] e1):=P0 _ (P0 _ ho1);have hk6:(((hA.update (s.heap.objs.size+1) (Obj.mapSeq λ_=>(#[]:Array Value))).push (seqObj "tuple" vs.toArray 0)).push (seqObj "list" #[] 0)).get? (s.heap.objs.size+3)=some (seqObj "list" #[] 0):=by rw[<-hkS];exact Heap.get?_push_size _ rfl
  have J0:Inv X pins σ (upd H (s.heap.objs.size+3) (.lst [])) {s with heap:=((hA.update (s.heap.objs.size+1) (Obj.mapSeq λ_=>(#[]:Array Value))).push (seqObj "tuple" vs.toArray 0)).push (seqObj "list" #[] 0)}:=
   I.laid (t':=s.toks) (o:=.lst []) k6 (by omega) ⟨by decide,[],0,.nil,hk6⟩
  have hDn:H (s.heap.objs.size+1)=none:=I.hok.fresh (Np _);have hnp:∀p∈X.pn++pins,p.1≠s.heap.objs.size+1:=λp hp=>Ll (Nf (Pz (I.pin p hp).1));have J1:Inv X ((s.heap.objs.size+1,seqObj "list" #[] e1)::pins) σ (upd H (s.heap.objs.size+3) (.lst [])) {s with heap:=((hA.update (s.heap.objs.size+1) (Obj.mapSeq λ_=>(#[]:Array Value))).push (seqObj "tuple" vs.toArray 0)).push (seqObj "list" #[] 0)}:=by
   refine J0.pins_of λp hp=>?_;rcases Lo.mp hp with rfl | hp
   ·exact⟨ho6,by rw[Ac (by show s.heap.objs.size+1≠s.heap.objs.size+3;omega)];exact hDn,Oz (Nf I.lt),I.nofs (Np _),λv q=>by cases q⟩
   ·exact J0.pin p (L7 _ hp)
  rw[hkS];subst hvs;refine Xle (f:=f) rfl J1 (I.hok.fresh (by omega)) hu (Mh I.sz (Np _)) hnp hDn hT nd h64 turn λp H' s' g so sm hD' J=>⟨_,rfl,?_⟩;exact Pq ⟨_,rfl,⟨.ref (s.heap.objs.size+1),H',J,rfl,h _ p H' hDn g so sm hD'⟩⟩
end
structure FunT (K:PySem.W.Frag) (x:Str) (st:Stmt) (f:Addr) (fd:FuncData) (T:Addr):Prop where
 ex:∃(oc:Value) (od:Option Addr) (kV doc pm:Value) (an:Option Addr) (c0:Addr) (ct:Value) (osl:Array (Option Value)),
  fd=PySem.W.fnOf x x (Dh st) (Cd st) (Ak st) .none kV doc pm an (.ref c0) ct/\K.lookup f=some ⟨oc,od,.func fd,osl⟩/\PySem.W.codeIn K (.ref c0) x=true/\PySem.W.codeHdIn K c0 T=true
 kp:PySem.W.keepIn K (.ref f)=true
structure DefT (K:PySem.W.Frag) (x:Str) (st:Stmt) (T:Addr):Prop where
 ex:∃f fd,PySem.W.nsIn K mainGlobals x=some (some (.ref f))/\PySem.W.keepIn K (.ref f)=true/\FunT K x st f fd T/\Fun K x x st f fd
theorem DefT.of{K:PySem.W.Frag}{x:Str}{st:Stmt}{f c0 T:Addr}{oc:Value}{od an:Option Addr}{osl:Array (Option Value)}{kV doc pm ct:Value}(a:PySem.W.nsIn K mainGlobals x=some (some (.ref f)))
  (l:K.lookup f=some ⟨oc,od,.func (PySem.W.fnOf x x (Dh st) (Cd st) (Ak st) .none kV doc pm an (.ref c0) ct),osl⟩) (c:PySem.W.codeIn K (.ref c0) x=true) (k:PySem.W.keepIn K (.ref f)=true) (t:PySem.W.codeHdIn K c0 T=true):DefT K x st T:=
 ⟨⟨f,_,a,k,⟨⟨oc,od,kV,doc,pm,an,c0,ct,osl,rfl,l,c,t⟩,k⟩,Xbi l c k⟩⟩
section
variable {P:Program}{w:World}{K:PySem.W.Frag}{mg:Str->Option Value}{base:Heap}
theorem FunT.ok{x:Str}{st:Stmt}{f T:Addr}{fd:FuncData}{N ps:List Str}{k:Nat}{sp:Sp}(F:FunT K x st f fd T)(S:FnScope N ps (Ak st))(len:∀vs H Q E,sp vs H Q E->vs.length=ps.length)
  (hbody:∀(c0:Addr),PySem.W.codeHdIn K c0 T=true->∀(A:Around) (outer:List Env) (s:Shared) (H:Hp) (vs:List V) (Q:VK) (E:XK),Room k (A.deeper (envOfC x (Ak st) s.heap.objs.size f (.ref c0)))->sp vs H Q E ->
   ∃t,PSs (B6 CX0 P w K mg base N x (Ak st) f (.ref c0) A outer s H E).nox (Cd st) t/\t {nx:=λ_ H'=>Q .non H',rt:=Q} (start N vs) H):FnOk P w K mg base CX0 (k+1) f fd ps sp:=by
 obtain⟨oc,od,kV,doc,pm,an,c0,ct,osl,rfl,lk,hcd,hhd⟩:=F.ex;refine Iq lk hcd S len λA outer s H vs Q E hr hsp=>?_;obtain⟨t,h,q⟩:=hbody c0 hhd A outer s H vs Q E hr hsp;exact⟨t,h.nox,q⟩
end
section
variable {X:Cx}
def Xlg (X:Cx) (ta tk:TA):TE:=fun σ H Q=>ta σ H λvs H1=>tk σ H1 λzs H2=>∃(l f:Addr) (ps:List Addr) (Ts:List (List Str)),vs=[.ref l]/\zs=[.ref f]/\H2 l=some (.lst (ps.map V.ref))/\Tups H2 ps Ts/\Ts.Nodup/\ps.length<64/\Turns X f H2 ps Ts /\
 ∀(D:Addr) (p:Array Nat) (H':Hp),H2 D=none->Gd ps.length p->B8 (Dr Ts) p ps.length->Same H2 H'->H' D=some (.lst ((p.toList.map λi=>ps.getD i 0).map V.ref))->Q (.ref D) H'
theorem Xlh{x:Str}{p pos:Pos}{e:Expr}{es:List Expr}{kws:List Keyword}{ta tk:TA}(hu:X.A.in1.in1.units<cLine)(hg:Gl X x)(hm:X.mg x=none)(hv:bootBuiltins x=some (.builtin "sorted"))(ha:PA X (e::es) ta)(hkw:PK X kws tk)
  (hks:(backToKw pos (keywordEach kws X.env)).filterMap (·.1)=[Str.ofString "key"]:=by rfl)
  (hn:x ≠ "__name__" := by decide) (hdb:(x==("__debug__" : Str))=false:=by decide)
  (he:backTo pos (starEach (e::es) X.env)=(false,eval e X.env)::backTo pos (starEach es X.env):=by rfl)
  (hplain:(backTo pos (starEach (e::es) X.env)).any (·.1)=false:=by rfl)
  (hall:(backToKw pos (keywordEach kws X.env)).all (·.1.isSome)=true:=by rfl)
  (hno:(backToKw pos (keywordEach kws X.env)).any (·.1.isNone)=false:=by rfl):PE X (.Call (.Name x p) (e::es) kws pos) (Xlg X ta tk):=by
 intro pins s σ H Q I h;refine wpAny_Call_Name_kw (Fl I hg hm hv ?_ hn hdb);refine callWith_kw (thn (ha pos pins s σ H _ I h) λus s1 ⟨vs,H1,I1,r1,q1⟩=>thn (hkw pos pins s1 σ H1 _ I1 q1) λws s2 ⟨zs,H2,I2,r2,q2⟩=>?_) he hplain hall hno;rw[hks];obtain⟨l,f,ps,Ts,rfl,rfl,hl,hT,nd,h64,turn,k⟩:=q2;obtain⟨u,rfl,rx⟩:=Ca r1;obtain⟨v,rfl,rf⟩:=Ca r2;cases rx;cases rf;exact Xlf I2 hu hl hT nd h64 turn k
theorem Xli{k:Nat}{f c:Addr}{x qual:Str}{params:Arguments}{body:Expr}{scope:Scope}{pm ctv:Value}{H:Hp}{ps:List Addr}{Ts:List (List Str)}(hf:H f=some (.ext (D4 f (PySem.W.kla_fn "<lambda>" qual params body scope [] pm (.ref c) ctv))))(hc:H c=some (.ext (D3 c qual)))
  (S:FnScope [x] [x] scope) (hr:Room (k+3) X.A) (hb:∀u,bindArgs (PySem.W.kla_fn "<lambda>" qual params body scope [] pm (.ref c) ctv) ⟨[u],[]⟩=pure ([x].zip [u]))
  (hkey:∀(A:Around) (outer:List Env) (s1:Shared) (H1:Hp) (i:Nat),i<ps.length->Same H H1->Room k (A.deeper (envOfC qual scope s1.heap.objs.size f (.ref c)))->∃t,PE (B6 CX0 X.prog X.w X.K X.mg X.base [x] qual scope f (.ref c) A outer s1 H1 E0) body t /\
   ∀Q:VK,(∀t H2,H2 t=some (.tup [.int (Ts.getD i []).length,.ref (ps.getD i 0)])->Same H1 H2->Q (.ref t) H2)->t (start [x] [.ref (ps.getD i 0)]) H1 Q):Turns X f H ps Ts:=by
 intro pins σ s1 H1 i hi sm I;have hr1:Room (k+1) X.A.in1.in1:=(Room.in1 (k:=k+2) hr).in1;obtain⟨t,ht,hq⟩:=hkey X.A.in1.in1 X.stack s1 H1 i hi sm (hr1.deeper _);refine wpAny_call (codeAny_mono (Xjt (Q:=λv H2=>∃t,v = .ref t/\H2 t=some (.tup [.int (Ts.getD i []).length,.ref (ps.getD i 0)])/\Same H1 H2) (sm _ _ hf) (sm _ _ hc) S hr1 I.env0.in1.in1 rfl (.cons (show Af (.ref (ps.getD i 0)) (.ref (ps.getD i 0)) from rfl) .nil) (hb _) ht (hq _ λt H2 a b=>⟨t,rfl,a,b⟩)) λr s' hq'=>?_);cases r with
 | error e=>exact hq'.elim
 | ok fl=>
  cases fl with
  | next=>exact False.elim hq'
  | brk=>exact False.elim hq'
  | cont=>exact False.elim hq'
  | ret u=>
   obtain⟨v,H2,J,rv,t,rfl,a,b⟩:=I.after hq';exact⟨t,H2,rv,J,a,b⟩
end
end L2
namespace SH
open PySem PySem.Spec PyProof.Rows L2
theorem Kt{how:Str}{off:Bool}:Bp how off=true↔(how = "within" -> off=true)/\(how = "apart" -> off=false):=by
 unfold Bp;by_cases h:how = "within"
 ·rw[Pt h];have n:how ≠ "apart" := by rw[h];decide
  exact⟨λz=>⟨λ_=>z,λz=>absurd z n⟩,λz=>z.1 h⟩
 ·rw[Ps h];by_cases g:how = "apart"
  ·rw[Pu g];constructor
   ·exact λz=>⟨λq=>absurd q h,λ_=>by simpa using z⟩
   ·intro z;rw[z.2 g];rfl
  ·rw[Pw g];exact⟨λ_=>⟨λq=>absurd q h,λq=>absurd q g⟩,λ_=>rfl⟩
theorem Eb{row S:List Str}:Ae row S=true↔S.Pairwise ltS/\(∀x∈S,x∈row)/\(∀x∈S,∀y∈row,lieR row x y = "within" -> y∈S)/\(∀x∈S,∀y∈S,lieR row x y ≠ "apart"):=by
 constructor
 ·intro h;obtain⟨h1,h2⟩:=Br h;unfold Ae at h;rw[Ls] at h;have al:∀x∈S,∀y∈row,Bp (lieR row x y) (decide (y∈S))=true:=λx hx y hy=>L6.mp (L6.mp h.2 x hx) y (Ag.mpr hy);refine⟨h2,h1,λx hx y hy e=>Px ((Kt.mp (al x hx y hy)).1 e),λx hx y hy e=>?_⟩;have:=(Kt.mp (al x hx y (h1 y hy))).2 e;rw[Pu hy] at this;cases this
 ·rintro ⟨h1,h2,h3,h4⟩;unfold Ae;rw[Ls,Ls];refine⟨⟨Pu (Hf h1).symm,L6.mpr λx hx=>Pu (h2 x hx)⟩,L6.mpr λx hx=>L6.mpr λy hy=>Kt.mpr ⟨λe=>Pu (h3 x hx y (Ag.mp hy) e),λe=>Pw λz=>h4 x hx y z e⟩⟩
theorem Hl{a b c e:Int}(h:lieT a b c e = "within"):c<a/\a<e/\c<b/\b<e:=by
 unfold lieT at h;split at h
 ·exact absurd h (by decide)
 ·split at h
  ·exact absurd h (by decide)
  ·split at h
   ·rename_i q;rw[Bw] at q;by_cases p1:c<a/\a<e
    ·by_cases p2:c<b/\b<e
     ·exact⟨p1.1,p1.2,p2.1,p2.2⟩
     ·rw[Pt p1,Ps p2] at q;omega
    ·rw[Ps p1] at q;split at q<;>omega
   ·split at h
    ·exact absurd h (by decide)
    ·exact absurd h (by decide)
theorem Xd7{row:List Str}{x y:Str}(hx:row.count x=2)(h:lieR row x y = "within"):span row x<span row y:=by
 have l1:=Bv hx;obtain⟨h1,h2,h3,h4⟩:=Hl h;unfold span;omega
theorem Xlj{S:List Str}{p:Str->Bool}(h:S.Pairwise ltS):(S.filter p).Pairwise ltS:=h.filter p
theorem Xd8{H:Hp}:∀{Ts:List (List Str)} {xs:List V},DAll H (Ts.map Bj) xs->∃ps:List Addr,xs=ps.map V.ref/\Tups H ps Ts
 | [],xs,h=>by unfold List.map DAll at h;exact⟨[],h,Tups.nil H⟩
 | T::Ts,xs,h=>by
  rw[Ly] at h;unfold DAll at h;obtain⟨v,vr,rfl,h1,h2⟩:=h;obtain⟨p,ys,rfl,hp,hy⟩:=Xjh h1;rw[Kc hy] at hp;obtain⟨ps,rfl,hq⟩:=Xd8 h2;exact⟨p::ps,rfl,Tups.cons hp hq⟩
theorem Xd9{H:Hp}:∀{ps:List Addr} {Ts:List (List Str)},Tups H ps Ts->DAll H (Ts.map Bj) (ps.map V.ref)
 | [],Ts,h=>by
  have:Ts=[]:=Ma.mp h.1.symm;rw[this];unfold List.map DAll;rfl
 | p::ps,[],h=>by have:=h.1;simp at this
 | p::ps,T::Ts,h=>by
  rw[Ly,Ly];unfold DAll;exact⟨.ref p,ps.map V.ref,rfl,D8 (h.2 0 (by simp)),Xd9 ⟨by simpa using h.1,λi hi=>by simpa using h.2 (i+1) (by simpa using hi)⟩⟩
def Cov (row:List Str) (Us:List (List Str)) (j:Nat) (Ts:List (List Str)):Prop:=∀i,i<j->∀x∈row,x∉Us.getD i []->Ae row (srt (Us.getD i []++[x]))=true->srt (Us.getD i []++[x])∈Ts
theorem Xea{α : Type}{R : α -> α->Prop}(irr:∀a,¬R a a)(tr:∀a b c,R a b->R b c->R a c):∀{A B:List α},A.Pairwise R->B.Pairwise R->(∀x,x∈A↔x∈B)->A=B
 | [],[],_,_,_=>rfl
 | [],b::_,_,_,h=>absurd ((h b).mpr Lj) (by simp)
 | a::_,[],_,_,h=>absurd ((h a).mp Lj) (by simp)
 | a::A,b::B,hA,hB,h=>by
  obtain⟨a1,a2⟩:=Nw.mp hA;obtain⟨b1,b2⟩:=Nw.mp hB;have e:a=b:=by
   rcases Lo.mp ((h a).mp Lj) with z | z
   ·exact z
   ·rcases Lo.mp ((h b).mpr Lj) with u | u
    ·exact u.symm
    ·exact absurd (tr _ _ _ (a1 b u) (b1 a z)) (irr a)
  subst e;rw[Xea irr tr a2 b2 λx=>?_];constructor
  ·intro hx;rcases Lo.mp ((h x).mp (Lh _ hx)) with z | z
   ·exact absurd (z ▸ a1 x hx) (irr a)
   ·exact z
  ·intro hx;rcases Lo.mp ((h x).mpr (Lh _ hx)) with z | z
   ·exact absurd (z ▸ b1 x hx) (irr a)
   ·exact z
def LayC (row:List Str) (n:Nat) (Us:List (List Str)):Prop:=∀T,T∈Us↔Ae row T=true/\T.length=n
end SH
namespace L2
open PySem PySem.Spec PyProof.Rows
end L2
namespace SH
open PySem PySem.Spec PyProof.Rows L2
def spOne:Sp:=λvs H Q _=>∃(dr sc l:Addr) (xs:List V),vs=[.ref dr,.ref l]/\DrawOk H dr sc/\H l=some (.lst xs)/\l≠dr/\0<xs.length/\xs.length<=1000 /\
 ∀(i:Nat) (H':Hp),i<xs.length->DrawOk H' dr sc->But dr H H'->Q (xs.getD i .non) H'
def mostL (a b c:List Str):List Str:=srt ((a.filter λx=>decide (x∈b)||decide (x∈c))++(b.filter λx=>decide (x∈c) && !decide (x∈a)))
theorem lt_uniq{a b:List Str}(ha:a.Pairwise ltS)(hb:b.Pairwise ltS)(h:∀x,x∈a↔x∈b):a=b:=Xea Dj (λ_ _ _=>Ep) ha hb h
end SH
set_option maxHeartbeats 3200000
namespace L2
open PySem PySem.Spec PyProof.Rows PySem.Calls
def it5 (mask:Nat):Nat->Nat->Nat
 | 0,i=>i
 | m+1,i=>it5 mask m ((i * 5+1) % (mask+1))
theorem Xlk:∀i<8,∀j<8,∃m<8,it5 7 m i=j:=by decide +kernel
theorem Xll:∀i<16,∀j<16,∃m<16,it5 15 m i=j:=by decide +kernel
theorem Xlm:∀i<32,∀j<32,∃m<32,it5 31 m i=j:=by decide +kernel
def Mask (mask:Nat):Prop:=mask=7\/mask=15\/mask=31
theorem Xln{mask:Nat}(h:Mask mask):∀i<mask+1,∀j<mask+1,∃m<mask+1,it5 mask m i=j:=by
 rcases h with rfl | rfl | rfl
 ·exact Xlk
 ·exact Xll
 ·exact Xlm
section
variable {mask:Nat}{owner:Array (Option Nat)}
abbrev Free (owner:Array (Option Nat)) (j:Nat):Prop:=owner.getD j (some 0)=none
theorem Xeb(fuel i p:Nat):(∃j,SetTable.layClean.free mask owner (fuel+1) i p=some j/\Free owner j) \/
  (¬Free owner i/\SetTable.layClean.free mask owner (fuel+1) i p=SetTable.layClean.free mask owner fuel ((i * 5+1+p / 32) % (mask+1)) (p / 32)):=by
 rw[SetTable.layClean.free];cases hf:(List.range (SetTable.runEnd mask i+1 - i)).find? λk=>(owner.getD (i+k) (some 0)).isNone with
 | some k=>
  left;refine⟨i+k,rfl,?_⟩;have:=List.find?_some hf;exact Option.isNone_iff_eq_none.mp this
 | none=>
  right;refine⟨λz=>?_,rfl⟩;rw[List.find?_eq_none] at hf;have hr:0<SetTable.runEnd mask i+1 - i:=by
   unfold SetTable.runEnd;split<;>omega
  have:=hf 0 (M0.mpr hr);rw[Nat.add_zero] at this;have z:owner.getD i (some 0)=none:=z;rw[z] at this;exact this rfl
theorem Xec:∀fuel i,(∃m,m<fuel/\Free owner (it5 mask m i))->∃j,SetTable.layClean.free mask owner fuel i 0=some j/\Free owner j
 | 0,_,⟨_,h,_⟩=>absurd h (Mz _)
 | fuel+1,i,⟨m,hm,hf⟩=>by
  rcases Xeb (mask:=mask) (owner:=owner) fuel i 0 with h | ⟨h1,h2⟩
  ·exact h
  ·rw[h2];cases m with
   | zero=>exact absurd hf h1
   | succ m=>exact Xec fuel _ ⟨m,by omega,hf⟩
theorem Xed:∀c fuel i p,p<32 ^ c->i<mask+1->(∀i,i<mask+1->∃m,m<fuel/\Free owner (it5 mask m i))->∃j,SetTable.layClean.free mask owner (fuel+c) i p=some j/\Free owner j
 | 0,fuel,i,p,hp,hi,h=>by
  have:p=0:=by omega
  subst this;exact Xec fuel i (h i hi)
 | c+1,fuel,i,p,hp,hi,h=>by
  rcases Xeb (mask:=mask) (owner:=owner) (fuel+c) i p with h' | ⟨_,h2⟩
  ·exact h'
  ·rw[<-Nat.add_assoc,h2];exact Xed c fuel _ _ (by rw[Nat.pow_succ] at hp;omega) (Pk _ (by omega)) h
def Cr (owner:Array (Option Nat)):List Nat:=owner.toList.filterMap id
theorem Xlo{j k:Nat}(h:Free owner j):(Cr (owner.setIfInBounds j (some k))).Perm (k::Cr owner):=by
 have hj:j<owner.size:=by
  by_cases q:j<owner.size
  ·exact q
  ·have h:owner.getD j (some 0)=none:=h;simp[Array.getD,q] at h
 have h':owner.toList[j]'(by simpa using hj)=none:=by
  have h:owner.getD j (some 0)=none:=h;simpa [Array.getD,hj] using h
 unfold Cr;rw[Array.toList_setIfInBounds];have e:∀(l:List (Option Nat)) (j:Nat) (hj:j<l.length),l[j]=none->((l.set j (some k)).filterMap id).Perm (k::l.filterMap id):=by
  intro l
  induction l with
  | nil=>intro j hj;exact absurd hj (Mz _)
  | cons o l ih=>
   intro j hj hn;cases j with
   | zero=>
    have:o=none:=hn;subst this;simp
   | succ j=>
    have:=ih j (by simpa using hj) (by simpa using hn);cases o with
    | none=>simpa using this
    | some v=>
     simp only[List.set_cons_succ,Nd,id];exact(this.cons v).trans (List.Perm.swap k v _)
 exact e _ j (by simpa using hj) h'
theorem Xlp(hn:(Cr owner).length<owner.size):∃j,j<owner.size/\Free owner j:=by
 refine Classical.byContradiction λz=>?_;have all:∀o∈owner.toList,o≠none:=λo ho e=>by
  obtain⟨j,hj,e2⟩:=Mv.mp ho;have hj':j<owner.size:=by simpa using hj
  refine z ⟨j,hj',?_⟩;show owner.getD j (some 0)=none;rw[<-e,<-e2];simp[Array.getD,hj']
 have:(Cr owner).length=owner.toList.length:=by
  unfold Cr;generalize owner.toList=l at all;clear hn z
  induction l with
  | nil=>rfl
  | cons o l ih=>
   cases o with
   | none=>exact absurd rfl (all none Lj)
   | some v=>
    have:=ih λo ho=>all o (Lh _ ho);simp only[Nd,id,Lv,this]
 exact absurd hn (by rw[this,Ln];exact Ml _)
end
theorem Xlq(h:Int):SetTable.bits h<32 ^ 14:=by
 unfold SetTable.bits;have h1:h % (2 ^ 64:Int)<2 ^ 64:=Oa _ (by decide);have h2:0<=h % (2 ^ 64:Int):=Ow _ (by decide);have:(h % (2 ^ 64:Int)).toNat<2 ^ 64:=by omega
 exact L4 this (by decide)
def Ku (mask:Nat) (acc:Option (Array (Option Nat)×Nat)) (h:Int):Option (Array (Option Nat)×Nat):=do
 let (owner,k) <-acc
 let j <-SetTable.layClean.free mask owner (SetTable.turns mask) (SetTable.bits h % (mask+1)) (SetTable.bits h)
 pure (owner.setIfInBounds j (some k),k+1)
theorem Xee{mask:Nat}(hm:Mask mask):∀(hs:List Int) (owner:Array (Option Nat)) (k:Nat),owner.size=mask+1->(Cr owner).Perm (List.range k)->k+hs.length<=mask ->
  ∃owner',hs.foldl (Ku mask) (some (owner,k))=some (owner',k+hs.length)/\owner'.size=mask+1/\(Cr owner').Perm (List.range (k+hs.length))
 | [],owner,k,h1,h2,_=>⟨owner,rfl,h1,h2⟩
 | h::hs,owner,k,h1,h2,h3=>by
  have hl:(Cr owner).length=k:=by rw[h2.length_eq,Mp]
  rw[Lv] at h3;obtain⟨j0,hj0,hf0⟩:=Xlp (owner:=owner) (by omega);obtain⟨j,e,hf⟩:=Xed (mask:=mask) (owner:=owner) 14 (mask+1) (SetTable.bits h % (mask+1)) (SetTable.bits h) (Xlq h) (Pk _ (by omega)) λi hi=>by
   obtain⟨m,hm1,hm2⟩:=Xln hm i hi j0 (by omega);exact⟨m,hm1,by rw[hm2];exact hf0⟩
  have e1:Ku mask (some (owner,k)) h=some (owner.setIfInBounds j (some k),k+1):=by
   show (do let j <-SetTable.layClean.free mask owner (SetTable.turns mask) (SetTable.bits h % (mask+1)) (SetTable.bits h);pure (owner.setIfInBounds j (some k),k+1))=_;have:SetTable.turns mask=mask+1+14:=by unfold SetTable.turns;omega
   rw[this,e];rfl
  rw[Pa,e1];obtain⟨o',a1,a2,a3⟩:=Xee hm hs (owner.setIfInBounds j (some k)) (k+1) (by simpa using h1) (by
   refine(Xlo hf).trans ((h2.cons k).trans ?_);rw[Mg];exact(List.perm_append_singleton k (List.range k)).symm) (by omega)
  rw[show k+(h::hs).length=k+1+hs.length by rw[Lv];omega];exact⟨o',a1,a2,a3⟩
theorem Xlr(mask:Nat)(hs:Array Int):SetTable.layClean mask hs=(hs.toList.foldl (Ku mask) (some (Array.replicate (mask+1) none,0))).map (·.1):=by
 unfold SetTable.layClean;rw[<-Array.foldl_toList];rfl
theorem Xef:∀(owner:Array (Option Nat)),((List.range owner.size).filterMap λj=>(owner.getD j none).map (j, ·)).map (·.2)=Cr owner:=by
 intro owner;unfold Cr;rw[List.map_filterMap];have e:owner.toList=(List.range owner.size).map λj=>owner.getD j none:=by
  refine List.ext_getElem (by simp) λi h1 h2=>?_;have:i<owner.size:=by simpa using h1
  simp[Array.getD,this]
 rw[e,List.filterMap_map];congr 1;funext j;show Option.map _ (Option.map _ (owner.getD j none))=owner.getD j none;cases owner.getD j none<;>rfl
theorem Xls{mask finger moves:Nat}{led plain:Bool}{hs:Array Int}(hm:Mask mask)(hn:hs.size<=mask):
  ∃t o,SetTable.laid mask finger moves led plain hs=some (t,o)/\o.toList.Perm (List.range hs.size)/\t.fits hs.size=true/\t.led=led/\t.plain=plain:=by
 obtain⟨owner,e1,e2,e3⟩:=Xee hm hs.toList (Array.replicate (mask+1) none) 0 (by simp) (by
  unfold Cr;rw[Array.toList_replicate];have:∀n,(List.replicate n (none:Option Nat)).filterMap id=[]:=λn=>by
   induction n with
   | zero=>rfl
   | succ n ih=>rw[List.replicate_succ];simpa using ih
  rw[this];exact M8 _) (by simpa using hn)
 rw[Ln,O1] at e1 e3;have ec:SetTable.layClean mask hs=some owner:=by rw[Xlr,e1];rfl
 unfold SetTable.laid;rw[ec];refine⟨_,_,rfl,?_,?_,rfl,rfl⟩
 ·show (((List.range (mask+1)).filterMap λj=>(owner.getD j none).map (j, ·)).map (·.2)).Perm _;rw[<-e2,Xef];exact e3
 ·have l1:(((List.range (mask+1)).filterMap λj=>(owner.getD j none).map (j, ·))).length=hs.size:=by
   have:=congrArg List.length (Xef owner);rw[Lf,e2,e3.length_eq,Mp] at this;exact this
  simp only[SetTable.fits,SetTable.fill,Ls,beq_iff_eq,decide_eq_true_eq,Lq,Lf,l1];exact⟨trivial,by simpa using hn⟩
theorem Xlt{mask finger moves:Nat}{led plain:Bool}(hm:Mask mask):∃t,SetTable.laid mask finger moves led plain #[]=some (t, #[])/\t.mask=mask/\t.place = #[]/\t.dummies = #[]/\t.led=led/\t.plain=plain:=by
 have ec:SetTable.layClean mask #[]=some (Array.replicate (mask+1) none):=rfl;unfold SetTable.laid;rw[ec];have l0:((List.range (mask+1)).filterMap λj=>((Array.replicate (mask+1) (none:Option Nat)).getD j none).map (j, ·))=[]:=by
  rw[List.filterMap_eq_nil_iff];intro j hj;have:j<mask+1:=M0.mp hj;simp[Array.getD,this]
 refine⟨⟨mask, #[], #[],finger,led,moves,plain⟩,?_,rfl,rfl,rfl,rfl,rfl⟩;show some (_,_)=_;rw[l0];rfl
def reord (es:Array (Int×Value)) (laid:Option (SetTable×Array Nat)):Sem (Array (Int×Value)×SetTable):=do
 let some (t,order):=laid | unsupported "internal:set-table-without-room"
 let es':=order.filterMap (es[·]?)
 if es'.size != es.size then unsupported "internal:set-table-lost-an-element"
 pure (es',t)
theorem Xlu(a:Addr)(wanted:Nat):setRelay a wanted=(do
  let (es,_,t) <-setState a
  if SetTable.sizeAbove wanted > sizeLine then unsupported "set:memory"
  let (es,t) <-reord es (t.relaid (es.map (·.1)) wanted)
  storeSet a es t):=rfl
theorem Xlv(s o:Addr)(each:Sem Unit):setMerge s o each=(do
  if s==o then return
  let (eo,epoch,to) <-setState o
  if eo.isEmpty then return
  setRoomFor s eo.size
  let (_,_,ts) <-setState s
  match ts.road to with
  | .slotForSlot=>storeSet s eo {to with finger:=ts.finger,led:=ts.led&&to.led,moves:=ts.moves,plain:=ts.plain&&to.plain}
  | .clean=>
   let (es,t) <-reord eo (SetTable.laid ts.mask ts.finger ts.moves (led:=ts.led&&to.led) (plain:=ts.plain&&to.plain) (eo.map (·.1)))
   storeSet s es t
  | .oneByOne=>
   for (h,x) in <-setWalkUnseen o [s] (some s) do
    let _ <-holding [x] (setAddHashed s x h)
    each
    if (<-setState o).2.1 != epoch then unsupported "set.changed-during-merge"):=rfl
def Kv (es:Array (Int×Value)) (t:SetTable):Sem Unit:=do
 if !t.led&&es.size > 1 then unsupported "set:maker-not-led"
theorem Xlw(a:Addr):setWalk a=(do
  let (es,epoch,t) <-setState a
  if <-setsByText then return pickOrder ((<-ask).params.setOrder a epoch) es
  if !t.plain&&decide (es.size > 1) then return (<-drawOrder es.size es.toList).toArray
  Kv es t
  return es):=rfl
theorem Xlx:∀m<16,5<=m->(SetTable.sizeAbove (m * 2) - 1=15\/SetTable.sizeAbove (m * 2) - 1=31)/\m<=SetTable.sizeAbove (m * 2) - 1/\¬SetTable.sizeAbove (m * 2) > sizeLine:=by decide +kernel
section
variable {P:Program}{w:World}{A:Around}{E:Value->Shared->Prop}{s:Shared}{a b c:Addr}{ks ls:List Str}
theorem wp_reord{es:Array (Int×Value)}{t:SetTable}{o:Array Nat}{Q:Array (Int×Value)×SetTable->Shared->Prop}(h:o.toList.Perm (List.range es.size))(q:∀es':Array (Int×Value),es'.toList.Perm es.toList->es'.size=es.size->Q (es',t) s):
  wpAny (model P w) A (reord es (some (t,o))) Q E s:=by
 have p:(o.filterMap (es[·]?)).toList.Perm es.toList:=by
  rw[Array.toList_filterMap];have:=h.filterMap (λi=>es[i]?)
  rwa [filterMap_getElem?_range] at this
 have z:(o.filterMap (es[·]?)).size=es.size:=by rw[<-Ln,p.length_eq,Ln]
 unfold reord;dsimp only;rw[z];simp only[bne_self_eq_false,L8,if_false];exact Pq (q _ p z)
theorem Hm{Q:Bool->Shared->Prop}(hT:s.TypeIs (.ref a) "set")(h:Q true s):wpAny (model P w) A (Builtin.Frozenset.isAnySet (.ref a)) Q E s:=by
 unfold Builtin.Frozenset.isAnySet;show wpAny _ _ (isInstance (.ref a) (.type "set") >>= λb=>_) _ _ s;refine Pp (wpAny_isInstance hT sub_set_self ?_);exact Pq h
theorem Xly{Q:Value->Shared->Prop}(hT:s.TypeIs (.ref a) "set")(h:Q (.type "set") s):wpAny (model P w) A (Builtin.Frozenset.baseOf a) Q E s:=by
 unfold Builtin.Frozenset.baseOf;refine Pp (wpAny_isInstance hT sub_set_self ?_);exact Pq h
theorem SSet.typeIs(S:SSet P w s.heap a ks):s.TypeIs (.ref a) "set" := by
 obtain⟨o,_,_,_,_,ho,hex,_⟩:=S;exact⟨o,ho,hex.1⟩
structure Nu (w:World) (h:Heap) (a:Addr) (n:Nat):Prop where
 ex:∃o ep t,h.get? a=some o/\o.ExactSet/\o.data = .set #[] ep t/\t.place = #[]/\t.dummies = #[]/\Mask t.mask/\n<=t.mask/\t.led = !A2 w/\t.plain=true
theorem Xlz{t:SetTable}(h1:t.place = #[])(h2:t.dummies = #[]):t.fits 0=true:=by
 simp[SetTable.fits,SetTable.fill,h1,h2]
theorem Xl0{n:Nat}{Q:Unit->Shared->Prop}{o:Obj}{ep:Nat}(ho:s.heap.get? a=some o)(hex:o.ExactSet)(hd:o.data = .set #[] ep (.fresh 0 0 (!A2 w)))(hn:n<16)
  (h:∀h',Heap.SameBut a s.heap h'->Nu w h' a n->Q () {s with heap:=h'}):wpAny (model P w) A (setRoomFor a n) Q E s:=by
 have hf:(SetTable.fresh 0 0 (!A2 w)).fits (#[]:Array (Int×Value)).size=true:=rfl;unfold setRoomFor;refine Pp (wpAny_setState_of ho hd hf ?_);dsimp only;by_cases hr:n * 5 ≥ 21
 ·have e:(SetTable.fresh 0 0 (!A2 w)).roomFor n=some (n * 2):=by
   unfold SetTable.roomFor;rw[Pt (by show (0+0+n) * 5 ≥ 7 * 3;omega)];show some ((0+n) * 2)=_;rw[O1]
  rw[e];dsimp only;rw[Xlu];refine Pp (wpAny_setState_of ho hd hf ?_);dsimp only;obtain⟨m1,m2,m3⟩:=Xlx n hn (by omega);have hM:Mask (SetTable.sizeAbove (n * 2) - 1):=.inr m1;rw[Ps m3];obtain⟨t,e1,t1,t2,t3,t4,t5⟩:=Xlt (finger:=(SetTable.fresh 0 0 (!A2 w)).finger) (moves:=(SetTable.fresh 0 0 (!A2 w)).movedTo (SetTable.sizeAbove (n * 2) - 1)) (led := !A2 w) (plain:=true) hM;have e2:(SetTable.fresh 0 0 (!A2 w)).relaid ((#[]:Array (Int×Value)).map (·.1)) (n * 2)=some (t, #[]):=by
   unfold SetTable.relaid;rw[Array.map_empty];exact e1
  rw[e2];refine Pp (wp_reord (es := #[]) (by simp) λes' p z=>?_);have:es' = #[]:=Array.eq_empty_of_size_eq_zero z;subst this;refine wpAny_storeSet_of ho hd ?_ (Mf _);have g:=Heap.get?_update_self (Obj.putSet #[] t) ho (by rw[putSet_of #[] t hd];rfl);rw[putSet_of #[] t hd] at g;exact h _ (P1 _ a _) ⟨_,ep+1,t,g,hex,rfl,t2,t3,by rw[t1];exact hM,by rw[t1];exact m2,t4,t5⟩
 ·have e:(SetTable.fresh 0 0 (!A2 w)).roomFor n=none:=by
   unfold SetTable.roomFor;rw[Ps (by show ¬(0+0+n) * 5 ≥ 7 * 3;omega)]
  rw[e];exact Pq (h _ (Heap.SameBut.refl a _) ⟨o,ep,_,ho,hex,hd,rfl,rfl,.inl rfl,by show n<=7;omega,rfl,rfl⟩)
theorem Xl1{id:String}{Q:Unit->Shared->Prop}{o:Obj}{ep:Nat}(ho:s.heap.get? c=some o)(hex:o.ExactSet)(hd:o.data = .set #[] ep (.fresh 0 0 (!A2 w)))(S:SSet P w s.heap b ls)(hl:ls.length<16)(hcb:c≠b)
  (h:∀h',Heap.SameBut c s.heap h'->SSet P w h' c ls->Q () {s with heap:=h'}):wpAny (model P w) A (Builtin.Frozenset.merge id c b) Q E s:=by
 obtain⟨ob,eo,epo,to,lso,hob,hexo,hdo,helo,hsto,hpo,hbo,hfo,hlo,hplo⟩:=S;have hz:eo.size=ls.length:=by
  have:=hsto.length;rw[Lf,Ln] at this;rw[this,hpo.length_eq]
 unfold Builtin.Frozenset.merge;refine Pp (wpAny_setEpoch_of hob hdo hfo ?_);rw[Xlv];rw[Ps (by simpa using hcb)];refine Pp (wpAny_setState_of hob hdo hfo ?_);dsimp only;by_cases he:eo.isEmpty=true
 ·rw[Pt he];have e0:eo = #[]:=by simpa using he
  have:ls=[]:=Ma.mp (by rw[<-hz,e0];rfl);subst this;exact Pq (h _ (Heap.SameBut.refl c _) ⟨o, #[],ep,_,[],ho,hex,hd,λe he=>by simp at he,.nil,M8 _,by decide,rfl,rfl,λ_=>rfl⟩)
 ·rw[Ps he];refine Pp (Xl0 ho hex hd (by rw[hz];exact hl) λh1 sb1 nu=>?_);obtain⟨o1,ep1,t1,ho1,hex1,hd1,p1,p2,hM,hn1,l1,pl1⟩:=nu.ex;have hf1:t1.fits (#[]:Array (Int×Value)).size=true:=Xlz p1 p2;refine Pp (wpAny_setState_of (s:={s with heap:=h1}) ho1 hd1 hf1 ?_);dsimp only;have fin:∀(es':Array (Int×Value)) (t':SetTable),es'.toList.Perm eo.toList->t'.fits es'.size=true->t'.led = !A2 w->(t'.plain=true->es'.size=0)->Q () {s with heap:=h1.update c (Obj.putSet es' t')}:=λes' t' pp ff fl fp=>by
   obtain⟨ls',st',q'⟩:=G0 pp hsto;have z':es'.size=eo.size:=by rw[<-Ln,pp.length_eq,Ln]
   have g:=Heap.get?_update_self (Obj.putSet es' t') ho1 (by rw[putSet_of es' t' hd1];rfl);rw[putSet_of es' t' hd1] at g;exact h _ (sb1.trans (P1 _ c _)) ⟨_,es',ep1+1,t',ls',g,hex1,rfl,helo.perm pp,st',q'.trans hpo,by rw[z'];exact hbo,ff,fl,fp⟩
  have hroad:t1.road to=if (t1.mask==to.mask&&to.dummies.isEmpty)=true then SetTable.Road.slotForSlot else SetTable.Road.clean:=by
   unfold SetTable.road;have:(t1.fill != 0)=false:=by simp[SetTable.fill,p1,p2]
   rw[this,Ps (by decide)]
  rw[hroad];by_cases hr:(t1.mask==to.mask&&to.dummies.isEmpty)=true
  ·rw[Pt hr];dsimp only;refine wpAny_storeSet_of (s:={s with heap:=h1}) ho1 hd1 ?_ (fits_of_scanBound hbo);exact fin eo _ (M8 _) hfo (by show (t1.led&&to.led)=_;rw[l1,hlo,O7]) (by show (t1.plain&&to.plain)=true->_;rw[pl1,Ni];exact hplo)
  ·rw[Ps hr];dsimp only;obtain⟨t2,od,e1,e2,e3,e4,e5⟩:=Xls (finger:=t1.finger) (moves:=t1.moves) (led:=t1.led&&to.led) (plain:=t1.plain&&to.plain) (hs:=eo.map (·.1)) hM (by rw[Array.size_map];exact hn1);rw[e1];rw[Array.size_map] at e2 e3;refine Pp (wp_reord e2 λes' pp zz=>?_);refine wpAny_storeSet_of (s:={s with heap:=h1}) ho1 hd1 ?_ (fits_of_scanBound (by rw[zz];exact hbo));exact fin es' t2 pp (by rw[zz];exact e3) (by rw[e4,l1,hlo,O7]) (by rw[e5,pl1,Ni,zz];exact hplo)
def Wl (P:Program) (w:World) (wl:Array (Int×Value)) (ks:List Str):Prop:=ElemsOf (PySem.strKind P w) wl.toList/\∃zs,StrsAre (wl.toList.map (·.2)) zs/\zs.Perm ks
theorem Xl2{es wl:Array (Int×Value)}{ls0:List Str}(hel:ElemsOf (PySem.strKind P w) es.toList)(hs:StrsAre (es.toList.map (·.2)) ls0)(hp:ls0.Perm ks)(pp:wl.toList.Perm es.toList):Wl P w wl ks:=by
 obtain⟨zs,st,q⟩:=G0 pp hs;exact⟨hel.perm pp,zs,st,q.trans hp⟩
theorem Xeg{Q:Option Bool×Unit->Shared->Prop}{f:Int×Value->Option Bool×Unit->Sem (ForInStep (Option Bool×Unit))}(hf:∀(x:Int×Value) (r:Option Bool×Unit),(∀p,x.2 ≠ .ref p)->f x r=pure (.yield (none,()))):
  ∀(l:List (Int×Value)),(∀e∈l,∀p,e.2 ≠ .ref p)->Q (none,()) s->wpAny (model P w) A (forIn l (none,()) f) Q E s
 | [],_,h=>by rw[Pg];exact Pq h
 | x::l,hn,h=>by
  rw[O9,hf x _ (hn x Lj)];exact Pp (Pq (Xeg hf l (λe he=>hn e (Lh _ he)) h))
end
section
variable {P:Program}{w:World}{A:Around}{E:Value->Shared->Prop}{s:Shared}{a b c:Addr}{ks ls:List Str}
theorem Xeh{l:List (Int×Value)}(h:ElemsOf (PySem.strKind P w) l):∀e∈l,∀p,e.2 ≠ .ref p:=λe he p z=>by
 have:=(h e he).2;rw[z] at this;cases this
theorem Xei{Q:Option Bool×Unit->Shared->Prop}{f:Int×Value->Option Bool×Unit->Sem (ForInStep (Option Bool×Unit))}(hf:∀(x:Int×Value) (r:Option Bool×Unit),(∀p,x.2 ≠ .ref p)->f x r=pure (.yield (none,())))
  {es:Array (Int×Value)} (hn:∀e∈es.toList,∀p,e.2 ≠ .ref p) (h:Q (none,()) s):wpAny (model P w) A (forIn es (none,()) f) Q E s:=by
 rw[<-Ov];exact Xeg hf _ hn h
theorem Xl3{Q:Bool->Shared->Prop}(S:SSet P w s.heap a ks)(F:SSet P w s.heap b ls)(h:Q true s):wpAny (model P w) A (setsQuiet [a,b]) Q E s:=by
 obtain⟨o,es,ep,t,l0,ho,hex,hd,hel,hst,hp,hb,hf,hl,hpl⟩:=S;obtain⟨o',es',ep',t',l0',ho',hex',hd',hel',hst',hp',hb',hf',hl',hpl'⟩:=F;have hq:∀(x:Int×Value) (r:Option Bool×Unit),(∀p,x.2 ≠ .ref p)->(match x.2 with
   | Value.ref a=>do
    let __do_lift <-specialOf x.2 (Str.ofString "__eq__")
    if (__do_lift != some (Value.builtin "object.__eq__"))=true then pure (ForInStep.done (some false,())) else pure (ForInStep.yield (none,()))
   | x=>pure (ForInStep.yield (none,())):Sem (ForInStep (Option Bool×Unit)))=pure (.yield (none,())):=λx r hx=>by
  split
  ·rename_i e;exact absurd e (hx _)
  ·rfl
 unfold setsQuiet;simp only[O9,Pg];refine Pp (Pp (Pp (wpAny_setEntries_of ho hd hf (Pp (Xei hq (Xeh hel) (Pq ?_))))));refine Pp (Pp (wpAny_setEntries_of ho' hd' hf' (Pp (Xei hq (Xeh hel') (Pq ?_)))));exact Pq (Pq h)
theorem wp_unseen{Q:Array (Int×Value)->Shared->Prop}(S:SSet P w s.heap a ks)(F:SSet P w s.heap c ls)(hac:a≠c)
  (h:∀wl h' d,Wl P w wl ks->Heap.SameBut c s.heap h'->SSet P w h' c ls->Q wl {s with heap:=h',drawn:=d}):wpAny (model P w) A (setWalkUnseen a [c] (some c)) Q E s:=by
 obtain⟨o,es,ep,t,l0,ho,hex,hd,hel,hst,hp,hb,hf,hl,hpl⟩:=id S;have wl1:∀wl:Array (Int×Value),wl.toList.Perm es.toList->Wl P w wl ks:=λwl pp=>Xl2 hel hst hp pp;have walk:wpAny (model P w) A (setWalk a) Q E s:=by
  rw[Xlw];refine Pp (wpAny_setState_of ho hd hf ?_);dsimp only;unfold setsByText;refine Pp (Pp (wpAny_askSetting (Pq ?_)));show wpAny _ _ (if A2 w=true then _ else _) _ _ s;cases hw:A2 w with
  | true=>
   rw[Pt rfl];refine Pp (wpAny_askSetting (Pq ?_));exact h _ s.heap s.drawn (wl1 _ (Xb2 _ es)) (Heap.SameBut.refl c _) F
  | false=>
   rw[Ps (by decide)];by_cases hc:(!t.plain&&decide (es.size > 1))=true
   ·rw[Pt hc];refine Pp (Xb3 _ _ _ _ (Ln) λos d po=>Pq ?_);exact h _ s.heap d (wl1 _ (by simpa using po)) (Heap.SameBut.refl c _) F
   ·rw[Ps hc];have hm:Kv es t=pure ():=by
     unfold Kv;rw[hl,hw];rfl
    refine Pp (wpAny_of_eq hm (Pq ?_));exact h _ s.heap s.drawn (wl1 _ (M8 _)) (Heap.SameBut.refl c _) F
 unfold setWalkUnseen;refine Pp (wpAny_setState_of ho hd hf ?_);dsimp only;unfold setsByText;refine Pp (Pp (wpAny_askSetting (Pq ?_)));show wpAny _ _ (if (A2 w||(t.led&&t.plain)||decide (es.size<=1))=true then setWalk a else _) _ _ s;by_cases hc:(A2 w||(t.led&&t.plain)||decide (es.size<=1))=true
 ·rw[Pt hc];exact walk
 ·rw[Ps hc];refine Pp (Xl3 S F ?_);simp only[Os,L8,if_false];refine Pp (wpAny_rule ?_);obtain⟨oc,ec,epc,tc,lc,hoc,hexc,hdc,helc,hstc,hpc,hbc,hfc,hlc,hplc⟩:=id F;refine Pp (wpAny_setState_of hoc hdc hfc ?_);dsimp only;by_cases hs:((tc.led && !t.led)||(tc.plain && !t.plain))=true
  ·rw[Pt hs];refine Pp (wpAny_storeSet_of hoc hdc (Pq ?_) (fits_of_scanBound hbc));obtain⟨g,S1⟩:_/\SSet P w (s.heap.update c (Obj.putSet ec {tc with led:=tc.led&&t.led,plain:=tc.plain&&t.plain})) c ls:=by
    have g:=Heap.get?_update_self (Obj.putSet ec {tc with led:=tc.led&&t.led,plain:=tc.plain&&t.plain}) hoc (by rw[putSet_of ec _ hdc];rfl);rw[putSet_of ec _ hdc] at g;exact⟨g,_,ec,epc+1,_,lc,g,hexc,rfl,helc,hstc,hpc,hbc,hfc,by show (tc.led&&t.led)=_;rw[hlc,hl,O7],by
     show (tc.plain&&t.plain)=true->_;intro z;rw[Ls] at z;exact hplc z.1⟩
   exact h _ _ s.drawn (wl1 _ (M8 _)) (P1 _ c _) S1
  ·rw[Ps hs];exact Pq (h _ s.heap s.drawn (wl1 _ (M8 _)) (Heap.SameBut.refl c _) F)
def xor1 (ks:List Str) (x:Str):List Str:=if x∈ks then ks.erase x else ks++[x]
theorem Hn{α : Type}(xs:Array α)(i:Nat):(SetTable.eraseAt xs i).toList=xs.toList.eraseIdx i:=by
 unfold SetTable.eraseAt;rw[Array.toList_append,Array.toList_extract,Array.toList_extract,List.eraseIdx_eq_take_drop_succ];simp[List.extract];exact N8 (by simp)
theorem Xej:∀(l:List Str),l.Nodup->∀(j:Nat) (hj:j<l.length),l.erase l[j]=l.eraseIdx j
 | x::l,nd,0,_=>by simp
 | x::l,nd,j+1,hj=>by
  obtain⟨h1,h2⟩:=Mn.mp nd;have hj':j<l.length:=by simpa using hj
  have ne:x≠l[j]:=λe=>h1 (e ▸ Mj hj');rw[List.getElem_cons_succ,List.eraseIdx_cons_succ,List.erase_cons_tail (by simpa using ne),Xej l h2 j hj']
theorem Xek{α β : Type}(f : α -> β):∀(l:List α) (j:Nat),(l.eraseIdx j).map f=(l.map f).eraseIdx j
 | [],_=>rfl
 | x::l,0=>rfl
 | x::l,j+1=>by simp[Xek f l j]
theorem Xel:∀{vs:List Value} {ls:List Str} (i:Nat),StrsAre vs ls->StrsAre (vs.eraseIdx i) (ls.eraseIdx i)
 | _,_,_,.nil=>by simp;exact .nil
 | _,_,0,.cons x t h=>h
 | _,_,i+1,.cons x t h=>.cons x t (Xel i h)
theorem Xl4{vs:List Value}{ls:List Str}(h:StrsAre vs ls){i:Nat}(hi:i<vs.length):∃t,vs[i] = .str (ls.getD i Str.empty) t:=by
 induction h generalizing i with
 | nil=>exact absurd hi (Mz _)
 | cons x t _ ih=>
  cases i with
  | zero=>exact⟨t,rfl⟩
  | succ i=>exact ih (by simpa using hi)
theorem Xl5{x:Str}{tk:Tok}{Q:Unit->Shared->Prop}(S:SSet P w s.heap a ks)(nd:ks.Nodup)(hr:ks.length+1<scanBound)
  (h:∀h',Heap.SameBut a s.heap h'->SSet P w h' a (xor1 ks x)->Q () {s with heap:=h'}):
  wpAny (model P w) A (holding [.str x tk] do
   if !(<-setDiscardHashed a (.str x tk) ((PySem.strKind P w).hash x)) then
    let _ <-setAddHashed a (.str x tk) ((PySem.strKind P w).hash x)) Q E s:=by
 obtain⟨o,es,ep,t,l0,ho,hex,hd,hel,hs,hp,hb,hf,hl,hpl⟩:=id S;have hkey:(PySem.strKind P w).is x (.str x tk)=true:=strKind_is P w x tk;have hin:x∈ks ↔ ∃e∈es.toList,(PySem.strKind P w).is x e.2=true:=hp.mem_iff.symm.trans (Xbx hs);have hlen:es.size=ks.length:=by
  have:=hs.length;rw[Lf,Ln] at this;rw[this,hp.length_eq]
 refine wpAny_holding (Pp ?_);unfold setDiscardHashed setFind setFindIn;refine Pp (Pp (wpAny_setState_of ho hd hf ?_));dsimp only;rw[byScan_of (knd:=PySem.strKind P w) rfl hb hel];simp only[↓reduceIte];refine Pp (wpAny_rule (Pp (wpAny_setScan_of hkey ho hd hf hel ?_)));cases hf1:List.findIdx? (λe=>(PySem.strKind P w).is x e.2) es.toList with
 | none=>
  dsimp only;have hx:x∉ks:=λz=>by
   obtain⟨e,he,q⟩:=hin.mp z;have:=List.findIdx?_eq_none_iff.mp hf1 e he;rw[q] at this;cases this
  refine Pq (Pq ?_);simp only[Bool.not_false,if_true];refine Pp (sset_add S hr λb h' sb S'=>Pq ?_);refine h h' sb ?_;unfold xor1;rw[Ps hx];rw[Ps hx] at S';exact S'
 | some j=>
  dsimp only;obtain⟨hj,hpj,_⟩:=Oq.mp hf1;have hx:x∈ks:=hin.mpr ⟨es.toList[j],Mj hj,hpj⟩;rw[O1];refine Pq ?_;dsimp only;refine Pp (wpAny_setState_of ho hd hf ?_);dsimp only;have hjs:j<es.size:=by simpa using hj
  have zE:(SetTable.eraseAt es j).size=es.size - 1:=by
   rw[<-Ln,Hn,Nt hj,Ln]
  refine Pp (wpAny_storeSet_of ho hd ?_ (fits_of_scanBound (by rw[zE];omega)));refine Pp (wpAny_point (Pq ?_));simp only[Os,L8,if_false];refine Pq ?_;have g:=Heap.get?_update_self (Obj.putSet (SetTable.eraseAt es j) (t.drop j)) ho (by rw[putSet_of _ _ hd];rfl);rw[putSet_of _ _ hd] at g;have hfs:t.place.size=es.size/\t.fill<=t.mask:=by
   simpa [SetTable.fits,Ls] using hf
  have hdrop:(t.drop j).fits (es.size - 1)=true/\(t.drop j).led=t.led/\(t.drop j).plain=t.plain:=by
   unfold SetTable.drop;have hjp:j<t.place.size:=by rw[hfs.1];exact hjs
   rw[getElem?_pos t.place j hjp];dsimp only;refine⟨?_,rfl,rfl⟩;have z1:(SetTable.eraseAt t.place j).size=t.place.size - 1:=by
    rw[<-Ln,Hn,Nt (by simpa using hjp),Ln]
   have z2:∀p v,(SetTable.insertAt t.dummies p v).size=t.dummies.size+1:=λp v=>by
    have:=(SetTable.insertAt_perm t.dummies p v).length_eq;simpa using this
   simp only[SetTable.fits,SetTable.fill,Ls,beq_iff_eq,decide_eq_true_eq,z1,z2];have:=hfs.2;unfold SetTable.fill at this;omega
  have hl0j:l0.getD j Str.empty=x:=by
   obtain⟨tt,e⟩:=Xl4 hs (i:=j) (by simpa using hj);rw[N7] at e;rw[e] at hpj;obtain⟨t3,e3⟩:=Value.isStrOf_shape (x:=x) (v:=.str (l0.getD j Str.empty) tt) hpj;injection e3
  have hl0:l0.length=es.size:=by
   have:=hs.length;rw[Lf,Ln] at this;exact this.symm
  have nd0:l0.Nodup:=hp.nodup_iff.mpr nd;have ere:l0.eraseIdx j=l0.erase x:=by
   have hj0:j<l0.length:=by omega
   have e:l0[j]=x:=by rw[<-hl0j];simp[List.getD,hj0]
   rw[<-e];exact(Xej l0 nd0 j hj0).symm
  refine h _ (P1 _ a _) ⟨_,_,ep+1,_,l0.eraseIdx j,g,hex,rfl,?_,?_,?_,by rw[zE];omega,by rw[zE];exact hdrop.1,hdrop.2.1.trans hl,?_⟩
  ·intro e he;rw[Hn] at he;exact hel e (List.mem_of_mem_eraseIdx he)
  ·rw[Hn];have:(es.toList.eraseIdx j).map (·.2)=(es.toList.map (·.2)).eraseIdx j:=by
    exact Xek _ _ _
   rw[this];exact Xel j hs
  ·rw[ere];unfold xor1;rw[Pt hx];exact hp.erase x
  ·rw[hdrop.2.2,zE];intro z;rw[hpl z]
end
def Xl6 (a:Addr) (h:Int) (x:Value):Sem Unit:=holding [x] do
 if !(<-setDiscardHashed a x h) then
  let _ <-setAddHashed a x h
theorem Xem(ks:List Str)(x:Str):(xor1 ks x).length<=ks.length+1:=by
 unfold xor1;split
 ·exact Nat.le_succ_of_le (List.length_erase_le ..)
 ·rw[Lp];exact Li _
theorem Xen{ks:List Str}{x:Str}(h:ks.Nodup):(xor1 ks x).Nodup:=by
 unfold xor1;split
 ·exact h.erase x
 ·rename_i hx;exact M6.mpr ⟨h,by simp,λa ha b hb e=>hx (by rw[Lk.mp hb] at e;exact e ▸ ha)⟩
theorem Xl7{ks:List Str}{x y:Str}(h:ks.Nodup):y∈xor1 ks x↔(y∈ks/\y≠x)\/(y=x/\x∉ks):=by
 unfold xor1;split
 ·rename_i hx;rw[h.mem_erase_iff];constructor
  ·exact λz=>.inl ⟨z.2,z.1⟩
  ·rintro (z | z)
   ·exact⟨z.2,z.1⟩
   ·exact absurd hx z.2
 ·rename_i hx;rw[Lr,Lk];constructor
  ·rintro (z | z)
   ·exact .inl ⟨z,λe=>hx (e ▸ z)⟩
   ·exact .inr ⟨z,hx⟩
  ·rintro (z | z)
   ·exact .inl z.1
   ·exact .inr z.1
theorem Xeo:∀(zs ms:List Str),ms.Nodup->zs.Nodup->(zs.foldl xor1 ms).Nodup/\(zs.foldl xor1 ms).length<=ms.length+zs.length/\∀y,y∈zs.foldl xor1 ms↔(y∈ms/\y∉zs)\/(y∉ms/\y∈zs)
 | [],ms,h,_=>⟨h,Li _,λy=>by simp⟩
 | z::zs,ms,h,hz=>by
  obtain⟨n1,n2⟩:=Mn.mp hz;obtain⟨a1,a2,a3⟩:=Xeo zs (xor1 ms z) (Xen h) n2;refine⟨a1,?_,λy=>?_⟩
  ·have:=Xem ms z;rw[Lv];rw[Pa];omega
  ·rw[Pa,a3,Xl7 h,Lo];by_cases e:y=z
   ·subst e;by_cases g:y∈ms<;>simp[g,n1]
   ·by_cases g:y∈ms<;>simp[g,e]
section
variable {P:Program}{w:World}{A:Around}{E:Value->Shared->Prop}{s:Shared}{a b c:Addr}{ks ls:List Str}
theorem Xep{id:String}{ep:Nat}{f:Int×Value->PUnit->Sem (ForInStep PUnit)}(hf:∀x u,f x u=(do Xl6 c x.1 x.2; Builtin.Frozenset.unchanged id a ep;pure (.yield ⟨⟩))){o:Obj}{es:Array (Int×Value)}{t:SetTable}(hd:o.data = .set es ep t)(hft:t.fits es.size=true)(hac:a≠c):
  ∀(l:List (Int×Value)) (zs ms:List Str) (s:Shared) (Q:PUnit->Shared->Prop),s.heap.get? a=some o->ElemsOf (PySem.strKind P w) l->StrsAre (l.map (·.2)) zs->SSet P w s.heap c ms->ms.Nodup->ms.length+l.length<scanBound ->
   (∀h',Heap.SameBut c s.heap h'->SSet P w h' c (zs.foldl xor1 ms)->Q ⟨⟩ {s with heap:=h'})->wpAny (model P w) A (forIn l PUnit.unit f) Q E s
 | [],zs,ms,s,Q,_,_,hz,hS,_,_,h=>by
  rw[Pg];cases hz;exact Pq (h s.heap (Heap.SameBut.refl c _) hS)
 | (hh,x)::l,zs,ms,s,Q,ho,hel,hz,hS,nd,hb,h=>by
  have hz0:StrsAre (x::l.map (·.2)) zs:=hz;clear hz;cases hz0 with
  | cons y t' hz=>
   obtain⟨⟨k,hk,he⟩,_⟩:=hel.head;have hk:(PySem.strKind P w).is k (.str y t')=true:=hk;obtain⟨t3,e3⟩:=Value.isStrOf_shape (x:=k) (v:=.str y t') hk;injection e3 with e3 _
   subst e3;have he:hh=(PySem.strKind P w).hash y:=he;subst he;rw[Lv] at hb;rw[O9,hf];refine Pp (Pp (Xl5 hS nd (by omega) λh1 sb1 S1=>?_));have ho1:h1.get? a=some o:=(sb1.2 a hac).trans ho;refine Pp ?_;unfold Builtin.Frozenset.unchanged;refine Pp (wpAny_setEpoch_of (s:={s with heap:=h1}) ho1 hd hft ?_);simp only[bne_self_eq_false,L8,if_false];refine Pq (Pq ?_);have hl:=Xem ms y;exact Xep hf hd hft hac l _ (xor1 ms y) {s with heap:=h1} Q ho1 hel.tail hz S1 (Xen nd) (by omega) λh2 sb2 S2=>h h2 (sb1.trans sb2) S2
def Xeq (i:String) (l:Addr) (r:Value):Sem Value:=do
 let result <-Builtin.Frozenset.newFrom i (<-Builtin.Frozenset.baseOf l) r
 holding [result] (Builtin.Frozenset.symmetricDifferenceUpdate i (<-Builtin.Frozenset.addrOf result) (.ref l))
 return result
theorem Xl8(x y:Value):Builtin.«frozenset.__xor__» ⟨[x,y],[]⟩=(do
  let (self,other) <-Builtin.Frozenset.slot1 "__xor__" ⟨[x,y],[]⟩
  let (l,r):=if false then (other,self) else (self,other)
  if !(<-Builtin.Frozenset.isAnySet l <&&> Builtin.Frozenset.isAnySet r) then rule s!"frozenset.{"__xor__"}.declined"; return <-ret .notImplemented
  ret (<-Xeq s!"frozenset.{"__xor__"}" (<-Builtin.Frozenset.addrOf l) r)):=rfl
theorem Xl9{i:String}{Q:Unit->Shared->Prop}{ms:List Str}(S:SSet P w s.heap a ks)(F:SSet P w s.heap c ms)(hac:a≠c)(hk:ks.Nodup)(hm:ms.Nodup)(l1:ks.length<16)(l2:ms.length<16)
  (h:∀h' d zs,Heap.SameBut c s.heap h'->SSet P w h' c zs->zs.Nodup->zs.length<=32->(∀y,y∈zs↔(y∈ms/\y∉ks)\/(y∉ms/\y∈ks))->Q () {s with heap:=h',drawn:=d}):
  wpAny (model P w) A (Builtin.Frozenset.symmetricDifferenceUpdate i c (.ref a)) Q E s:=by
 obtain⟨o,es,ep,t,l0,ho,hex,hd,hel,hst,hp,hb,hf,hl,hpl⟩:=id S;unfold Builtin.Frozenset.symmetricDifferenceUpdate;rw[Ps (by simpa using hac)];refine Pp (wpAny_typeOf (T := "set") S.typeIs ?_);rw[Ps (by decide)];refine Pp (Hm S.typeIs ?_);rw[Pt rfl];refine Pp (Pq ?_);refine Pp (Pq ?_);refine Pp (wpAny_setEpoch_of ho hd hf ?_);refine wpAny_holding (Pp (wp_unseen S F hac λwl h1 d W sb1 S1=>?_));obtain⟨hel1,zs,st1,q1⟩:=W;rw[<-Ov];have ho1:h1.get? a=some o:=(sb1.2 a hac).trans ho;have hwl:wl.toList.length=ks.length:=by
  have:=st1.length;rw[Lf] at this;rw[this,q1.length_eq]
 have ndz:zs.Nodup:=q1.nodup_iff.mpr hk;obtain⟨x1,x2,x3⟩:=Xeo zs ms hm ndz;refine Pp (Xep (id:=i) (c:=c) (a:=a) (s:={s with heap:=h1,drawn:=d}) (λx u=>rfl) hd hf hac wl.toList zs ms _ ho1 hel1 st1 S1 hm (by rw[hwl];unfold scanBound;omega) λh2 sb2 S2=>Pq ?_);refine h h2 d _ (sb1.trans sb2) S2 x1 ?_ λy=>?_
 ·have:=q1.length_eq;omega
 ·rw[x3,q1.mem_iff]
theorem Xma{Q:Value->Shared->Prop}(S:SSet P w s.heap a ks)(F:SSet P w s.heap b ls)(hk:ks.Nodup)(hl:ls.Nodup)(l1:ks.length<16)(l2:ls.length<16)
  (h:∀h' d zs,(∀e o,s.heap.get? e=some o->h'.get? e=some o)->SSet P w h' s.heap.objs.size zs->zs.Nodup->zs.length<=32->(∀y,y∈zs↔(y∈ls/\y∉ks)\/(y∉ls/\y∈ks))->Q (.ref s.heap.objs.size) {s with heap:=h',drawn:=d}):
  wpAny (model P w) A (binaryOp .BitXor (.ref a) (.ref b)) Q E s:=by
 have ha:=S.typeIs;have hb:=F.typeIs;have la:a<s.heap.objs.size:=by obtain⟨o,_,_,_,_,g,_⟩:=S;exact Pz g
 have lb:b<s.heap.objs.size:=by obtain⟨o,_,_,_,_,g,_⟩:=F;exact Pz g
 have eX:entryFor table "set.__xor__" = some Builtin.«frozenset.__xor__»:=entryFor_alias (id' := "frozenset.__xor__") (by kernel_rfl) rfl (by decide +kernel) (by kernel_rfl);refine wpAny_binaryOp_same (T := "set") (id := "set.__xor__") ha hb PySem.F.fills_set_xor PySem.F.slot_set_xor (wpAny_call_entry PySem.F.slot_set_xor ha eX ?_ (PySem.F.args_set_xor_2 _ _));rw[Xl8];unfold Builtin.Frozenset.slot1 slotArgs;simp only[List.isEmpty_nil,Os,L8, ↓reduceIte,bind_assoc,Nn,Lv,bne_self_eq_false,pure_bind];refine Pp ?_;show wpAny _ _ (Builtin.Frozenset.isAnySet (.ref a) >>= λb1=>_) _ _ s;refine Pp (Hm ha ?_);show wpAny _ _ (Builtin.Frozenset.isAnySet (.ref b)) _ _ s;refine Hm hb ?_;simp only[Os,L8, ↓reduceIte];refine Pp ?_;show wpAny _ _ (pure a) _ _ s;refine Pq ?_;refine Pp ?_;unfold Xeq;refine Pp (Xly ha ?_);refine Pp ?_;unfold Builtin.Frozenset.newFrom newSet setsByText;refine Pp (Pp (Pp (wpAny_askSetting (Pq ?_))));dsimp only;simp only[newObj];refine Pp (wpAny_alloc (Pq ?_));have keep:∀e o,s.heap.get? e=some o->(s.heap.push {cls:=.type "set",dict:=none,data:=.set #[] 0 (.fresh 0 0 (!A2 w))}).get? e=some o:=λe o q=>P0 _ q;refine Pp ?_;show wpAny _ _ (pure s.heap.objs.size) _ _ _;refine Pq ?_;refine Pp (wpAny_holding ?_);unfold Builtin.Frozenset.updateFrom;have F1:SSet P w (s.heap.push {cls:=.type "set",dict:=none,data:=.set #[] 0 (.fresh 0 0 (!A2 w))}) b ls:=F.stay λo q=>keep b o q;refine Pp (Hm (s:={s with heap:=s.heap.push {cls:=.type "set",dict:=none,data:=.set #[] 0 (.fresh 0 0 (!A2 w))} }) F1.typeIs ?_);rw[Pt rfl];unfold Builtin.Frozenset.addrOf;refine Pp (Pq ?_);refine Xl1 (s:={s with heap:=s.heap.push {cls:=.type "set",dict:=none,data:=.set #[] 0 (.fresh 0 0 (!A2 w))} }) (c:=s.heap.objs.size) (ep:=0) (Heap.get?_push_size _ rfl) ⟨rfl,rfl,rfl⟩ rfl F1 l2 (Oz lb) λh1 sb1 S1=>?_;refine Pq ?_;have k1:∀e o,s.heap.get? e=some o->h1.get? e=some o:=λe o q=>(sb1.2 e (Ll (Pz q))).trans (keep e o q);refine Pp (Pq ?_);refine Pp (wpAny_holding (Xl9 (s:={s with heap:=h1}) (S.stay λo q=>k1 a o q) S1 (Ll la) hk hl l1 l2 λh2 d zs sb2 S2 n2 z2 m2=>?_));refine Pq (Pq ⟨_,rfl,by simp,?_⟩);exact h h2 d zs (λe o q=>(sb2.2 e (Ll (Pz q))).trans (k1 e o q)) S2 n2 z2 m2
end
section
variable {X:Cx}
theorem Xmb:OpR X (binaryOp .BitXor) (λx y H Q=>∃a b ks ls,x = .ref a/\y = .ref b/\H a=some (Eo X.prog X.w a ks)/\H b=some (Eo X.prog X.w b ls)/\ks.Nodup/\ls.Nodup/\ks.length<16/\ls.length<16 /\
  ∀c zs,H c=none->zs.Nodup->zs.length<=32->(∀y,y∈zs↔(y∈ls/\y∉ks)\/(y∉ls/\y∈ks))->Q (.ref c) (upd H c (Eo X.prog X.w c zs))):=by
 intro pins s σ H x y v u Q I rx ry h;obtain⟨a,b,ks,ls,rfl,rfl,ha,hb,nk,nl,l1,l2,q⟩:=h;cases rx;cases ry;obtain⟨S,_⟩:=(show A5 X.prog X.w H s.heap a (.ext λh=>SSet X.prog X.w h a ks) from I.hok a _ ha);obtain⟨F,_⟩:=(show A5 X.prog X.w H s.heap b (.ext λh=>SSet X.prog X.w h b ls) from I.hok b _ hb);refine Xma S F nk nl l1 l2 λh' d zs k S' n' z' m'=>?_;refine⟨.ref s.heap.objs.size,_,I.laidM (s':={s with heap:=h',drawn:=d}) k rfl rfl (Li _) ?_,rfl,q _ zs (I.hok.fresh (Li _)) n' z' m'⟩;exact⟨S',by obtain⟨o,_,_,_,_,g,_⟩:=S';exact⟨o,g⟩,λh1 h2 S1 kk=>S1.stay kk⟩
end
end L2
set_option maxHeartbeats 4000000
namespace SH
open PySem PySem.Spec PyProof.Rows L2
def Bh (a b:List Str):List Str:=srt ((a.filter λx => !decide (x∈b))++(b.filter λx => !decide (x∈a)))
theorem Kw{a b:List Str}{x:Str}:x∈Bh a b↔(x∈a/\x∉b)\/(x∈b/\x∉a):=by
 unfold Bh;rw[Jn,Lr,Lg,Lg];simp
theorem Xer{a b:List Str}(ha:a.Nodup)(hb:b.Nodup):((a.filter λx => !decide (x∈b))++(b.filter λx => !decide (x∈a))).Nodup:=by
 rw[M6];refine⟨ha.filter _,hb.filter _,λx hx y hy e=>?_⟩;subst e;have h1:=(Lg.mp hx).1;have h2:=(Lg.mp hy).2;simp[h1] at h2
theorem Xes{a b:List Str}(ha:a.Nodup)(hb:b.Nodup):(Bh a b).Pairwise ltS:=by
 have nd2:(Bh a b).Nodup:=(Dk _).nodup_iff.mpr (Xer ha hb);exact(List.pairwise_and_iff.mpr ⟨Er _,nd2⟩).imp λ{x y} (h:leS x y/\x≠y)=>ltS_of h.1 h.2
theorem xor_srt{a b zs:List Str}(ha:a.Nodup)(hb:b.Nodup)(hz:zs.Nodup)(h:∀y,y∈zs↔(y∈b/\y∉a)\/(y∉b/\y∈a)):srt zs=Bh a b:=by
 refine Xi3 (F5 hz (Xer ha hb) λy=>?_);rw[h,Lr,Lg,Lg];simp;by_cases h1:y∈a<;>by_cases h2:y∈b<;>simp[h1,h2]
def spParting:Sp:=λvs H Q _=>∃(p q:Addr) (a b:List Str),vs=[.ref p,.ref q]/\H p=some (.tup (a.map V.str))/\H q=some (.tup (b.map V.str))/\a.Nodup/\b.Nodup/\a.length<16/\b.length<16 /\
 ∀l H',H l=none->H' l=some (.lst ((Bh a b).map V.str))->Same H H'->Q (.ref l) H'
structure Two (H:Hp) (r p q:Addr) (row a b:List Str):Prop where
 hr:H r=some (.lst (row.map V.str))
 r2:Row2 row
 hd:(dit row).length<=14
 hp:H p=some (.tup (a.map V.str))
 hq:H q=some (.tup (b.map V.str))
 oa:∀y∈a,okN y
 ob:∀y∈b,okN y
 la:a.length<=24
 lb:b.length<=24
theorem E2{row a:List Str}(h:Ae row a=true):a.Nodup:=Dp (Br h).2
def E3 (a b:List Str):Bool:=Cf a.length a b.length b
theorem Xmc{Ts:List (List Str)}{p:Array Nat}(g:Gd Ts.length p)(so:B8 (Dr Ts) p Ts.length):
  (p.toList.map λi=>Ts.getD i []).Perm Ts/\(p.toList.map λi=>Ts.getD i []).Pairwise λa b=>E3 a b=true:=by
 constructor
 ·have e:((List.range Ts.length).map λi=>Ts.getD i [])=Ts:=by
   refine List.ext_getElem (by simp) λi h1 h2=>?_;simp[N7,List.getElem_range,List.getD,h2]
  have q:p.toList.Perm (List.range Ts.length):=by
   have:=g.toList;simpa using this
  have:=q.map λi=>Ts.getD i [];rw[e] at this;exact this
 ·rw[Oj];intro i j hi hj hij;have sz:=g.size;rw[Lf,Ln,sz] at hi hj;have:=so i j hij hj;rw[N7,N7];have e1:p.getD i 0=p.toList[i]'(by rw[Ln,sz];exact hi):=by simp[Array.getD,sz,hi]
  have e2:p.getD j 0=p.toList[j]'(by rw[Ln,sz];exact hj):=by simp[Array.getD,sz,hj]
  rw[e1,e2] at this;exact this
theorem Xet{α : Type}(f:Nat -> α)(d : α)(l:List Nat){i:Nat}(hi:i<l.length):(l.map f).getD i d=f l[i]:=by simp[List.getD,hi]
theorem Xmd{H:Hp}{ps:List Addr}{Ts:List (List Str)}{p:Array Nat}(h:Tups H ps Ts)(g:Gd ps.length p):Tups H (p.toList.map λi=>ps.getD i 0) (p.toList.map λi=>Ts.getD i []):=by
 refine⟨by simp,λi hi=>?_⟩;rw[Lf] at hi;have e1:(p.toList.map λi=>ps.getD i 0).getD i 0=ps.getD p.toList[i] 0:=Xet _ _ _ hi;have e2:(p.toList.map λi=>Ts.getD i []).getD i []=Ts.getD p.toList[i] []:=Xet _ _ _ hi;rw[e1,e2];refine h.2 _ ?_;have q:p.toList.Perm (List.range ps.length):=by
  have:=g.toList;simpa using this
 simpa using q.mem_iff.mp (Mj hi)
abbrev qIn:Str:=(Str.ofString "in_order" ++ Str.ofString ".<locals>.")++Str.ofString "<lambda>"
def spInOrder (T:Addr) (pos:Pos):Sp:=λvs H Q _=>∃(l:Addr) (ps:List Addr) (Ts:List (List Str)),vs=[.ref l]/\H l=some (.lst (ps.map V.ref))/\Tups H ps Ts/\Ts.Nodup/\ps.length<64/\Ao T pos qIn H /\
 ∀(D:Addr) (ps':List Addr) (Ts':List (List Str)) (H':Hp),H D=none->H' D=some (.lst (ps'.map V.ref))->Tups H' ps' Ts'->Ts'.Perm Ts->(Ts'.Pairwise λa b=>E3 a b=true)->Ao T pos qIn H'->But T H H'->Q (.ref D) H'
theorem Ao.same{T:Addr}{pos:Pos}{q:Str}{H H':Hp}(h:Ao T pos q H)(s:Same H H'):Ao T pos q H':=by
 rcases h with e | ⟨c,e,ec⟩
 ·exact .inl (s _ _ e)
 ·exact .inr ⟨c,s _ _ e,s _ _ ec⟩
theorem Ao.but{T dr:Addr}{pos:Pos}{q:Str}{H H':Hp}{o':List V}(h:Ao T pos q H)(hd:H dr=some (.lst o'))(b:But dr H H'):Ao T pos q H':=by
 rcases h with e | ⟨c,e,ec⟩
 ·exact .inl (b _ _ e λz=>by rw[z,hd] at e;cases e)
 ·exact .inr ⟨c,b _ _ e (λz=>by rw[z,hd] at e;cases e),b _ _ ec λz=>by rw[z,hd] at ec;cases ec⟩
def lamPos (s:Stmt):Pos:=match Cd s with
 | [.Return (some (.Call _ _ [⟨_,.Lambda _ _ _ p,_⟩] _)) _]=>p
 | _=>⟨0,0,0,0⟩
theorem Xme{a b c e:Int}(h1:a<b)(h2:c<e)(n1:a≠c)(n2:a≠e)(n3:b≠c)(n4:b≠e)(h:lieT a b c e = "apart"):e<a\/b<c:=by
 unfold lieT at h;rw[Ps (by omega)] at h;split at h
 ·exact absurd h (by decide)
 ·split at h
  ·exact absurd h (by decide)
  ·split at h
   ·exact absurd h (by decide)
   ·rename_i q1 q2 q3;rw[Bw] at q1 q2 q3;by_cases p1:c<a/\a<e
    ·by_cases p2:c<b/\b<e
     ·rw[Pt p1,Pt p2] at q2;omega
     ·rw[Pt p1,Ps p2] at q1;omega
    ·by_cases p2:c<b/\b<e
     ·rw[Ps p1,Pt p2] at q1;omega
     ·by_cases p3:a<c/\c<b
      ·by_cases p4:a<e/\e<b
       ·rw[Pt p3,Pt p4] at q3;omega
       ·omega
      ·omega
theorem Xeu{a b c e:Int}(h1:a<b)(h:lieT a b c e = "cross"):a<e/\c<b:=by
 unfold lieT at h;split at h
 ·exact absurd h (by decide)
 ·split at h
  ·rename_i q;rw[Bw] at q;by_cases p1:c<a/\a<e
   ·omega
   ·by_cases p2:c<b/\b<e
    ·omega
    ·rw[Ps p1,Ps p2] at q;omega
  ·split at h
   ·exact absurd h (by decide)
   ·split at h
    ·exact absurd h (by decide)
    ·exact absurd h (by decide)
theorem Xmf{a b c e:Int}(h1:a<b)(h2:c<a)(h3:b<e):lieT a b c e = "within" := by
 unfold lieT;have q:nIn c e [a,b]=2:=by rw[Bw,Pt ⟨h2,by omega⟩,Pt ⟨by omega,h3⟩]
 rw[Ps (by omega),q,Ps (by decide),Pt rfl]
section
variable {row:List Str}
theorem Xev{a y:Str}(h:upB row a y=true):(pl row y).1<=(pl row a).1/\(pl row a).2<=(pl row y).2:=by
 unfold upB at h;rw[M5] at h;rcases h with h | h
 ·rw[Px h];exact⟨Int.le_refl _,Int.le_refl _⟩
 ·obtain⟨h1,h2,h3,h4⟩:=Hl (Px h);exact⟨by omega,by omega⟩
theorem Xew{x y z:Str}(hx:row.count x=2)(h:lieR row x y = "within")(g:lieR row y z = "within"):lieR row x z = "within" := by
 have l:=Bv hx;obtain⟨h1,h2,h3,h4⟩:=Hl h;obtain⟨g1,g2,g3,g4⟩:=Hl g;exact Xmf l (by omega) (by omega)
theorem Kx{x:Str}:lieR row x x ≠ "within" := by rw[Ff];decide
structure Core (row:List Str) (cs:List Str) (p:Str->Bool):Prop where
 inr:∀c∈cs,c∈row
 is:∀y,p y=true ↔ ∃c∈cs,upB row c y=true
 ov:∀c∈cs,∀d∈cs,(pl row c).1<(pl row d).2
 an:∀c∈cs,∀d∈cs,lieR row c d ≠ "within"
variable {cs cs':List Str}{p p':Str->Bool}
theorem Core.plot(h2:∀y∈row,row.count y=2)(C:Core row cs p):Ae row ((dit row).filter p)=true:=by
 refine Eb.mpr ⟨(C0 row).filter p,λx hx=>Ag.mp (Lg.mp hx).1,λx hx y hy e=>?_,λx hx y hy e=>?_⟩
 ·obtain⟨c,hc,hu⟩:=(C.is x).mp (Lg.mp hx).2;refine Lg.mpr ⟨Ag.mpr hy,(C.is y).mpr ⟨c,hc,?_⟩⟩;unfold upB at hu ⊢;rw[M5] at hu ⊢;rcases hu with hu | hu
  ·rw[Px hu] at e;exact .inr (Pu e)
  ·exact .inr (Pu (Xew (h2 c (C.inr c hc)) (Px hu) e))
 ·have mx:=Lg.mp hx;have my:=Lg.mp hy;obtain⟨c,hc,hu⟩:=(C.is x).mp mx.2;obtain⟨d,hd,hv⟩:=(C.is y).mp my.2;have hx2:=h2 x (Ag.mp mx.1);have hy2:=h2 y (Ag.mp my.1);have ne:x≠y:=λz=>by rw[z,Ff] at e;exact absurd e (by decide)
  obtain⟨n1,n2,n3,n4⟩:=Ew hx2 hy2 ne;have u1:=Xev hu;have u2:=Xev hv;have o1:=C.ov c hc d hd;have o2:=C.ov d hd c hc;rcases Xme (Bv hx2) (Bv hy2) n1 n2 n3 n4 e with z | z
  ·omega
  ·omega
theorem Core.min(h2:∀y∈row,row.count y=2)(C:Core row cs p)(x:Str):x∈cs↔x∈(dit row).filter p/\∀y∈(dit row).filter p,lieR row y x ≠ "within" := by
 have self:∀c∈cs,c∈(dit row).filter p:=λc hc=>Lg.mpr ⟨Ag.mpr (C.inr c hc),(C.is c).mpr ⟨c,hc,by unfold upB;simp⟩⟩;constructor
 ·intro hx;refine⟨self x hx,λy hy e=>?_⟩;obtain⟨c,hc,hu⟩:=(C.is y).mp (Lg.mp hy).2;unfold upB at hu;rw[M5] at hu;rcases hu with hu | hu
  ·rw[Px hu] at e;exact C.an c hc x hx e
  ·exact C.an c hc x hx (Xew (h2 c (C.inr c hc)) (Px hu) e)
 ·rintro ⟨hx,hm⟩;obtain⟨c,hc,hu⟩:=(C.is x).mp (Lg.mp hx).2;unfold upB at hu;rw[M5] at hu;rcases hu with hu | hu
  ·rw[Px hu];exact hc
  ·exact absurd (Px hu) (hm c (self c hc))
theorem Core.eq(h2:∀y∈row,row.count y=2)(C:Core row cs p)(C':Core row cs' p')(e:(dit row).filter p=(dit row).filter p'):∀x,x∈cs↔x∈cs':=λx=>by
 rw[C.min h2,C'.min h2,e]
theorem core1(h2:∀y∈row,row.count y=2){a:Str}(ha:a∈row):Core row [a] (upB row a) where
 inr c hc:=by rw[Lk.mp hc];exact ha
 is y:=by simp
 ov c hc d hd:=by rw[Lk.mp hc,Lk.mp hd];exact Bv (h2 a ha)
 an c hc d hd:=by rw[Lk.mp hc,Lk.mp hd];exact Kx
theorem Dc{q:Str×Str}(h:q∈crs row):q.1∈row/\q.2∈row/\ltS q.1 q.2/\lieR row q.1 q.2 = "cross" := by
 unfold crs at h;obtain⟨x,hx,h⟩:=O4.mp h;obtain⟨y,hy,rfl⟩:=Lz.mp h;obtain⟨h1,h3⟩:=Lg.mp hy;rw[Ls] at h3;exact⟨Ag.mp hx,Ag.mp h1,Px h3.1,Px h3.2⟩
theorem core2(h2:∀y∈row,row.count y=2){q:Str×Str}(h:q∈crs row):Core row [q.1,q.2] λy=>upB row q.1 y||upB row q.2 y:=by
 obtain⟨ha,hb,hl,hx⟩:=Dc h;have hy:lieR row q.2 q.1 = "cross" := Cq (h2 _ ha) (h2 _ hb) hx;have la:=Bv (h2 _ ha);have lb:=Bv (h2 _ hb);have c1:=Xeu la hx;have c2:=Xeu lb hy;refine⟨λc hc=>?_,λy=>by simp,λc hc d hd=>?_,λc hc d hd=>?_⟩
 ·simp at hc;rcases hc with rfl | rfl
  ·exact ha
  ·exact hb
 ·simp at hc hd;rcases hc with rfl | rfl<;>rcases hd with rfl | rfl
  ·exact la
  ·exact c1.1
  ·exact c2.1
  ·exact lb
 ·simp at hc hd;rcases hc with rfl | rfl<;>rcases hd with rfl | rfl
  ·exact Kx
  ·rw[hx];decide
  ·rw[hy];decide
  ·exact Kx
theorem Xmg(h2:∀y∈row,row.count y=2):∀S∈cands row,Ae row S=true:=λS hS=>by
 unfold cands at hS;rcases Lr.mp hS with h | h
 ·obtain⟨a,ha,rfl⟩:=Lz.mp h;exact(core1 h2 (Ag.mp ha)).plot h2
 ·obtain⟨q,hq,rfl⟩:=Lz.mp h;exact(core2 h2 hq).plot h2
theorem Xex(row:List Str):(crs row).Nodup:=by
 unfold crs;have nd:=Dp (C0 row);rw[List.Nodup,List.pairwise_flatMap];refine⟨λx hx=>?_,nd.imp λ{x y} ne a ha b hb e=>?_⟩
 ·rw[Ox];exact(nd.filter _).imp λne e=>ne (Prod.mk.inj e).2
 ·obtain⟨u,_,rfl⟩:=Lz.mp ha;obtain⟨v,_,rfl⟩:=Lz.mp hb;exact ne (Prod.mk.inj e).1
theorem Xey(h2:∀y∈row,row.count y=2):(cands row).Nodup:=by
 have nd:=Dp (C0 row);unfold cands;rw[List.Nodup,List.pairwise_append];refine⟨?_,?_,?_⟩
 ·rw[Ox];refine nd.imp_of_mem λ{a b} ha hb ne e=>ne ?_;have:=(Core.eq h2 (core1 h2 (Ag.mp ha)) (core1 h2 (Ag.mp hb)) e a).mp (M9 _);exact Lk.mp this
 ·rw[Ox];refine(Xex row).imp_of_mem λ{q r} hq hr ne e=>ne ?_;have E:=Core.eq h2 (core2 h2 hq) (core2 h2 hr) e;obtain⟨_,_,l1,_⟩:=Dc hq;obtain⟨_,_,l2,_⟩:=Dc hr;have e1:=(E q.1).mp (by simp);have e2:=(E q.2).mp (by simp);have e3:=(E r.1).mpr (by simp);simp at e1 e2 e3;obtain⟨a,b⟩:=q;obtain⟨c,d⟩:=r;simp only at *;rcases e1 with e1 | e1
  ·rcases e2 with e2 | e2
   ·exact absurd (e1.trans e2.symm) (F3 l1)
   ·rw[e1,e2]
  ·rcases e2 with e2 | e2
   ·rw[e1,e2] at l1;exact absurd (Ep l1 l2) (Dj _)
   ·exact absurd (e1.trans e2.symm) (F3 l1)
 ·intro A hA B hB e;obtain⟨a,ha,rfl⟩:=Lz.mp hA;obtain⟨q,hq,rfl⟩:=Lz.mp hB;have E:=Core.eq h2 (core1 h2 (Ag.mp ha)) (core2 h2 hq) e;obtain⟨_,_,l1,_⟩:=Dc hq;have e1:=Lk.mp ((E q.1).mpr (by simp));have e2:=Lk.mp ((E q.2).mpr (by simp));exact F3 l1 (e1.trans e2.symm)
theorem Xez(h2:∀y∈row,row.count y=2)(h3:Bq row)(S:List Str):S∈[]::cands row↔Ae row S=true:=by
 constructor
 ·intro h;rcases Lo.mp h with e | e
  ·rw[e];exact Xdu row
  ·exact Xmg h2 S e
 ·intro h;by_cases e:S=[]
  ·rw[e];exact Lj
  ·exact Lh _ (Xkw h2 h3 e h)
theorem Xmh(h2:∀y∈row,row.count y=2):[]∉cands row:=λh=>by
 unfold cands at h;rcases Lr.mp h with h | h
 ·obtain⟨a,ha,e⟩:=Lz.mp h;have:=((core1 h2 (Ag.mp ha)).min h2 a).mp (M9 _);rw[e] at this;cases this.1
 ·obtain⟨q,hq,e⟩:=Lz.mp h;have:=((core2 h2 hq).min h2 q.1).mp (by simp);rw[e] at this;cases this.1
theorem Xmi(h2:∀y∈row,row.count y=2):([]::cands row).Nodup:=Mn.mpr ⟨Xmh h2,Xey h2⟩
end
end SH
namespace L2
open PySem PySem.Spec PyProof.Rows
theorem Xe0{X:Cx}{N:List Str}{cap:List (Option Nat)}{scope:Scope}{tg iter elt:Expr}{ifs:List Expr}{g:TG}{tt:TT}{te:TE}{wi:TI}{pos:Pos}{i:Nat}{y:Str}{py spos:Pos}(C:CompScope X N cap scope)(hcalm:X.calm=true)(hN:X.N.Nodup)(hiN:X.N[i]? = some y)(hy:X.env.scope.names.lookup y=some .local)(hi:PI X tg iter wi)
  (hg:∀s0 H0 ex,PG (X.comp N scope s0 H0 ex) tg g) (ht:∀s0 H0 ex,PIfs (X.comp N scope s0 H0 ex) ifs tt) (he:∀s0 H0 ex,PE (X.comp N scope s0 H0 ex) elt te)
  (hsw:swapsWith (.ListComp elt [⟨tg,iter,ifs,0⟩] scope pos) (some (.Name y py)) spos.line X.env=pure true:=by rfl)
  (hs:∀x,foldedSetIterable iter X.env x=pure x:=by intro _;rfl):PS X (.Assign [.Name y py] (.ListComp elt [⟨tg,iter,ifs,0⟩] scope pos) spos) (Xcs i cap (.lst []) wi g tt (F8 te)):=
 Xct (act := fun D env => do let _ <- call (.builtin "list.append") [.ref D, <- eval elt env]) G8 (fun use => rfl) rfl C hcalm F7 hN hiN hy hi (fun it D env => rfl) hg ht (fun D s0 H0 ex => G7 (he s0 H0 ex)) hsw hs
end L2
namespace SH
open PySem PySem.Spec PyProof.Rows L2
def spPlotsA (T:Addr) (pos:Pos):Sp:=λvs H Q _=>∃(r:Addr) (row:List Str),vs=[.ref r]/\H r=some (.lst (row.map V.str))/\Row2 row/\Bq row/\(dit row).length<=13/\Ao T pos qIn H /\
 ∀(D:Addr) (ps:List Addr) (Ts:List (List Str)) (H':Hp),H D=none->H' D=some (.lst (ps.map V.ref))->Tups H' ps Ts->(∀S,S∈Ts↔Ae row S=true)->(Ts.Pairwise λa b=>E3 a b=true)->ps.length<=64->Ao T pos qIn H'->But T H H'->Q (.ref D) H'
abbrev NPp:List Str:=["row", "span", "off", "single", "double"]
abbrev NPo:List Str:=["name", "span"]
abbrev NPi:List Str:=["other", "name", "span"]
abbrev NPs:List Str:=["name", "off"]
abbrev NPd:List Str:=["one", "other", "off"]
structure Offs (H:Hp) (kvs:List (Key×V)) (row:List Str) (ns:List Str):Prop where
 keys:kvs.map (·.1)=ns.map (λx=>(Sum.inr x:Key))
 val:∀x∈ns,∃l,An kvs (Sum.inr x:Key)=some (.ref l)/\H l=some (.lst (((dit row).filter (upB row x)).map V.str))
theorem Offs.mono{H H':Hp}{kvs:List (Key×V)}{row ns:List Str}(s:Offs H kvs row ns)(h:Same H H'):Offs H' kvs row ns:=⟨s.keys,λx hx=>let ⟨l,h1,h2⟩:=s.val x hx; ⟨l,h1,h _ _ h2⟩⟩
theorem Offs.snoc{H H':Hp}{kvs:List (Key×V)}{row ns:List Str}{x:Str}{l:Addr}(s:Offs H kvs row ns)(nx:x∉ns)(h:H' l=some (.lst (((dit row).filter (upB row x)).map V.str)))(k:∀b xs,H b=some (.lst xs)->H' b=some (.lst xs)):
  Offs H' (A7 kvs (Sum.inr x) (.ref l)) row (ns++[x]):=by
 have hn:An kvs (Sum.inr x:Key)=none:=by
  cases e:An kvs (Sum.inr x:Key) with
  | none=>rfl
  | some v=>
   exfalso;have:=Fz e;rw[s.keys] at this;obtain⟨y,hy,e2⟩:=Lz.mp this;rw[Nl e2] at hy;exact nx hy
 refine⟨by rw[Fy _ hn,Lu,Lu,s.keys];rfl,λy hy=>?_⟩;rw[Fx];by_cases e:y=x
 ·subst e;exact⟨l,Pt rfl,h⟩
 ·have hy':y∈ns:=by
   rcases Lr.mp hy with z | z
   ·exact z
   ·exact absurd (Lk.mp z) e
  obtain⟨l0,h1,h2⟩:=s.val y hy';exact⟨l0,by rw[Ps (λz=>e (Nl z))];exact h1,k _ _ h2⟩
theorem Offs.get{H:Hp}{kvs:List (Key×V)}{row ns:List Str}{d:Addr}{x:Str}(s:Offs H kvs row ns)(hd:Rd H d (.dK kvs))(hx:x∈ns):∃l,DGet H d (.str x) (some (.ref l))/\H l=some (.lst (((dit row).filter (upB row x)).map V.str)):=by
 obtain⟨l,h1,h2⟩:=s.val x hx;exact⟨l,DGet.rd hd h1,h2⟩
theorem Offs.at{H:Hp}{kvs:List (Key×V)}{row ns:List Str}(s:Offs H kvs row ns)(i:Nat)(hi:i<ns.length):(kvs.map λp=>kV p.1).getD i .non = .str (ns.getD i Str.empty):=by
 have e:(kvs.map λp=>kV p.1)=ns.map V.str:=by
  have:(kvs.map λp=>kV p.1)=(kvs.map (·.1)).map kV:=by rw[Mb];rfl
  rw[this,s.keys,Mb];rfl
 rw[e];exact Db V.str Str.empty ns hi
theorem Offs.len{H:Hp}{kvs:List (Key×V)}{row ns:List Str}(s:Offs H kvs row ns):kvs.length=ns.length:=by
 have:=congrArg List.length s.keys;simpa using this
theorem Xmj{row:List Str}{x y:Str}(hx:row.count x=2)(hy:row.count y=2):decide (lieR row x y∈[Str.ofString "same",Str.ofString "within"])=upB row x y:=by
 unfold upB;by_cases e:y=x
 ·subst e;rw[Ff];simp
 ·have n:lieR row x y ≠ "same" := λz=>e (Xdn hx hy z).symm;simp[e,n]
end SH
namespace L2
open PySem PySem.Spec PyProof.Rows
theorem Xmk{ns:List Int}{its:List Value}(rv:Vals (ns.map V.int) its):∃ps:List (Int×Tok),its=ps.map (λp=>Value.int p.1 p.2)/\ps.map (·.1)=ns:=by
 induction ns generalizing its with
 | nil=>cases rv;exact⟨[],rfl,rfl⟩
 | cons n t ih=>
  cases rv with
  | cons r t'=>
   obtain⟨tk,rfl⟩:=r;obtain⟨ps,rfl,e⟩:=ih t';exact⟨(n,tk)::ps,rfl,by rw[Ly,e]⟩
theorem Ky(ps:List (Int×Tok)):∀j,j<=ps.length->preSum (numAt ps.toArray) j=((ps.map (·.1)).take j).sum
 | 0,_=>rfl
 | j+1,h=>by
  have e:preSum (numAt ps.toArray) (j+1)=preSum (numAt ps.toArray) j+numAt ps.toArray j:=rfl;have hj:j<(ps.map (·.1)).length:=by rw[Lf];omega
  rw[e,Ky ps j (by omega),Lw hj,List.sum_append];congr 1;unfold numAt;rw[O2,Lm (by omega),N7];simp
theorem Xe1{B:Int}(hB:0<=B):∀(l:List Int),(∀n∈l,0<=n/\n<=B)->0<=l.sum/\l.sum<=B * l.length
 | [],_=>⟨by simp,by simp⟩
 | n::l,h=>by
  obtain⟨a,b⟩:=h n Lj;obtain⟨c,d⟩:=Xe1 hB l λm hm=>h m (Lh _ hm);rw[Mt,Lv];have:B * ((l.length+1:Nat):Int)=B * l.length+B:=by rw[Int.natCast_add,Int.mul_add];simp
  omega
section
variable {X:Cx}
theorem Xml(hc:X.calm=true):B1 X (.builtin "sum") (λxs H Q=>∃(a:Addr) (ns:List Int),xs=[.ref a]/\H a=some (.lst (ns.map V.int))/\ns.length<=1000/\(∀n∈ns,0<=n/\n<=100000)/\Q (.int ns.sum) H):=by
 intro pins s σ H xs us Q I r h;obtain⟨a,ns,rfl,ha,hl,hb,q⟩:=h;obtain⟨u,rfl,ru⟩:=Ca r;cases ru;obtain⟨its,rv,p,hz⟩:=I.list (SqL.of ha);obtain⟨ps,rfl,e⟩:=Xmk rv;have hpl:ps.length=ns.length:=by rw[<-e,Lf]
 have hit:s.heap.IsList a (intItems ps.toArray):=by
  have:intItems ps.toArray=(ps.map λp=>Value.int p.1 p.2).toArray:=by unfold intItems;rw[List.map_toArray]
  rw[this];exact p.isList
 have small:∀j,j<=ps.length->0<=preSum (numAt ps.toArray) j/\preSum (numAt ps.toArray) j<=100000000:=λj hj=>by
  rw[Ky ps j hj,e];have:=Xe1 (B:=100000) (by decide) (ns.take j) λn hn=>hb n (O5 hn);have hlen:(ns.take j).length<=1000:=by rw[Mc];omega
  omega
 refine sum_intList (I.ok.hd hc) hit (λj hj=>?_) λh' tk t' k=>⟨.int ns.sum,H,I.kept k,⟨t',?_⟩,q⟩
 ·have hj':j<ps.length:=by simpa using hj
  have s1:=small (j+1) (by omega);have s0:=small j (by omega);have e1:preSum (numAt ps.toArray) (j+1)=preSum (numAt ps.toArray) j+numAt ps.toArray j:=rfl;constructor<;>(unfold InLong;omega)
 ·have:preSum (numAt ps.toArray) ps.toArray.size=ns.sum:=by
   rw[Lq,Ky ps _ (Li _),e,N8 (by omega)]
  rw[this]
end
end L2
set_option maxHeartbeats 8000000
namespace SH
open PySem PySem.Spec PyProof.Rows L2
theorem isin{U:List (List Str)}{S:List Str}(h1:∀W∈U,∀y∈W,okN y)(h2:∀y∈S,okN y):((U.map Bj).any λe=>PyData.eqv e (Bj S))=decide (S∈U):=by
 rw[List.any_map];by_cases hS:S∈U
 ·rw[Pu hS,Nv];exact⟨S,hS,by show PyData.eqv (.tuple _) (.tuple _)=true;rw[Kj h2 h2];exact Pu rfl⟩
 ·rw[Pw hS,List.any_eq_false];intro W hW;show ¬PyData.eqv (.tuple _) (.tuple _)=true;rw[Kj (h1 W hW) h2];simp;exact λz=>hS (z ▸ hW)
theorem Xe2{U:List (List Str)}(h:∀S∈U,∀y∈S,okN y):Co (U.map Bj)=true:=plainAll_map Bj U λS hS=>D7 (h S hS)
theorem Xe3{H:Hp}{l:Addr}{ps:List Addr}{Ts:List (List Str)}(h:H l=some (.lst (ps.map V.ref)))(t:Tups H ps Ts):DAt H (.list (Ts.map Bj)) (.ref l):=Xcx h (Xd9 t)
end SH
set_option maxHeartbeats 4000000
namespace SH
open PySem PySem.Spec PyProof.Rows L2
def CrOk (Ts:List (List Str)):Prop:=∀S∈Ts,(∀y∈S,okN y)/\S.length<=24
def Xe4 (Ts:List (List Str)) (b:List Str):Int:=(Ts.map λa=>((Bh a b).length:Int)).sum
theorem Tups.at{H:Hp}{ps:List Addr}{Ts:List (List Str)}{i:Nat}(h:Tups H ps Ts)(hi:i<ps.length):Ts.getD i []∈Ts:=by
 have hi':i<Ts.length:=by rw[<-h.1];exact hi
 have:Ts.getD i []=Ts[i]:=by simp[List.getD,hi']
 rw[this];exact Mj hi'
theorem Ho{ps:List Addr}{i:Nat}{v:V}(h:(ps.map V.ref)[i]? = some v):i<ps.length/\v = .ref (ps.getD i 0):=by
 obtain⟨hi,e⟩:=L9.mp h;rw[Lf] at hi;exact⟨hi,by rw[<-e];simp[List.getD,hi]⟩
theorem Ao.ne{T b:Addr}{pos:Pos}{q:Str}{H:Hp}{o:HO}(tb:Ao T pos q H)(e:H b=some o)(n:∀z,o ≠ .tbl z):b≠T:=λz=>by
 rcases tb with q | ⟨_,q,_⟩<;>(rw[z,q] at e;cases e;exact n _ rfl)
end SH
namespace L2
open PySem PySem.Spec PyProof.Rows
def Recs (H:Hp) (ps:List Addr) (rs:List (List V)):Prop:=ps.length=rs.length/\∀i,i<ps.length->H (ps.getD i 0)=some (.tup (rs.getD i []))
theorem Xmm{cap:List (Option Nat)}{g:TG}{tt:TT}{te:TE}{J:It}{σ:St}{H1:Hp}{F:Addr->Hp->Prop}(n:Nat)(hn:n<sizeLine)(vs:Nat->V)(ys:Nat->V)(Es:St->Prop)(h0:Es (Bi cap σ))
  (hgo:∀i H2,i<n->Same H1 H2->J.go i H2/\∀x H3,J.yld i H2 x H3->H3=H2/\x=vs i)
  (hst:∀H2,Same H1 H2->J.stop n H2)
  (step:∀i σ1 H2 (Q1:St->V->Hp->Prop) (Q0:St->Hp->Prop),i<n->Es σ1->Same H1 H2->(∀σ2 H6,Es σ2->Same H2 H6->Q1 σ2 (ys i) H6)->g (vs i) σ1 H2 fun σ2 H4=>tt σ2 H4 λb H5=>if b=true then te σ2 H5 λy H6=>Q1 σ2 y H6 else Q0 σ2 H5)
  (hd:∀D H2,H1 D=none->Same H1 H2->H2 D=some (.lst ((List.range n).map ys))->F D H2):C8 cap g tt te J σ H1 F:=by
 refine El n vs (λD i σ2 H2=>Es σ2/\Same H1 H2/\H2 D=some (.lst ((List.range i).map ys))) ?_ ?_ ?_ ?_ ?_
 ·intro D hD;exact⟨h0,(Same.refl H1).step hD,Ab⟩
 ·rintro D i σ2 H2 hD hi ⟨_,s2,_⟩;exact hgo i H2 hi s2
 ·rintro D σ2 H2 hD ⟨_,s2,_⟩;exact hst H2 s2
 ·rintro D i σ2 H2 hD hi ⟨e,s2,hb⟩;refine step i σ2 H2 _ _ hi e s2 fun σ3 H4 e3 s4=>?_
  have hb4:=s4 _ _ hb;refine wput hi hb4 (by rw[Lf,Mp];omega) ⟨e3,λb u e'=>?_,?_⟩
  ·rw[Ac (Aq e' hD)];exact s4 _ _ (s2 b u e')
  ·rw[Ab,Mg,Lu];rfl
 ·rintro D σ2 H2 hD ⟨_,s2,hb⟩;exact hd D H2 hD s2 hb
end L2
namespace SH
open PySem PySem.Spec PyProof.Rows L2
def offN (Ts:List (List Str)) (x:Str):Nat:=(Ts.filter λS=>decide (x∈S)).length
def v3 (t:Str×Int×Int):List V:=[.str t.1,.int t.2.1,.int t.2.2]
def v2 (q:Str×Int):List V:=[.str q.1,.int q.2]
def d3 (t:Str×Int×Int):PyData:=.tuple [.str t.1,.int t.2.1,.int t.2.2]
def d2 (q:Str×Int):PyData:=.tuple [.str q.1,.int q.2]
structure CrAt (H:Hp) (T:Addr) (pos:Pos) (r c:Addr) (row:List Str) (ps:List Addr) (Ts:List (List Str)):Prop where
 hr:H r=some (.lst (row.map V.str))
 r2:Row2 row
 n3:Bq row
 d:(dit row).length<=13
 tab:Ao T pos qIn H
 hc:H c=some (.lst (ps.map V.ref))
 ht:Tups H ps Ts
 pl:ps.length<=200
 co:CrOk Ts
def kvN (ns:List Str) (f:Str->Nat):List (Key×V):=ns.map λx=>((Sum.inr x:Key),V.int (f x:Int))
def cntOn (ns:List Str) (Ts:List (List Str)):List (Str×Int×Int):=ns.map λx=>(x,(Ts.length:Int) - offN Ts x,(offN Ts x:Int))
theorem Xmn{ns:List Str}{i:Nat}{v:V}(h:(ns.map V.str)[i]? = some v):∃x,v = .str x/\ns[i]? = some x:=by
 rw[L1] at h;cases e:ns[i]? with
 | none=>rw[e] at h;cases h
 | some x=>
  rw[e] at h;exact⟨x,(L5 h).symm,rfl⟩
theorem Xmo{α : Type}{f : α->Bool}{U:List α}:U.countP f=0 ↔ ∀x∈U,f x=false:=by
 rw[List.countP_eq_zero];exact⟨λh x hx=>by simpa using h x hx,λh x hx=>by simp[h x hx]⟩
def ne2 (a b:List Str) (x:Str):Bool:=xor (decide (x∈a)) (decide (x∈b))
theorem Gj{a b:List Str}{x:Str}:ne2 a b x=true↔(x∈a/\x∉b)\/(x∈b/\x∉a):=by
 unfold ne2;by_cases h1:x∈a<;>by_cases h2:x∈b<;>simp[h1,h2]
theorem Hq{row a b:List Str}(ha:Ae row a=true)(hb:Ae row b=true):(Bh a b).length=(dit row).countP (ne2 a b):=by
 rw[Mi];congr 1;refine lt_uniq (Xes (E2 ha) (E2 hb)) ((C0 row).filter _) λx=>?_;rw[Kw,Lg,Gj,Ag];refine⟨λh=>⟨?_,h⟩,λh=>h.2⟩;rcases h with h | h
 ·exact(Br ha).1 x h.1
 ·exact(Br hb).1 x h.1
def btw (a b c:List Str):Bool:=decide ((Bh a c).length+(Bh c b).length=(Bh a b).length)
def Xo5:Sp:=λvs H Q _=>∃(r p q u:Addr) (row a b c:List Str),vs=[.ref r,.ref p,.ref q,.ref u]/\H r=some (.lst (row.map V.str))/\Row2 row/\(dit row).length<=14/\H p=some (.tup (a.map V.str))/\H q=some (.tup (b.map V.str))/\H u=some (.tup (c.map V.str)) /\
 Ae row a=true/\Ae row b=true/\Ae row c=true/\∀H',Same H H'->Q (.bl (btw a b c)) H'
def Xo6 (T:Addr) (pos:Pos):Sp:=λvs H Q _=>∃(r p q:Addr) (row a b:List Str),vs=[.ref r,.ref p,.ref q]/\H r=some (.lst (row.map V.str))/\Row2 row/\Bq row/\(dit row).length<=13/\H p=some (.tup (a.map V.str))/\H q=some (.tup (b.map V.str)) /\
 Ae row a=true/\Ae row b=true/\Ao T pos qIn H /\
 ∀(D:Addr) (ps:List Addr) (Ts:List (List Str)) (H':Hp),H D=none->H' D=some (.lst (ps.map V.ref))->Tups H' ps Ts->(∀S,S∈Ts↔Ae row S=true/\btw a b S=true)->(Ts.Pairwise λx y=>E3 x y=true)->ps.length<=64->Ao T pos qIn H'->But T H H'->Q (.ref D) H'
def costX (Ts:List (List Str)) (S:List Str) (x:Str):Int:=if x∈S then (Ts.length:Int) - offN Ts x else (offN Ts x:Int)
def majB (Ts:List (List Str)) (S:List Str) (x:Str):Prop:=(x∈S->Ts.length<=2 * offN Ts x)/\(x∉S->2 * offN Ts x<=Ts.length)
def majP (row:List Str) (Ts:List (List Str)):List Str:=(dit row).filter λx=>decide (Ts.length<2 * offN Ts x)
def Xo7 (row:List Str) (Ts:List (List Str)) (S:List Str):Prop:=Ae row S=true/\∀S',Ae row S'=true->Xe4 Ts S<=Xe4 Ts S'
end SH
namespace L2
open PySem PySem.Spec PyProof.Rows
section
variable {P:Program}{w:World}{A:Around}{E:Value->Shared->Prop}{s:Shared}{it d v:Addr}{i ep:Nat}{es:Array DictEntry}
end
section
variable {X:Cx}{tg:Expr}
end
section
variable {X:Cx}
end
end L2
namespace SH
open PySem PySem.Spec PyProof.Rows L2
def kOf (S:List Str):List Key:=S.map λx=>(Sum.inr x:Key)
theorem Xe5(S:List Str):(kOf S).map kV=S.map V.str:=by unfold kOf;rw[Mb];rfl
theorem Xmp{S S':List Str}(h:kOf S=kOf S'):S=S':=by
 unfold kOf at h;exact Ou (λa b e=>Nl e) |>.mp h
def kvT (Us:List (List Str)) (f:List Str->Int):List (List Key×V):=Us.map λS=>(kOf S,V.int (f S))
theorem Xmq(a:List Str):¬E3 a a=true:=λh=>by unfold E3 at h;rw[Xd5] at h;cases h
theorem Xmr{Us:List (List Str)}(h:Us.Pairwise λa b=>E3 a b=true):Us.Nodup:=h.imp (S:=λa b=>a≠b) λ{a b} q (e:a=b)=>Xmq a (by rw[<-e] at q;exact q)
end SH
namespace L2
open PySem PySem.Spec PyProof.Rows PySem.Calls
section
variable {P:Program}{w:World}{A:Around}{E:Value->Shared->Prop}{s:Shared}
theorem Xms:typeLookup (.type "list") "keys" = pure none:=by rw[typeLookup_type,builtinLookup_eq_fast];kernel_rfl
theorem Xe6{a:Addr}{xs:Array Value}{k:Nat}{Q:Option Value->Shared->Prop}(hx:s.heap.get? a=some {cls:=.type "list",data:=.seq xs k})(hA:A.handled=none)
  (h:∀h' tk,(∀b o,s.heap.get? b=some o->h'.get? b=some o)->Q none {s with heap:=h',toks:=tk}):wpAny (model P w) A (getAttr? (.ref a) "keys") Q E s:=by
 obtain⟨hp,g,d,tk,os⟩:=s;have hT:∀tk',(⟨hp,g,d,tk',os⟩:Shared).TypeIs (.ref a) "list" := λ_=>⟨_,hx,rfl⟩;have f1:=sub_AttributeError;have f3:=PySem.F.slot_list_getattribute.lookup;have f4:=PySem.F.slot_list_getattribute.bind (.ref a);have f5:=am_list_getattr_none;unfold getAttr? getAttrBy? getAttrBy
 repeat (any_goals (first | assumption | exact hT _ | ((with_reducible show wpAny _ _ (call (Value.builtin "list.__getattribute__") _ _) _ _ _);refine call_meets PySem.F.slot_list_getattribute (hT _) am_entry_list_getattribute (PySem.F.args_list_getattribute_2 _ _) (meets_getattribute_miss_list a xs k #[] "keys" _ Xms (by decide +kernel)) ⟨hx,hA,λh' tk' e hx'=>?_⟩) | wp_step))
 obtain⟨t',u',he⟩:=hx'.there;show wpAny _ _ (getattributeRaised _ _ _ _ _ _ _) _ _ _;unfold getattributeRaised
 repeat (any_goals (first | assumption | wp_step))
 all_goals first | exact h _ _ hx'.keeps | trace_state
theorem Hr:entryFor table "dict.update.loop" = some Builtin.«dict.update.loop»:=entryFor_of_tree (by kernel_rfl)
theorem Ec:plainId "dict.update.loop" = true:=by decide +kernel
def Bx (prs:List (Key×V)):List (Key×V):=prs.foldl (λm q=>A7 m q.1 q.2) []
theorem Kz(prs:List (Key×V))(q:Key×V):Bx (prs++[q])=A7 (Bx prs) q.1 q.2:=by
 unfold Bx;rw[Pj];rfl
theorem Xe7(prs:List (Key×V)):(Bx prs).length<=prs.length:=by
 have:∀n,∀prs:List (Key×V),prs.length=n->(Bx prs).length<=n:=by
  intro n
  induction n with
  | zero=>intro prs h;rw[Ma.mp h];exact Li _
  | succ n ih=>
   intro prs h;obtain⟨l,q,rfl⟩:∃l q,prs=l++[q]:=⟨prs.dropLast,prs.getLast (λe=>by rw[e] at h;cases h),(M7 _).symm⟩;rw[Kz];have:=E5 (Bx l) q.1 q.2;have:=ih l (by simpa using h);omega
 exact this _ prs rfl
theorem Xmt{R:Result->Shared->Prop}{I:Addr}{fp wr:List Addr}{G:Array GenState->Array GenState->Prop}{Pv:Nat->Value->Prop}{St:Nat->Shared->Prop}(prs:List (Key×V))(W:WalksS P w A.in1 I fp wr G prs.length Pv St)(d:Addr)(nd:d∉fp)(h0:Heap)(dft:Key×V)
  (hval:∀i v,i<prs.length->Pv i v->∃p o n kv vv,v = .ref p/\p≠d/\p∉wr/\h0.get? p=some o/\o.cls = .type "tuple" /\ o.data = .seq #[kv,vv] n/\Af (kV (prs.getD i dft).1) kv/\Af (prs.getD i dft).2 vv) (hb:prs.length<sizeLine):
  ∀(k i:Nat) (j:Int) (tj:Tok) (s:Shared),prs.length - i=k->i<=prs.length->St i s->(∀b o,b≠d->b∉wr->h0.get? b=some o->s.heap.get? b=some o)->(∃vs,KV (Bx (prs.take i)) vs/\s.heap.DictOf (Au P w) d vs) ->
   (∀s',Moved (d::wr) G s s'->(∃vs,KV (Bx prs) vs/\s'.heap.DictOf (Au P w) d vs)->R (.ok (.ret .none)) s') ->
   codeAny (model P w) A (.builtin "dict.update.loop" ⟨[.ref d,.ref I,.int j tj,.none],[]⟩) R s:=by
 have nw:d∉wr:=λz=>nd (W.sub _ z);have up:∀b∈wr,b∈d::wr:=λb z=>Lh _ z;intro k
 induction k with
 | zero=>
  intro i j tj s e hi st hk ⟨vs,rel,dd⟩ hR;have:i=prs.length:=by omega
  subst this;rw[Mr] at rel;refine codeAny_builtin Hr ?_;rw[Around.under_plainId Ec _];show wpAny _ A.in1 (pyNext (.ref I) >>= λ_=>_) _ _ s;refine Pp (W.done s _ _ st λs' mv=>?_);show wpAny _ A.in1 (Builtin.Dict.addKeywords d [] >>= _) _ _ s';obtain⟨o,es,ep,ho,r⟩:=dd;exact Pp (Pq (Pq (hR s' (mv.mono up) ⟨vs,rel,o,es,ep,mv.heap d o nw ho,r⟩)))
 | succ k ih=>
  intro i j tj s e hi st hk ⟨vs,rel,dd⟩ hR;have lt:i<prs.length:=by omega
  refine codeAny_builtin Hr ?_;rw[Around.under_plainId Ec _];show wpAny _ A.in1 (pyNext (.ref I) >>= λ_=>_) _ _ s;refine Pp (W.item i s _ _ lt st λv s' hP st' mv=>?_);obtain⟨p,o,n,kv,vv,rfl,npd,npw,ho,hc,hd,rk,rv⟩:=hval i v lt hP;have hk':∀b o,b≠d->b∉wr->h0.get? b=some o->s'.heap.get? b=some o:=λb o h1 h2 h3=>mv.heap b o h2 (hk b o h1 h2 h3);have ho':=hk' p o npd npw ho;have dd':s'.heap.DictOf (Au P w) d vs:=by
   obtain⟨o,es,ep,ho,r⟩:=dd;exact⟨o,es,ep,mv.heap d o nw ho,r⟩
  have hT:s'.TypeIs (.ref p) "tuple" := ⟨o,ho',hc⟩;have hl1:vs.length<=i:=by
   have:=Xe7 (prs.take i);rw[<-rel.length];rw[Mc] at this;omega
  show wpAny _ A.in1 (holding [Value.ref p] _ >>= λ_=>_) _ _ s';refine Pp (wpAny_holding (Pp (wpAny_tryCatch ?_)));unfold Builtin.Dict.pairItems;refine Pp (wpAny_typeOf hT ?_);rw[Pt (by decide)];refine Pp (wpAny_seqItems ho' hd (Pq ?_));show wpAny _ _ (holding [kv,vv] (dictSet d kv vv)) _ _ s';refine wpAny_holding (wpAny_dictSet_pairs (knd:=Au P w) (Dx rk) dd' (λh' dd2 hs=>?_) (by omega));have e3:Bx (prs.take (i+1))=A7 (Bx (prs.take i)) (prs.getD i dft).1 (prs.getD i dft).2:=by
   rw[Lw lt,Kz];have:prs.getD i dft=prs[i]:=by simp[List.getD,lt]
   rw[this]
  refine Pq ⟨plainId_quiet Ec _,ih (i+1) _ _ _ (by omega) lt (W.frame _ s' _ _ st' (Np _) λb hb o q=>?_) (λb o h1 h2 h3=>?_) ⟨_,by rw[e3];exact rel.put _ rv,dd2⟩ λs'' mv2 S4=>?_⟩
  ·show h'.get? b=some o;rw[hs.2 b (λz=>nd (z ▸ hb))];exact q
  ·show h'.get? b=some o;rw[hs.2 b h1];exact hk' b o h1 h2 h3
  ·refine hR s'' (Moved.trans W.gtrans ((mv.mono up).then_heap (Np _) λb o hb q=>?_) mv2) S4;rw[hs.2 b (λz=>hb (z ▸ Lj))];exact q
abbrev dft0:Key×V:=(Sum.inl 0,.non)
abbrev Bz:Obj:={cls:=.type "dict",data:=.dict #[]}
theorem Xmu{l:Addr}{items:Array Value}{k:Nat}{prs:List (Key×V)}{Q:Value->Shared->Prop}(hA:A.handled=none)(hl:s.heap.get? l=some {cls:=.type "list",data:=.seq items k})(hz:items.size=prs.length)(hb:prs.length<sizeLine)
  (hval:∀i v,i<prs.length->items[i]? = some v->∃p o n kv vv,v = .ref p/\s.heap.get? p=some o/\o.cls = .type "tuple" /\ o.data = .seq #[kv,vv] n/\Af (kV (prs.getD i dft0).1) kv/\Af (prs.getD i dft0).2 vv)
  (h:∀(h':Heap) (tk:Nat),(∃vs,KV (Bx prs) vs/\h'.DictOf (Au P w) s.heap.objs.size vs)->(∀b o,s.heap.get? b=some o->h'.get? b=some o)->Q (.ref s.heap.objs.size) {s with heap:=h',toks:=tk}):
  wpAny (model P w) A (call (.type "dict") [.ref l]) Q E s:=by
 refine callType_codes (Q₁:=λobj s₁=>obj = .ref s.heap.objs.size/\s₁ = {s with heap:=s.heap.push Bz}) PySem.F.kt_called_dict (PySem.F.kt_typeCall_dict_1 _) PySem.F.entry_dict_init (kt_code_dict_new _ ⟨rfl,rfl⟩) ?_;rintro obj s₁ ⟨rfl,rfl⟩;have hnew:(s.heap.push Bz).DictOf (Au P w) s.heap.objs.size []:=Heap.DictOf.new s.heap;have hl1:(s.heap.push Bz).get? l=some {cls:=.type "list",data:=.seq items k}:=P0 _ hl;have ltl:=Pz hl;refine⟨hnew.typeIs,PySem.F.args_dict_init_2 _ _,?_⟩;unfold Builtin.«dict.__init__»;refine Pp ?_;unfold Builtin.Dict.selfAndRest;refine Pp (wpAny_notOrdered_dict hnew.typeIs ?_);show wpAny _ _ (pure (s.heap.objs.size,[Value.ref l])) _ _ _;refine Pq ?_;show wpAny _ _ (Builtin.Dict.updateFrom "dict.__init__" s.heap.objs.size (.ref l) [] .none) _ _ _;unfold Builtin.Dict.updateFrom;refine Pp (wpAny_typeOf (T := "list") ⟨_,hl1,rfl⟩ ?_);rw[Pt (by decide)];refine Pp (Xe6 (s:={s with heap:=s.heap.push Bz}) hl1 (by simp[hA]) λh2 tk2 k2=>?_);rw[Pt (show (none:Option Value).isNone=true from rfl)];have hl2:h2.get? l=some {cls:=.type "list",data:=.seq items k}:=k2 _ _ hl1;have gS:(s.heap.push Bz).get? s.heap.objs.size=some Bz:=Heap.get?_push_size _ rfl;have ltS:=Pz (k2 _ _ gS);have ltl2:=Pz hl2;have hi2:h2.IsList l items:=⟨_,hl2,rfl,k,rfl⟩;refine Pp (wpAny_rule (Pp (wpAny_pyIter_list (s:={s with heap:=h2,toks:=tk2}) hi2 ?_)));have nI:s.heap.objs.size∉[h2.objs.size,l]:=by simp only[Lo,N5,or_false,not_or];exact⟨Ll ltS,(Ll ltl).symm⟩
 have W:=(Walks.list (prog:=P) (w:=w) (A:=A.in1.in1) (by simp[hA]) h2.objs.size l (Ll ltl2) items).toS;rw[hz] at W;refine Pq ⟨plainId_quiet Ec _,?_⟩;refine Xmt (A:=A.in1) prs W s.heap.objs.size nI s.heap dft0 (λi v hi hv=>?_) hb _ 0 _ _ _ rfl (Mf _) ⟨⟨_,Heap.get?_push_size _ rfl,rfl,rfl⟩,hi2.push _⟩ (λb o _ _ q=>P0 _ (k2 _ _ (P0 _ q))) ⟨[],.nil,?_⟩ λs' mv S'=>?_
 ·obtain⟨p,o,n,kv,vv,e,ho,hc,hd,rk,rv⟩:=hval i v hi hv;have ltp:=Pz ho;have ltp2:=Pz (k2 _ _ (P0 Bz ho));exact⟨p,o,n,kv,vv,e,Ll ltp,by simp only[Lo,N5,or_false];exact Ll ltp2,ho,hc,hd,rk,rv⟩
 ·obtain⟨o,es,ep,ho,r⟩:=hnew;exact⟨o,es,ep,P0 _ (k2 _ _ ho),r⟩
 ·rw[Moved.eq_with mv];refine⟨rfl,h s'.heap s'.toks S' λb o q=>mv.heap b o (λz=>?_) (P0 _ (k2 _ _ (P0 _ q)))⟩;have ltb:=Pz q;rcases Lo.mp z with z | z
  ·exact absurd ltb (by rw[z];exact Ml _)
  ·have:=Pz (k2 _ _ (P0 Bz q));exact absurd this (by rw[Lk.mp z];exact Ml _)
end
section
variable {X:Cx}
theorem Xmv(hcalm:X.calm=true):B1 X (.type "dict") (λxs H Q=>∃(p:Addr) (qs:List Addr) (prs:List (Key×V)),xs=[.ref p]/\H p=some (.lst (qs.map V.ref))/\qs.length=prs.length/\prs.length<=1000 /\
  (∀i,i<qs.length->H (qs.getD i 0)=some (.tup [kV (prs.getD i dft0).1,(prs.getD i dft0).2]))/\∀d,H d=none->Q (.ref d) (upd H d (.dK (Bx prs)))):=by
 intro pins s σ H xs us Q I r h;obtain⟨p,qs,prs,rfl,hp,hz,hb,ht,q⟩:=h;obtain⟨u,rfl,rx⟩:=Ca r;cases rx;obtain⟨_,its,n,rv,hx⟩:(qs.map V.ref).length<=sizeLine/\∃(its:List Value) (n:Nat),Vals (qs.map V.ref) its/\s.heap.get? p=some {cls:=.type "list",data:=.seq its.toArray n}:=I.hok p _ hp;have lenV:its.length=qs.length:=by rw[<-rv.length,Lf]
 have hdS:(s.heap.objs.size==sysModules)=false:=by
  have:=I.big;exact beq_eq_false_iff_ne.mpr (Oz this)
 refine Xmu (prs:=prs) (I.ok.hd hcalm) hx (by rw[Lq,lenV,hz]) (by rw[Pr];omega) (λi v hi hv=>?_) λh' tk ⟨vs,rel,dd⟩ k=>?_
 ·have hi':i<qs.length:=by omega
  obtain⟨u,hu,ru⟩:=rv.get (i:=i) (x:=.ref (qs.getD i 0)) (by rw[L1,Lm hi'];simp[List.getD,hi']);have:v=u:=by
   rw[O2,hu] at hv;exact(L5 hv).symm
  subst this;obtain⟨its2,r2,pl,_⟩:=I.tuple (SqT.of (K:=X.K) (ht i hi'));obtain⟨kv,vv,e2,rk,rv2⟩:=r2.two;subst e2;obtain⟨o,ho,hc,n2,hd⟩:=pl;exact⟨_,o,n2,kv,vv,ru,ho,hc,hd,rk,rv2⟩
 ·refine⟨.ref s.heap.objs.size,_,I.laidM (s':={s with heap:=h',toks:=tk}) k rfl rfl (Li _) ?_,rfl,q _ (I.hok.fresh (Li _))⟩;exact⟨by have:=Xe7 prs;rw[Pr];omega,hdS,vs,rel,dd⟩
end
theorem Xe8{P:Program}{w:World}{h h':Heap}{k:List Key}{a:Addr}(x:(tupleKind (Au P w)).is h k a)(e:∀o,h.get? a=some o->h'.get? a=some o):(tupleKind (Au P w)).is h' k a:=by
 obtain⟨o,its,n,h1,r⟩:=x;exact⟨o,its,n,e o h1,r⟩
theorem KT.mem{H:Hp}:∀{kvs:List (List Key×V)} {xs:List (List Key×Addr×Value)},KT H kvs xs->∀x∈xs,H x.2.1=some (.tup (x.1.map kV))
 | _,_,.nil,x,hx=>by cases hx
 | _,_,.cons r t,x,hx=>by
  rcases Lo.mp hx with e | e
  ·rw[e,<-r.1];exact r.2.1
  ·exact KT.mem t x e
section
variable {P:Program}{w:World}{A:Around}{E:Value->Shared->Prop}{s:Shared}
def Cg (prs:List (List Key×V)):List (List Key×V):=prs.foldl (λm q=>A7 m q.1 q.2) []
theorem K0(prs:List (List Key×V))(q:List Key×V):Cg (prs++[q])=A7 (Cg prs) q.1 q.2:=by
 unfold Cg;rw[Pj];rfl
theorem Xe9(prs:List (List Key×V)):(Cg prs).length<=prs.length:=by
 have:∀n,∀prs:List (List Key×V),prs.length=n->(Cg prs).length<=n:=by
  intro n
  induction n with
  | zero=>intro prs h;rw[Ma.mp h];exact Li _
  | succ n ih=>
   intro prs h;obtain⟨l,q,rfl⟩:∃l q,prs=l++[q]:=⟨prs.dropLast,prs.getLast (λe=>by rw[e] at h;cases h),(M7 _).symm⟩;rw[K0];have:=E5 (Cg l) q.1 q.2;have:=ih l (by simpa using h);omega
 exact this _ prs rfl
abbrev Ch:List Key×V:=([],.non)
theorem Xmw{R:Result->Shared->Prop}{I:Addr}{fp wr:List Addr}{G:Array GenState->Array GenState->Prop}{Pv:Nat->Value->Prop}{St:Nat->Shared->Prop}(H:Hp)(prs:List (List Key×V))(W:WalksS P w A.in1 I fp wr G prs.length Pv St)(d:Addr)(nd:d∉fp)(h0:Heap)(hH:∀b∈d::wr,H b=none)(hu:A.units+1<cLine)
  (hval:∀i v,i<prs.length->Pv i v->∃p o n b vv,v = .ref p/\p≠d/\p∉wr/\h0.get? p=some o/\o.cls = .type "tuple" /\ o.data = .seq #[.ref b,vv] n/\H b=some (.tup ((prs.getD i Ch).1.map kV))/\(tupleKind (Au P w)).is h0 (prs.getD i Ch).1 b/\Af (prs.getD i Ch).2 vv) (hb:prs.length<sizeLine):
  ∀(k i:Nat) (j:Int) (tj:Tok) (s:Shared),prs.length - i=k->i<=prs.length->St i s->(∀b o,b≠d->b∉wr->h0.get? b=some o->s.heap.get? b=some o)->(∃vs,KT H (Cg (prs.take i)) vs/\s.heap.DictOfH (tupleKind (Au P w)) d vs) ->
   (∀s',Moved (d::wr) G s s'->(∃vs,KT H (Cg prs) vs/\s'.heap.DictOfH (tupleKind (Au P w)) d vs)->R (.ok (.ret .none)) s') ->
   codeAny (model P w) A (.builtin "dict.update.loop" ⟨[.ref d,.ref I,.int j tj,.none],[]⟩) R s:=by
 have nw:d∉wr:=λz=>nd (W.sub _ z);have up:∀b∈wr,b∈d::wr:=λb z=>Lh _ z;have notIn:∀{b:Addr} {o:HO},H b=some o->b≠d/\b∉wr:=λ{b o} e=>⟨λz=>(by rw[z,hH d Lj] at e;cases e),λz=>(by rw[hH b (Lh _ z)] at e;cases e)⟩;have move:∀{kvs:List (List Key×V)} {vs:List (List Key×Addr×Value)} {s s':Shared},KT H kvs vs->Moved wr G s s'->s.heap.DictOfH (tupleKind (Au P w)) d vs->s'.heap.DictOfH (tupleKind (Au P w)) d vs:=λ{kvs vs s s'} rel mv dd=>by
  obtain⟨o,es,ep,ho,r1,r2,r3,r4,r5⟩:=dd;exact⟨o,es,ep,mv.heap d o nw ho,r1,r2,r3,λx hx=>Xe8 (r4 x hx) λo e=>mv.heap _ o (notIn (rel.mem x hx)).2 e,r5⟩
 intro k
 induction k with
 | zero=>
  intro i j tj s e hi st hk ⟨vs,rel,dd⟩ hR;have:i=prs.length:=by omega
  subst this;rw[Mr] at rel;refine codeAny_builtin Hr ?_;rw[Around.under_plainId Ec _];show wpAny _ A.in1 (pyNext (.ref I) >>= λ_=>_) _ _ s;refine Pp (W.done s _ _ st λs' mv=>?_);show wpAny _ A.in1 (Builtin.Dict.addKeywords d [] >>= _) _ _ s';exact Pp (Pq (Pq (hR s' (mv.mono up) ⟨vs,rel,move rel mv dd⟩)))
 | succ k ih=>
  intro i j tj s e hi st hk ⟨vs,rel,dd⟩ hR;have lt:i<prs.length:=by omega
  refine codeAny_builtin Hr ?_;rw[Around.under_plainId Ec _];show wpAny _ A.in1 (pyNext (.ref I) >>= λ_=>_) _ _ s;refine Pp (W.item i s _ _ lt st λv s' hP st' mv=>?_);obtain⟨p,o,n,b,vv,rfl,npd,npw,ho,hc,hd,hbH,hbk,rv⟩:=hval i v lt hP;have hk':∀b o,b≠d->b∉wr->h0.get? b=some o->s'.heap.get? b=some o:=λb o h1 h2 h3=>mv.heap b o h2 (hk b o h1 h2 h3);have ho':=hk' p o npd npw ho;have dd':=move rel mv dd;have hT:s'.TypeIs (.ref p) "tuple" := ⟨o,ho',hc⟩;have hl1:vs.length<=i:=by
   have:=Xe9 (prs.take i);rw[<-Paired.length rel];rw[Mc] at this;omega
  show wpAny _ A.in1 (holding [Value.ref p] _ >>= λ_=>_) _ _ s';refine Pp (wpAny_holding (Pp (wpAny_tryCatch ?_)));unfold Builtin.Dict.pairItems;refine Pp (wpAny_typeOf hT ?_);rw[Pt (by decide)];refine Pp (wpAny_seqItems ho' hd (Pq ?_));show wpAny _ _ (holding [Value.ref b,vv] (dictSet d (.ref b) vv)) _ _ s';have hkey:(tupleKind (Au P w)).is s'.heap (prs.getD i Ch).1 b:=Xe8 hbk λo e=>hk' b o (notIn hbH).1 (notIn hbH).2 e;refine wpAny_holding (wpAny_dictSet_heap (hsz:=by omega) (tupleKind_room_in1 hu) hkey dd' λh' dd2 hs=>?_);have e3:Cg (prs.take (i+1))=A7 (Cg (prs.take i)) (prs.getD i Ch).1 (prs.getD i Ch).2:=by
   rw[Lw lt,K0];have:prs.getD i Ch=prs[i]:=by simp[List.getD,lt]
   rw[this]
  refine Pq ⟨plainId_quiet Ec _,ih (i+1) _ _ _ (by omega) lt (W.frame _ s' _ _ st' (Nat.le_add_right _ _) λb hb o q=>?_) (λb o h1 h2 h3=>?_) ⟨_,by rw[e3];exact rel.put _ hbH rv,dd2⟩ λs'' mv2 S4=>?_⟩
  ·show h'.get? b=some o;rw[hs.2 b (λz=>nd (z ▸ hb))];exact q
  ·show h'.get? b=some o;rw[hs.2 b h1];exact hk' b o h1 h2 h3
  ·refine hR s'' (Moved.trans W.gtrans ((mv.mono up).then_heap (Nat.le_add_right _ _) λb o hb q=>?_) mv2) S4;rw[hs.2 b (λz=>hb (z ▸ Lj))];exact q
theorem Xmx{l:Addr}{items:Array Value}{k:Nat}(H:Hp){prs:List (List Key×V)}{Q:Value->Shared->Prop}(hA:A.handled=none)(hu:A.units+3<cLine)(hH:∀b,s.heap.objs.size<=b->H b=none)(hl:s.heap.get? l=some {cls:=.type "list",data:=.seq items k})(hz:items.size=prs.length)(hb:prs.length<sizeLine)
  (hval:∀i v,i<prs.length->items[i]? = some v->∃p o n b vv,v = .ref p/\s.heap.get? p=some o/\o.cls = .type "tuple" /\ o.data = .seq #[.ref b,vv] n/\H b=some (.tup ((prs.getD i Ch).1.map kV))/\(tupleKind (Au P w)).is s.heap (prs.getD i Ch).1 b/\Af (prs.getD i Ch).2 vv)
  (h:∀(h':Heap) (tk:Nat),(∃vs,KT H (Cg prs) vs/\h'.DictOfH (tupleKind (Au P w)) s.heap.objs.size vs)->(∀b o,s.heap.get? b=some o->h'.get? b=some o)->Q (.ref s.heap.objs.size) {s with heap:=h',toks:=tk}):
  wpAny (model P w) A (call (.type "dict") [.ref l]) Q E s:=by
 refine callType_codes (Q₁:=λobj s₁=>obj = .ref s.heap.objs.size/\s₁ = {s with heap:=s.heap.push Bz}) PySem.F.kt_called_dict (PySem.F.kt_typeCall_dict_1 _) PySem.F.entry_dict_init (kt_code_dict_new _ ⟨rfl,rfl⟩) ?_;rintro obj s₁ ⟨rfl,rfl⟩;have gS:(s.heap.push Bz).get? s.heap.objs.size=some Bz:=Heap.get?_push_size _ rfl;have hnew:({s with heap:=s.heap.push Bz}:Shared).TypeIs (.ref s.heap.objs.size) "dict" := ⟨_,gS,rfl⟩;have hl1:(s.heap.push Bz).get? l=some {cls:=.type "list",data:=.seq items k}:=P0 _ hl;have ltl:=Pz hl;refine⟨hnew,PySem.F.args_dict_init_2 _ _,?_⟩;unfold Builtin.«dict.__init__»;refine Pp ?_;unfold Builtin.Dict.selfAndRest;refine Pp (wpAny_notOrdered_dict hnew ?_);show wpAny _ _ (pure (s.heap.objs.size,[Value.ref l])) _ _ _;refine Pq ?_;show wpAny _ _ (Builtin.Dict.updateFrom "dict.__init__" s.heap.objs.size (.ref l) [] .none) _ _ _;unfold Builtin.Dict.updateFrom;refine Pp (wpAny_typeOf (T := "list") ⟨_,hl1,rfl⟩ ?_);rw[Pt (by decide)];refine Pp (Xe6 (s:={s with heap:=s.heap.push Bz}) hl1 (by simp[hA]) λh2 tk2 k2=>?_);rw[Pt (show (none:Option Value).isNone=true from rfl)];have hl2:h2.get? l=some {cls:=.type "list",data:=.seq items k}:=k2 _ _ hl1;have gS2:=k2 _ _ gS;have ltS:=Pz gS2;have ltl2:=Pz hl2;have hi2:h2.IsList l items:=⟨_,hl2,rfl,k,rfl⟩;refine Pp (wpAny_rule (Pp (wpAny_pyIter_list (s:={s with heap:=h2,toks:=tk2}) hi2 ?_)));have nI:s.heap.objs.size∉[h2.objs.size,l]:=by simp only[Lo,N5,or_false,not_or];exact⟨Ll ltS,(Ll ltl).symm⟩
 have W:=(Walks.list (prog:=P) (w:=w) (A:=A.in1.in1) (by simp[hA]) h2.objs.size l (Ll ltl2) items).toS;rw[hz] at W;refine Pq ⟨plainId_quiet Ec _,?_⟩;refine Xmw (A:=A.in1) H prs W s.heap.objs.size nI s.heap (λb hb=>?_) (by show A.units+1+1<cLine;omega) (λi v hi hv=>?_) hb _ 0 _ _ _ rfl (Mf _) ⟨⟨_,Heap.get?_push_size _ rfl,rfl,rfl⟩,hi2.push _⟩ (λb o _ _ q=>P0 _ (k2 _ _ (P0 _ q))) ⟨[],.nil,?_⟩ λs' mv S'=>?_
 ·rcases Lo.mp hb with z | z
  ·rw[z];exact hH _ (Li _)
  ·rw[Lk.mp z];exact hH _ (Ob ltS)
 ·obtain⟨p,o,n,b,vv,e,ho,hc,hd,rk,rk2,rv⟩:=hval i v hi hv;have ltp:=Pz ho;have ltp2:=Pz (k2 _ _ (P0 Bz ho));exact⟨p,o,n,b,vv,e,Ll ltp,by simp only[Lo,N5,or_false];exact Ll ltp2,ho,hc,hd,rk,rk2,rv⟩
 ·exact⟨_, #[],0,P0 _ gS2,⟨rfl,rfl,rfl⟩,rfl,rfl,λx hx=>(nomatch hx),List.nodup_nil⟩
 ·rw[Moved.eq_with mv];refine⟨rfl,h s'.heap s'.toks S' λb o q=>mv.heap b o (λz=>?_) (P0 _ (k2 _ _ (P0 _ q)))⟩;have ltb:=Pz q;rcases Lo.mp z with z | z
  ·exact absurd ltb (by rw[z];exact Ml _)
  ·have:=Pz (k2 _ _ (P0 Bz q));exact absurd this (by rw[Lk.mp z];exact Ml _)
end
section
variable {X:Cx}
theorem Xmy(hcalm:X.calm=true)(hu:X.A.units+3<cLine):B1 X (.type "dict") (λxs H Q=>∃(p:Addr) (qs bs:List Addr) (prs:List (List Key×V)),xs=[.ref p]/\H p=some (.lst (qs.map V.ref))/\qs.length=prs.length/\prs.length<=1000 /\
  (∀i,i<qs.length->H (qs.getD i 0)=some (.tup [.ref (bs.getD i 0),(prs.getD i Ch).2])/\H (bs.getD i 0)=some (.tup ((prs.getD i Ch).1.map kV)))/\∀d,H d=none->Q (.ref d) (upd H d (.dT (Cg prs)))):=by
 intro pins s σ H xs us Q I r h;obtain⟨p,qs,bs,prs,rfl,hp,hz,hb,ht,q⟩:=h;obtain⟨u,rfl,rx⟩:=Ca r;cases rx;obtain⟨_,its,n,rv,hx⟩:(qs.map V.ref).length<=sizeLine/\∃(its:List Value) (n:Nat),Vals (qs.map V.ref) its/\s.heap.get? p=some {cls:=.type "list",data:=.seq its.toArray n}:=I.hok p _ hp;have lenV:its.length=qs.length:=by rw[<-rv.length,Lf]
 have hdS:(s.heap.objs.size==sysModules)=false:=by
  have:=I.big;exact beq_eq_false_iff_ne.mpr (Oz this)
 have free0:H s.heap.objs.size=none:=I.hok.fresh (Li _);refine Xmx H (prs:=prs) (I.ok.hd hcalm) hu (λb hb=>I.hok.fresh hb) hx (by rw[Lq,lenV,hz]) (by rw[Pr];omega) (λi v hi hv=>?_) λh' tk ⟨vs,rel,dd⟩ k=>?_
 ·have hi':i<qs.length:=by omega
  obtain⟨u,hu,ru⟩:=rv.get (i:=i) (x:=.ref (qs.getD i 0)) (by rw[L1,Lm hi'];simp[List.getD,hi']);have:v=u:=by
   rw[O2,hu] at hv;exact(L5 hv).symm
  subst this;obtain⟨its2,r2,pl,_⟩:=I.tuple (SqT.of (K:=X.K) (ht i hi').1);obtain⟨kv,vv,e2,rk,rv2⟩:=r2.two;subst e2;cases (show kv=Value.ref _ from rk);obtain⟨o,ho,hc,n2,hd⟩:=pl;exact⟨_,o,n2,_,vv,ru,ho,hc,hd,(ht i hi').2,Eh I.hok (ht i hi').2,rv2⟩
 ·refine⟨.ref s.heap.objs.size,_,I.laidM (s':={s with heap:=h',toks:=tk}) k rfl rfl (Li _) ?_,rfl,q _ free0⟩;obtain⟨o,es,ep,ho,r1,r2,r3,_,r5⟩:=dd;refine⟨by have:=Xe9 prs;rw[Pr];omega,hdS,vs,rel.keeps λb ys e=>?_,o,es,ep,ho,r1,r2,r3,r5⟩;rw[Ac (λz=>by rw[z,free0] at e;cases e)];exact e
end
section
variable {P:Program}{w:World}{A:Around}{E:Value->Shared->Prop}{s:Shared}
end
section
variable {X:Cx}{N:List Str}{cap:List (Option Nat)}{scope:Scope}{tg iter elt:Expr}{ifs:List Expr}{g:TG}{tt:TT}{te:TE}{wi:TI}{pos:Pos}
end
end L2
namespace L2
open PySem PySem.Spec PyProof.Rows
section
variable {X:Cx}{N:List Str}{cap:List (Option Nat)}{scope:Scope}{tg iter elt:Expr}{ifs:List Expr}{g:TG}{tt:TT}{te:TE}{wi:TI}{pos:Pos}
end
end L2
namespace SH
open PySem PySem.Spec PyProof.Rows L2
def bk (S:List Str) (x:Str):Str:=if x∈S then "off" else "home"
def Xfa (Ts:List (List Str)) (x:Str):List Str:=srt (ddup (Ts.map λS=>bk S x))
def Xmz (row:List Str) (Ts:List (List Str)):List (Str×Str):=((dit row).filter λx=>decide ((Xfa Ts x).length=1)).map λx=>(x,(Xfa Ts x).headD Str.empty)
def pr2 (q:Str×Str):List Str:=[q.1,q.2]
def keeps (kept:List (Str×Str)) (S:List Str):Bool:=kept.all λq=>decide (bk S q.1=q.2)
def Good (row:List Str) (kept:List (Str×Str)):Prop:=∃Us,Us≠[]/\(∀S∈Us,Ae row S=true)/\kept=Xmz row Us
structure Lsts (H:Hp) (kvs:List (Key×V)) (f:Str->List Str) (ns:List Str):Prop where
 keys:kvs.map (·.1)=ns.map (λx=>(Sum.inr x:Key))
 val:∀x∈ns,∃l,An kvs (Sum.inr x:Key)=some (.ref l)/\H l=some (.lst ((f x).map V.str))
end SH
namespace L2
open PySem PySem.Spec PyProof.Rows
def okR (z:Str):Prop:=z.length<=9/\∀c∈z.cps.toList,c<16 ^ 8
section
variable {X:Cx}{es:List Expr}{t:L2.St->Hp->(Hp->Prop)->Prop}{e:Expr}{te:TE}{pos:Pos}
end
end L2
namespace SH
open PySem PySem.Spec PyProof.Rows L2
structure KpOk (kept:List (Str×Str)):Prop where
 len:kept.length<=16
 ok:∀q∈kept,okR q.1/\okR q.2/\okN q.1/\okN q.2
structure HeldAt (H:Hp) (T:Addr) (pos:Pos) (r k:Addr) (row:List Str) (kept:List (Str×Str)):Prop where
 hr:H r=some (.lst (row.map V.str))
 r2:Row2 row
 n3:Bq row
 d:(dit row).length<=13
 tab:Ao T pos qIn H
 kp:∃qs:List Addr,H k=some (.lst (qs.map V.ref))/\Tups H qs (kept.map pr2)
 ok:KpOk kept
def kvK (kept:List (Str×Str)):List (Key×V):=kept.map λq=>((Sum.inr q.1:Key),V.str q.2)
section
variable {row:List Str}{kept:List (Str×Str)}{S:List Str}
theorem Xm0{a b:List Str}(ha:Ae row a=true)(hb:Ae row b=true)(h:(Bh a b).length=0):a=b:=by
 have e:=Ma.mp h;refine lt_uniq (Br ha).2 (Br hb).2 λx=>?_;have n:x∉Bh a b:=by rw[e];simp
 rw[Kw] at n;by_cases z1:x∈a<;>by_cases z2:x∈b<;>simp_all
end
end SH
namespace SH
open PySem L2
end SH
namespace SH
open PySem PySem.Spec PyProof.Rows L2
def ltP (a b:List Str):Prop:=a.length<b.length\/(a.length=b.length/\ltL a b=true)
structure IsPL (row:List Str) (Ts:List (List Str)):Prop where
 pw:Ts.Pairwise ltP
 mem:∀T,T∈Ts↔Ae row T=true
structure Lay (row:List Str) (n:Nat) (Us:List (List Str)):Prop where
 pw:Us.Pairwise λa b=>ltL a b=true
 mem:∀T,T∈Us↔Ae row T=true/\T.length=n
structure Upto (row:List Str) (n:Nat) (Ts:List (List Str)):Prop where
 pw:Ts.Pairwise ltP
 mem:∀T,T∈Ts↔Ae row T=true/\T.length<=n
def Xo8:Sp:=λvs H Q _=>∃(dr sc r kp:Addr) (row:List Str) (qs:List Addr) (kept:List (Str×Str)),vs=[.ref dr,.ref r,.ref kp]/\DrawOk H dr sc/\H r=some (.lst (row.map V.str))/\r≠dr/\Isl row/\H kp=some (.lst (qs.map V.ref))/\kp≠dr/\Tups H qs (kept.map pr2)/\Good row kept /\
 ∀(k':Addr) (qs':List Addr) (kept':List (Str×Str)) (H':Hp),k'≠dr->H' k'=some (.lst (qs'.map V.ref))->Tups H' qs' (kept'.map pr2)->KpOk kept'->DrawOk H' dr sc->But dr H H'->Q (.ref k') H'
end SH
namespace L2
open PySem
end L2
namespace SH
open PySem PySem.Spec PyProof.Rows L2
theorem most{α : Type}(f : α->Nat):∀l:List α,l≠[]->∃a∈l,∀b∈l,f b<=f a
 | [],h=>absurd rfl h
 | [a],_=>⟨a,Lj,λb hb=>by rw[Lk.mp hb];exact Li _⟩
 | a::c::r,_=>by
  obtain⟨m,hm,hl⟩:=most f (c::r) (by simp);by_cases q:f m<=f a
  ·exact⟨a,Lj,λb hb=>by
    rcases Lo.mp hb with e | e
    ·rw[e];exact Li _
    ·exact Mh (hl b e) q⟩
  ·exact⟨m,Lh _ hm,λb hb=>by
    rcases Lo.mp hb with e | e
    ·rw[e];omega
    ·exact hl b e⟩
theorem Xm1{row a b:List Str}(h2:∀y∈row,row.count y=2)(ha:Ae row a=true)(hb:Ae row b=true)(n:a≠b):
  ∃x c,Ae row c=true/\ne2 a b x=true/\∀y,y∈c↔if y=x then y∈b else y∈a:=by
 obtain⟨p1,p2,p3,p4⟩:=Eb.mp ha;obtain⟨q1,q2,q3,q4⟩:=Eb.mp hb;by_cases e:(a.filter λx => !decide (x∈b))=[]
 ·have sub:∀x∈a,x∈b:=λx hx=>Classical.byContradiction λz=>by
   have:x∈a.filter λx => !decide (x∈b):=Lg.mpr ⟨hx,by simp[z]⟩;rw[e] at this;cases this
  have ne:(b.filter λx => !decide (x∈a))≠[]:=λe2=>n (lt_uniq p1 q1 λx=>⟨sub x,λhx=>Classical.byContradiction λz=>by
   have:x∈b.filter λx => !decide (x∈a):=Lg.mpr ⟨hx,by simp[z]⟩;rw[e2] at this;cases this⟩)
  obtain⟨x,hx,mx⟩:=most (span row) _ ne;obtain⟨hxb,hxa⟩:=Lg.mp hx;have hxa:x∉a:=by simpa using hxa
  refine⟨x,(dit row).filter (λy=>decide (y∈a)||decide (y=x)),?_,Gj.mpr (.inr ⟨hxb,hxa⟩),λy=>?_⟩
  ·have mem:∀y,y∈(dit row).filter (λy=>decide (y∈a)||decide (y=x))↔y∈row/\(y∈a\/y=x):=λy=>by rw[Lg,Ag,M5,decide_eq_true_eq,decide_eq_true_eq]
   refine Eb.mpr ⟨(C0 row).filter _,λy hy=>((mem y).mp hy).1,λy hy z hz w=>?_,λy hy z hz=>?_⟩
   ·refine(mem z).mpr ⟨hz,?_⟩;rcases ((mem y).mp hy).2 with h | h
    ·exact .inl (p3 y h z hz w)
    ·rw[h] at w;refine .inl (Classical.byContradiction λnz=>?_);have hzb:=q3 x hxb z hz w;have:=mx z (Lg.mpr ⟨hzb,by simp[nz]⟩);have:=Xd7 (h2 x (q2 x hxb)) w;omega
   ·refine q4 y ?_ z ?_
    ·rcases ((mem y).mp hy).2 with h | h
     ·exact sub y h
     ·rw[h];exact hxb
    ·rcases ((mem z).mp hz).2 with h | h
     ·exact sub z h
     ·rw[h];exact hxb
  ·rw[Lg,Ag,M5,decide_eq_true_eq,decide_eq_true_eq];by_cases z:y=x
   ·rw[Pt z];exact⟨λ_=>z ▸ hxb,λh=>⟨q2 y h,.inr z⟩⟩
   ·rw[Ps z];exact⟨λh=>h.2.elim id λq=>absurd q z,λh=>⟨p2 y h,.inl h⟩⟩
 ·obtain⟨x,hx,mx⟩:=least (span row) _ e;obtain⟨hxa,hxb⟩:=Lg.mp hx;have hxb:x∉b:=by simpa using hxb
  refine⟨x,a.filter (λy=>decide (y≠x)),?_,Gj.mpr (.inl ⟨hxa,hxb⟩),λy=>?_⟩
  ·refine Eb.mpr ⟨Xlj p1,λy hy=>p2 y (Lg.mp hy).1,λy hy z hz w=>?_,λy hy z hz=>p4 y (Lg.mp hy).1 z (Lg.mp hz).1⟩;obtain⟨hy1,hy2⟩:=Lg.mp hy;refine Lg.mpr ⟨p3 y hy1 z hz w,Pu λq=>?_⟩;subst q;have hyb:y∉b:=λh=>hxb (q3 y h z hz w);have:=mx y (Lg.mpr ⟨hy1,by simp[hyb]⟩);have:=Xd7 (h2 y (p2 y hy1)) w;omega
  ·rw[Lg,decide_eq_true_eq];by_cases z:y=x
   ·rw[Pt z];exact⟨λh=>absurd z h.2,λh=>absurd (z ▸ h) hxb⟩
   ·rw[Ps z];exact⟨λh=>h.1,λh=>⟨h,z⟩⟩
def Xm2 (Ts:List (List Str)) (W:List Str):Bool:=Ts.any λa=>Ts.any λb=>btw a b W
def Xm3 (Ts Us:List (List Str)):Nat->List Str->Bool
 | 0,S=>decide (S∈Us)
 | k+1,S=>Xm2 (Ts.filter (Xm3 Ts Us k)) S
section
variable {row:List Str}{Ts Us:List (List Str)}
end
theorem Ci{S:List Str}{x n:Str}:n∈Aj S x↔(n∈S/\n≠x)\/(x∉S/\n=x):=by
 unfold Aj;rw[Jn,Lr,Lg,decide_eq_true_eq];by_cases h:x∈S
 ·rw[Pt h];simp[h]
 ·rw[Ps h];simp[h]
theorem K1(S:List Str)(x:Str):Bh S [x]=Aj S x:=by
 unfold Bh Aj;have e1:(S.filter λy => !decide (y∈[x]))=S.filter λy=>decide (y≠x):=by
  congr 1;funext y;by_cases z:y=x<;>simp[z]
 have e2:([x].filter λy => !decide (y∈S))=if x∈S then [] else [x]:=by
  by_cases z:x∈S<;>simp[z]
 rw[e1,e2]
theorem Fh{S:List Str}(x:Str)(h:S.Nodup):(Aj S x).Pairwise ltS:=by
 rw[<-K1];exact Xes h (by simp)
def K2:Sp:=λvs H Q _=>∃(p:Addr) (ss:List Str) (x:Str),vs=[.ref p,.str x]/\H p=some (.tup (ss.map V.str))/\ss.Nodup/\ss.length<16 /\
 ∀q H',H q=none->H' q=some (.tup ((Aj ss x).map V.str))->Same H H'->Q (.ref q) H'
def Xo9 (T:Addr) (pos:Pos):Sp:=λvs H Q _=>∃(r k:Addr) (row:List Str) (kept:List (Str×Str)) (v:V) (Ts:List (List Str)),vs=[.ref r,.ref k,v]/\HeldAt H T pos r k row kept/\(∀S,S∈Ts↔Ae row S=true) /\
 ((v = .non/\¬Good row kept) \/ ∃(k2:Addr) (other:List (Str×Str)),v = .ref k2/\HeldAt H T pos r k2 row other/\¬(Good row kept/\Good row other)) /\
 ∀H',Ao T pos qIn H'->But T H H'->Q (.bl true) H'
def nbL (row S:List Str):List (Str×List Str):=((dit row).filter λx=>Ae row (Aj S x)).map λx=>(x,Aj S x)
abbrev dN:Str×List Str:=(Str.empty,[])
def Nbs (H:Hp) (qs:List Addr) (xs:List (Str×List Str)):Prop:=qs.length=xs.length/\∀i,i<qs.length->∃p,H (qs.getD i 0)=some (.tup [.str (xs.getD i dN).1,.ref p])/\H p=some (.tup ((xs.getD i dN).2.map V.str))
theorem Nbs.keep{H H':Hp}{qs:List Addr}{xs:List (Str×List Str)}(h:Nbs H qs xs)(k:∀b w,H b=some (.tup w)->H' b=some (.tup w)):Nbs H' qs xs:=⟨h.1,λi hi=>let ⟨p,a,b⟩:=h.2 i hi; ⟨p,k _ _ a,k _ _ b⟩⟩
theorem Nbs.same{H H':Hp}{qs:List Addr}{xs:List (Str×List Str)}(h:Nbs H qs xs)(s:Same H H'):Nbs H' qs xs:=h.keep λ_ _ e=>s _ _ e
theorem Nbs.nil(H:Hp):Nbs H [] []:=⟨rfl,λi hi=>absurd hi (Mz _)⟩
theorem Nbs.snoc{H:Hp}{qs:List Addr}{xs:List (Str×List Str)}{q p:Addr}{x:Str×List Str}(h:Nbs H qs xs)(h1:H q=some (.tup [.str x.1,.ref p]))(h2:H p=some (.tup (x.2.map V.str))):Nbs H (qs++[q]) (xs++[x]):=by
 refine⟨by rw[Lp,Lp,h.1];rfl,λi hi=>?_⟩;rw[Lp] at hi;have hi:i<qs.length+1:=hi;by_cases z:i<qs.length
 ·have z2:i<xs.length:=by rw[<-h.1];exact z
  rw[List.getD,List.getD,M4 z,M4 z2];exact h.2 i z
 ·have e:i=qs.length:=by omega
  subst e;refine⟨p,?_,?_⟩
  ·rw[List.getD,My (Li _),Pf,List.getD,h.1,My (Li _),Pf];exact h1
  ·rw[List.getD,h.1,My (Li _),Pf];exact h2
theorem Xfb{cap:List (Option Nat)}{g:TG}{tt:TT}{te:TE}{J:It}{σ:L2.St}{H1:Hp}{F:Addr->Hp->Prop}(n:Nat)(hn:n<sizeLine)(vs:Nat->V)(ok:Nat->Bool)(Us:Nat->Str×List Str)(Es:L2.St->Prop)(h0:Es (Bi cap σ))
  (hgo:∀i H2,i<n->Same H1 H2->J.go i H2/\∀x H3,J.yld i H2 x H3->H3=H2/\x=vs i)
  (hst:∀H2,Same H1 H2->J.stop n H2)
  (step:∀i σ1 H2 (Q1:L2.St->V->Hp->Prop) (Q0:L2.St->Hp->Prop),i<n->Es σ1->Same H1 H2->(∀σ2 t p H6,ok i=true->Es σ2->H6 t=some (.tup [.str (Us i).1,.ref p])->H6 p=some (.tup ((Us i).2.map V.str))->Same H2 H6->Q1 σ2 (.ref t) H6)->(∀σ2 H6,ok i=false->Es σ2->Same H2 H6->Q0 σ2 H6) ->
   g (vs i) σ1 H2 fun σ2 H4=>tt σ2 H4 λb H5=>if b=true then te σ2 H5 λy H6=>Q1 σ2 y H6 else Q0 σ2 H5)
  (hd:∀D ps H2,H1 D=none->Same H1 H2->H2 D=some (.lst (ps.map V.ref))->Nbs H2 ps (((List.range n).filter ok).map Us)->F D H2):C8 cap g tt te J σ H1 F:=by
 refine El n vs (λD i σ2 H2=>Es σ2/\Same H1 H2/\∃ps:List Addr,ps.length<=i/\H2 D=some (.lst (ps.map V.ref))/\Nbs H2 ps (((List.range i).filter ok).map Us)) ?_ ?_ ?_ ?_ ?_
 ·intro D hD;exact⟨h0,(Same.refl H1).step hD,[],Li _,Ab,Nbs.nil _⟩
 ·rintro D i σ2 H2 hD hi ⟨_,s2,_⟩;exact hgo i H2 hi s2
 ·rintro D σ2 H2 hD ⟨_,s2,_⟩;exact hst H2 s2
 ·rintro D i σ2 H2 hD hi ⟨e,s2,ps,hl,hb,ht⟩;refine step i σ2 H2 _ _ hi e s2 (fun σ3 t p H4 hok e3 h4 h5 s4=>?_) (fun σ3 H4 hok e3 s4=>?_)
  ·have hb4:=s4 _ _ hb;have ht4:=ht.same s4;have keep:∀b w,H4 b=some (.tup w)->upd H4 D (.lst (ps.map V.ref++[.ref t])) b=some (.tup w):=λb w e=>by
    rw[Ac (λz=>by rw[z,hb4] at e;cases e)];exact e
   refine wput hi hb4 (by rw[Lf];omega) ⟨e3,λb u e'=>?_,ps++[t],by rw[Lp];show ps.length+1<=i+1;omega,by rw[Ab,Lu];rfl,?_⟩
   ·rw[Ac (Aq e' hD)];exact s4 _ _ (s2 b u e')
   ·rw[Mg,Lx,Lu];simp only[Md,hok,if_true,Oe,Ly,Op];exact(ht4.keep keep).snoc (keep _ _ h4) (keep _ _ h5)
  ·refine wskip hi ⟨e3,s2.trans s4,ps,by omega,s4 _ _ hb,?_⟩;rw[Mg,Lx,Lu];simp only[Md,hok,Oe,L8,if_false,Op,Mm];exact ht.same s4
 ·rintro D σ2 H2 hD ⟨_,s2,ps,_,hb,ht⟩;exact hd D ps H2 hD s2 hb ht
def spNbs (T:Addr) (pos:Pos):Sp:=λvs H Q _=>∃(r p:Addr) (row S:List Str),vs=[.ref r,.ref p]/\H r=some (.lst (row.map V.str))/\Row2 row/\Bq row/\(dit row).length<=13/\Ao T pos qIn H/\H p=some (.tup (S.map V.str))/\Ae row S=true /\
 ∀(D:Addr) (qs:List Addr) (H':Hp),H D=none->H' D=some (.lst (qs.map V.ref))->Nbs H' qs (nbL row S)->qs.length<=14->Ao T pos qIn H'->But T H H'->Q (.ref D) H'
abbrev NNb:List Str:=["row", "plot", "there", "sides"]
abbrev NNb1:List Str:=["name", "plot"]
abbrev NNb2:List Str:=["name", "over", "there"]
theorem Xm4{row S:List Str}{x:Str}(ok:∀y∈row,okN y)(hS:Ae row S=true)(hx:x∈row):∀y∈Aj S x,okN y:=λy hy=>by
 rw[<-K1] at hy;rcases Kw.mp hy with h | h
 ·exact ok y ((Br hS).1 y h.1)
 ·rw[Lk.mp h.1];exact ok x hx
theorem Ed{row S:List Str}{q:Str×List Str}:q∈nbL row S↔q.1∈row/\q.2=Aj S q.1/\Ae row q.2=true:=by
 unfold nbL;rw[Lz];constructor
 ·rintro ⟨x,hx,rfl⟩;obtain⟨h1,h2⟩:=Lg.mp hx;exact⟨Ag.mp h1,rfl,h2⟩
 ·rintro ⟨h1,h2,h3⟩;refine⟨q.1,Lg.mpr ⟨Ag.mpr h1,by rw[<-h2];exact h3⟩,?_⟩;rw[<-h2]
theorem K3{S W:List Str}{x y:Str}:ne2 W (Aj S x) y=if y=x then !ne2 W S y else ne2 W S y:=by
 have e:decide (y∈Aj S x)=if y=x then !decide (y∈S) else decide (y∈S):=by
  by_cases z:y=x
  ·subst z;rw[Pt rfl];by_cases h:y∈S
   ·rw[Pu h,Pw];rfl;intro q;rcases Ci.mp q with ⟨_,n⟩ | ⟨n,_⟩
    ·exact n rfl
    ·exact n h
   ·rw[Pw h,Pu (Ci.mpr (.inr ⟨h,rfl⟩))];rfl
  ·rw[Ps z];by_cases h:y∈S
   ·rw[Pu h,Pu (Ci.mpr (.inl ⟨h,z⟩))]
   ·rw[Pw h,Pw];intro q;rcases Ci.mp q with ⟨n,_⟩ | ⟨_,n⟩
    ·exact h n
    ·exact z n
 unfold ne2;rw[e];by_cases z:y=x
 ·rw[Pt z,Pt z];cases decide (y∈W)<;>cases decide (y∈S)<;>rfl
 ·rw[Ps z,Ps z]
theorem Xm5{W S:List Str}{x:Str}:∀{l:List Str},l.Nodup->x∈l->(ne2 W S x=true->l.countP (ne2 W (Aj S x))+1=l.countP (ne2 W S))/\(ne2 W S x=false->l.countP (ne2 W (Aj S x))=l.countP (ne2 W S)+1):=by
 have off:∀{l:List Str},x∉l->l.countP (ne2 W (Aj S x))=l.countP (ne2 W S):=λ{l} h=>by
  refine N2 λy hy=>?_;rw[K3,Ps (λz:y=x=>h (z ▸ hy))]
 intro l
 induction l with
 | nil=>intro _ h;cases h
 | cons a l ih=>
  intro nd hx;rw[Mn] at nd;rw[Mw,Mw];by_cases z:a=x
  ·subst z;rw[off nd.1,K3,Pt rfl];exact⟨λe=>by rw[e];rfl,λe=>by rw[e];rfl⟩
  ·have hx':x∈l:=(Lo.mp hx).resolve_left λq=>z q.symm;obtain⟨i1,i2⟩:=ih nd.2 hx';rw[K3,Ps z];exact⟨λe=>by have:=i1 e;omega,λe=>by have:=i2 e;omega⟩
theorem Xm6{row W S:List Str}(hW:Ae row W=true)(hS:Ae row S=true):(Bh W S).length<=(dit row).length:=by
 rw[Hq hW hS];exact List.countP_le_length
theorem Xm7{row W S:List Str}(R2:Row2 row)(hW:Ae row W=true)(hS:Ae row S=true)(n:S≠W):∃x c,Ae row c=true/\x∈row/\Aj c x=S/\(Bh W c).length+1=(Bh W S).length:=by
 obtain⟨x,c,hc,hx,hm⟩:=Xm1 R2.two hS hW n;have xr:x∈row:=by
  rcases Gj.mp hx with z | z
  ·exact(Br hS).1 x z.1
  ·exact(Br hW).1 x z.1
 have ef:Aj S x=c:=by
  refine lt_uniq (Fh x (E2 hS)) (Br hc).2 λy=>?_;rw[Ci,hm];by_cases z:y=x
  ·subst z;rw[Pt rfl];rcases Gj.mp hx with q | q
   ·exact⟨λh=>h.elim (λh=>absurd rfl h.2) λh=>absurd q.1 h.1,λh=>absurd h q.2⟩
   ·exact⟨λ_=>q.1,λ_=>.inr ⟨q.2,rfl⟩⟩
  ·rw[Ps z];exact⟨λh=>h.elim (λh=>h.1) λh=>absurd h.2 z,λh=>.inl ⟨h,z⟩⟩
 have eb:Aj c x=S:=by
  rw[<-ef];refine lt_uniq (Fh x (Dp (Fh x (E2 hS)))) (Br hS).2 λy=>?_;rw[Ci,Ci,Ci];by_cases z:y=x
  ·subst z;by_cases h:y∈S<;>simp[h]
  ·simp[z]
 refine⟨x,c,hc,xr,eb,?_⟩;obtain⟨i1,_⟩:=Xm5 (W:=W) (S:=S) (x:=x) (Cz row) (Ag.mpr xr);have hx':ne2 W S x=true:=by
  have:ne2 W S x=ne2 S W x:=by unfold ne2;cases decide (x∈W)<;>cases decide (x∈S)<;>rfl
  rw[this];exact hx
 rw[<-ef] at hc ⊢;rw[Hq hW hc,Hq hW hS];exact i1 hx'
def atK (row W:List Str) (k:Nat) (S:List Str):Prop:=Ae row S=true/\(Bh W S).length=k
def upK (row W:List Str) (k:Nat) (S:List Str):Prop:=Ae row S=true/\(Bh W S).length<=k
theorem K4{A B:List (List Str)}(ha:A.Nodup)(hb:B.Nodup)(h:∀S,S∈A↔S∈B):A.length=B.length:=by
 have key:∀{A B:List (List Str)},A.Nodup->(∀S∈A,S∈B)->A.length<=B.length:=by
  intro A
  induction A with
  | nil=>intro B _ _;exact Mf _
  | cons a A ih=>
   intro B nd hs;obtain⟨l1,l2,rfl⟩:=List.append_of_mem (hs a Lj);rw[Mn] at nd;have:=ih (B:=l1++l2) nd.2 λS hS=>by
    have:=hs S (Lh _ hS);rcases Lr.mp this with z | z
    ·exact Lr.mpr (.inl z)
    ·rcases Lo.mp z with z | z
     ·rw[z] at hS;exact absurd hS nd.1
     ·exact Lr.mpr (.inr z)
   rw[Lp] at this ⊢;rw[Lv,Lv];omega
 exact Nat.le_antisymm (key ha λS hS=>(h S).mp hS) (key hb λS hS=>(h S).mpr hS)
def oddW (W S:List Str) (ss:List Str):Prop:=∀x,ne2 W S x=decide (ss.count x % 2=1)
def dNb (q:Str×List Str):PyData:=.tuple [.str q.1,Bj q.2]
theorem Xfc{H:Hp}:∀{qs:List Addr} {xs:List (Str×List Str)},Nbs H qs xs->DAll H (xs.map dNb) (qs.map V.ref)
 | [],[],_=>C1
 | [],x::xs,h=>by have:=h.1;simp at this
 | q::qs,[],h=>by have:=h.1;simp at this
 | q::qs,x::xs,h=>by
  obtain⟨p,h1,h2⟩:=h.2 0 (by simp);have h1:H q=some (.tup [.str x.1,.ref p]):=h1;have h2:H p=some (.tup (x.2.map V.str)):=h2;refine C9 ?_ (Xfc ⟨by simpa using h.1,λi hi=>h.2 (i+1) (by simpa using hi)⟩);unfold dNb DAt;exact⟨q,_,rfl,h1,C9 (by unfold DAt;rfl) (C9 (D8 h2) C1)⟩
theorem Xm8{H:Hp}{l:Addr}{qs:List Addr}{xs:List (Str×List Str)}(h:H l=some (.lst (qs.map V.ref)))(n:Nbs H qs xs):DAt H (.list (xs.map dNb)) (.ref l):=Xcx h (Xfc n)
theorem Xfd{xs:List (Str×List Str)}(h:∀q∈xs,okN q.1/\∀y∈q.2,okN y):Be (.list (xs.map dNb))=true:=plainAll_map dNb xs λq hq=>by
 show (Be (.str q.1)&&(Be (Bj q.2)&&true))=true;have a:(Be (.str q.1)&&true)=true:=Xkd (ss:=[q.1]) λy hy=>by rw[Lk.mp hy];exact(h q hq).1
 rw[Bool.and_true] at a;have b:Be (Bj q.2)=true:=D7 (h q hq).2;rw[a,b];rfl
theorem Xm9{row S:List Str}(R2:Row2 row):∀q∈nbL row S,okN q.1/\∀y∈q.2,okN y:=λq hq=>by
 obtain⟨h1,_,h3⟩:=Ed.mp hq;exact⟨R2.ok q.1 h1,λy hy=>R2.ok y ((Br h3).1 y hy)⟩
theorem Nbs.at{H:Hp}{qs:List Addr}{xs:List (Str×List Str)}(h:Nbs H qs xs){i:Nat}(hi:i<qs.length):∃q∈xs,∃p,H (qs.getD i 0)=some (.tup [.str q.1,.ref p])/\H p=some (.tup (q.2.map V.str)):=by
 obtain⟨p,a,b⟩:=h.2 i hi;have hi':i<xs.length:=by rw[<-h.1];exact hi
 exact⟨xs.getD i dN,by rw[show xs.getD i dN=xs[i] by simp[List.getD,hi']];exact Mj hi',p,a,b⟩
def But2 (T dr:Addr) (H H':Hp):Prop:=∀b o,H b=some o->b≠T->b≠dr->H' b=some o
theorem _root_.SH.Ao.put{H:Hp}{T D:Addr}{pos:Pos}{xs:List V}{o:HO}(t:Ao T pos qIn H)(h:H D=some (.lst xs)):Ao T pos qIn (L2.upd H D o):=SH.Ao.but t h λb u e n=>by rw[Ac n];exact e
def Xpa (T:Addr) (pos:Pos):Sp:=λvs H Q _=>∃(dr sc r p:Addr) (row W:List Str) (m:Nat),vs=[.ref dr,.ref r,.ref p,.int m]/\DrawOk H dr sc/\H r=some (.lst (row.map V.str))/\r≠dr/\Row2 row/\Bq row/\(dit row).length<=13/\Ao T pos qIn H/\H p=some (.tup (W.map V.str))/\Ae row W=true/\m<=24 /\
 ∀(t h st:Addr) (S ss:List Str) (H':Hp),H' t=some (.tup [.ref h,.ref st])->H' h=some (.tup (S.map V.str))->H' st=some (.lst (ss.map V.str))->Ae row S=true->oddW W S ss->ss.length<=24->Ao T pos qIn H'->DrawOk H' dr sc->But2 T dr H H'->Q (.ref t) H'
theorem Xna{A B:List (List Str)}(nd:A.Nodup)(hs:∀S∈A,S∈B):A.length<=B.length:=by
 induction A generalizing B with
 | nil=>exact Mf _
 | cons a A ih=>
  obtain⟨l1,l2,rfl⟩:=List.append_of_mem (hs a Lj);rw[Mn] at nd;have:=ih (B:=l1++l2) nd.2 λS hS=>by
   have:=hs S (Lh _ hS);rcases Lr.mp this with z | z
   ·exact Lr.mpr (.inl z)
   ·rcases Lo.mp z with z | z
    ·rw[z] at hS;exact absurd hS nd.1
    ·exact Lr.mpr (.inr z)
  rw[Lp] at this ⊢;rw[Lv,Lv];omega
def kvB (Ts:List (List Str)) (ds:List Addr):List (List Key×V):=(List.range Ts.length).map λi=>(kOf (Ts.getD i []),V.ref (ds.getD i 0))
theorem Xfe{α : Type}[DecidableEq α]:∀{l:List (α × V)} {i:Nat} {q : α × V},(l.map (·.1)).Nodup->l[i]? = some q->An l q.1=some q.2
 | [],i,q,_,h=>by simp at h
 | a::l,0,q,_,h=>by
  simp at h;subst h;unfold An;simp
 | a::l,i+1,q,nd,h=>by
  rw[Ly,Mn] at nd;have h':l[i]? = some q:=by simpa using h
  have ih:=Xfe (i:=i) nd.2 h';have ne:a.1≠q.1:=λz=>nd.1 (z ▸ Lz.mpr ⟨q,Nk h',rfl⟩);unfold An at ih ⊢;rw[Ny,Pw ne];exact ih
theorem Xnb(Ts:List (List Str))(ds:List Addr):(kvB Ts ds).map (·.1)=Ts.map kOf:=by
 unfold kvB;rw[Mb];have q:=congrArg (List.map kOf) (B7 ([]:List Str) (λ_=>true) Ts);rw[L0.mpr (λ_ _=>rfl),L0.mpr (λ_ _=>rfl),Mb] at q;exact q
theorem Xff{Ts:List (List Str)}(nd:Ts.Nodup)(ds:List Addr):((kvB Ts ds).map (·.1)).Nodup:=by
 rw[Xnb];exact Pm kOf (λa b n e=>n (Xmp e)) nd
theorem Xnc:∀(n:Nat) {prs:List (List Key×V)},prs.length=n->(prs.map (·.1)).Nodup->Cg prs=prs:=by
 intro n
 induction n with
 | zero=>intro prs h _;rw[Ma.mp h];rfl
 | succ n ih=>
  intro prs h nd;obtain⟨l,q,rfl⟩:∃l q,prs=l++[q]:=⟨prs.dropLast,prs.getLast (λe=>by rw[e] at h;cases h),(M7 _).symm⟩;rw[Lu,M6] at nd;rw[K0,ih (by simpa using h) nd.1,Fy];unfold An;rw[Option.map_eq_none_iff,List.find?_eq_none];intro x hx e;exact nd.2.2 x.1 (Lz.mpr ⟨x,hx,rfl⟩) q.1 (by simp) (by simpa using e)
structure ByAt (H:Hp) (by_:Addr) (row:List Str) (Ts:List (List Str)):Prop where
 ex:∃ds:List Addr,H by_=some (.dT (kvB Ts ds))/\∀i,i<Ts.length->∃qs:List Addr,H (ds.getD i 0)=some (.lst (qs.map V.ref))/\Nbs H qs (nbL row (Ts.getD i []))/\qs.length<=14
theorem Xnd{cap:List (Option Nat)}{g:TG}{tt:TT}{te:TE}{J:It}{σ:L2.St}{H1:Hp}{F:Addr->Hp->Prop}{T:Addr}{pos:Pos}{row:List Str}{ps:List Addr}{Ts:List (List Str)}(n:Nat)(hn:n<sizeLine)(vs:Nat->V)(Es:L2.St->Prop)(h0:Es (Bi cap σ))(t1:Ao T pos qIn H1)
  (hgo:∀i H2,i<n->But T H1 H2->J.go i H2/\∀x H3,J.yld i H2 x H3->H3=H2/\x=vs i)
  (hst:∀H2,But T H1 H2->J.stop n H2)
  (step:∀i σ1 H2 (Q1:L2.St->V->Hp->Prop) (Q0:L2.St->Hp->Prop),i<n->Es σ1->Ao T pos qIn H2->But T H1 H2->(∀σ2 t D qs H6,Es σ2->H2 D=none->H2 t=none->H6 t=some (.tup [.ref (ps.getD i 0),.ref D])->H6 D=some (.lst (qs.map V.ref))->Nbs H6 qs (nbL row (Ts.getD i []))->qs.length<=14->Ao T pos qIn H6->But T H2 H6->Q1 σ2 (.ref t) H6) ->
   g (vs i) σ1 H2 fun σ2 H4=>tt σ2 H4 λb H5=>if b=true then te σ2 H5 λy H6=>Q1 σ2 y H6 else Q0 σ2 H5)
  (hd:∀(O:Addr) (ts ds:List Addr) (H2:Hp),H1 O=none->Ao T pos qIn H2->But T H1 H2->ts.length=n->H2 O=some (.lst (ts.map V.ref))->(∀i,i<n->H2 (ts.getD i 0)=some (.tup [.ref (ps.getD i 0),.ref (ds.getD i 0)])/\∃qs:List Addr,H2 (ds.getD i 0)=some (.lst (qs.map V.ref))/\Nbs H2 qs (nbL row (Ts.getD i []))/\qs.length<=14)->F O H2):C8 cap g tt te J σ H1 F:=by
 refine El n vs (λO i σ2 H2=>Es σ2/\Ao T pos qIn H2/\But T H1 H2/\∃ts ds:List Addr,ts.length=i/\ds.length=i/\H2 O=some (.lst (ts.map V.ref))/\∀j,j<i->ds.getD j 0≠O/\H2 (ts.getD j 0)=some (.tup [.ref (ps.getD j 0),.ref (ds.getD j 0)])/\∃qs:List Addr,H2 (ds.getD j 0)=some (.lst (qs.map V.ref))/\Nbs H2 qs (nbL row (Ts.getD j []))/\qs.length<=14) ?_ ?_ ?_ ?_ ?_
 ·intro O hO;have s:=(Same.refl H1).step (o:=.lst []) hO;exact⟨h0,SH.Ao.same t1 s,λb o e _=>s _ _ e,[],[],rfl,rfl,Ab,λj hj=>absurd hj (Mz _)⟩
 ·rintro O i σ2 H2 hO hi ⟨_,_,b2,_⟩;exact hgo i H2 hi b2
 ·rintro O σ2 H2 hO ⟨_,_,b2,_⟩;exact hst H2 b2
 ·rintro O i σ2 H2 hO hi ⟨e,t2,b2,ts,ds,lt,ld,hb,hall⟩;refine step i σ2 H2 _ _ hi e t2 b2 fun σ3 t D qs H4 e3 nD nt h4 hD4 hnb hql t4 b4=>?_
  have k4:∀{b:Addr} {o:HO},H2 b=some o->(∀z,o ≠ .tbl z)->H4 b=some o:=λe n=>b4 _ _ e (Ao.ne t2 e n);have hb4:=k4 hb λz=>by simp
  have nDO:D≠O:=(Aq hb nD).symm;have kt:∀b w,H4 b=some (.tup w)->upd H4 O (.lst (ts.map V.ref++[.ref t])) b=some (.tup w):=λb w e=>by
   rw[Ac (λz=>by rw[z,hb4] at e;cases e)];exact e
  refine wput hi hb4 (by rw[Lf];omega) ⟨e3,SH.Ao.put t4 hb4,λb u e' n'=>?_,ts++[t],ds++[D],by rw[Lp,lt];rfl,by rw[Lp,ld];rfl,by rw[Ab,Lu];rfl,λj hj=>?_⟩
  ·rw[Ac (Aq e' hO)];exact b4 _ _ (b2 b u e' n') n'
  ·by_cases z:j<i
   ·obtain⟨a0,a1,qs',a2,a3,a4⟩:=hall j z;have e1:(ts++[t]).getD j 0=ts.getD j 0:=by rw[List.getD,M4 (by omega)];rfl
    have e2:(ds++[D]).getD j 0=ds.getD j 0:=by rw[List.getD,M4 (by omega)];rfl
    rw[e1,e2];refine⟨a0,kt _ _ (k4 a1 λz=>by simp),qs',?_,(a3.keep λb w e=>k4 e λz=>by simp).keep kt,a4⟩;rw[Ac a0];exact k4 a2 λz=>by simp
   ·have ej:j=i:=by omega
    subst ej;have e1:(ts++[t]).getD j 0=t:=by rw[List.getD,My (by omega),lt,Pf];rfl
    have e2:(ds++[D]).getD j 0=D:=by rw[List.getD,My (by omega),ld,Pf];rfl
    rw[e1,e2];refine⟨nDO,kt _ _ h4,qs,?_,hnb.keep kt,hql⟩;rw[Ac nDO];exact hD4
 ·rintro O σ2 H2 hO ⟨_,t2,b2,ts,ds,lt,ld,hb,hall⟩;exact hd O ts ds H2 hO t2 b2 lt hb λi hi=>(hall i hi).2
structure Bf (H0 H:Hp) (mt fr ly:Addr) (Me Fr La:List (List Str)) (ls:List Addr):Prop where
 s:Same H0 H
 hm:∃ms:List Addr,H mt=some (.lst (ms.map V.ref))/\Tups H ms (Me++Fr)
 hf:∃fs:List Addr,H fr=some (.lst (fs.map V.ref))/\Tups H fs Fr
 hl:H ly=some (.lst (ls.map V.ref))
 ht:Tups H ls La
theorem Fi{row S:List Str}(x:Str)(hS:Ae row S=true):Aj (Aj S x) x=S:=by
 refine lt_uniq (Fh x (Dp (Fh x (E2 hS)))) (Br hS).2 λy=>?_;rw[Ci,Ci,Ci];by_cases z:y=x
 ·subst z;by_cases h:y∈S<;>simp[h]
 ·simp[z]
theorem Xfg{row S:List Str}{x:Str}(hS:Ae row S=true)(hx:x∈S):Ae row (Aj S x)=true ↔ ∀y∈S,lieR row y x ≠ "within" := by
 have mem:∀y,y∈Aj S x↔y∈S/\y≠x:=λy=>by
  rw[Ci];exact⟨λh=>h.elim id λh=>absurd hx h.1,.inl⟩
 obtain⟨p1,p2,p3,p4⟩:=Eb.mp hS;constructor
 ·intro h y hy e;have ne:y≠x:=λz=>by rw[z,Ff] at e;exact absurd e (by decide)
  have:=(Eb.mp h).2.2.1 y ((mem y).mpr ⟨hy,ne⟩) x (p2 x hx) e;exact((mem x).mp this).2 rfl
 ·intro h;refine Eb.mpr ⟨Fh x (E2 hS),λy hy=>p2 y ((mem y).mp hy).1,λz hz y hy e=>?_,λz hz y hy=>p4 z ((mem z).mp hz).1 y ((mem y).mp hy).1⟩;exact(mem y).mpr ⟨p3 z ((mem z).mp hz).1 y hy e,λq=>h z ((mem z).mp hz).1 (by rw[<-q];exact e)⟩
def crN (row:List Str) (x:Str):Nat:=(crs row).countP λq=>decide (q.1=x)||decide (q.2=x)
theorem K5{l:List Str}(nd:l.Nodup){x:Str}(hx:x∈l):l.countP (λa=>decide (a=x))=1:=by
 have h1:=List.nodup_iff_count.mp nd x;have h2:=Ot.mpr hx;have e:l.countP (λa=>decide (a=x))=l.count x:=by
  rw[List.count_eq_countP];exact N2 λa _=>by simp
 omega
theorem Xne{row:List Str}(h2:∀y∈row,row.count y=2){x:Str}(hx:x∈row):(cands row).countP (λS=>decide (x∈S)&&Ae row (Aj S x))=1+crN row x:=by
 have key:∀{cs:List Str} {p:Str->Bool},Core row cs p->((decide (x∈(dit row).filter p)&&Ae row (Aj ((dit row).filter p) x))=true↔x∈cs):=λ{cs p} C=>by
  rw[Ls,decide_eq_true_eq,C.min h2];constructor
  ·rintro ⟨a,b⟩;exact⟨a,(Xfg (C.plot h2) a).mp b⟩
  ·rintro ⟨a,b⟩;exact⟨a,(Xfg (C.plot h2) a).mpr b⟩
 unfold cands;rw[List.countP_append,List.countP_map,List.countP_map,<-K5 (Cz row) (Ag.mpr hx)];congr 1
 ·refine N2 λa ha=>?_;have:=key (core1 h2 (Ag.mp ha));rw[Lk] at this;rw[decide_eq_true_eq];exact this.trans ⟨Eq.symm,Eq.symm⟩
 ·unfold crN;refine N2 λq hq=>?_;have:=key (core2 h2 hq);rw[M5,decide_eq_true_eq,decide_eq_true_eq];refine this.trans ?_;simp only[Lo,List.mem_nil_iff,or_false];exact⟨λh=>h.imp Eq.symm Eq.symm,λh=>h.imp Eq.symm Eq.symm⟩
theorem K6{α : Type}(p q : α->Bool):∀l:List α,l.countP p=l.countP (λa=>q a&&p a)+l.countP λa => !q a&&p a
 | []=>rfl
 | a::l=>by
  have ih:=K6 p q l;simp only[Mw];cases q a<;>cases p a<;>simp<;>omega
theorem Xfh{row:List Str}{Ts:List (List Str)}(h2:∀y∈row,row.count y=2)(h3:Bq row)(nd:Ts.Nodup)(hT:∀S,S∈Ts↔Ae row S=true){x:Str}(hx:x∈row):Ts.countP (λS=>Ae row (Aj S x))=2 * (1+crN row x):=by
 rw[K6 _ (λS=>decide (x∈S))];have e1:Ts.countP (λS=>decide (x∈S)&&Ae row (Aj S x))=1+crN row x:=by
  rw[<-Xne h2 hx,Mi,Mi];refine K4 (nd.filter _) ((Xey h2).filter _) λS=>?_;rw[Lg,Lg,hT,<-Xez h2 h3,Lo];constructor
  ·rintro ⟨a | a,b⟩
   ·rw[a] at b;simp at b
   ·exact⟨a,b⟩
  ·rintro ⟨a,b⟩;exact⟨.inr a,b⟩
 have e2:Ts.countP (λS => !decide (x∈S)&&Ae row (Aj S x))=Ts.countP (λS=>decide (x∈S)&&Ae row (Aj S x)):=by
  rw[Mi,Mi,<-Lf (f:=λS=>Aj S x) (as:=Ts.filter λS=>decide (x∈S)&&Ae row (Aj S x))];have fm:∀{S:List Str},x∈Aj S x↔x∉S:=λ{S}=>by
   rw[Ci];exact⟨λh=>h.elim (λh=>absurd rfl h.2) λh=>h.1,λh=>.inr ⟨h,rfl⟩⟩
  refine K4 (nd.filter _) ?_ λS=>?_
  ·refine Pm (R:=λa b=>a≠b/\Ae row a=true/\Ae row b=true) _ (λa b n e=>n.1 (by rw[<-Fi x n.2.1,<-Fi x n.2.2,e])) ?_;have h:=nd.filter (λS=>decide (x∈S)&&Ae row (Aj S x));have all:∀S∈Ts.filter (λS=>decide (x∈S)&&Ae row (Aj S x)),Ae row S=true:=λS hS=>(hT S).mp (Lg.mp hS).1;exact h.imp_of_mem λ{a b} ha hb n=>⟨n,all a ha,all b hb⟩
  ·rw[Lg,Lz,Ls,hT];constructor
   ·rintro ⟨a,b,c⟩;refine⟨Aj S x,Lg.mpr ⟨(hT _).mpr c,?_⟩,Fi x a⟩;rw[Ls,decide_eq_true_eq,fm,Fi x a];exact⟨by simpa using b,a⟩
   ·rintro ⟨S',h,rfl⟩;obtain⟨a,b⟩:=Lg.mp h;rw[Ls,decide_eq_true_eq] at b;have a':=(hT S').mp a;refine⟨b.2,?_,by rw[Fi x a'];exact a'⟩;have:x∉Aj S' x:=λz=>fm.mp z b.1;simp[this]
 rw[e2,e1];omega
theorem K7{α β : Type}(p : α -> β->Bool)(B:List β):∀A:List α,(A.map λa=>B.countP (p a)).sum=(B.map λb=>A.countP λa=>p a b).sum
 | []=>by
  show 0=_
  induction B with
  | nil=>rfl
  | cons b B ih=>rw[Ly,Mt,<-ih];rfl
 | a::A=>by
  have ih:=K7 p B A;rw[Ly,Mt,ih];clear ih
  induction B with
  | nil=>rfl
  | cons b B ih=>
   rw[Ly,Ly,Mt,Mt,<-ih,Mw,Mw];omega
theorem Xfi(row S:List Str):(nbL row S).length=(dit row).countP λx=>Ae row (Aj S x):=by
 unfold nbL;rw[Lf,Mi]
theorem sum_const{α : Type}{f : α->Nat}{c:Nat}:∀{l:List α},(∀a∈l,f a=c)->(l.map f).sum=l.length * c
 | [],_=>by simp
 | a::l,h=>by
  rw[Ly,Mt,h a Lj,sum_const λb hb=>h b (Lh _ hb),Lv,Nat.add_mul];omega
theorem Xfj{f:Str->Nat}:∀{l:List Str},(l.map λx=>2 * (1+f x)).sum=2 * l.length+2 * (l.map f).sum
 | []=>rfl
 | a::l=>by
  have ih:=Xfj (f:=f) (l:=l);rw[Ly,Ly,Mt,Mt,ih,Lv];omega
theorem Xnf{row:List Str}{Ts:List (List Str)}(h2:∀y∈row,row.count y=2)(h3:Bq row)(nd:Ts.Nodup)(hT:∀S,S∈Ts↔Ae row S=true):(Ts.map λS=>(nbL row S).length).sum=2 * (dit row).length+4 * (crs row).length:=by
 have e0:(Ts.map λS=>(nbL row S).length)=Ts.map λS=>(dit row).countP λx=>Ae row (Aj S x):=Mu λS _=>Xfi row S;rw[e0,K7 (λS x=>Ae row (Aj S x)) (dit row) Ts];have e1:((dit row).map λx=>Ts.countP λS=>Ae row (Aj S x))=(dit row).map λx=>2 * (1+crN row x):=Mu λx hx=>Xfh h2 h3 nd hT (Ag.mp hx);rw[e1,Xfj];have e2:((dit row).map (crN row)).sum=2 * (crs row).length:=by
  unfold crN;rw[K7 (λx (q:Str×Str)=>decide (q.1=x)||decide (q.2=x)) (crs row) (dit row)];rw[sum_const (c:=2) λq hq=>?_,Nat.mul_comm];obtain⟨ha,hb,hl,_⟩:=Dc hq;have ne:q.1≠q.2:=λz=>by rw[z] at hl;exact Dj _ hl
  rw[K6 _ (λx=>decide (q.1=x))];have f1:(dit row).countP (λa=>decide (q.1=a)&&(decide (q.1=a)||decide (q.2=a)))=1:=by
   rw[<-K5 (Cz row) (Ag.mpr ha)];refine N2 λa _=>?_;by_cases z:q.1=a
   ·simp[z]
   ·simp[z];exact λh=>z h.symm
  have f2:(dit row).countP (λa => !decide (q.1=a)&&(decide (q.1=a)||decide (q.2=a)))=1:=by
   rw[<-K5 (Cz row) (Ag.mpr hb)];refine N2 λa _=>?_;by_cases z:q.2=a
   ·subst z;simp[ne]
   ·by_cases y:q.1=a
    ·simp[y];exact λh=>z h.symm
    ·simp[y,z];exact λh=>z h.symm
  rw[f1,f2]
 rw[e2];omega
theorem Xng{row:List Str}(h2:∀y∈row,row.count y=2){x:Str}(hx:x∈row):crN row x=((dit row).filter λy=>decide (lieR row x y = "cross")).length:=by
 unfold crN;rw[Mi,<-Lf (f:=λq:Str×Str=>if q.1=x then q.2 else q.1)];have mem:∀q:Str×Str,q∈crs row↔q.1∈row/\q.2∈row/\ltS q.1 q.2/\lieR row q.1 q.2 = "cross" := λq=>⟨Dc,λ⟨a,b,c,d⟩=>by
  unfold crs;exact O4.mpr ⟨q.1,Ag.mpr a,Lz.mpr ⟨q.2,Lg.mpr ⟨Ag.mpr b,by rw[Ls];exact⟨Pu c,Pu d⟩⟩,rfl⟩⟩⟩
 have inj:(((crs row).filter λq=>decide (q.1=x)||decide (q.2=x)).map λq:Str×Str=>if q.1=x then q.2 else q.1).Nodup:=by
  have h:=(Xex row).filter λq=>decide (q.1=x)||decide (q.2=x)
  refine Pm (R:=λa b=>a≠b/\a∈(crs row).filter (λq=>decide (q.1=x)||decide (q.2=x))/\b∈(crs row).filter (λq=>decide (q.1=x)||decide (q.2=x))) _ (λa b n e=>?_) (h.imp_of_mem λ{a b} ha hb n=>⟨n,ha,hb⟩);obtain⟨ne,ma,mb⟩:=n;obtain⟨ca,da⟩:=Lg.mp ma;obtain⟨cb,db⟩:=Lg.mp mb;rw[M5,decide_eq_true_eq,decide_eq_true_eq] at da db;have la:=(Dc ca).2.2.1;have lb:=(Dc cb).2.2.1;by_cases z1:a.1=x
  ·by_cases z2:b.1=x
   ·rw[Pt z1,Pt z2] at e;exact ne (Prod.ext (z1.trans z2.symm) e)
   ·rw[Pt z1,Ps z2] at e;have y2:=db.resolve_left z2;rw[z1,e] at la;rw[y2] at lb;exact Dj _ (Ep la lb)
  ·have y1:=da.resolve_left z1;by_cases z2:b.1=x
   ·rw[Ps z1,Pt z2] at e;rw[y1] at la;rw[z2,<-e] at lb;exact Dj _ (Ep la lb)
   ·rw[Ps z1,Ps z2] at e;exact ne (Prod.ext e (y1.trans (db.resolve_left z2).symm))
 have same:∀y,y∈(((crs row).filter λq=>decide (q.1=x)||decide (q.2=x)).map λq:Str×Str=>if q.1=x then q.2 else q.1)↔y∈(dit row).filter λy=>decide (lieR row x y = "cross"):=λy=>by
  rw[Lz,Lg,Ag,decide_eq_true_eq];constructor
  ·rintro ⟨q,hq,rfl⟩;obtain⟨cq,dq⟩:=Lg.mp hq;rw[M5,decide_eq_true_eq,decide_eq_true_eq] at dq;obtain⟨a,b,_,d⟩:=Dc cq;by_cases z:q.1=x
   ·rw[Pt z];exact⟨b,by rw[<-z];exact d⟩
   ·rw[Ps z];have y2:=dq.resolve_left z;refine⟨a,?_⟩;rw[<-y2];exact Cq (h2 _ a) (h2 _ b) d
  ·rintro ⟨hy,hc⟩;have ne:x≠y:=λz=>by rw[z,Ff] at hc;exact absurd hc (by decide)
   have hc':lieR row y x = "cross" := Cq (h2 _ hx) (h2 _ hy) hc;by_cases l:ltS x y
   ·exact⟨(x,y),Lg.mpr ⟨(mem _).mpr ⟨hx,hy,l,hc⟩,by simp⟩,by simp⟩
   ·have l':ltS y x:=ltS_of ((G4 x y).resolve_left λz=>l (ltS_of z ne)) (Ne.symm ne);exact⟨(y,x),Lg.mpr ⟨(mem _).mpr ⟨hy,hx,l',hc'⟩,by simp⟩,by simp[Ne.symm ne]⟩
 exact Nat.le_antisymm (nd_le inj λy hy=>(same y).mp hy) (nd_le ((Cz row).filter _) λy hy=>(same y).mpr hy)
def Cs (row:List Str) (x:Str) (ys:List Str):List (Str×Str):=(ys.filter λy=>decide (lieR row x y = "cross")).map λy=>(x,y)
def Ds (row:List Str) (i:Nat):List (Str×Str):=((dit row).take i).flatMap λx=>((dit row).filter λy=>decide (ltS x y)&&decide (lieR row x y = "cross")).map λy=>(x,y)
theorem Xnh(row:List Str):Ds row (dit row).length=crs row:=by
 unfold Ds crs;rw[Mr]
theorem Xni{l:List Str}(h:l.Pairwise ltS)(p:Str->Bool):∀(i:Nat) (hi:i<l.length),l.filter (λy=>decide (ltS l[i] y)&&p y)=(l.drop (i+1)).filter p:=by
 intro i hi;have e:l=l.take (i+1)++l.drop (i+1):=(Mo _ _).symm;have hx:∀y∈l.take (i+1),¬ltS l[i] y:=λy hy q=>by
  obtain⟨j,hj,ej⟩:=Mv.mp hy;rw[Mc] at hj;rw[List.getElem_take] at ej;rcases Nat.lt_or_ge j i with z | z
  ·have:=Oj.mp h j i (by omega) hi z;rw[ej] at this;exact Dj _ (Ep this q)
  ·have:j=i:=by omega
   subst this;rw[ej] at q;exact Dj _ q
 have hy:∀y∈l.drop (i+1),ltS l[i] y:=λy hy=>by
  obtain⟨j,hj,ej⟩:=Mv.mp hy;rw[Ol] at hj;rw[List.getElem_drop] at ej;rw[<-ej];exact Oj.mp h i (i+1+j) hi (by omega) (by omega)
 conv=>lhs;arg 2;rw[e]
 rw[Lx,Nc.mpr (λy hm=>by simp[hx y hm]),N1];exact Pl λy hm=>by rw[Pu (hy y hm),Ni]
theorem Xnj(row:List Str){i:Nat}(hi:i<(dit row).length):Ds row (i+1)=Ds row i++Cs row ((dit row)[i]) ((dit row).drop (i+1)):=by
 unfold Ds Cs;rw[Lw hi,N4];congr 1;rw[N0,Om,Mm,Xni (C0 row) _ i hi]
theorem Xnk(row:List Str)(i:Nat):(Ds row i).length<=i * (dit row).length:=by
 unfold Ds;rw[List.length_flatMap];have:∀(l:List Str),(l.map λx=>(((dit row).filter λy=>decide (ltS x y)&&decide (lieR row x y = "cross")).map λy=>(x,y)).length).sum<=l.length * (dit row).length:=by
  intro l
  induction l with
  | nil=>simp
  | cons a r ih=>
   rw[Ly,Mt,Lv,Nat.succ_mul];have:(((dit row).filter λy=>decide (ltS a y)&&decide (lieR row a y = "cross")).map λy=>(a,y)).length<=(dit row).length:=by
    rw[Lf];exact Ms ..
   omega
 refine Mh (this _) (Nat.mul_le_mul_right _ ?_);rw[Mc];omega
theorem Xnl{ns:List Str}{i:Nat}{v:V}(h:(ns.map V.str)[i]? = some v):∃x,v = .str x/\ns[i]? = some x:=by
 rw[L1] at h;cases e:ns[i]? with
 | none=>rw[e] at h;cases h
 | some x=>
  rw[e] at h;exact⟨x,(L5 h).symm,rfl⟩
def Xpb:Sp:=λvs H Q _=>∃(l:Addr) (ps:List Addr) (Ts:List (List Str)),vs=[.ref l]/\H l=some (.lst (ps.map V.ref))/\Tups H ps Ts/\(∀S∈Ts,S.length<=1000)/\ps.length<=1000/\∀H',Same H H'->Q (.bl true) H'
theorem Xnm{a b:Str×List Str}(h:dNb a=dNb b):a=b:=by
 unfold dNb Bj at h;injection h with h
 injection h with h1 h2
 injection h2 with h2 _
 injection h1 with h1
 injection h2 with h2
 have:a.2=b.2:=Ou (λx y e=>by injection e) |>.mp h2
 exact Prod.ext h1 this
theorem Gk{q:Str×List Str}(h1:okN q.1)(h2:∀y∈q.2,okN y):Be (dNb q)=true:=by
 have q1:Be (.list ([q].map dNb))=true:=Xfd (xs:=[q]) λz hz=>by rw[Lk.mp hz];exact⟨h1,h2⟩
 have:(Be (dNb q)&&true)=true:=q1
 rwa [Bool.and_true] at this
theorem Xnn{U:List (Str×List Str)}{q:Str×List Str}(h1:∀z∈U,okN z.1/\∀y∈z.2,okN y)(h2:okN q.1)(h3:∀y∈q.2,okN y):((U.map dNb).any λe=>PyData.eqv e (dNb q))=decide (q∈U):=by
 rw[List.any_map];by_cases hS:q∈U
 ·rw[Pu hS,Nv];exact⟨q,hS,(Gb _ _ (Gk h2 h3) (Gk h2 h3)).mpr rfl⟩
 ·rw[Pw hS,List.any_eq_false];intro z hz e;have:=(Gb _ _ (Gk (h1 z hz).1 (h1 z hz).2) (Gk h2 h3)).mp e;exact hS (Xnm this ▸ hz)
theorem Xno{σ:L2.St}{H:Hp}{R:It->Hp->Prop}{i:Nat}{d:Addr}{kvs:List (Key×V)}(hv:Gp i σ H λx H1=>x = .ref d/\H1=H)(ws:H d=some (.dK kvs) \/ ∃o,H d=some (.frz o (.dK kvs)))(q:∀o HX,(∀b u,b≠d->H b=some u->HX b=some u)->HX d=some (.frz o (.dK kvs))->R (Itd d o kvs) HX):Xcy (Gp i) σ H R:=by
 obtain⟨v,h1,h2,h3⟩:=hv;refine⟨v,h1,d,kvs,h2,?_⟩;rcases ws with h | ⟨o,h⟩
 ·exact .inl ⟨h,λo=>q o _ (λb u n e=>by rw[Ac n];exact e) Ab⟩
 ·exact .inr ⟨o,h,q o H (λb u _ e=>e) h⟩
theorem Xnp{cap:List (Option Nat)}{g:TG}{tt:TT}{te:TE}{J:It}{σ:L2.St}{H1:Hp}{F:Addr->Hp->Prop}(n:Nat)(hn:n<sizeLine)(vs ys:Nat->V)(ok:Nat->Bool)(Es:L2.St->Prop)(h0:Es (Bi cap σ))
  (hgo:∀i H2,i<n->Same H1 H2->J.go i H2/\∀x H3,J.yld i H2 x H3->H3=H2/\x=vs i)
  (hst:∀H2,Same H1 H2->J.stop n H2)
  (step:∀i σ1 H2 (Q1:L2.St->V->Hp->Prop) (Q0:L2.St->Hp->Prop),i<n->Es σ1->Same H1 H2->(∀σ2 H6,ok i=true->Es σ2->Same H2 H6->Q1 σ2 (ys i) H6)->(∀σ2 H6,ok i=false->Es σ2->Same H2 H6->Q0 σ2 H6) ->
   g (vs i) σ1 H2 fun σ2 H4=>tt σ2 H4 λb H5=>if b=true then te σ2 H5 λy H6=>Q1 σ2 y H6 else Q0 σ2 H5)
  (hd:∀D H2,H1 D=none->Same H1 H2->H2 D=some (.lst (((List.range n).filter ok).map ys))->F D H2):C8 cap g tt te J σ H1 F:=by
 refine El n vs (λD i σ2 H2=>Es σ2/\Same H1 H2/\H2 D=some (.lst (((List.range i).filter ok).map ys))) ?_ ?_ ?_ ?_ ?_
 ·intro D hD;exact⟨h0,(Same.refl H1).step hD,Ab⟩
 ·rintro D i σ2 H2 hD hi ⟨_,s2,_⟩;exact hgo i H2 hi s2
 ·rintro D σ2 H2 hD ⟨_,s2,_⟩;exact hst H2 s2
 ·rintro D i σ2 H2 hD hi ⟨e,s2,hb⟩;refine step i σ2 H2 _ _ hi e s2 (fun σ3 H4 hok e3 s4=>?_) (fun σ3 H4 hok e3 s4=>?_)
  ·have hb4:=s4 _ _ hb;refine wput hi hb4 ?_ ⟨e3,λb u e'=>?_,?_⟩
   ·rw[Lf];have:=Ms ok (List.range i);rw[Mp] at this;omega
   ·rw[Ac (Aq e' hD)];exact s4 _ _ (s2 b u e')
   ·rw[Ab,Mg,Lx,Lu];simp only[Md,hok,if_true,Oe,Ly,Op]
  ·refine wskip hi ⟨e3,s2.trans s4,?_⟩;rw[Mg,Lx,Lu];simp only[Md,hok,Oe,L8,if_false,Op,Mm];exact s4 _ _ hb
 ·rintro D σ2 H2 hD ⟨_,s2,hb⟩;exact hd D H2 hD s2 hb
theorem Nbs.places{H:Hp}:∀{qs:List Addr} {xs:List (Str×List Str)},Nbs H qs xs->∃ps:List Addr,ps.length=qs.length/\∀i,i<qs.length->H (qs.getD i 0)=some (.tup [.str (xs.getD i dN).1,.ref (ps.getD i 0)])/\H (ps.getD i 0)=some (.tup ((xs.getD i dN).2.map V.str))
 | [],xs,_=>⟨[],rfl,λi hi=>absurd hi (Mz _)⟩
 | q::qs,[],h=>by have:=h.1;simp at this
 | q::qs,x::xs,h=>by
  obtain⟨p,h1,h2⟩:=h.2 0 (by simp);obtain⟨ps,e,r⟩:=Nbs.places (qs:=qs) (xs:=xs) ⟨by simpa using h.1,λi hi=>h.2 (i+1) (by simpa using hi)⟩;refine⟨p::ps,by simp[e],λi hi=>?_⟩;cases i with
  | zero=>exact⟨h1,h2⟩
  | succ i=>exact r i (by simpa using hi)
theorem Xnq(prs:List (Key×V))(k:Key):(An (Bx prs) k).isSome=true↔k∈prs.map λq:Key×V=>q.1:=by
 have key:∀(n:Nat) (prs:List (Key×V)),prs.length=n->((An (Bx prs) k).isSome=true↔k∈prs.map λq:Key×V=>q.1):=by
  intro n
  induction n with
  | zero=>
   intro prs h;rw[Ma.mp h];exact⟨λh=>(nomatch h),λh=>(nomatch h)⟩
  | succ n ih=>
   intro prs h;obtain⟨l,q,rfl⟩:∃l q,prs=l++[q]:=⟨prs.dropLast,prs.getLast (λe=>by rw[e] at h;cases h),(M7 _).symm⟩;rw[Kz,Fx,Lu,Lr];by_cases z:k=q.1
   ·rw[Pt z];exact⟨λ_=>.inr (by rw[z];exact Lj),λ_=>rfl⟩
   ·rw[Ps z,ih l (by simpa using h)];exact⟨.inl,λh=>h.resolve_right λh=>z (Lk.mp h)⟩
 exact key _ prs rfl
theorem Xnr{row S:List Str}{x:Str}(hx:x∈row):x∈(nbL row S).map (·.1)↔Ae row (Aj S x)=true:=by
 rw[Lz];constructor
 ·rintro ⟨q,hq,rfl⟩;obtain⟨_,h2,h3⟩:=Ed.mp hq;rw[<-h2];exact h3
 ·intro h;exact⟨(x,Aj S x),Ed.mpr ⟨hx,rfl,h⟩,rfl⟩
theorem Xns{row S:List Str}{q:Str×List Str}(hS:Ae row S=true)(hq:q∈nbL row S):(q.1,S)∈nbL row q.2:=by
 obtain⟨h1,h2,h3⟩:=Ed.mp hq;exact Ed.mpr ⟨h1,by show S=Aj q.2 q.1;rw[h2,Fi q.1 hS],hS⟩
abbrev NL4:List Str:=["_law_script", "_law_draw", "_law_row_here", "_law_where_here", "_law_sides", "_law_by", "_law_plot", "_law_others", "_law_name", "_law_over", "_law_met", "_law_many", "_law_reached", "_law_k", "_law_everyone", "_law_crossed_here"]
abbrev NL4a:List Str:=["_law_plot", "_law_row_here"]
abbrev NL4b:List Str:=["_law_one", "_law_name", "_law_where_here"]
abbrev NL4c:List Str:=["_law_plot", "_law_others", "_law_name"]
abbrev NL4d:List Str:=["_law_plot", "_law_others"]
end SH
namespace K14
open PySem PySem.Spec PyProof.Rows L2 SH
def top (i:Nat):Stmt:=PySem.Challenge.pw_shoretold_k14_whole_sides_counted.main.body.getD i (.Pass ⟨0,0,0,0⟩)
abbrev sAsk:Stmt:=top 5
abbrev sDitches:Stmt:=top 6
abbrev sEnds:Stmt:=top 7
abbrev sSpans:Stmt:=top 8
abbrev sLieOf:Stmt:=top 9
abbrev sCross:Stmt:=top 10
abbrev sTold:Stmt:=top 12
abbrev s_in_order:Stmt:=top 13
abbrev sAllows:Stmt:=top 14
abbrev sIsPlot:Stmt:=top 15
abbrev s_ask_plot:Stmt:=top 16
abbrev s_plots:Stmt:=top 17
abbrev s_parting:Stmt:=top 19
abbrev s_across:Stmt:=top 20
abbrev s_neighbours:Stmt:=top 21
abbrev sBegin:Stmt:=top 23
abbrev sPick:Stmt:=top 24
abbrev sPut:Stmt:=top 25
abbrev sWhere:Stmt:=top 26
abbrev sWord:Stmt:=top 27
abbrev sBarred:Stmt:=top 28
abbrev sRow:Stmt:=top 29
abbrev sNames:Stmt:=top 30
abbrev sIsland:Stmt:=top 31
abbrev s__law_crossed:Stmt:=top 32
abbrev s_law:Stmt:=top 33
section
variable {P:Program}{w:World}{K:PySem.W.Frag}{mg:Str->Option Value}{base:Heap}
theorem Xnt:FnScope ["row", "name"] ["row", "name"] (Ak sAsk):=⟨rfl,rfl,rfl,by decide +kernel,rfl,by decide +kernel,by decide +kernel⟩
theorem Xnu{f C:Addr}{fd:FuncData}(F:Fun K "ask_ditch" "ask_ditch" sAsk f fd)(hC:mg "NoDitch" = some (.ref C))(hc:PySem.W.excIn K C bmV "ValueError.__new__" = true):
  FnOk P w K mg base (CX1 P w) 1 f fd ["row", "name"] (J9 C):=by
 refine F.ok1 Xnt (λvs H Q E h=>?_) (λcdv A outer s H vs Q E hr h=>?_)
 ·obtain⟨r,row,x,rfl,_⟩:=h;rfl
 ·obtain⟨r,row,x,rfl,hR,⟨hx1,hx2⟩,kq,ke⟩:=h;refine⟨_,Al (Bm (A8 Xg4 (pv 1) (pv 0) (by rfl))
   (Al (Xbp (C:=C) (E:=E) hc rfl leaves1 (by rfl) hC (Aa (Xbu (Gz (by decide +kernel) (Xi0 (pv 1) (Gz (by decide +kernel) Xbt)))) Ad))) Bs),?_⟩
  refine⟨_,rfl,_,rfl,r,_,rfl,.inl (SqL.of hR),rfl,G6 row,_,rfl,?_⟩;rw[G5];by_cases hx:x∈row
  ·refine Xhq hx ?_;exact kq hx H (Same.refl H)
  ·rw[Pw hx];refine Di ?_;refine⟨_,rfl,x,rfl,by omega,(λc h=>N3 (hx2 c h) (by decide)),λz=>?_⟩;exact⟨by show 1<=sizeLine;decide,ke hx H (Same.refl H)⟩
theorem Xnv:FnScope ["row"] ["row"] (Ak sDitches):=⟨rfl,rfl,rfl,by decide +kernel,rfl,by decide +kernel,by decide +kernel⟩
theorem Xnw{f:Addr}{fd:FuncData}(F:Fun K "ditches" "ditches" sDitches f fd)(T:Bl mg):FnOk P w K mg base CX0 1 f fd ["row"] spDitches:=by
 refine F.ok Xnv (λvs H Q E h=>?_) (λcdv A outer s H vs Q E hr h=>?_)
 ·obtain⟨r,row,rfl,_⟩:=h;rfl
 ·obtain⟨r,row,rfl,hR,hl,k⟩:=h;refine⟨_,Al (A0 (Bb (Jk rfl) (by rfl) T.sorted (by rfl) (Aa (C4 (G3 rfl) (by rfl) T.set (by rfl) (Aa (pv 0) Ad)) Ad))),?_⟩;refine⟨_,rfl,r,row,rfl,.inl (SqL.of hR),by unfold scanBound;omega,λa na=>?_⟩;have hdl:=G1 row;refine⟨a,ddup row,rfl,Ab,by omega,λl ls nl hp hs=>?_⟩;have s1:Same H (upd H a (Eo P w a (ddup row))):=(Same.refl H).step na;refine k l _ (s1.free nl) ?_ (s1.step nl);rw[Ab,Jm hp hs];rfl
theorem Xfk:FnScope NEn ["row", "name"] (Ak sEnds):=⟨rfl,rfl,rfl,by decide +kernel,rfl,by decide +kernel,by decide +kernel⟩
theorem Xnx{f C:Addr}{fd:FuncData}(F:Fun K "ends" "ends" sEnds f fd)(T:Bl mg)(FA:Fn P w K mg base (CX1 P w) 1 "ask_ditch" ["row", "name"] (J9 C)):
  FnOk P w K mg base (CX1 P w) 2 f fd ["row", "name"] (Ka C):=by
 refine F.ok1 Xfk (λvs H Q E h=>?_) (λcdv A outer s H vs Q E hr h=>?_)
 ·obtain⟨r,row,x,rfl,_⟩:=h;rfl
 ·obtain⟨r,row,x,rfl,hR,hx,hl,kq,ke⟩:=h;refine⟨_,Ai (Fo (Ap FA hr rfl pass1 (Aa (pv 0) (Aa (pv 1) Ad))))
   (Ai (E9 (i:=2) (N:=NEc) (cap:=[none,none,some 1]) (CompScope.of (Ak sEnds) NEn rfl rfl rfl (by decide +kernel)) rfl Xfk.nd rfl rfl
    (Xiy (by rfl) T.enum (Aa (pv 0) Ad))
    (λ_ _ _=>D1 K 2 rfl rfl (Bn (Av (i:=0) (show NEc.Nodup by decide +kernel) rfl (Or.inl rfl) (Or.inr rfl)) (Bn (Av (i:=1) (show NEc.Nodup by decide +kernel) rfl (Or.inl rfl) (Or.inr rfl)) De)))
    (λ_ _ _=>Dz (A8 Ck (pv 1) (pv 2) (Ba _))) (λ_ _ _=>pv 0))
   (Al (A0 (B5 (Aa (Ay Bd (pv 2) Ah (λ_ _=>rfl)) (Aa (Ay Bd (pv 2) Ah (λ_ _=>rfl)) Ad)))))),?_⟩
  refine⟨_,rfl,_,rfl,r,row,x,rfl,hR,hx,λhin H1 s1=>?_,ke⟩;obtain⟨a,b,hab,kq⟩:=kq hin;refine⟨_,rfl,r,rfl,⟨_,SqL.of (s1 _ _ hR)⟩,?_⟩;refine Xi8 (K:=K) (p:=0) (q:=1) (by decide) (SqL.of (s1 _ _ hR)) (by rw[Lf,Pr];omega) (λi=>decide (row.getD i Str.empty=x)) (λi=>.int i) ?_ ?_ ?_
  ·intro i v H2 Q' hv s2 k;obtain⟨y,rfl,hy⟩:∃y,v=V.str y/\row.getD i Str.empty=y:=by
    rw[L1] at hv;cases q:row[i]? with
    | none=>rw[q] at hv;cases hv
    | some y=>rw[q] at hv;exact⟨y,(L5 hv).symm,by simp[List.getD,q]⟩
   refine⟨_,rfl,_,rfl,rfl,_,rfl,?_⟩;have:=k H2 (Same.refl _);rw[hy] at this;have e:decide (V.str y=V.str x)=decide (y=x):=by
    by_cases z:y=x
    ·rw[z];simp
    ·rw[Pw z,Pw (λq=>z (by injection q))]
   rw[e];exact this
  ·intro i v H2 Q' hv hk s2 k;exact⟨_,rfl,k H2 (Same.refl _)⟩
  ·intro D H2 nD s2 hD;have hD':H2 D=some (.lst [.int a,.int b]):=by
    rw[hD,Lf];have:=congrArg (List.map V.int) ((J8 row x).trans hab);rw[Mb] at this;rw[show ((List.range row.length).filter λi=>decide (row.getD i Str.empty=x)).map (λi:Nat=>V.int (i:Int))=_ from this];rfl
   refine⟨_,rfl,_,_,_,_,rfl,rfl,SqL.of hD',rfl,_,rfl,_,_,_,_,rfl,rfl,SqL.of hD',rfl,by show 2<=sizeLine;decide,λp np=>?_⟩;have s3:=s1.trans s2;exact kq p _ (s3.free np) Ab (s3.step np)
theorem Xny:FnScope ["row"] ["row"] (Ak sSpans):=⟨rfl,rfl,rfl,by decide +kernel,rfl,by decide +kernel,by decide +kernel⟩
theorem Xnz{f C:Addr}{fd:FuncData}(F:Fun K "spans" "spans" sSpans f fd)(FD:Fn P w K mg base CX0 1 "ditches" ["row"] spDitches)(FE:Fn P w K mg base (CX1 P w) 2 "ends" ["row", "name"] (Ka C)):
  FnOk P w K mg base CX0 3 f fd ["row"] spSpans:=by
 refine F.ok Xny (λvs H Q E h=>?_) (λcdv A outer s H vs Q E hr h=>?_)
 ·obtain⟨r,row,rfl,_⟩:=h;rfl
 ·obtain⟨r,row,rfl,hR,R2,k⟩:=h;have hr1:Room 1 _:=hr.mono (by decide);refine⟨_,Al (A0 (Xcu (N:=NSp) (cap:=[none,some 0]) (CompScope.of (Ak sSpans) ["row"] rfl rfl rfl (by decide +kernel)) rfl
   (Bu (Ap FD hr1 (by rfl) Ar (Aa (pv 0) Ad))) (λ_ _ _=>Av (i:=0) (show NSp.Nodup by decide +kernel) rfl (Or.inl rfl) (Or.inr rfl)) (λ_ _ _=>Cy)
   (λ_ _ _=>pv 0) (λ_ _ _=>Ap (by exact FE) (by exact hr) (by rfl) Xck (Aa (pv 1) (Aa (pv 0) Ad))))),?_⟩
  have hl:=R2.len;refine⟨_,rfl,r,row,rfl,hR,hl,λdi H1 ndi hdi s1=>?_⟩;refine⟨di,rfl,⟨_,SqL.of hdi⟩,λD nD=>?_⟩;have hn:∀i,i<(dit row).length->((dit row).map V.str).getD i .non = .str ((dit row).getD i Str.empty):=λi hi=>Db V.str Str.empty _ hi;have hR1:=s1 _ _ hR;have hdl:=F4 row;refine⟨wN (dit row).length λi σ2 H2=>(∃v, σ2=[v,some (.ref r)])/\Same H1 H2/\∃kvs,H2 D=some (.dK kvs)/\Spn H2 kvs row ((dit row).take i),⟨(dit row).length,by simp,Mf _,⟨none,rfl⟩,(Same.refl H1).step nD,[],Ab,⟨rfl,λx hx=>by simp at hx⟩⟩,?_⟩;rintro i m σ1 H2 ⟨rfl,hi,⟨v,rfl⟩,s2,kvs,hD,sp⟩;by_cases hlt:i<(dit row).length
  ·have hlt':i<((dit row).map V.str).length:=by rw[Lf];exact hlt
   obtain⟨g1,g2⟩:=Em (K:=K) (SqL.of (s2 _ _ hdi)) hlt';refine .inr ⟨g1,λx H3 y=>?_⟩;obtain⟨e1,e2⟩:=g2 x H3 y;subst e1 e2;rw[hn i hlt];generalize hx:(dit row).getD i Str.empty=x;have hxd:x∈dit row:=by rw[<-hx];exact Cp hlt
   have hxr:=Ag.mp hxd;have htk:(dit row).take (i+1)=(dit row).take i++[x]:=by
    rw[Lw hlt,<-hx];simp[List.getD,hlt]
   have hnx:x∉(dit row).take i:=by
    have nd:=Cz row;have h2:((dit row).take (i+1)).Nodup:=nd.sublist (Nx ..);rw[htk] at h2;exact λz=>(M6.mp h2).2.2 x z x (by simp) rfl
   refine⟨_,rfl,_,rfl,_,rfl,r,row,x,rfl,s2 _ _ hR1,R2.ok x hxr,by omega,λ_=>⟨_,_,Fd (R2.two x hxr),λl H4 nl hl4 s4=>?_⟩,λz=>absurd hxr z⟩;have hD4:=s4 _ _ hD;have kl:kvs.length<=60:=by
    have:=sp.len;rw[Mc] at this;omega
   refine⟨kvs,Sum.inr x,rfl,hD4,by rw[Pr];omega,?_⟩;refine wskip hlt ⟨⟨_,rfl⟩,λb u e=>?_,_,Ab,?_⟩
   ·rw[Ac (Aq e nD)];exact s4 _ _ (s2 b u e)
   ·rw[htk];refine sp.snoc hnx ?_ λb xs e=>?_
    ·rw[Ac (λz=>by rw[z,hD4] at hl4;cases hl4)];exact hl4
    ·have e4:=s4 _ _ e;rw[Ac (λz=>by rw[z,hD4] at e4;cases e4)];exact e4
  ·have ei:i=(dit row).length:=by omega
   subst ei;refine .inl ⟨by have:=En (K:=K) (SqL.of (s2 _ _ hdi));rwa [Lf] at this,?_⟩;rw[Mr] at sp;exact k D kvs H2 (s1.free nD) hD sp (s1.trans s2)
theorem K8:FnScope NLo ["here", "there"] (Ak sLieOf):=⟨rfl,rfl,rfl,by decide +kernel,rfl,by decide +kernel,by decide +kernel⟩
theorem Xn0{f:Addr}{fd:FuncData}(F:Fun K "lie_of" "lie_of" sLieOf f fd):FnOk P w K mg base CX0 2 f fd ["here", "there"] spLieOf:=by
 refine F.ok K8 (λvs H Q E h=>?_) (λcdv A outer s H vs Q E hr h=>?_)
 ·obtain⟨p,q,a,b,c,e,rfl,_⟩:=h;rfl
 ·obtain⟨p,q,a,b,c,e,rfl,hp,hq,l4,k⟩:=h;refine⟨_,Ai (Bm (A8 (Xji (hu3 hr)) (pv 0) (pv 1) (Ba _)) (Al (A0 Bg)) Bs)
   (Ai (Aw (i:=2) K8.nd rfl (Or.inl rfl) (Xaq Cl Cl (Ay (Dl K (by rfl)) (pv 1) Ah (λ_ _=>rfl)) (Ay (Dl K (by rfl)) (pv 0) Ah (λ_ _=>rfl)) (Ay (Dl K (by rfl)) (pv 1) Ah (λ_ _=>rfl))))
   (Ai (Aw (i:=3) K8.nd rfl (Or.inl rfl) (Xaq Cl Cl (Ay (Dl K (by rfl)) (pv 1) Ah (λ_ _=>rfl)) (Ay (Dl K (by rfl)) (pv 0) Ah (λ_ _=>rfl)) (Ay (Dl K (by rfl)) (pv 1) Ah (λ_ _=>rfl))))
   (Ai (Bm (A8 Ii (pv 2) (pv 3) (Ba _)) (Al (A0 Bg)) Bs)
   (Ai (Bm (Fm (pv 2)) (Al (A0 Bg)) Bs)
   (Al (A0 (Hy (Xgm Cl Cl (Ay (Dl K (by rfl)) (pv 0) Ah (λ_ _=>rfl)) (Ay (Dl K (by rfl)) (pv 1) Ah (λ_ _=>rfl)) (Ay (Dl K (by rfl)) (pv 0) Ah (λ_ _=>rfl))) Bg Bg))))))),?_⟩
  have d2:∀{r:Addr} {x y:Int},H r=some (.tup [.int x,.int y])->DAt H (.tuple [.int x,.int y]) (.ref r):=λ{r x y} h=>Ju h (Xjg [x,y]);refine⟨_,rfl,_,rfl,.tuple [.int a,.int b],.tuple [.int c,.int e],d2 hp,d2 hq,rfl,rfl,(by show min (max 0 (max 0 0)+1) (max 0 (max 0 0)+1)<=3;decide),_,rfl,?_⟩;have ee:PyData.eqv (.tuple [.int a,.int b]) (.tuple [.int c,.int e])=decide (a=c/\b=e):=by
   rw[M3,Gb _ _ rfl rfl];simp
  rw[ee];have kk:=k H (Same.refl H);refine A9 (λh1=>?_) (λh1=>?_)
  ·unfold lieT at kk;rw[Pt (Px h1)] at kk;exact kk
  ·have h1:=Py h1;dsimp only[Hz,Gs,Ic,A6];refine Kb (x:=c) (y:=a) (z:=e) (λQ' h=>⟨_,rfl,q,_,_,_,rfl,rfl,SqT.of hq,rfl,h⟩) (λQ' h=>⟨_,rfl,p,_,_,_,rfl,rfl,SqT.of hp,rfl,h⟩) (λQ' h=>⟨_,rfl,q,_,_,_,rfl,rfl,SqT.of hq,rfl,h⟩) ?_;refine Kb (x:=c) (y:=b) (z:=e) (λQ' h=>⟨_,rfl,q,_,_,_,rfl,rfl,SqT.of hq,rfl,h⟩) (λQ' h=>⟨_,rfl,p,_,_,_,rfl,rfl,SqT.of hp,rfl,h⟩) (λQ' h=>⟨_,rfl,q,_,_,_,rfl,rfl,SqT.of hq,rfl,h⟩) ?_;refine⟨_,rfl,_,rfl,rfl,_,rfl,?_⟩;rw[Ih];refine A9 (λh2=>?_) (λh2=>?_)
   ·rw[Xj6 h1 (by simpa using h2)] at kk;exact kk
   ·refine⟨_,rfl,_,rfl,?_⟩;refine A9 (λh3=>?_) (λh3=>?_)
    ·rw[Xj7 h1 (by simpa using h2) h3] at kk;exact kk
    ·rw[Xj8 l4 h1 (by simpa using h2) h3] at kk;dsimp only[Hz,Xah,tIf,Ij];refine Kb (x:=a) (y:=c) (z:=b) (λQ' h=>⟨_,rfl,p,_,_,_,rfl,rfl,SqT.of hp,rfl,h⟩) (λQ' h=>⟨_,rfl,q,_,_,_,rfl,rfl,SqT.of hq,rfl,h⟩) (λQ' h=>⟨_,rfl,p,_,_,_,rfl,rfl,SqT.of hp,rfl,h⟩) ⟨_,rfl,?_⟩;refine A9 (λh4=>?_) (λh4=>?_)
     ·rw[Pt h4] at kk;exact kk
     ·rw[Ps (by rw[h4];exact L3)] at kk;exact kk
theorem Xfl:FnScope NCr ["row"] (Ak sCross):=⟨rfl,rfl,rfl,by decide +kernel,rfl,by decide +kernel,by decide +kernel⟩
theorem Xn1{f:Addr}{fd:FuncData}(F:Fun K "crossings" "crossings" sCross f fd)(FS:Fn P w K mg base CX0 3 "spans" ["row"] spSpans)(FO:Fn P w K mg base CX0 2 "lie_of" ["here", "there"] spLieOf):
  FnOk P w K mg base CX0 4 f fd ["row"] Fe:=by
 refine F.ok Xfl (λvs H Q E h=>?_) (λcdv A outer s H vs Q E hr h=>?_)
 ·obtain⟨r,row,rfl,_⟩:=h;rfl
 ·obtain⟨r,row,rfl,hR,R2,k⟩:=h;have hu:=Ej hr;have hr2:Room 2 _:=hr.mono (by decide);refine⟨_,Ai (Aw (i:=1) Xfl.nd rfl (Or.inr rfl) (Ap FS hr (by rfl) Ar (Aa (pv 0) Ad)))
   (Al (A0 (Xcv (N:=NCc) (cap:=[none,none,some 1]) (CompScope.of (Ak sCross) NCr rfl rfl rfl (by decide +kernel)) rfl
    (Et (pv 1)) (λ_ _ _=>Av (i:=0) (show NCc.Nodup by decide +kernel) rfl (Or.inl rfl) (Or.inr rfl)) (λ_ _ _=>Cy)
    (λ_ _ _=>Et (pv 2)) (λ_ _ _=>Av (i:=1) (show NCc.Nodup by decide +kernel) rfl (Or.inl rfl) (Or.inr rfl))
    (λ_ _ _=>Dz (Gr (A8 Xgl (pv 0) (pv 1) (Ba _)) (Gq (A8 Ck (Ap (by exact FO) (by exact hr2) (by rfl) Ar (Aa (B2 hu (pv 2) (pv 0) (λ_ _=>rfl)) (Aa (B2 hu (pv 2) (pv 1) (λ_ _=>rfl)) Ad))) Bg (Ba _)))).pt)
    (λ_ _ _=>B5 (Aa (pv 0) (Aa (pv 1) Ad)))))),?_⟩
  have hl:=R2.len;have hdl:=F4 row;refine⟨_,rfl,r,row,rfl,hR,R2,λd kvs H1 nd hd sp s1=>?_⟩;refine⟨_,rfl,d,kvs,rfl,.inl ⟨hd,λo D nD=>?_⟩⟩;generalize hH2:upd H1 d (.frz o (.dK kvs))=H2 at nD;have s2:Same H H2:=λb u e=>by rw[<-hH2,Ac (Aq e nd)];exact s1 b u e
  have hd2:H2 d=some (.frz o (.dK kvs)):=by rw[<-hH2];exact Ab
  have sp2:Spn H2 kvs row (dit row):=⟨sp.keys,λx hx=>let ⟨l,h1,h2⟩:=sp.val x hx; ⟨l,h1,by rw[<-hH2,Ac (λz=>by rw[z,hd] at h2;cases h2)];exact h2⟩⟩;have kl:=sp2.len;have go:∀i H3,i<(dit row).length->Same H2 H3->(Itd d o kvs).go i H3/\∀x H4,(Itd d o kvs).yld i H3 x H4->H4=H3/\x = .str ((dit row).getD i Str.empty):=λi H3 hi s3=>by
   have:=E6 (kvs:=kvs) (s3 _ _ hd2) (by omega:i<kvs.length);rw[sp2.at i hi] at this;exact this
  have stp:∀H3,Same H2 H3->(Itd d o kvs).stop (dit row).length H3:=λH3 s3=>by
   have:=E7 (kvs:=kvs) (s3 _ _ hd2)
   rwa [kl] at this
  let ns:=dit row
  let ok:Nat->Nat->Bool:=λi j=>decide (ltS (ns.getD i Str.empty) (ns.getD j Str.empty))&&decide (lieR row (ns.getD i Str.empty) (ns.getD j Str.empty) = "cross")
  let part:Nat->List PyData:=λi=>((List.range ns.length).filter (ok i)).map λj=>prD (ns.getD i Str.empty,ns.getD j Str.empty)
  have hpl:∀i,(part i).length<=60:=λi=>by
   show (List.map _ _).length<=60;rw[Lf];refine Mh (Ms ..) ?_;rw[Mp];show (dit row).length<=60;omega
  have hacc:∀i,((List.range i).flatMap part).length<=60 * i:=λi=>by
   induction i with
   | zero=>simp
   | succ i ih=>
    rw[Mg,N4,Lp];have:=hpl i;simp only[N0,Om,Mm];omega
  refine Xjm (H0:=H2) (xs0:=[]) (n:=ns.length) (λi=>.str (ns.getD i Str.empty)) (λi=>(List.range i).flatMap part) nD ((Same.refl H2).step nD) Ab C1 (fun σ1=>∃v0 v1, σ1=[v0,v1,some (.ref d)]) ⟨none,none,rfl⟩ go stp ?_ ?_
  ·rintro i σ1 xs H3 Q' hi ⟨v0,v1,rfl⟩ s3 hD hal kk;have hxi:=Cp hi;refine⟨_,rfl,d,kvs,rfl,.inr ⟨o,s3 _ _ hd2,?_⟩⟩;refine Jx (H0:=H2) (n:=ns.length) (λj=>.str (ns.getD j Str.empty)) (ok i) (λj=>prD (ns.getD i Str.empty,ns.getD j Str.empty)) ((List.range i).flatMap part) nD s3 hD hal ?_ go stp ?_ ?_ ?_
   ·have:=hacc i;have h2:i<60:=by have:i<(dit row).length:=hi;omega
    have h3:ns.length<=60:=by show (dit row).length<=60;omega
    rw[Pr];omega
   ·intro j H4 Q2 hj s4 k2;have hxj:=Cp hj;refine⟨_,rfl,_,rfl,_,_,rfl,rfl,_,rfl,?_⟩;refine A9 (λq1=>?_) (λq1=>?_)
    ·obtain⟨l1,g1,t1⟩:=(sp2.mono s4).get (.inr ⟨o,s4 _ _ hd2⟩) hxi;obtain⟨l2,g2,t2⟩:=(sp2.mono s4).get (.inr ⟨o,s4 _ _ hd2⟩) hxj;refine⟨_,rfl,_,rfl,d,_,rfl,g1,_,rfl,_,rfl,d,_,rfl,g2,l1,l2,_,_,_,_,rfl,t1,t2,lie4 (R2.two _ (Ag.mp hxi)) (R2.two _ (Ag.mp hxj)),λH5 s5=>?_⟩;refine⟨rfl,_,rfl,?_⟩;rw[He];have:=k2 H5 s5;have e1:ok i j=decide (lieR row (ns.getD i Str.empty) (ns.getD j Str.empty) = "cross"):=by
      show (decide _&&decide _)=_;have q1':decide (ltS (ns.getD i Str.empty) (ns.getD j Str.empty))=true:=q1;rw[q1',Ni]
     rw[e1] at this;exact this
    ·have:=k2 H4 (Same.refl _);have e1:ok i j=false:=by
      show (decide _&&decide _)=_;have q1':decide (ltS (ns.getD i Str.empty) (ns.getD j Str.empty))=false:=q1;rw[q1',Nh]
     rw[e1] at this;exact this
   ·intro j xs' H4 Q2 hj hk s4 hD4 k2;refine⟨_,rfl,_,rfl,by show 2<=sizeLine;decide,λp np=>?_⟩;exact k2 _ _ ((Same.refl H4).step np) (Xc0 hD4 np (Jt [ns.getD i Str.empty,ns.getD j Str.empty]))
   ·intro σ' H4 xs' e s4 hD4 hal4;refine kk σ' H4 xs' ?_ s4 hD4 ?_
    ·have l1 : σ'.length=3:=by
      have:=congrArg List.length (e none);simpa using this
     match σ',l1,e with
     | [w0,w1,w2],_,e=>
      have:=e none;simp at this;exact⟨w0,w1,by rw[this.2]⟩
    ·rw[Mg,N4,N0,Om,Mm];exact hal4
  ·intro σ' H3 xs s3 hD hal;refine k D xs H3 (s2.free nD) hD ?_ (s2.trans s3);have e:(List.range ns.length).flatMap part=(crs row).map prD:=by
    have e1:crs row=(List.range ns.length).flatMap λi=>((List.range ns.length).filter (ok i)).map λj=>(ns.getD i Str.empty,ns.getD j Str.empty):=by
     have em:dit row=(List.range ns.length).map λi=>ns.getD i Str.empty:=by
      have:=B7 Str.empty (λ_=>true) (dit row);rw[L0.mpr (λ_ _=>rfl),L0.mpr (λ_ _=>rfl)] at this;exact this.symm
     show (dit row).flatMap _=_
     conv=>lhs;rw[em]
     rw[List.flatMap_map];congr 1;funext i;have:=B7 Str.empty (λy=>decide (ltS (ns.getD i Str.empty) y)&&decide (lieR row (ns.getD i Str.empty) y = "cross")) (dit row);rw[<-em,<-this,Mb];rfl
    rw[e1,List.map_flatMap];congr 1;funext i;rw[Mb];rfl
   rw[<-e];exact hal
theorem Xn2:FnScope ["names"] ["names"] (Ak sTold):=⟨rfl,rfl,rfl,by decide +kernel,rfl,by decide +kernel,by decide +kernel⟩
theorem Xn3{f:Addr}{fd:FuncData}(F:Fun K "told" "told" sTold f fd)(T:Bl mg):FnOk P w K mg base CX0 1 f fd ["names"] (spTold K):=by
 refine F.ok Xn2 (λvs H Q E h=>?_) (λcdv A outer s H vs Q E hr h=>?_)
 ·obtain⟨p,ss,rfl,_⟩:=h;rfl
 ·obtain⟨p,ss,rfl,hR,hl,k⟩:=h;refine⟨_,Al (A0 (C4 Xa4 (by rfl) T.tuple (by rfl) (Aa (Bb (Jk rfl) (by rfl) T.sorted (by rfl) (Aa (C4 (G3 rfl) (by rfl) T.set (by rfl) (Aa (pv 0) Ad)) Ad)) Ad))),?_⟩;refine⟨_,rfl,p,ss,rfl,hR,by unfold scanBound;omega,λa na=>?_⟩;have hdl:=G1 ss;refine⟨a,ddup ss,rfl,Ab,by omega,λl ls nl hp hs=>?_⟩;have s1:Same H (upd H a (Eo P w a (ddup ss))):=(Same.refl H).step na;refine⟨l,_,rfl,.inl ⟨SqL.of Ab,λt nt=>?_⟩⟩;have s2:=s1.step (o:=.lst (ls.map V.str)) nl;refine k t _ (s2.free nt) ?_ (s2.step nt);rw[Ab,Jm hp hs];rfl
theorem Xn4:FnScope ["some"] ["some"] (Ak s_in_order):=⟨rfl,rfl,rfl,by decide +kernel,rfl,by decide +kernel,by decide +kernel⟩
theorem Xn5{f T:Addr}{fd:FuncData}(F:FunT K "in_order" s_in_order f fd T)(B:Bl mg)(hbm:BmOk mg base):FnOk P w K mg base CX0 4 f fd ["some"] (spInOrder T (lamPos s_in_order)):=by
 refine F.ok Xn4 (λvs H Q E h=>?_) (λc0 hhd A outer s H vs Q E hr h=>?_)
 ·obtain⟨l,ps,Ts,rfl,_⟩:=h;rfl
 ·obtain⟨l,ps,Ts,rfl,hl,hT,nd,h64,tab,k⟩:=h;refine⟨_,Al (A0 (Xlh (show (A.deeper (envOfC "in_order" (Ak s_in_order) s.heap.objs.size f (.ref c0))).units+1+1<cLine by have:=hr.un;omega) (by rfl) B.sorted (by rfl) (Aa (pv 0) Ad) (Xgr (Xjw (T:=T) (c0:=c0) (q:=qIn) hbm rfl rfl rfl hhd rfl) Xgq))),?_⟩;refine⟨_,rfl,⟨tab,λf' c pm ctv H' nf hf hc tab' kp=>?_⟩⟩;have nlT:∀b o,H b=some o->(∀z,o ≠ .tbl z)->b≠T:=λb o e n z=>by
   rcases tab with q | ⟨_,q,_⟩<;>(rw[z,q] at e;cases e;exact n _ rfl)
  have hT':Tups H' ps Ts:=⟨hT.1,λi hi=>kp _ _ (hT.2 i hi) (nlT _ _ (hT.2 i hi) λz=>by simp)⟩;refine⟨l,f',ps,Ts,rfl,rfl,kp _ _ hl (nlT _ _ hl λz=>by simp),hT',nd,h64,?_,λD p H2 nD g so sm hD=>?_⟩
  ·refine Xli (k:=0) (x := "plot") hf hc ⟨rfl,rfl,rfl,by decide +kernel,rfl,by decide +kernel,by decide +kernel⟩ hr (λu=>rfl) λA1 outer1 s1 H1 i hi sm hr1=>?_;refine⟨_,B5 (Aa (Bb Bo (by rfl) B.len boot_len (Aa (pv 0) Ad)) (Aa (pv 0) Ad)),λQ1 kk=>?_⟩;have hp:=sm _ _ (hT'.2 i hi);refine⟨_,rfl,ps.getD i 0,_,rfl,.inr (SqT.of hp),_,rfl,by show 2<=sizeLine;decide,λt nt=>?_⟩;refine kk t _ ?_ (Same.upd0 nt);rw[Ab,Lf]
  ·obtain⟨pm',so'⟩:=Xmc (Ts:=Ts) (by rw[<-hT.1];exact g) (by rw[<-hT.1];exact so);refine k D _ _ H2 ?_ hD ((Xmd hT' g).same sm) pm' so' (SH.Ao.same tab' sm) λb o e n=>sm _ _ (kp b o e n);cases e:H D with
   | none=>rfl
   | some o=>
    by_cases z:D=T
    ·rcases tab' with q | ⟨_,q,_⟩<;>(rw[<-z,nD] at q;cases q)
    ·rw[kp D o e z] at nD;cases nD
theorem Xn6:FnScope ["how", "off"] ["how", "off"] (Ak sAllows):=⟨rfl,rfl,rfl,by decide +kernel,rfl,by decide +kernel,by decide +kernel⟩
theorem Xn7{f:Addr}{fd:FuncData}(F:Fun K "allows" "allows" sAllows f fd):FnOk P w K mg base CX0 1 f fd ["how", "off"] spAllows:=by
 refine F.ok Xn6 (λvs H Q E h=>?_) (λcdv A outer s H vs Q E hr h=>?_)
 ·obtain⟨how,off,rfl,_⟩:=h;rfl
 ·obtain⟨how,off,rfl,k⟩:=h;refine⟨_,Ai (Bm (A8 Ck (pv 0) Bg (Ba _)) (Al (A0 (pv 1))) Bs)
   (Al (A0 (Xf6 (Ft Ii (pv 0) Bg (Ba _)) (Xag (Xf7 (pv 1)))))),?_⟩
  refine⟨_,rfl,rfl,_,rfl,?_⟩;rw[He];unfold Bp at k;refine A9 (λq=>?_) (λq=>?_)
  ·rw[Pt (Px q)] at k;exact⟨_,rfl,k⟩
  ·rw[Ps (Py q)] at k;refine⟨_,rfl,rfl,_,rfl,?_⟩;rw[He];refine A9 (λq2=>?_) (λq2=>?_)
   ·rw[q2,Bool.true_or] at k;exact k
   ·rw[q2,Bool.false_or] at k;exact⟨_,rfl,off,rfl,k⟩
theorem Xfm:FnScope NIp ["row", "plot"] (Ak sIsPlot):=⟨rfl,rfl,rfl,by decide +kernel,rfl,by decide +kernel,by decide +kernel⟩
theorem Xn8{f:Addr}{fd:FuncData}(F:Fun K "is_plot" "is_plot" sIsPlot f fd)(T:Bl mg)(FS:Fn P w K mg base CX0 3 "spans" ["row"] spSpans)(FO:Fn P w K mg base CX0 2 "lie_of" ["here", "there"] spLieOf)
  (FT:Fn P w K mg base CX0 1 "told" ["names"] (spTold K)) (FA:Fn P w K mg base CX0 1 "allows" ["how", "off"] spAllows):FnOk P w K mg base CX0 4 f fd ["row", "plot"] Kk:=by
 refine F.ok Xfm (λvs H Q E h=>?_) (λcdv A outer s H vs Q E hr h=>?_)
 ·obtain⟨r,p,row,ss,rfl,_⟩:=h;rfl
 ·obtain⟨r,p,row,ss,rfl,hR,R2,hP,hok,hsl,k⟩:=h;have hu:=Ej hr;have hr1:Room 1 _:=hr.mono (by decide);have hr2:Room 2 _:=hr.mono (by decide);refine⟨_,Ai (Aw (i:=2) Xfm.nd rfl (Or.inr rfl) (Ap FS hr (by rfl) Ar (Aa (pv 0) Ad)))
   (Ai (Bm (Hv (A8 (Xjj (hu3 hr)) (pv 1) (Ap FT hr1 (by rfl) Ar (Aa (pv 1) Ad)) (Ba _))
     (Hu (Fm (Bb (Xjo rfl) (by rfl) T.any (by rfl) (Aa (F9 (N:=NI1) (cap:=[none,some 2]) (CompScope.of (Ak sIsPlot) NIp rfl rfl rfl (by decide +kernel)) rfl
      (Xaj (pv 1)) (λ_ _ _=>Av (i:=0) (show NI1.Nodup by decide +kernel) rfl (Or.inl rfl) (Or.inr rfl)) (λ_ _ _=>Cy) (λ_ _ _=>Xf1 (Xbe (by exact hu) (pv 0) (pv 1)) (by rfl))) Ad))))).pt
    (Al (A0 Fk)) Bs)
   (Al (A0 (Bb (Xh3 rfl) (by rfl) T.all (by rfl) (Aa (Xcv (N:=NI2) (cap:=[none,none,some 1,some 2]) (CompScope.of (Ak sIsPlot) NIp rfl rfl rfl (by decide +kernel)) rfl
    (Xaj (pv 1)) (λ_ _ _=>Av (i:=0) (show NI2.Nodup by decide +kernel) rfl (Or.inl rfl) (Or.inr rfl)) (λ_ _ _=>Cy)
    (λ_ _ _=>Et (pv 3)) (λ_ _ _=>Av (i:=1) (show NI2.Nodup by decide +kernel) rfl (Or.inl rfl) (Or.inr rfl)) (λ_ _ _=>Cy)
    (λ_ _ _=>Ap (by exact FA) (by exact hr1) (by rfl) Ar (Aa (Ap (by exact FO) (by exact hr2) (by rfl) Ar (Aa (B2 (by exact hu) (pv 3) (pv 0) (λ_ _=>rfl)) (Aa (B2 (by exact hu) (pv 3) (pv 1) (λ_ _=>rfl)) Ad)))
     (Aa (Ft (Xcj K (by rfl)) (pv 1) (pv 2) (by rfl)) Ad)))) Ad))))),?_⟩
  have hl:=R2.len;have hdl:=F4 row;refine⟨_,rfl,r,row,rfl,hR,R2,λd kvs H1 nd hd sp s1=>?_⟩;have hP1:=s1 _ _ hP;refine⟨_,rfl,_,rfl,p,ss,rfl,.inr (SqT.of hP1),hsl,λt H2 nt ht s2=>?_⟩;have s12:=s1.trans s2;have hP2:=s2 _ _ hP1;refine⟨_,_,D8 hP2,D8 ht,Fa _ (D7 hok),Fa _ (D7 (Xde hok)),Xke _ _,_,rfl,?_⟩;rw[Kj hok (Xde hok)];by_cases e1:ss=told ss
  ·rw[Pu e1];refine Ce ?_;refine⟨_,rfl,p,rfl,⟨_,SqT.of hP2⟩,?_⟩;have hd2:=s2 _ _ hd;have sp2:=sp.mono s2;refine Xi7 (n:=ss.length) (by rw[Pr];omega) (λi=>(ss.map V.str).getD i .non) (λi=>.bl (!decide (ss.getD i Str.empty∈row))) ?_ ?_ ?_ ?_
   ·intro i H3 hi s3;exact Xbv (SqT.of (s3 _ _ hP2)) (by rw[Lf];exact hi)
   ·intro H3 s3;have:=Xbw (K:=K) (SqT.of (s3 _ _ hP2))
    rwa [Lf] at this
   ·intro i H3 Q' hi s3 kk;rw[Db V.str Str.empty ss hi];refine⟨_,rfl,_,rfl,d,_,rfl,.inl ⟨kvs,Sum.inr _,.inl (s3 _ _ hd2),rfl,rfl⟩,?_⟩;rw[sp2.has];exact kk H3 (Same.refl _)
   ·intro D H3 nD s3 hD;have hD':H3 D=some (.lst (((List.range ss.length).map λi => !decide (ss.getD i Str.empty∈row)).map V.bl)):=by rw[hD,Mb];rfl
    refine⟨D,_,rfl,hD',_,rfl,?_⟩;rw[Xkf Str.empty (λx => !decide (x∈row)) ss];have s13:=s12.trans s3;have e2:(ss.any λx => !decide (x∈row)) = !(ss.all λx=>decide (x∈row)):=by rw[List.not_all_eq_any_not]
    rw[e2];cases e3:ss.all (λx=>decide (x∈row)) with
    | false=>
     refine Di ?_;have:=k H3 s13;unfold Ae at this;rw[e3,Bool.and_false,Nh] at this;exact this
    | true=>
     refine Ce ?_;have hin:∀x∈ss,x∈row:=λx hx=>Px (L6.mp e3 x hx);have hP3:=s3 _ _ hP2;have hd3:=s3 _ _ hd2;have sp3:=sp2.mono s3;refine⟨_,rfl,p,rfl,⟨_,SqT.of hP3⟩,λD2 nD2=>?_⟩;have kl:=sp3.len;have npd:p≠d:=λz=>by rw[z,hd3] at hP3;cases hP3
     have nrd:D2≠d:=(Aq hd3 nD2).symm;have hH0D:hid d H3 D2=none:=by
      unfold hid;rw[Ps nrd];exact nD2
     have hpin:hid d H3 p=some (.tup (ss.map V.str)):=B4 hP3 npd
     let part:Nat->List Bool:=λi=>(dit row).map λy=>Bp (lieR row (ss.getD i Str.empty) y) (decide (y∈ss))
     refine Xjn (H0:=hid d H3) (xs0:=[]) (n:=ss.length) (λi=>.str (ss.getD i Str.empty)) (λi=>((List.range i).flatMap part).map PyData.bool) (λH4=>Rd H4 d (.dK kvs)) hH0D ((Eu d H3).trans ((Same.refl H3).step nD2)) (.inl (ku hd3 nD2)) Ab C1
      (fun σ1=>∃v0 v1, σ1=[v0,v1,some (.ref p),some (.ref d)]) ⟨none,none,rfl⟩ ?_ ?_ ?_ ?_
     ·intro i H4 hi s4;have:=Xbv (K:=K) (SqT.of (s4 _ _ hpin)) (show i<(ss.map V.str).length by rw[Lf];exact hi)
      rwa [Db V.str Str.empty ss hi] at this
     ·intro H4 s4;have:=Xbw (K:=K) (SqT.of (s4 _ _ hpin))
      rwa [Lf] at this
     ·rintro i σ1 xs H4 Q' hi ⟨v0,v1,rfl⟩ s4 g4 hD4 hal kk;have hxr:ss.getD i Str.empty∈row:=hin _ (Cp hi);have main:∀(te':TE) (o:Obj) (H5:Hp),(∀(j:Nat) (H6:Hp) (Q2:VK) (l1 l2:Addr),j<(dit row).length->DGet H6 d (.str (ss.getD i Str.empty)) (some (.ref l1))->H6 l1=some (.tup [.int (pl row (ss.getD i Str.empty)).1,.int (pl row (ss.getD i Str.empty)).2]) ->
        DGet H6 d (.str ((dit row).getD j Str.empty)) (some (.ref l2))->H6 l2=some (.tup [.int (pl row ((dit row).getD j Str.empty)).1,.int (pl row ((dit row).getD j Str.empty)).2])->H6 p=some (.tup (ss.map V.str))->(∀H',Same H6 H'->Q2 (.bl (Bp (lieR row (ss.getD i Str.empty) ((dit row).getD j Str.empty)) (decide ((dit row).getD j Str.empty∈ss)))) H') ->
        te' [some (.str (ss.getD i Str.empty)),some (.str ((dit row).getD j Str.empty)),some (.ref p),some (.ref d)] H6 Q2)->H5 d=some (.frz o (.dK kvs))->Same (hid d H3) H5->H5 D2=some (.lst xs)->DAll (hid D2 H5) (((List.range i).flatMap part).map PyData.bool) xs ->
        tLp (A6 1) C7 (F8 te' D2) (Itd d o kvs) ([some (.str (ss.getD i Str.empty)),v1,some (.ref p),some (.ref d)]:L2.St) H5 Q':=λte' o H5 hte hd5 s5 hD5 hal5=>by
       have hpl:∀j,(part j).length<=60:=λj=>by
        show (List.map _ _).length<=60;rw[Lf];omega
       have hacc:∀j,(((List.range j).flatMap part).map PyData.bool).length<=60 * j:=λj=>by
        rw[Lf]
        induction j with
        | zero=>simp
        | succ j ih=>
         rw[Mg,N4,Lp,N0,Om,Mm];have:=hpl j;omega
       have hdin:hid D2 H5 d=some (.frz o (.dK kvs)):=B4 hd5 nrd.symm;have hsp:Spn (hid D2 H5) kvs row (dit row):=⟨sp3.keys,λx hx=>let ⟨l,h1,h2⟩:=sp3.val x hx; ⟨l,h1,B4 (s5 _ _ (B4 h2 (λz=>by rw[z,hd3] at h2;cases h2))) (λz=>by rw[z,nD2] at h2;cases h2)⟩⟩;have hpin5:hid D2 H5 p=some (.tup (ss.map V.str)):=B4 (s5 _ _ hpin) (λz=>by rw[z,nD2] at hP3;cases hP3);refine Jx (H0:=hid D2 H5) (n:=(dit row).length) (λj=>.str ((dit row).getD j Str.empty)) (λ_=>true) (λj=>.bool (Bp (lieR row (ss.getD i Str.empty) ((dit row).getD j Str.empty)) (decide ((dit row).getD j Str.empty∈ss)))) (((List.range i).flatMap part).map PyData.bool)
        (Pt rfl) (Eu D2 H5) hD5 hal5 (by have:=hacc i;have h2:i<60:=(by omega);rw[Pr];omega) ?_ ?_ ?_ ?_ ?_
       ·intro j H6 hj s6;have:=E6 (kvs:=kvs) (s6 _ _ hdin) (by omega:j<kvs.length)
        rwa [hsp.at j hj] at this
       ·intro H6 s6;have:=E7 (kvs:=kvs) (s6 _ _ hdin)
        rwa [kl] at this
       ·intro j H6 Q2 hj s6 k2;exact k2 H6 (Same.refl _)
       ·intro j xs' H6 Q2 hj _ s6 hD6 k2;have hyd:=Cp hj;obtain⟨l1,g1,t1⟩:=(hsp.mono s6).get (.inr ⟨o,s6 _ _ hdin⟩) (Ag.mpr hxr);obtain⟨l2,g2,t2⟩:=(hsp.mono s6).get (.inr ⟨o,s6 _ _ hdin⟩) hyd;exact hte j H6 Q2 l1 l2 hj g1 t1 g2 t2 (s6 _ _ hpin5) λH' s'=>k2 _ _ s' (by unfold DAt;rfl)
       ·intro σ' H6 xs' e6 s6 hD6 hal6;refine kk σ' H6 xs' ?_ (λb u e=>?_) (.inr ⟨o,s6 _ _ hdin⟩) hD6 ?_
        ·have l1 : σ'.length=4:=by
          have:=congrArg List.length (e6 none);simpa using this
         match σ',l1,e6 with
         | [w0,w1,w2,w3],_,e6=>
          have:=e6 none;simp at this;exact⟨w0,w1,by rw[this.2.1,this.2.2]⟩
        ·refine s6 _ _ (B4 (s5 _ _ e) (λz=>?_));rw[z,hH0D] at e;cases e
        ·rw[L0.mpr (λ_ _=>rfl)] at hal6;have em:(List.range (dit row).length).map (λj=>PyData.bool (Bp (lieR row (ss.getD i Str.empty) ((dit row).getD j Str.empty)) (decide ((dit row).getD j Str.empty∈ss))))=(part i).map PyData.bool:=by
          show _=((dit row).map _).map _;have this:=B7 Str.empty (λ_=>true) (dit row);rw[L0.mpr (λ_ _=>rfl),L0.mpr (λ_ _=>rfl)] at this
          conv=>rhs;rw[<-this]
          rw[Mb,Mb];rfl
         rw[em] at hal6;rw[Mg,N4,Lu,N0,Om,Mm];exact hal6
      rcases g4 with g4 | ⟨o,g4⟩
      ·refine⟨_,rfl,d,kvs,rfl,.inl ⟨g4,λo=>?_⟩⟩;refine main _ o _ (λj H6 Q2 l1 l2 hj g1 t1 g2 t2 hp6 k2=>⟨_,rfl,_,rfl,d,_,rfl,g1,_,rfl,_,rfl,d,_,rfl,g2,l1,l2,_,_,_,_,rfl,t1,t2,lie4 (R2.two _ hxr) (R2.two _ (Ag.mp (Cp hj))),λH7 s7=>⟨_,rfl,_,rfl,p,_,rfl,.inr (SqT.of (s7 _ _ hp6)),rfl,G6 ss,_,_,rfl,by rw[Ps (by decide),G5];exact k2 H7 s7⟩⟩) Ab (λb u e=>?_) (by rw[Ac nrd];exact hD4) ?_
       ·rw[Ac (λz=>by rw[z] at e;unfold hid at e;rw[Pt rfl] at e;cases e)];exact s4 _ _ e
       ·rw[Ki hal];have gb:∀bs:List Bool,DAll (hid D2 (upd H4 d (.frz o (.dK kvs)))) (bs.map PyData.bool) (bs.map V.bl):=λbs=>by
         induction bs with
         | nil=>exact C1
         | cons b bs ih=>exact C9 (by unfold DAt;rfl) ih
        exact gb _
      ·exact⟨_,rfl,d,kvs,rfl,.inr ⟨o,g4,main _ o H4 (λj H6 Q2 l1 l2 hj g1 t1 g2 t2 hp6 k2=>⟨_,rfl,_,rfl,d,_,rfl,g1,_,rfl,_,rfl,d,_,rfl,g2,l1,l2,_,_,_,_,rfl,t1,t2,lie4 (R2.two _ hxr) (R2.two _ (Ag.mp (Cp hj))),λH7 s7=>⟨_,rfl,_,rfl,p,_,rfl,.inr (SqT.of (s7 _ _ hp6)),rfl,G6 ss,_,_,rfl,by rw[Ps (by decide),G5];exact k2 H7 s7⟩⟩) g4 s4 hD4 hal⟩⟩
     ·intro σ' H4 xs s4 g4 hD4 hal;have hx:=Ki hal;subst hx;refine⟨D2,_,rfl,hD4,?_⟩;have ef:((List.range ss.length).flatMap part).all id=ss.all λx=>(dit row).all λy=>Bp (lieR row x y) (decide (y∈ss)):=by
       have e5:(List.range ss.length).flatMap part=ss.flatMap λx=>(dit row).map λy=>Bp (lieR row x y) (decide (y∈ss)):=Xkg Str.empty (λx=>(dit row).map λy=>Bp (lieR row x y) (decide (y∈ss))) ss;rw[e5,Xdf];congr 1;funext x;rw[List.all_map];rfl
      rw[ef];have s04:Same H H4:=λb u e=>s4 _ _ (B4 (s13 _ _ e) (λz=>by rw[z,nd] at e;cases e));have:=k H4 s04;unfold Ae at this;rw[Pu e1,e3,Ni,Ni] at this;exact this
  ·rw[Pw e1];refine Di ?_;have:=k H2 s12;unfold Ae at this;rw[Pw e1,Nh,Nh] at this;exact this
theorem Xn9:FnScope ["row", "plot"] ["row", "plot"] (Ak s_ask_plot):=⟨rfl,rfl,rfl,by decide +kernel,rfl,by decide +kernel,by decide +kernel⟩
theorem Xoa{f C:Addr}{fd:FuncData}(F:Fun K "ask_plot" "ask_plot" s_ask_plot f fd)(hC:mg "NoPlot" = some (.ref C))(hc:PySem.W.excIn K C bmV "ValueError.__new__" = true)(FX:Fn P w K mg base CX0 4 "is_plot" ["row", "plot"] Kk):
  FnOk P w K mg base (CX1 P w) 5 f fd ["row", "plot"] (spAskPlot C):=by
 refine F.ok1 Xn9 (λvs H Q E h=>?_) (λcdv A outer s H vs Q E hr h=>?_)
 ·obtain⟨r,p,row,ss,rfl,_⟩:=h;rfl
 ·obtain⟨r,p,row,ss,rfl,hR,R2,hP,hok,hsl,kq,ke⟩:=h;refine⟨_,Al (Bm (Xf2 (Fm (Ap FX hr (by rfl) Ar (Aa (pv 0) (Aa (pv 1) Ad)))))
   (Al (Xbp (C:=C) (E:=E) hc rfl leaves1 (by rfl) hC (Aa (Xbu (Gz (by decide +kernel) (Xjr hr (pv 1) (Gz (by decide +kernel) Xbt)))) Ad))) Bs),?_⟩
  refine⟨_,rfl,_,rfl,r,p,row,ss,rfl,hR,R2,hP,hok,by omega,λH1 s1=>⟨_,rfl,?_⟩⟩;cases e:Ae row ss with
  | true=>exact Ce (kq e H1 s1)
  | false=>
   refine Di ⟨_,rfl,p,ss,rfl,s1 _ _ hP,hsl,Xkh hok,λz=>?_⟩;exact⟨by show 1<=sizeLine;decide,ke e H1 s1⟩
theorem Gm:FnScope NPp ["row"] (Ak s_plots):=⟨rfl,rfl,rfl,by decide +kernel,rfl,by decide +kernel,by decide +kernel⟩
theorem Xob{f T:Addr}{fd:FuncData}(F:Fun K "plots" "plots" s_plots f fd)(FS:Fn P w K mg base CX0 3 "spans" ["row"] spSpans)(FO:Fn P w K mg base CX0 2 "lie_of" ["here", "there"] spLieOf)(FT:Fn P w K mg base CX0 1 "told" ["names"] (spTold K))(FC:Fn P w K mg base CX0 4 "crossings" ["row"] Fe)
  (FI:Fn P w K mg base CX0 4 "in_order" ["some"] (spInOrder T (lamPos s_in_order))):FnOk P w K mg base CX0 5 f fd ["row"] (spPlotsA T (lamPos s_in_order)):=by
 refine F.ok Gm (λvs H Q E h=>?_) (λcdv A outer s H vs Q E hr h=>?_)
 ·obtain⟨r,row,rfl,_⟩:=h;rfl
 ·obtain⟨r,row,rfl,hR,R2,h3,h14,tab,k⟩:=h;have hu:=Ej hr;have hr1:Room 1 _:=hr.mono (by decide);have hr2:Room 2 _:=hr.mono (by decide);have hr3:Room 3 _:=hr.mono (by decide);refine⟨_,Ai (Aw (i:=1) Gm.nd rfl (Or.inr rfl) (Ap FS hr3 (by rfl) Ar (Aa (pv 0) Ad)))
   (Ai (Aw (i:=2) Gm.nd rfl (Or.inr rfl) (Xcu (N:=NPo) (cap:=[none,some 1]) (CompScope.of (Ak s_plots) NPp rfl rfl rfl (by decide +kernel)) rfl
    (Et (pv 1)) (λ_ _ _=>Av (i:=0) (show NPo.Nodup by decide +kernel) rfl (Or.inr rfl) (Or.inl rfl)) (λ_ _ _=>Cy) (λ_ _ _=>pv 0)
    (λs0 H0 ex=>F9 (N:=NPi) (cap:=[none,some 0,some 1]) (CompScope.of _ NPo rfl rfl rfl (by kernel_rfl)) rfl
     (Et (pv 1)) (λ_ _ _=>Av (i:=0) (show NPi.Nodup by decide +kernel) rfl (Or.inl rfl) (Or.inr rfl))
     (λ_ _ _=>Dz (A8 (Xcj K (by rfl)) (Ap (by exact FO) (by exact hr2) (by rfl) Ar (Aa (B2 hu (pv 2) (pv 1) (λ_ _=>rfl)) (Aa (B2 hu (pv 2) (pv 0) (λ_ _=>rfl)) Ad))) (B5 (Aa Bg (Aa Bg Ad))) (by rfl)))
     (λ_ _ _=>pv 0))))
   (Ai (Xe0 (i:=3) (N:=NPs) (cap:=[none,some 2]) (CompScope.of (Ak s_plots) NPp rfl rfl rfl (by decide +kernel)) rfl Gm.nd rfl rfl
    (Et (pv 2)) (λ_ _ _=>Av (i:=0) (show NPs.Nodup by decide +kernel) rfl (Or.inl rfl) (Or.inr rfl)) (λ_ _ _=>Cy)
    (λ_ _ _=>Ap (by exact FT) (by exact hr1) (by rfl) Ar (Aa (B2 hu (pv 1) (pv 0) (λ_ _=>rfl)) Ad)))
   (Ai (Xe0 (i:=4) (N:=NPd) (cap:=[none,none,some 2]) (CompScope.of (Ak s_plots) NPp rfl rfl rfl (by decide +kernel)) rfl Gm.nd rfl rfl
    (Bu (Ap FC hr (by rfl) Ar (Aa (pv 0) Ad))) (λ_ _ _=>D1 K 2 rfl rfl (Bn (Av (i:=0) (show NPd.Nodup by decide +kernel) rfl (Or.inl rfl) (Or.inr rfl)) (Bn (Av (i:=1) (show NPd.Nodup by decide +kernel) rfl (Or.inl rfl) (Or.inr rfl)) De))) (λ_ _ _=>Cy)
    (λ_ _ _=>Ap (by exact FT) (by exact hr1) (by rfl) Ar (Aa (Am Cn (B2 hu (pv 2) (pv 0) (λ_ _=>rfl)) (B2 hu (pv 2) (pv 1) (λ_ _=>rfl))) Ad)))
   (Al (A0 (Ap FI hr (by rfl) Ar (Aa (Am Cn (Am Cn (Ct (Aa (B5 Ad) Ad)) (pv 3)) (pv 4)) Ad))))))),?_⟩
  have hl:=R2.len;have hdl:=F4 row;refine⟨_,rfl,r,row,rfl,hR,R2,λd kvs H1 nd hd sp s1=>?_⟩;refine⟨_,rfl,d,kvs,rfl,.inl ⟨hd,λo D nD=>?_⟩⟩;generalize hH2:upd H1 d (.frz o (.dK kvs))=H2 at nD;have s2:Same H H2:=λb u e=>by rw[<-hH2,Ac (Aq e nd)];exact s1 b u e
  have hd2:H2 d=some (.frz o (.dK kvs)):=by rw[<-hH2];exact Ab
  have sp2:Spn H2 kvs row (dit row):=⟨sp.keys,λx hx=>let ⟨l,h1,h2⟩:=sp.val x hx; ⟨l,h1,by rw[<-hH2,Ac (λz=>by rw[z,hd] at h2;cases h2)];exact h2⟩⟩;have kl:=sp2.len;have go:∀i H3,i<(dit row).length->Same H2 H3->(Itd d o kvs).go i H3/\∀x H4,(Itd d o kvs).yld i H3 x H4->H4=H3/\x = .str ((dit row).getD i Str.empty):=λi H3 hi s3=>by
   have:=E6 (kvs:=kvs) (s3 _ _ hd2) (by omega:i<kvs.length);rw[sp2.at i hi] at this;exact this
  have stp:∀H3,Same H2 H3->(Itd d o kvs).stop (dit row).length H3:=λH3 s3=>by
   have:=E7 (kvs:=kvs) (s3 _ _ hd2)
   rwa [kl] at this
  refine⟨wN (dit row).length λi σ2 H3=>(∃v, σ2=[v,some (.ref d)])/\Same H2 H3/\∃kv2,H3 D=some (.dK kv2)/\Offs H3 kv2 row ((dit row).take i),⟨(dit row).length,by simp,Mf _,⟨none,rfl⟩,(Same.refl H2).step nD,[],Ab,⟨rfl,λx hx=>by simp at hx⟩⟩,?_⟩;rintro i m σ1 H3 ⟨rfl,hi,⟨v,rfl⟩,s3,kv2,hD,ofs⟩;by_cases hlt:i<(dit row).length
  ·obtain⟨g1,g2⟩:=go i H3 hlt s3;refine .inr ⟨g1,λx H4 y=>?_⟩;obtain⟨e1,e2⟩:=g2 x H4 y;subst e1 e2;generalize hx:(dit row).getD i Str.empty=x;have hxd:x∈dit row:=by rw[<-hx];exact Cp hlt
   have hxr:=Ag.mp hxd;have htk:(dit row).take (i+1)=(dit row).take i++[x]:=by
    rw[Lw hlt,<-hx];simp[List.getD,hlt]
   have hnx:x∉(dit row).take i:=by
    have nd:=Cz row;have h2:((dit row).take (i+1)).Nodup:=nd.sublist (Nx ..);rw[htk] at h2;exact λz=>(M6.mp h2).2.2 x z x (by simp) rfl
   refine⟨_,rfl,_,rfl,d,kvs,rfl,.inr ⟨o,s3 _ _ hd2,?_⟩⟩;refine Jp (n:=(dit row).length) (by rw[Pr];omega) (λj=>.str ((dit row).getD j Str.empty)) (λj=>upB row x ((dit row).getD j Str.empty)) (λj=>.str ((dit row).getD j Str.empty)) ?_ ?_ ?_ ?_ ?_
   ·exact λj H5 hj s5=>go j H5 hj (s3.trans s5)
   ·exact λH5 s5=>stp H5 (s3.trans s5)
   ·intro j H5 Q' hj s5 kk;have s25:=s3.trans s5;have hxj:=Cp hj;obtain⟨l1,gg1,t1⟩:=(sp2.mono s25).get (.inr ⟨o,s25 _ _ hd2⟩) hxd;obtain⟨l2,gg2,t2⟩:=(sp2.mono s25).get (.inr ⟨o,s25 _ _ hd2⟩) hxj;refine⟨_,rfl,_,rfl,d,_,rfl,gg1,_,rfl,_,rfl,d,_,rfl,gg2,l1,l2,_,_,_,_,rfl,t1,t2,lie4 (R2.two x hxr) (R2.two _ (Ag.mp hxj)),λH6 s6=>?_⟩;refine⟨by show 2<=sizeLine;decide,λt nt=>?_⟩;refine⟨t,[Str.ofString "same",Str.ofString "within"].map V.str,rfl,.inr (SqT.of Ab),rfl,G6 _,_,rfl,?_⟩;rw[Ps (by decide),G5];have e:=Xmj (row:=row) (x:=x) (y:=(dit row).getD j Str.empty) (R2.two x hxr) (R2.two _ (Ag.mp hxj));unfold lieR at e;rw[e];exact kk _ (s6.step nt)
   ·intro j H5 Q' hj hk s5 kk;exact⟨_,rfl,kk H5 (Same.refl _)⟩
   ·intro l H5 nl s5 hl5;have hl5':H5 l=some (.lst (((dit row).filter (upB row x)).map V.str)):=by
     rw[hl5,<-B7 Str.empty (upB row x) (dit row),Mb];rfl
    have hD5:=s5 _ _ hD;have kl2:kv2.length<=60:=by
     have:=ofs.len;rw[Mc] at this;omega
    refine⟨kv2,Sum.inr x,rfl,hD5,by rw[Pr];omega,?_⟩;refine wskip hlt ⟨⟨_,rfl⟩,λb u e=>?_,_,Ab,?_⟩
    ·rw[Ac (Aq e nD)];exact s5 _ _ (s3 b u e)
    ·rw[htk];refine ofs.snoc hnx ?_ λb xs e=>?_
     ·rw[Ac (λz=>by rw[z,hD5] at hl5';cases hl5')];exact hl5'
     ·have e4:=s5 _ _ e;rw[Ac (λz=>by rw[z,hD5] at e4;cases e4)];exact e4
  ·have ei:i=(dit row).length:=by omega
   subst ei;refine .inl ⟨stp H3 s3,?_⟩;rw[Mr] at ofs;have s03:=s2.trans s3;refine⟨_,rfl,D,kv2,rfl,.inl ⟨hD,λo2 L nL=>?_⟩⟩;generalize hH4:upd H3 D (.frz o2 (.dK kv2))=H4 at nL;have nD0:H D=none:=s2.free nD;have s4:Same H H4:=λb u e=>by rw[<-hH4,Ac (Aq e nD0)];exact s03 b u e
   have hD4:H4 D=some (.frz o2 (.dK kv2)):=by rw[<-hH4];exact Ab
   have of4:Offs H4 kv2 row (dit row):=⟨ofs.keys,λx hx=>let ⟨l,h1,h2⟩:=ofs.val x hx; ⟨l,h1,by rw[<-hH4,Ac (λz=>by rw[z,hD] at h2;cases h2)];exact h2⟩⟩;have kl2:=of4.len;have fl:∀x,((dit row).filter (upB row x)).length<=14:=λx=>Mh (Ms ..) (by omega);refine Jx (H0:=H4) (xs0:=[]) (n:=(dit row).length) (λj=>.str ((dit row).getD j Str.empty)) (λ_=>true) (λj=>Bj ((dit row).filter (upB row ((dit row).getD j Str.empty)))) [] nL ((Same.refl H4).step nL) Ab C1 (by rw[Pr,Nn];omega) ?_ ?_ ?_ ?_ ?_
   ·intro j H5 hj s5;have:=E6 (kvs:=kv2) (s5 _ _ hD4) (by omega:j<kv2.length);rw[of4.at j hj] at this;exact this
   ·intro H5 s5;have:=E7 (kvs:=kv2) (s5 _ _ hD4)
    rwa [kl2] at this
   ·exact λj H5 Q' hj s5 kk=>kk H5 (Same.refl _)
   ·intro j xs H5 Q' hj _ s5 hL5 kk;obtain⟨l,gg,hl5⟩:=(of4.mono s5).get (.inr ⟨o2,s5 _ _ hD4⟩) (Cp hj);refine⟨_,rfl,_,rfl,D,_,rfl,gg,l,_,rfl,.inl (SqL.of hl5),by have:=fl ((dit row).getD j Str.empty);omega,λt H6 nt ht s6=>?_⟩;rw[Hf ((C0 row).filter _)] at ht;refine kk _ H6 s6 (D8 ?_);have hL6:=s6 _ _ hL5;unfold hid;rw[Ps (λz=>by rw[z,hL6] at ht;cases ht)];exact ht
   ·intro σ' H5 xs e s5 hL5 hal;have e1:([]:List PyData)++((List.range (dit row).length).filter λ_=>true).map (λj=>Bj ((dit row).filter (upB row ((dit row).getD j Str.empty))))=((dit row).map λa=>(dit row).filter (upB row a)).map Bj:=by
     have:=B7 Str.empty (λ_=>true) (dit row);rw[L0.mpr (λ_ _=>rfl),L0.mpr (λ_ _=>rfl)] at this;have q:=congrArg (List.map λa=>Bj ((dit row).filter (upB row a))) this;rw[Mb] at q;rw[N1,L0.mpr (λ_ _=>rfl),Mb];exact q
    rw[e1] at hal;obtain⟨ps1,rfl,ht1⟩:=Xd8 hal;have ht1:Tups H5 ps1 _:=ht1.same (Eu L H5);have s05:=s4.trans s5;refine⟨_,rfl,r,row,rfl,s05 _ _ hR,R2,λcl xs2 H6 ncl hcl hal6 s6=>?_⟩;refine⟨cl,rfl,⟨_,SqL.of hcl⟩,λM nM=>?_⟩;have hxl:xs2.length=(crs row).length:=by
     have:=Ga hal6;simpa using this
    have of6:=(of4.mono s5).mono s6;have hD6:=s6 _ _ (s5 _ _ hD4);have c49:=Xkt R2.two h3 (by omega);refine⟨wN (crs row).length λi σ2 H7=>(∃u v, σ2=[u,v,some (.ref D)])/\Same H6 H7/\∃qs:List Addr,H7 M=some (.lst (qs.map V.ref))/\Tups H7 qs (((crs row).take i).map λq=>(dit row).filter λy=>upB row q.1 y||upB row q.2 y),⟨(crs row).length,by simp,Mf _,⟨none,none,rfl⟩,(Same.refl H6).step nM,[],Ab,Tups.nil _⟩,?_⟩;rintro i m σ1 H7 ⟨rfl,hi,⟨u,v,rfl⟩,s7,qs,hM,htq⟩;by_cases hlt:i<(crs row).length
    ·obtain⟨g1,g2⟩:=Em (K:=K) (SqL.of (s7 _ _ hcl)) (by omega:i<xs2.length);refine .inr ⟨g1,λx H8 y=>?_⟩;obtain⟨e1,e2⟩:=g2 x H8 y;subst e1 e2;obtain⟨v1,hv,hdat⟩:=Xcw (i:=i) (d:=prD ((crs row)[i])) hal6 (by rw[L1,Lm hlt];rfl);have hq:=Mj hlt;generalize hqe:(crs row)[i]=q at hdat hq;obtain⟨hq1,hq2,_,_⟩:=Dc hq;have ev:xs2.getD i .non=v1:=by simp[List.getD,hv]
     rw[ev];unfold prD DAt at hdat;obtain⟨pp,ys,rfl,hpp,hys⟩:=hdat;obtain rfl:=Kc (ss:=[q.1,q.2]) hys;have hpp6:=Eu cl H6 _ _ hpp;have htk:(crs row).take (i+1)=(crs row).take i++[q]:=by
      rw[Lw hlt,hqe]
     obtain⟨l1,gg1,hl1⟩:=(of6.mono s7).get (.inr ⟨o2,s7 _ _ hD6⟩) (Ag.mpr hq1);obtain⟨l2,gg2,hl2⟩:=(of6.mono s7).get (.inr ⟨o2,s7 _ _ hD6⟩) (Ag.mpr hq2);have f1:=fl q.1;have f2:=fl q.2;refine⟨pp,_,rfl,SqT.of (s7 _ _ hpp6),rfl,_,_,rfl,_,_,rfl,rfl,?_⟩;refine⟨_,rfl,_,rfl,D,_,rfl,gg1,_,rfl,_,rfl,D,_,rfl,gg2,l1,l2,_,_,rfl,rfl,hl1,hl2,by rw[Lf,Lf,Pr];omega,λc nc=>?_⟩;refine⟨c,(dit row).filter (upB row q.1)++(dit row).filter (upB row q.2),rfl,.inl (by rw[Lu];exact SqL.of Ab),by rw[Lp];omega,λt H9 nt ht s9=>?_⟩;have s79:Same H8 H9:=((Same.refl H8).step nc).trans s9;have hM9:=s79 _ _ hM;have et:told ((dit row).filter (upB row q.1)++(dit row).filter (upB row q.2))=(dit row).filter λy=>upB row q.1 y||upB row q.2 y:=by
      refine lt_uniq (Kh _) ((C0 row).filter _) λz=>?_;rw[Xdb,Lr,Lg,Lg,Lg,M5,<-and_or_left]
     rw[et] at ht;have hql:qs.length<=49:=by
      have:=htq.1;rw[Lf,Mc] at this;omega
     refine⟨_,hM9,by rw[Lf,Pr];omega,?_⟩;have keepM:∀b w,H9 b=some (.tup w)->upd H9 M (.lst (qs.map V.ref++[.ref t])) b=some (.tup w):=λb w e=>by
      rw[Ac (λz=>by rw[z,hM9] at e;cases e)];exact e
     refine wskip hlt ⟨⟨_,_,rfl⟩,λb w e=>?_,qs++[t],by rw[Ab,Lu];rfl,?_⟩
     ·rw[Ac (Aq e nM)];exact s79 _ _ (s7 b w e)
     ·rw[htk,Lu];refine Tups.app ⟨htq.1,λj hj=>keepM _ _ (s79 _ _ (htq.2 j hj))⟩ (Tups.cons (keepM _ _ ht) (Tups.nil _))
    ·have ei:i=(crs row).length:=by omega
     subst ei;refine .inl ⟨by have:=En (K:=K) (SqL.of (s7 _ _ hcl));rwa [hxl] at this,?_⟩;rw[Mr] at htq;have s57:=s6.trans s7;have hL7:=s57 _ _ hL5;have ht7:=ht1.same s57;have s07:=s05.trans s57;refine⟨Mf _,λe0 ne0=>⟨by show 1<=sizeLine;decide,λz nz=>?_⟩⟩;generalize hHa:upd H7 e0 (.tup [])=Ha at nz;have sa:Same H7 Ha:=by rw[<-hHa];exact(Same.refl H7).step ne0
     have he0:Ha e0=some (.tup (([]:List Str).map V.str)):=by rw[<-hHa];exact Ab
     generalize hHb:upd Ha z (.lst [.ref e0])=Hb;have sb:Same Ha Hb:=by rw[<-hHb];exact(Same.refl Ha).step nz
     have hz:Hb z=some (.lst [.ref e0]):=by rw[<-hHb];exact Ab
     have l1:ps1.length=(dit row).length:=by have:=ht1.1;simpa using this
     have l2:qs.length=(crs row).length:=by have:=htq.1;simpa using this
     have s7b:=sa.trans sb;refine⟨_,rfl,z,L,_,_,rfl,rfl,hz,s7b _ _ hL7,by rw[Lf,Mx,Pr];omega,λc1 n1=>?_⟩;generalize hHc:upd Hb c1 (.lst ([.ref e0]++ps1.map V.ref))=Hc;have sc:Same Hb Hc:=by rw[<-hHc];exact(Same.refl Hb).step n1
     have hc1:Hc c1=some (.lst ([.ref e0]++ps1.map V.ref)):=by rw[<-hHc];exact Ab
     have s7c:=s7b.trans sc;refine⟨_,rfl,c1,M,_,_,rfl,rfl,hc1,s7c _ _ hM,by rw[Lp,Lf,Lf,Mx,Pr];omega,λc2 n2=>?_⟩;generalize hHd:upd Hc c2 (.lst (([.ref e0]++ps1.map V.ref)++qs.map V.ref))=Hd;have sd:Same Hc Hd:=by rw[<-hHd];exact(Same.refl Hc).step n2
     have hc2:Hd c2=some (.lst ((e0::(ps1++qs)).map V.ref)):=by
      rw[<-hHd,Ab,Ly,Lu];rfl
     have s7d:=s7c.trans sd;have s0d:=s07.trans s7d;have hTs:Tups Hd (e0::(ps1++qs)) ([]::cands row):=Tups.cons ((sb.trans (sc.trans sd)) _ _ he0) (Tups.app (ht7.same s7d) (htq.same s7d));refine⟨c2,e0::(ps1++qs),[]::cands row,rfl,hc2,hTs,Xmi R2.two,by rw[Lv,Lp];omega,SH.Ao.same tab s0d,λD' ps' Ts' H' nD' hD' hT' pm so tab' bt=>?_⟩;refine k D' ps' Ts' H' (s0d.free nD') hD' hT' (λS=>(pm.mem_iff).trans (Xez R2.two h3 S)) so ?_ tab' λb w e n=>bt _ _ (s0d _ _ e) n;rw[hT'.1,pm.length_eq,<-hTs.1,Lv,Lp];omega
theorem Xoc:FnScope ["one", "other"] ["one", "other"] (Ak s_parting):=⟨rfl,rfl,rfl,by decide +kernel,rfl,by decide +kernel,by decide +kernel⟩
theorem Xod{f:Addr}{fd:FuncData}(F:Fun K "parting" "parting" s_parting f fd)(T:Bl mg):FnOk P w K mg base CX0 1 f fd ["one", "other"] spParting:=by
 refine F.ok Xoc (λvs H Q E h=>?_) (λcdv A outer s H vs Q E hr h=>?_)
 ·obtain⟨p,q,a,b,rfl,_⟩:=h;rfl
 ·obtain⟨p,q,a,b,rfl,hP,hQ,na,nb,la,lb,k⟩:=h;refine⟨_,Al (A0 (Bb (Jk rfl) (by rfl) T.sorted (by rfl) (Aa (Am Xmb (C4 (G3 rfl) (by rfl) T.set (by rfl) (Aa (pv 0) Ad)) (C4 (G3 rfl) (by rfl) T.set (by rfl) (Aa (pv 1) Ad))) Ad))),?_⟩;refine⟨_,rfl,p,a,rfl,.inr (SqT.of hP),by unfold scanBound;omega,λa1 n1=>?_⟩;refine⟨_,rfl,q,b,rfl,.inr (SqT.of (ku hQ n1)),by unfold scanBound;omega,λa2 n2=>?_⟩;have pa:=Kg na;have pb:=Kg nb;refine⟨a1,a2,_,_,rfl,rfl,ku Ab n2,Ab,F2 a,F2 b,by rw[pa.length_eq];exact la,by rw[pb.length_eq];exact lb,λc zs nc ndz lz mz=>?_⟩;refine⟨c,zs,rfl,Ab,by omega,λl ls nl pl so=>?_⟩;refine k l _ ?_ ?_ ?_
  ·exact(((Same.refl H).step n1).step n2).free ((Same.refl _).step nc |>.free nl)
  ·rw[Ab,Jm pl so,xor_srt na nb ndz λy=>by rw[mz,pa.mem_iff,pb.mem_iff]]
  ·exact((((Same.refl H).step n1).step n2).step nc).step nl
theorem Xoe:FnScope ["plot", "name"] ["plot", "name"] (Ak s_across):=⟨rfl,rfl,rfl,by decide +kernel,rfl,by decide +kernel,by decide +kernel⟩
theorem Xof{f:Addr}{fd:FuncData}(F:Fun K "across" "across" s_across f fd)(B:Bl mg)(FP:Fn P w K mg base CX0 1 "parting" ["one", "other"] spParting):FnOk P w K mg base CX0 2 f fd ["plot", "name"] K2:=by
 refine F.ok Xoe (λvs H Q E h=>?_) (λcdv A outer s H vs Q E hr h=>?_)
 ·obtain⟨p,ss,x,rfl,_⟩:=h;rfl
 ·obtain⟨p,ss,x,rfl,hp,nd,hl,k⟩:=h;have hr1:Room 1 _:=hr.mono (by decide);refine⟨_,Al (A0 (C4 Xa4 (by rfl) B.tuple (by rfl) (Aa (Ap FP hr1 (by rfl) Ar (Aa (pv 0) (Aa (B5 (Aa (pv 1) Ad)) Ad))) Ad))),?_⟩;refine⟨_,rfl,_,rfl,by show 1<=sizeLine;decide,λt nt=>?_⟩;refine⟨p,t,ss,[x],rfl,ku hp nt,Ab,nd,by simp,hl,by show 1<16;decide,λl H1 nl hl1 s1=>?_⟩;rw[K1] at hl1;refine⟨l,_,rfl,.inl ⟨SqL.of hl1,λq nq=>?_⟩⟩;have s0:=((Same.refl H).step nt (o:=.tup [.str x])).trans s1;exact k q _ (s0.free nq) Ab (s0.step nq)
theorem K9:FnScope NNb ["row", "plot"] (Ak s_neighbours):=⟨rfl,rfl,rfl,by decide +kernel,rfl,by decide +kernel,by decide +kernel⟩
theorem Xog{f C T:Addr}{fd:FuncData}(F:Fun K "neighbours" "neighbours" s_neighbours f fd)(FA:Fn P w K mg base (CX1 P w) 5 "ask_plot" ["row", "plot"] (spAskPlot C))(FP:Fn P w K mg base CX0 5 "plots" ["row"] (spPlotsA T (lamPos s_in_order)))(FD:Fn P w K mg base CX0 1 "ditches" ["row"] spDitches)(FX:Fn P w K mg base CX0 2 "across" ["plot", "name"] K2):
  FnOk P w K mg base (CX1 P w) 6 f fd ["row", "plot"] (spNbs T (lamPos s_in_order)):=by
 refine F.ok1 K9 (λvs H Q E h=>?_) (λcdv A outer s H vs Q E hr h=>?_)
 ·obtain⟨r,p,row,S,rfl,_⟩:=h;rfl
 ·obtain⟨r,p,row,S,rfl,hR,R2,h3,hd,tab,hp,hS,k⟩:=h;have hr1:Room 1 _:=hr.mono (by decide);have hr2:Room 2 _:=hr.mono (by decide);have hu4':=hu4 hr;refine⟨_,Ai (Fo (Ap FA hr (by rfl) pass1 (Aa (pv 0) (Aa (pv 1) Ad))))
   (Ai (Aw (i:=2) K9.nd rfl (Or.inr rfl) (Ap FP hr (by rfl) Ar (Aa (pv 0) Ad)))
   (Ai (E9 (i:=3) (N:=NNb1) (cap:=[none,some 1]) (CompScope.of (Ak s_neighbours) NNb rfl rfl rfl (by decide +kernel)) rfl K9.nd rfl rfl (Bu (Ap FD hr1 (by rfl) Ar (Aa (pv 0) Ad))) (λ_ _ _=>Av (i:=0) (show NNb1.Nodup by decide +kernel) rfl (Or.inl rfl) (Or.inr rfl)) (λ_ _ _=>Cy)
    (λ_ _ _=>B5 (Aa (pv 0) (Aa (Ap (by exact FX) (by exact hr2) (by rfl) Ar (Aa (pv 1) (Aa (pv 0) Ad))) Ad))))
   (Al (A0 (F9 (N:=NNb2) (cap:=[none,none,some 2]) (CompScope.of (Ak s_neighbours) NNb rfl rfl rfl (by decide +kernel)) rfl (Bu (pv 3))
    (λ_ _ _=>D1 K 2 rfl rfl (Bn (Av (i:=0) (show NNb2.Nodup by decide +kernel) rfl (Or.inl rfl) (Or.inr rfl)) (Bn (Av (i:=1) (show NNb2.Nodup by decide +kernel) rfl (Or.inl rfl) (Or.inr rfl)) De))) (λ_ _ _=>Dz (A8 (Xjk (by exact hu4')) (pv 1) (pv 2) (by rfl)))
    (λ_ _ _=>B5 (Aa (pv 0) (Aa (pv 1) Ad)))))))),?_⟩
  have hl:=Xdt hS;have okS:∀y∈S,okN y:=λy hy=>R2.ok y ((Br hS).1 y hy);refine⟨_,rfl,_,rfl,r,p,row,S,rfl,hR,R2,hp,okS,by omega,λ_ H1 s1=>?_,λe=>by rw[hS] at e;cases e⟩;refine⟨_,rfl,r,row,rfl,s1 _ _ hR,R2,h3,hd,SH.Ao.same tab s1,λl ps Ts H2 nl hl2 hT2 hPL pw hps tab2 b2=>?_⟩;have b2:But T H1 H2:=b2;have tab1:=SH.Ao.same tab s1;have k2:∀{b:Addr} {o:HO},H b=some o->(∀z,o ≠ .tbl z)->H2 b=some o:=λe n=>b2 _ _ (s1 _ _ e) (Ao.ne tab1 (s1 _ _ e) n);have hR2:=k2 hR λz=>by simp
  have hp2:=k2 hp λz=>by simp
  have hrl:=R2.len;have okT:∀S∈Ts,∀y∈S,okN y:=λS' hS' y hy=>R2.ok y ((Br ((hPL S').mp hS')).1 y hy);dsimp only[A6];refine⟨_,rfl,r,row,rfl,hR2,by omega,λnl' H3 nnl hnl s3=>?_⟩;have hp3:=s3 _ _ hp2;have hl3:=s3 _ _ hl2;have hT3:=hT2.same s3;refine⟨nl',rfl,⟨_,SqL.of hnl⟩,?_⟩;refine Xfb (n:=(dit row).length) (by rw[Pr];omega) (λj=>.str ((dit row).getD j Str.empty)) (λ_=>true) (λj=>((dit row).getD j Str.empty,Aj S ((dit row).getD j Str.empty))) (fun σ=>∃v, σ=[v,some (.ref p)]) ⟨_,rfl⟩ ?_ ?_ ?_ ?_
  ·intro j H5 hj s5;have:=Em (K:=K) (SqL.of (s5 _ _ hnl)) (by rw[Lf];exact hj);rw[Db V.str Str.empty (dit row) hj] at this;exact this
  ·intro H5 s5;have:=En (K:=K) (SqL.of (s5 _ _ hnl))
   rwa [Lf] at this
  ·rintro j σ1 H5 Q1 Q0 hj ⟨v,rfl⟩ s5 kk _;generalize (dit row).getD j Str.empty=x at kk ⊢;dsimp only[A6,C7];rw[Pt rfl];refine⟨_,rfl,_,rfl,_,rfl,p,S,x,rfl,s5 _ _ hp3,E2 hS,by omega,λq H6 nq hq s6=>?_⟩;refine⟨by show 2<=sizeLine;decide,λt nt=>?_⟩;exact kk _ t q _ rfl ⟨_,rfl⟩ Ab (ku hq nt) (s6.step nt)
  intro sd qs H4 nsd s4 hsd hnb;have eN:(((List.range (dit row).length).filter λ_=>true).map λj=>((dit row).getD j Str.empty,Aj S ((dit row).getD j Str.empty)))=(dit row).map λx=>(x,Aj S x):=by
   have q:=congrArg (List.map λx=>(x,Aj S x)) (B7 Str.empty (λ_=>true) (dit row));rw[Mb,L0.mpr (λ_ _=>rfl),L0.mpr (λ_ _=>rfl)] at q;rw[L0.mpr (λ_ _=>rfl)];exact q
  rw[eN] at hnb;have hql:qs.length=(dit row).length:=by rw[hnb.1,Lf]
  have hl4:=s4 _ _ hl3;have hT4:=hT3.same s4;dsimp only[A6];refine⟨_,rfl,sd,rfl,⟨_,SqL.of hsd⟩,?_⟩;refine Xfb (n:=qs.length) (by rw[Pr];omega) (λj=>.ref (qs.getD j 0)) (λj=>Ae row (Aj S ((dit row).getD j Str.empty))) (λj=>((dit row).getD j Str.empty,Aj S ((dit row).getD j Str.empty))) (fun σ=>∃u v, σ=[u,v,some (.ref l)]) ⟨_,_,rfl⟩ ?_ ?_ ?_ ?_
  ·intro j H5 hj s5;have:=Em (K:=K) (SqL.of (s5 _ _ hsd)) (by rw[Lf];exact hj);rw[Db V.ref 0 qs hj] at this;exact this
  ·intro H5 s5;have:=En (K:=K) (SqL.of (s5 _ _ hsd))
   rwa [Lf] at this
  ·rintro j σ1 H5 Q1 Q0 hj ⟨u,v,rfl⟩ s5 k1 k0;obtain⟨q,h1,h2⟩:=hnb.2 j hj;have hj':j<(dit row).length:=by omega
   have ex:((dit row).map λx=>(x,Aj S x)).getD j dN=((dit row).getD j Str.empty,Aj S ((dit row).getD j Str.empty)):=by
    rw[List.getD,L1,Lm hj',List.getD,Lm hj'];rfl
   rw[ex] at h1 h2;have hx:(dit row).getD j Str.empty∈row:=Ag.mp (Cp hj');generalize (dit row).getD j Str.empty=x at *;have okF:=Xm4 R2.ok hS hx;have h15:=s5 _ _ h1;have h25:=s5 _ _ h2;refine⟨_,_,rfl,SqT.of h15,rfl,_,_,rfl,_,_,rfl,rfl,?_⟩;refine⟨_,rfl,_,rfl,Bj (Aj S x),Ts.map Bj,D8 h25,Xe3 (s5 _ _ hl4) (hT4.same s5),Fa _ (D7 okF),Fb _ (Xe2 okT),by show PyData.depthAll ((Aj S x).map PyData.str)+1<=3;rw[Gg];decide,_,rfl,?_⟩;rw[isin okT okF];cases e:Ae row (Aj S x) with
   | true=>
    rw[Pu ((hPL _).mpr e)];refine Di ⟨_,rfl,_,rfl,by show 2<=sizeLine;decide,λt nt=>?_⟩;exact k1 _ t q _ e ⟨_,_,rfl⟩ Ab (ku h25 nt) ((Same.refl H5).step nt)
   | false=>
    rw[Pw (λz=>by rw[(hPL _).mp z] at e;cases e)];exact Ce (k0 _ _ e ⟨_,_,rfl⟩ (Same.refl H5))
  ·intro L us H5 nL s5 hL hus;have e2:(((List.range qs.length).filter λj=>Ae row (Aj S ((dit row).getD j Str.empty))).map λj=>((dit row).getD j Str.empty,Aj S ((dit row).getD j Str.empty)))=nbL row S:=by
    have q:=congrArg (List.map λx=>(x,Aj S x)) (B7 Str.empty (λx=>Ae row (Aj S x)) (dit row));rw[Mb] at q;rw[hql];exact q
   rw[e2] at hus;have s25:=(s3.trans s4).trans s5;refine k L us H5 ?_ hL hus ?_ (SH.Ao.same tab2 s25) λb o e n=>s25 _ _ (b2 _ _ (s1 _ _ e) n)
   ·cases q:H L with
    | none=>rfl
    | some o=>
     by_cases z:L=T
     ·have t4:=SH.Ao.same tab2 (s3.trans s4);rcases t4 with t | ⟨_,t,_⟩<;>(rw[<-z,nL] at t;cases t)
     ·rw[(s3.trans s4) _ _ (b2 _ _ (s1 _ _ q) z)] at nL;cases nL
   ·rw[hus.1];unfold nbL;rw[Lf];exact Mh (Ms ..) (by omega)
theorem Xoh:FnScope ["_law_script"] ["_law_script"] (Ak sBegin):=⟨rfl,rfl,rfl,by decide +kernel,rfl,by decide +kernel,by decide +kernel⟩
theorem Xoi{f:Addr}{fd:FuncData}(F:Fun K "_law_begin" "_law_begin" sBegin f fd)(T:Bl mg):FnOk P w K mg base CX0 1 f fd ["_law_script"] (Jy K):=by
 refine F.ok Xoh (λvs H Q E h=>?_) (λcdv A outer s H vs Q E hr h=>?_)
 ·obtain⟨a,ns,rfl,_⟩:=h;rfl
 ·obtain⟨a,ns,rfl,hS,hl,k⟩:=h;refine⟨_,Al (A0 (Ct (Aa (C4 Xa3 rfl T.list boot_list (Aa (C5 C6 (pv 0) Df (Cu Ah)) Ad)) (Aa Ah (Aa Ah (Aa Ah (Aa Ah Ad))))))),?_⟩;refine⟨_,rfl,_,rfl,a,_,rfl,hS,λp hp=>?_⟩;have cut:Cb (ns.map V.int) none (some 63)=ns.map V.int:=by
   unfold Cb;rw[HT.sIx_none,List.drop_zero,show (some (63:Int))=some ((63:Nat):Int) from rfl,HT.sIx_nat];exact N8 (by rw[Lf];omega)
  rw[cut];refine⟨p,_,rfl,.inl (SqL.of Ab),λq hq=>?_⟩;refine⟨by show 5<=sizeLine;decide,λdr hdr=>?_⟩;have npq:p≠q:=Aq (o:=.lst (ns.map V.int)) Ab hq;have nqd:q≠dr:=Aq (o:=.lst (ns.map V.int)) Ab hdr;have hqH:H q=none:=by rw[Ac npq.symm] at hq;exact hq
  have hpd:p≠dr:=Aq (H:=upd (upd H p (.lst (ns.map V.int))) q (.lst (ns.map V.int))) (o:=.lst (ns.map V.int)) (by rw[Ac npq,Ab]) hdr;have hdH:H dr=none:=by rw[Ac nqd.symm,Ac hpd.symm] at hdr;exact hdr
  refine k dr q _ hdH hqH ⟨⟨ns,0,0,1,0,Ab,by rw[Ac nqd,Ab],Mf _,hl,by decide,by decide⟩⟩ ((((Same.refl H).upd hp).upd hqH).upd hdH)
theorem Lb:FnScope NP ["_law_draw", "_law_many"] (Ak sPick):=⟨rfl,rfl,rfl,by decide +kernel,rfl,by decide +kernel,by decide +kernel⟩
theorem Xoj{f:Addr}{fd:FuncData}(F:Fun K "_law_pick" "_law_pick" sPick f fd)(T:Bl mg):FnOk P w K mg base CX0 1 f fd ["_law_draw", "_law_many"] Xc4:=by
 refine F.ok Lb (λvs H Q E h=>?_) (λcdv A outer s H vs Q E hr h=>?_)
 ·obtain⟨dr,sc,n,rfl,_⟩:=h;rfl
 ·obtain⟨dr,sc,n,rfl,hn0,hn1,⟨ns,p,c,m,k,hd,hs,hp,hl,hm0,hm1⟩,kk⟩:=h;have nds:dr≠sc:=by
   intro e;subst e;rw[hd] at hs;cases ns with
   | nil=>cases hs
   | cons a r=>cases hs
  refine Xi4 (fun σ' H'=>∃x y p c m, σ'=[some (.ref dr),some (.int n),x,y]/\H' dr=some (.lst [.ref sc,.int (p:Nat),.int c,.int m,.int k])/\p<=ns.length/\0<=m/\m<1000000007/\∀b o,H b=some o->b≠dr->H' b=some o) ?_ ?_
  ·-- the rest
   refine⟨_,Ai (Bm (A8 Xap (Ay Bd (pv 0) Ah (λ_ _=>rfl)) (pv 1) (Ba _))
     (Ai (Aw (i:=3) Lb.nd rfl (Or.inl rfl) (Am E4 (Ay Bd (pv 0) Ah (λ_ _=>rfl)) (pv 1)))
     (Ai (Du (Am Ig (Ay Bd (pv 0) Ah (λ_ _=>rfl)) (pv 1)) (Ef (pv 0) Ah Eg))
     (Al (A0 (pv 3))))) Bs)
    (Ai (Du (Am Bt (Ay Bd (pv 0) Ah (λ_ _=>rfl)) Ah) (Ef (pv 0) Ah Eg))
    (Ai (Du (Am E4 (Am Bt (Am Bt (Am Xal (Ay Bd (pv 0) Ah (λ_ _=>rfl)) Ah) (Am Gw Ah (Ay Bd (pv 0) Ah (λ_ _=>rfl)))) Ah) Ah) (Ef (pv 0) Ah Eg))
    (Al (A0 (Am E4 (Am Ig (Ay Bd (pv 0) Ah (λ_ _=>rfl)) Ah) (pv 1)))))),?_⟩
   rintro σ' H' ⟨x,y,p,c,m,rfl,hd',hp',hm0',hm1',kp⟩;refine⟨_,rfl,dr,_,_,_,rfl,rfl,SqL.of hd',rfl,_,rfl,_,_,rfl,rfl,_,rfl,?_⟩;refine A9 (λhc=>?_) (λhc=>?_)
   ·-- got
    refine⟨_,rfl,dr,_,_,_,rfl,rfl,SqL.of hd',rfl,_,rfl,_,_,rfl,rfl,hn0,?_⟩;refine⟨_,rfl,dr,_,_,_,rfl,rfl,SqL.of hd',rfl,_,rfl,_,_,rfl,rfl,⟨hn0,by omega⟩,?_⟩;refine⟨_,rfl,dr,_,_,2,rfl,rfl,hd',rfl,?_⟩;refine⟨_,rfl,?_⟩;refine kk _ _ (Ow _ (by omega)) (Oa _ hn0) ⟨⟨ns,p,c / n,m,k,Ab,?_,hp',hl,hm0',hm1'⟩⟩ λb o e hb=>by rw[Ac hb];exact kp b o e hb
    rw[Ac nds.symm];exact kp _ _ hs nds.symm
   ·refine⟨_,rfl,dr,_,_,_,rfl,rfl,SqL.of hd',rfl,_,_,rfl,rfl,?_⟩;refine⟨_,rfl,dr,_,_,4,rfl,rfl,hd',rfl,?_⟩;refine⟨_,rfl,dr,_,_,_,rfl,rfl,SqL.of Ab,rfl,_,_,rfl,rfl,cpow3 hm0' hm1',?_⟩;refine⟨_,rfl,dr,_,_,_,rfl,rfl,SqL.of Ab,rfl,_,_,rfl,rfl,.inl ⟨by decide,by decide⟩,_,_,rfl,rfl,_,_,rfl,rfl,_,_,rfl,rfl,(by show (0:Int)<1000000007;decide),?_⟩;refine⟨_,rfl,dr,_,_,3,rfl,rfl,Ab,rfl,?_⟩;refine⟨_,rfl,dr,_,_,_,rfl,rfl,SqL.of Ab,rfl,_,_,rfl,rfl,⟨by decide,by decide⟩,_,rfl,_,_,rfl,rfl,hn0,?_⟩;refine kk _ _ (Ow _ (by omega)) (Oa _ hn0) ⟨⟨ns,p,c,_,k+1,Ab,?_,hp',hl,Ow _ (by decide),Oa _ (by decide)⟩⟩ λb o e hb=>by rw[Ac hb,Ac hb];exact kp b o e hb
    rw[Ac nds.symm,Ac nds.symm];exact kp _ _ hs nds.symm
  ·intro nx hnx;refine⟨_,Bm (Gr (A8 Cl (Ay Bd (pv 0) Ah (λ_ _=>rfl)) (pv 1) (Ba _)) (Gq (A8 Cl (Ay Bd (pv 0) Ah (λ_ _=>rfl)) (Bb Bo (by rfl) T.len boot_len (Aa (Ay Bd (pv 0) Ah (λ_ _=>rfl)) Ad)) (Ba _)))).pt
     (Ai (Aw (i:=2) Lb.nd rfl (Or.inl rfl) (Ay Bd (Ay Bd (pv 0) Ah (λ_ _=>rfl)) (Ay Bd (pv 0) Ah (λ_ _=>rfl)) (λ_ _=>rfl)))
     (Ai (Du (Am Bt (Ay Bd (pv 0) Ah (λ_ _=>rfl)) Ah) (Ef (pv 0) Ah Eg))
     (Ai (Du Ah (Ef (pv 0) Ah Eg))
     (Al (Bm (A8 Xap (pv 2) (Am Xal Ah Ah) (Ba _))
      (Al (Du (pv 2) (Ef (pv 0) Ah Eg)))
      (Al (Du (Am E4 (Am Bt (Ay Bd (pv 0) Ah (λ_ _=>rfl)) (pv 2)) Ah) (Ef (pv 0) Ah Eg)))))))) Bs,?_⟩
   refine⟨_,rfl,dr,_,_,_,rfl,rfl,SqL.of hd,rfl,_,rfl,_,_,rfl,rfl,_,rfl,?_⟩;have skip:nx [some (.ref dr),some (.int n),none,none] H:=hnx _ _ ⟨none,none,p,c,m,rfl,hd,hp,hm0,hm1,λb o e _=>e⟩;refine A9 (λ_=>?_) (λ_=>Ce skip);refine⟨_,rfl,dr,_,_,_,rfl,rfl,SqL.of hd,rfl,_,rfl,dr,_,_,_,rfl,rfl,SqL.of hd,rfl,sc,_,rfl,.inl (SqL.of hs),_,_,rfl,rfl,_,rfl,?_⟩;refine A9 (λhlt=>?_) (λ_=>skip);have hlt':(p:Int)<((ns.map V.int).length:Nat):=Px hlt;rw[Lf] at hlt';have hpl:p<ns.length:=by omega
   have hat:(ns.map V.int)[p]? = some (.int (ns[p]'hpl)):=by rw[L1,Lm hpl];rfl
   refine⟨_,rfl,dr,_,_,_,rfl,rfl,SqL.of hd,rfl,_,rfl,dr,_,_,_,rfl,rfl,SqL.of hd,rfl,sc,_,_,_,rfl,rfl,SqL.of hs,Fu hat,?_⟩;refine⟨_,rfl,dr,_,_,_,rfl,rfl,SqL.of hd,rfl,_,_,rfl,rfl,?_⟩;refine⟨_,rfl,dr,_,_,1,rfl,rfl,hd,rfl,?_⟩;refine⟨_,rfl,dr,_,_,2,rfl,rfl,Ab,rfl,?_⟩;refine⟨_,rfl,_,_,rfl,rfl,⟨by decide,by decide,by decide⟩,_,_,rfl,rfl,_,rfl,?_⟩;refine A9 (λ_=>?_) (λ_=>?_)
   ·refine⟨_,rfl,_,rfl,dr,_,_,2,rfl,rfl,Ab,rfl,?_⟩;refine hnx _ _ ⟨_,none,p+1,_,m,rfl,Ab,hpl,hm0,hm1,λb o e hb=>by rw[Ac hb,Ac hb,Ac hb];exact e⟩
   ·refine⟨_,rfl,dr,_,_,_,rfl,rfl,SqL.of Ab,rfl,_,rfl,_,_,rfl,rfl,_,_,rfl,rfl,(by show (0:Int)<1000000007;decide),?_⟩;refine⟨_,rfl,dr,_,_,3,rfl,rfl,Ab,rfl,?_⟩;refine hnx _ _ ⟨_,none,p+1,_,_,rfl,Ab,hpl,Ow _ (by decide),Oa _ (by decide),λb o e hb=>by rw[Ac hb,Ac hb,Ac hb];exact e⟩
theorem Xfn:FnScope NPut ["_law_row_here", "_law_name", "_law_at", "_law_to"] (Ak sPut):=⟨rfl,rfl,rfl,by decide +kernel,rfl,by decide +kernel,by decide +kernel⟩
theorem Xok{f:Addr}{fd:FuncData}(F:Fun K "_law_put" "_law_put" sPut f fd):FnOk P w K mg base CX0 1 f fd ["_law_row_here", "_law_name", "_law_at", "_law_to"] Jz:=by
 refine F.ok Xfn (λvs H Q E h=>?_) (λcdv A outer s H vs Q E hr h=>?_)
 ·obtain⟨r,row,x,a,b,rfl,_⟩:=h;rfl
 ·obtain⟨r,row,x,a,b,rfl,hR,hl,hab,hb,k⟩:=h;refine⟨_,Ai (Aw (i:=4) Xfn.nd rfl (Or.inl rfl) (Am Cn (Am Cn (C5 C6 (pv 0) Df (Cu (pv 2))) (Ct (Aa (pv 1) Ad))) (C5 C6 (pv 0) (Cu (pv 2)) (Cu (pv 3)))))
   (Al (A0 (Am Cn (Am Cn (pv 4) (Ct (Aa (pv 1) Ad))) (C5 C6 (pv 0) (Cu (pv 3)) Df)))),?_⟩
  have h24:∀n,n<=100000->n<=sizeLine:=λn h=>by rw[Pr];omega
  refine⟨_,rfl,_,rfl,_,rfl,r,_,rfl,SqL.of hR,λp1 n1=>?_⟩;rw[Jo _ _ _ (by omega)];refine⟨_,rfl,by show 1<=sizeLine;decide,λp2 n2=>?_⟩;refine⟨p1,p2,_,_,rfl,rfl,ku Ab n2,Ab,h24 _ (by simp;omega),λp3 n3=>?_⟩;refine⟨_,rfl,_,rfl,_,rfl,_,rfl,_,rfl,r,_,rfl,SqL.of (ku (ku (ku hR n1) n2) n3),λp4 n4=>?_⟩;rw[Xi5 _ _ _ _ hab hb];refine⟨p3,p4,_,_,rfl,rfl,ku Ab n4,Ab,h24 _ (by simp;omega),λp5 n5=>?_⟩;refine⟨_,rfl,_,rfl,by show 1<=sizeLine;decide,λp6 n6=>?_⟩;refine⟨p5,p6,_,_,rfl,rfl,ku Ab n6,Ab,h24 _ (by simp;omega),λp7 n7=>?_⟩;refine⟨_,rfl,_,rfl,_,rfl,r,_,rfl,SqL.of (ku (ku (ku (ku (ku (ku (ku hR n1) n2) n3) n4) n5) n6) n7),λp8 n8=>?_⟩;rw[F6 _ _ _ hb];refine⟨p7,p8,_,_,rfl,rfl,ku Ab n8,Ab,h24 _ (by simp;omega),λp9 n9=>?_⟩;have s8:=((((((((Same.refl H).go n1 n2).go n2 n3).go n3 n4).go n4 n5).go n5 n6).go n6 n7).go n7 n8).go n8 n9;refine k p9 _ (s8.free n9) (Ab.trans ?_) (s8.step n9);unfold D6;simp
theorem Lc:FnScope NWh ["_law_row_here"] (Ak sWhere):=⟨rfl,rfl,rfl,by decide +kernel,rfl,by decide +kernel,by decide +kernel⟩
theorem Xol{f:Addr}{fd:FuncData}(F:Fun K "_law_where" "_law_where" sWhere f fd)(T:Bl mg):FnOk P w K mg base CX0 1 f fd ["_law_row_here"] Ge:=by
 refine F.ok Lc (λvs H Q E h=>?_) (λcdv A outer s H vs Q E hr h=>?_)
 ·obtain⟨r,row,rfl,_⟩:=h;rfl
 ·obtain⟨r,row,rfl,hR,hl,k⟩:=h;have hu:=Ej hr;refine⟨_,Ai (Aw (i:=1) Lc.nd rfl (Or.inl rfl) Xhh)
   (Ai (B9 PassesOwn.never rfl (Fp rfl T.range (Aa (Bb Bo (by rfl) T.len boot_len (Aa (pv 0) Ad)) Ad)) (Av (i:=2) Lc.nd rfl (Or.inl rfl))
    (Al (Xhf hu (pv 1) (Ay Bd (pv 0) (pv 2) (λ_ _=>rfl))
     (Am Cn (Xhm hu (pv 1) (Ay Bd (pv 0) (pv 2) (λ_ _=>rfl)) (Ct Ad) ⟨rfl,rfl,rfl,rfl⟩) (Ct (Aa (pv 2) Ad))) rfl)))
   (Al (A0 (pv 1)))),?_⟩
  intro d nd;have s0:Same H (upd H d (.dK [])):=(Same.refl H).step nd;refine⟨_,rfl,r,_,rfl,.inl (SqL.of (s0 _ _ hR)),((row.map V.str).length:Int),rfl,by omega,by rw[Lf];omega,?_⟩;have hn:((row.map V.str).length:Int).toNat=row.length:=by rw[Lf];simp
  rw[hn];refine Fs (lo:=0) (n:=row.length) (λi σ H2=>∃kvs v, σ=[some (.ref r),some (.ref d),v]/\Same H H2/\H2 d=some (.dK kvs)/\Wh H2 kvs (row.take i)) ?_ ?_ ?_
  ·exact⟨[],none,rfl,s0,Ab,⟨λk hk=>by simp at hk,λx hx=>by simp at hx,λ_ _=>rfl,by simp,by simp⟩⟩
  ·rintro i σ H2 hi ⟨kvs,v,rfl,s2,hd,wh⟩;have hat:(row.map V.str)[i]? = some (.str (row[i]'hi)):=by rw[L1,Lm hi];rfl
   have hat':atI (row.map V.str) (0+(i:Int))=some (.str (row[i]'hi)):=by rw[Po];exact Fu hat
   have tk:row.take (i+1)=row.take i++[row[i]'hi]:=by rw[Lw hi]
   have kl:=wh.len;rw[Mc] at kl;have ll:(plc (row.take i) (row[i]'hi)).length<=1000:=by
    rw[J3];have:=List.count_le_length (a:=row[i]'hi) (l:=row.take i);rw[Mc] at this;omega
   have h24:∀n,n<=100000->n<=sizeLine:=λn h=>by rw[Pr];omega
   refine⟨_,rfl,d,rfl,.inl ⟨kvs,.inl hd⟩,_,rfl,_,rfl,r,_,_,_,rfl,rfl,SqL.of (s2 _ _ hR),hat',by show 0<=sizeLine;decide,λp1 n1=>?_⟩;refine⟨_,DGet.k (k:=Sum.inr (row[i]'hi)) (ku hd n1),?_⟩;obtain⟨q,xs,e1,hq,hxs⟩:∃q xs,(An kvs (Sum.inr (row[i]'hi):Key)).getD (V.ref p1)=V.ref q/\upd H2 p1 (.lst []) q=some (.lst (xs.map V.int))/\plc (row.take i) (row[i]'hi)=xs:=by
    by_cases hx:row[i]'hi∈row.take i
    ·obtain⟨l,e1,e2⟩:=wh.val _ hx;exact⟨l,_,by rw[e1];rfl,ku e2 n1,rfl⟩
    ·refine⟨p1,[],by rw[wh.none _ hx];rfl,Ab,?_⟩;have:(plc (row.take i) (row[i]'hi)).length=0:=by rw[J3];exact N9.mpr hx
     exact Ma.mp this
   have hlx:xs.length<=1000:=by rw[<-hxs];exact ll
   rw[e1];refine⟨_,rfl,by show 1<=sizeLine;decide,λp2 n2=>?_⟩;refine⟨q,p2,_,_,rfl,rfl,ku hq n2,Ab,h24 _ (by simp;omega),λp3 n3=>?_⟩;refine⟨_,rfl,_,rfl,_,rfl,r,_,_,_,rfl,rfl,SqL.of (ku (ku (ku (s2 _ _ hR) n1) n2) n3),hat',?_⟩;have hd2:=ku (u:=.lst [V.int (0+(i:Int))]) (ku (u:=.lst []) hd n1) n2;have hd3:=ku (u:=.lst (xs.map V.int++[V.int (0+(i:Int))])) hd2 n3;refine⟨d,_,rfl,DPut.k (k:=Sum.inr (row[i]'hi)) hd3 (by rw[Pr];omega),_,_,rfl,?_,Ab,?_⟩
   ·have s3:=((s2.go n1 n2).go n2 n3).step (o:=.lst (xs.map V.int++[V.int (0+(i:Int))])) n3;exact s3.upd nd
   ·rw[tk];refine wh.snoc _ p3 ?_ λb ys e=>?_
    ·have ne:p3≠d:=(Aq hd2 n3).symm;rw[Ac ne,Ab,J4,Pt rfl,hxs,Lu,Mc,Od (Ob hi)];simp
    ·have ne:b≠d:=λz=>by rw[z,hd] at e;cases e
     rw[Ac ne];exact ku (ku (ku e n1) n2) n3
  ·rintro σ H2 ⟨kvs,v,rfl,s2,hd,wh⟩;rw[Mr] at wh;exact⟨_,rfl,k d kvs H2 nd hd wh s2⟩
theorem Hs:FnScope NWo ["_law_where_here", "_law_one", "_law_other"] (Ak sWord):=⟨rfl,rfl,rfl,by decide +kernel,rfl,by decide +kernel,by decide +kernel⟩
theorem Xom{f:Addr}{fd:FuncData}(F:Fun K "_law_word" "_law_word" sWord f fd)(T:Bl mg):FnOk P w K mg base CX0 1 f fd ["_law_where_here", "_law_one", "_law_other"] spWord:=by
 refine F.ok Hs (λvs H Q E h=>?_) (λcdv A outer s H vs Q E hr h=>?_)
 ·obtain⟨d,l1,l2,kvs,x,y,a,b,c,e,rfl,_⟩:=h;rfl
 ·obtain⟨d,l1,l2,kvs,x,y,a,b,c,e,rfl,hd,v1,v2,h1,h2,k⟩:=h;have hu:=Ej hr;refine⟨_,Ai (Du (B2 hu (pv 0) (pv 1) (λ_ _=>rfl)) (Xhz rfl (Bn (Av (i:=3) Hs.nd rfl (Or.inr rfl)) (Bn (Av (i:=4) Hs.nd rfl (Or.inr rfl)) De))))
   (Ai (E9 (i:=5) (N:=["_law_at", "_law_high", "_law_low"]) (cap:=[none,some 4,some 3]) (CompScope.of (Ak sWord) NWo rfl rfl rfl (by decide +kernel)) rfl Hs.nd rfl rfl
     (Bu (B2 hu (pv 0) (pv 2) (λ_ _=>rfl))) (λ_ _ _=>Av (i:=0) (show (["_law_at", "_law_high", "_law_low"]:List Str).Nodup by decide +kernel) rfl (Or.inl rfl) (Or.inr rfl))
     (λ_ _ _=>Dz (Gr (A8 Cl (pv 2) (pv 0) (Ba _)) (Gq (A8 Cl (pv 0) (pv 1) (Ba _)))).pt) (λ_ _ _=>pv 0))
   (Ai (Bm (Hv (A8 Ck (pv 1) (pv 2) (Ba _)) (Hu (A8 Xgk (Bb Bo (by rfl) T.len boot_len (Aa (pv 5) Ad)) Ah (Ba _)))).pt
    (Al (A0 (Ay Iv (B5 (Aa Bg (Aa Bg (Aa Bg Ad)))) (Bb Bo (by rfl) T.len boot_len (Aa (pv 5) Ad)) (λ_ _=>rfl)))) Bs)
   (Al (A0 (Hy (Gr (A8 Cl (Ay Bd (B2 hu (pv 0) (pv 2) (λ_ _=>rfl)) Ah (λ_ _=>rfl)) (pv 3) (Ba _)) (Gq (A8 Cl (pv 4) (Ay Bd (B2 hu (pv 0) (pv 2) (λ_ _=>rfl)) Ah (λ_ _=>rfl)) (Ba _)))).pt Bg Bg))))),?_⟩
  refine⟨_,rfl,_,rfl,d,_,rfl,DGet.rd hd v1,l1,_,rfl,SqL.of h1,rfl,?_⟩;refine⟨_,_,rfl,_,_,rfl,rfl,?_⟩;refine⟨_,rfl,_,rfl,d,_,rfl,DGet.rd hd v2,l2,rfl,⟨_,SqL.of h2⟩,?_⟩;refine El (n:=2) (λi=>([V.int c,V.int e]:List V).getD i .non) (λD i σ2 H2=>∃v, σ2=[v,some (.int b),some (.int a)]/\Same H H2/\H2 D=some (.lst ((inn a b (([c,e]:List Int).take i)).map V.int))) ?_ ?_ ?_ ?_ ?_
  ·intro D hD;exact⟨none,rfl,(Same.refl H).step hD,Ab⟩
  ·rintro D i σ2 H2 hD hi ⟨v,rfl,s2,hl⟩;exact Em (SqL.of (s2 _ _ h2)) hi
  ·rintro D σ2 H2 hD ⟨v,rfl,s2,hl⟩;exact En (SqL.of (s2 _ _ h2))
  ·rintro D i σ2 H2 hD hi ⟨v,rfl,s2,hl⟩;obtain⟨t,ht1,ht2⟩:∃t,([V.int c,V.int e]:List V).getD i .non = .int t/\([c,e]:List Int).take (i+1)=([c,e]:List Int).take i++[t]:=by
    match i,hi with
    | 0,_=>exact⟨c,rfl,rfl⟩
    | 1,_=>exact⟨e,rfl,rfl⟩
   rw[ht1];have hil:(inn a b (([c,e]:List Int).take i)).length<=2:=Mh (J5 ..) (by rw[Mc];simp;omega);refine⟨_,rfl,_,rfl,_,_,rfl,rfl,_,rfl,?_⟩;refine A9 (λq1=>?_) (λq1=>Ce (wskip hi ⟨_,rfl,s2,?_⟩))
   ·refine⟨_,rfl,_,rfl,_,_,rfl,rfl,_,rfl,?_⟩;refine A9 (λq2=>?_) (λq2=>wskip hi ⟨_,rfl,s2,?_⟩)
    ·refine⟨_,rfl,wput hi hl (by rw[Lf,Pr];omega) ⟨_,rfl,?_,?_⟩⟩
     ·intro b' o e';rw[Ac (Aq e' hD)];exact s2 b' o e'
     ·rw[Ab,ht2];unfold inn;rw[Lx,Lu,Md,Pt (by rw[q1,q2];rfl)];rfl
    ·rw[hl,ht2];unfold inn;rw[Lx,Md,Ps (by rw[q1,q2];decide)];simp
   ·rw[hl,ht2];unfold inn;rw[Lx,Md,Ps (by rw[q1];simp)];simp
  ·rintro D σ2 H2 hD ⟨v,rfl,s2,hl⟩;have hl':H2 D=some (.lst ((inn a b [c,e]).map V.int)):=hl;have hil:(inn a b [c,e]).length<=2:=J5 ..;have three:∀p,H2 p=none->atI ([V.str "same",V.str "cross",V.str "around"]:List V) (((inn a b [c,e]).map V.int).length:Int)=some (.str (words3.getD (inn a b [c,e]).length "apart")):=λp _=>by
    rw[Lf];generalize (inn a b [c,e]).length=n at hil
    match n,hil with
    | 0,_=>rfl
    | 1,_=>rfl
    | 2,_=>rfl
   have ret3:(decide (x=y)||decide (0<(inn a b [c,e]).length))=true->∀p,H2 p=none->∀H',Same H H'->Q (.str (words3.getD (inn a b [c,e]).length "apart")) H':=λhc p _ H' s'=>by
    have:=k H' s';unfold Da at this;rw[Pt hc] at this;exact this
   refine⟨_,rfl,_,rfl,rfl,_,rfl,?_⟩;refine A9 (λq1=>?_) (λq1=>?_)
   ·refine Di ⟨by show 3<=sizeLine;decide,λp hp=>?_⟩;refine⟨_,rfl,D,_,rfl,.inl (SqL.of (ku hl' hp)),p,_,_,_,rfl,rfl,SqT.of Ab,three p hp,?_⟩;refine ret3 ?_ p hp _ (s2.step hp);have q1':decide (x=y)=true:=by
     have:=Px q1;injection this with this
     exact Pu this
    rw[q1'];rfl
   ·refine⟨_,rfl,D,_,rfl,.inl (SqL.of hl'),_,_,rfl,rfl,_,rfl,?_⟩;have q1':decide (x=y)=false:=by
     have:=Py q1;exact Pw λz=>this (by rw[z])
    refine A9 (λq2=>?_) (λq2=>?_)
    ·have q2':0<(inn a b [c,e]).length:=by
      have:=Px q2;rw[Lf] at this;omega
     refine⟨by show 3<=sizeLine;decide,λp hp=>?_⟩;refine⟨_,rfl,D,_,rfl,.inl (SqL.of (ku hl' hp)),p,_,_,_,rfl,rfl,SqT.of Ab,three p hp,?_⟩;exact ret3 (by rw[Pu q2',Bool.or_true]) p hp _ (s2.step hp)
    ·have q2':¬ 0<(inn a b [c,e]).length:=by
      have:=Py q2;rw[Lf] at this;omega
     have last:∀z:Str,(if c<a/\b<e then ("within" : Str) else "apart")=z->Q (.str z) H2:=λz hz=>by
      have:=k H2 s2;unfold Da at this;rw[Ps (by rw[q1',Pw q2'];decide),hz] at this;exact this
     refine⟨_,rfl,_,rfl,d,_,rfl,DGet.rd (Rd.same hd s2) v2,l2,_,_,_,rfl,rfl,SqL.of (s2 _ _ h2),rfl,_,rfl,_,_,rfl,rfl,_,rfl,?_⟩;refine A9 (λq3=>?_) (λq3=>?_)
     ·refine⟨_,rfl,_,rfl,_,rfl,d,_,rfl,DGet.rd (Rd.same hd s2) v2,l2,_,_,_,rfl,rfl,SqL.of (s2 _ _ h2),rfl,_,_,rfl,rfl,_,rfl,?_⟩;refine A9 (λq4=>?_) (λq4=>?_)
      ·exact last _ (Pt ⟨Px q3,Px q4⟩)
      ·exact last _ (Ps λz=>Py q4 z.2)
     ·exact Ce (last _ (Ps λz=>Py q3 z.1))
theorem Gn:FnScope NBa ["_law_row_here", "_law_name"] (Ak sBarred):=⟨rfl,rfl,rfl,by decide +kernel,rfl,by decide +kernel,by decide +kernel⟩
theorem Xon{f:Addr}{fd:FuncData}(F:Fun K "_law_barred" "_law_barred" sBarred f fd)(T:Bl mg)(FW:Fn P w K mg base CX0 1 "_law_where" ["_law_row_here"] Ge)
  (FO:Fn P w K mg base CX0 1 "_law_word" ["_law_where_here", "_law_one", "_law_other"] spWord):FnOk P w K mg base CX0 2 f fd ["_law_row_here", "_law_name"] spBarredN:=by
 refine F.ok Gn (λvs H Q E h=>?_) (λcdv A outer s H vs Q E hr h=>?_)
 ·obtain⟨r,row,x,rfl,_⟩:=h;rfl
 ·obtain⟨r,row,x,rfl,hR,hl,h2,hx,k⟩:=h;have hu:=Ej hr;refine⟨_,Ai (Aw (i:=2) Gn.nd rfl (Or.inr rfl) (Ap FW hr rfl Ar (Aa (pv 0) Ad)))
   (Ai (E9 (i:=3) (N:=NBc) (cap:=[none,some 1,some 2]) (CompScope.of (Ak sBarred) NBa rfl rfl rfl (by decide +kernel)) rfl Gn.nd rfl rfl
     (Xh6 (pv 2)) (λ_ _ _=>Av (i:=0) (show NBc.Nodup by decide +kernel) rfl (Or.inl rfl) (Or.inr rfl))
     (λ_ _ _=>Dz (A8 Ck (Ap FO hr rfl Ar (Aa (pv 2) (Aa (pv 1) (Aa (pv 0) Ad)))) Bg (Ba _))) (λ_ _ _=>pv 0))
   (Ai (B9 PassesOwn.never rfl (Fp rfl T.range (Aa (Bb Bo (by rfl) T.len boot_len (Aa (pv 3) Ad)) Ad)) (Av (i:=4) Gn.nd rfl (Or.inl rfl))
    (Al (B9 PassesOwn.never rfl (Bu (C5 C6 (pv 3) (Cu (Am Bt (pv 4) Ah)) Df)) (Av (i:=5) Gn.nd rfl (Or.inl rfl))
     (Al (Bm (A8 Ck (Ap FO hr rfl Ar (Aa (pv 2) (Aa (Ay Bd (pv 3) (pv 4) (λ_ _=>rfl)) (Aa (pv 5) Ad)))) Bg (Ba _)) (Al (A0 Fk)) Bs)))))
   (Al (A0 Fk)))),?_⟩
  refine⟨_,rfl,r,row,rfl,hR,hl,λd kvs H1 nd hd wh s1=>?_⟩;refine⟨_,rfl,d,kvs,rfl,hd,λo=>?_⟩;generalize hH2:upd H1 d (.frz o (.dK kvs))=H2;have s2:Same H H2:=λb u e=>by rw[<-hH2,Ac (Aq e nd)];exact s1 b u e
  have hd2:H2 d=some (.frz o (.dK kvs)):=by rw[<-hH2];exact Ab
  have wh2:Wh H2 kvs row:=⟨wh.keys,λy hy=>let ⟨l,e1,e2⟩:=wh.val y hy; ⟨l,e1,by rw[<-hH2,Ac (λz=>by rw[z,hd] at e2;cases e2)];exact e2⟩,wh.none,wh.nd,wh.len⟩;have hkl:=wh.len;refine El (n:=kvs.length) (λi=>(kvs.map λp=>kV p.1).getD i .non) (λD i σ2 H3=>∃(v:Option V) (ms:List Str), σ2=[v,some (.str x),some (.ref d)]/\Same H2 H3/\H3 D=some (.lst (ms.map V.str))/\(∀m∈ms,m∈row)/\ms.length<=i/\∀(j:Nat) (y:Str),j<i->(kvs.map λp=>kV p.1).getD j .non = .str y->Ax row x y->y∈ms) ?_ ?_ ?_ ?_ ?_
  ·intro D hD;exact⟨none,[],rfl,(Same.refl H2).step hD,Ab,by simp,Li _,λj y h=>absurd h (Mz _)⟩
  ·rintro D i σ2 H3 hD hi ⟨v,ms,rfl,s3,hm,hin,hml,hall⟩;exact E6 (s3 _ _ hd2) hi
  ·rintro D σ2 H3 hD ⟨v,ms,rfl,s3,hm,hin,hml,hall⟩;exact E7 (s3 _ _ hd2)
  ·rintro D i σ2 H3 hD hi ⟨v,ms,rfl,s3,hm,hin,hml,hall⟩;obtain⟨y,hy1,hy2⟩:∃y,(kvs.map λp=>kV p.1).getD i .non = .str y/\y∈row:=by
    obtain⟨y,e1,e2⟩:=wh.keys (kvs[i]'hi).1 (Lz.mpr ⟨kvs[i]'hi,Mj hi,rfl⟩);refine⟨y,?_,e2⟩;simp only[List.getD,L1,Lm hi,Nm,Option.getD_some];rw[e1];rfl
   rw[hy1];obtain⟨l1,e1,g1⟩:=wh2.pl hx (h2 x hx);obtain⟨l2,e2,g2⟩:=wh2.pl hy2 (h2 y hy2);refine⟨_,rfl,_,rfl,_,rfl,d,l1,l2,kvs,x,y,_,_,_,_,rfl,.inr ⟨o,s3 _ _ hd2⟩,e1,e2,s3 _ _ g1,s3 _ _ g2,λH4 s4=>?_⟩;have s24:=s3.trans s4;refine⟨rfl,_,rfl,?_⟩;rw[<-Ey (h2 x hx) (h2 y hy2)];refine A9 (λhc=>?_) (λhc=>wskip hi ⟨_,ms,rfl,s24,s4 _ _ hm,hin,by omega,λj z hj hz kz=>?_⟩);rotate_left
   ·by_cases ej:j=i
    ·subst ej;rw[hy1] at hz;injection hz with hz
     subst hz;exact absurd (by rw[show lieR row x y = "cross" from kz]) (Xdk hc)
    ·exact hall j z (by omega) hz kz
   refine⟨_,rfl,wput hi (s4 _ _ hm) (by rw[Lf,Pr];omega) ⟨_,ms++[y],rfl,?_,by rw[Ab,Lu];rfl,?_,by rw[Lp,Mx];omega,λj z hj hz kz=>?_⟩⟩
   ·intro b u e;rw[Ac (Aq e hD)];exact s24 b u e
   ·intro m hm;rcases Lr.mp hm with z | z
    ·exact hin m z
    ·rw[Lk.mp z];exact hy2
   ·by_cases ej:j=i
    ·subst ej;rw[hy1] at hz;injection hz with hz
     subst hz;simp
    ·exact Nb _ (hall j z (by omega) hz kz)
  ·rintro D σ2 H3 hD ⟨v,ms,rfl,s3,hm,hin,hml,hall⟩;refine⟨_,rfl,D,_,rfl,.inl (SqL.of hm),((ms.map V.str).length:Int),rfl,by omega,by rw[Lf];omega,?_⟩;have hn:((ms.map V.str).length:Int).toNat=ms.length:=by rw[Lf];simp
   rw[hn];refine Fs (lo:=0) (n:=ms.length) (λi σ H4=>∃v1 v2, σ=[some (.ref r),some (.str x),some (.ref d),some (.ref D),v1,v2]/\Same H3 H4/\∀(p q:Nat) (y z:Str),p<i->p<q->ms[p]? = some y->ms[q]? = some z->¬Ax row y z) ?_ ?_ ?_
   ·exact⟨none,none,rfl,Same.refl _,λp q y z h=>absurd h (Mz _)⟩
   ·rintro i σ H4 hi ⟨v1,v2,rfl,s4,ho⟩;refine⟨_,rfl,_,rfl,_,_,rfl,rfl,_,rfl,D,_,rfl,SqL.of (s4 _ _ hm),λp np=>?_⟩;have e0:(0:Int)+(i:Int)+1=((i+1:Nat):Int):=by omega
    rw[e0,F6 _ _ _ (by omega)];have s5:Same H3 (upd H4 p (.lst ((ms.drop (i+1)).map V.str))):=s4.step np;refine⟨p,rfl,⟨_,SqL.of Ab⟩,?_⟩;refine Dv (K:=K) (a:=p) (xs:=(ms.drop (i+1)).map V.str) (λj σ H5=>∃v2, σ=[some (.ref r),some (.str x),some (.ref d),some (.ref D),some (.int (0+(i:Int))),v2]/\Same (upd H4 p (.lst ((ms.drop (i+1)).map V.str))) H5/\∀(q:Nat) (z:Str),q<j->ms[i+1+q]? = some z->¬Ax row (ms[i]'hi) z) ?_ ?_ ?_ ?_
    ·exact⟨_,rfl,Same.refl _,λq z h=>absurd h (Mz _)⟩
    ·rintro j σ H5 _ ⟨v2,rfl,s6,hi2⟩;exact SqL.of (s6 _ _ Ab)
    ·rintro j y σ H5 hj ⟨v2,rfl,s6,hi2⟩;obtain⟨z,rfl,hz,hzj⟩:∃z,y=V.str z/\z∈ms/\ms[i+1+j]? = some z:=by
      rw[L1] at hj;cases q:(ms.drop (i+1))[j]? with
      | none=>rw[q] at hj;cases hj
      | some z=>
       rw[q] at hj;exact⟨z,(L5 hj).symm,Oi (Nk q),by rw[<-q,List.getElem?_drop]⟩
     have s36:=s5.trans s6;have hat:(ms.map V.str)[i]? = some (.str (ms[i]'hi)):=by rw[L1,Lm hi];rfl
     have hat':atI (ms.map V.str) (0+(i:Int))=some (.str (ms[i]'hi)):=by rw[Po];exact Fu hat
     obtain⟨l1,e1,g1⟩:=wh2.pl (hin _ (Mj hi)) (h2 _ (hin _ (Mj hi)));obtain⟨l2,e2,g2⟩:=wh2.pl (hin _ hz) (h2 _ (hin _ hz));have s26:=s3.trans s36;refine⟨_,rfl,_,rfl,_,rfl,D,_,_,_,rfl,rfl,SqL.of (s36 _ _ hm),hat',_,rfl,d,l1,l2,kvs,_,z,_,_,_,_,rfl,.inr ⟨o,s26 _ _ hd2⟩,e1,e2,s26 _ _ g1,s26 _ _ g2,λH6 s7=>?_⟩;refine⟨rfl,_,rfl,?_⟩;rw[<-Ey (h2 _ (hin _ (Mj hi))) (h2 _ (hin _ hz))];refine A9 (λ_=>?_) (λhc=>?_)
     ·exact k true H6 (λe=>by cases e) ((s2.trans s3).trans (s36.trans s7))
     ·refine⟨_,rfl,s6.trans s7,λq u hq hu=>?_⟩;by_cases eq:q=j
      ·subst eq;rw[hzj] at hu;have hu:=L5 hu;subst hu;exact λkz=>absurd (by rw[show lieR row (ms[i]'hi) z = "cross" from kz]) (Xdk hc)
      ·exact hi2 q u (by omega) hu
    ·rintro σ H5 ⟨v2,rfl,s6,hi2⟩;refine⟨_,_,rfl,s5.trans s6,λp q y z hp hpq hy hz=>?_⟩;by_cases ep:p=i
     ·subst ep;rw[Lm hi] at hy;rw[<-L5 hy];refine hi2 (q - (p+1)) z ?_ (by rw[show p+1+(q - (p+1))=q by omega];exact hz);have:=(L9.mp hz).1;rw[Lf,Ol];omega
     ·exact ho p q y z (by omega) hpq hy hz
   ·rintro σ H4 ⟨v1,v2,rfl,s4,ho⟩;refine k false H4 (λ_ y hy z hz k1 k2 k3=>?_) ((s2.trans s3).trans s4);have mem:∀u∈row,Ax row x u->u∈ms:=λu hu ku=>by
     obtain⟨l,e,_⟩:=wh.val u hu;obtain⟨j,hj,ej⟩:=Mv.mp (Fz e);rw[Lf] at hj;refine hall j u hj ?_ ku;rw[N7] at ej;simp only[List.getD,L1,Lm hj,Nm,Option.getD_some];rw[ej];rfl
    obtain⟨p,hp,ep⟩:=Mv.mp (mem y hy k1);obtain⟨q,hq,eq⟩:=Mv.mp (mem z hz k2);have ep':ms[p]? = some y:=by rw[Lm hp,ep]
    have eq':ms[q]? = some z:=by rw[Lm hq,eq]
    rcases Nat.lt_trichotomy p q with h | h | h
    ·exact ho p q y z hp h ep' eq' k3
    ·subst h;rw[ep'] at eq';have e:=L5 eq';subst e;exact D9 (h2 y hy) k3
    ·exact ho q p z y hq h eq' ep' (Cq (h2 y hy) (h2 z hz) k3)
theorem Dt:FnScope NRo ["_law_draw", "_law_names_here"] (Ak sRow):=⟨rfl,rfl,rfl,by decide +kernel,rfl,by decide +kernel,by decide +kernel⟩
theorem Xoo{f:Addr}{fd:FuncData}(F:Fun K "_law_row" "_law_row" sRow f fd)(T:Bl mg)(FP:FnPick P w K mg base)(FPut:Fn P w K mg base CX0 1 "_law_put" ["_law_row_here", "_law_name", "_law_at", "_law_to"] Jz)
  (FB:Fn P w K mg base CX0 2 "_law_barred" ["_law_row_here", "_law_name"] spBarredN):FnOk P w K mg base CX0 3 f fd ["_law_draw", "_law_names_here"] spRowN:=by
 refine F.ok Dt (λvs H Q E h=>?_) (λcdv A outer s H vs Q E hr h=>?_)
 ·obtain⟨dr,sc,nl,ns,rfl,_⟩:=h;rfl
 ·obtain⟨dr,sc,nl,ns,rfl,dk,hN,nnd,hnd,hnl,k⟩:=h;have hr1:Room 1 _:=hr.mono (by decide);have h24:∀m,m<=100000->m<=sizeLine:=λm h=>by rw[Pr];omega
  refine⟨_,Ai (Bm (A8 Ck (Ap FP hr1 rfl Ar (Aa (pv 0) (Aa Ah Ad))) Ah (Ba _))
    (Ai (Aw (i:=2) Dt.nd rfl (Or.inl rfl) (Ap FP hr1 rfl Ar (Aa (pv 0) (Aa (Am Bt (Bb Bo (by rfl) T.len boot_len (Aa (pv 1) Ad)) Ah) Ad))))
    (Al (A0 (Am Cn (Am Cn (pv 1) (Xbq (C5 C6 (pv 1) Df (Cu (pv 2))))) (Xbq (C5 C6 (pv 1) (Cu (pv 2)) Df)))))) Bs)
   (Ai (Aw (i:=3) Dt.nd rfl (Or.inl rfl) (Ct Ad))
   (Ai (B9 PassesOwn.never rfl (Bu (pv 1)) (Av (i:=4) Dt.nd rfl (Or.inl rfl))
    (Ai (Aw (i:=5) Dt.nd rfl (Or.inl rfl) (Ap FP hr1 rfl Ar (Aa (pv 0) (Aa (Am Bt (Bb Bo (by rfl) T.len boot_len (Aa (pv 3) Ad)) Ah) Ad))))
    (Ai (Aw (i:=6) Dt.nd rfl (Or.inl rfl) (Am Bt (pv 5) (Ap FP hr1 rfl Ar (Aa (pv 0) (Aa (Am Xgi (Am Bt (Bb Bo (by rfl) T.len boot_len (Aa (pv 3) Ad)) Ah) (pv 5)) Ad)))))
    (Ai (Aw (i:=7) Dt.nd rfl (Or.inl rfl) (Ap FPut hr1 rfl Ar (Aa (pv 3) (Aa (pv 4) (Aa (pv 5) (Aa (pv 6) Ad))))))
    (Ai (Bm (Fm (Ap FB hr rfl Ar (Aa (pv 7) (Aa (pv 4) Ad))))
     (Al (Aw (i:=7) Dt.nd rfl (Or.inl rfl) (Am Cn (Am Cn (C5 C6 (pv 3) Df (Cu (pv 5))) (Ct (Aa (pv 4) (Aa (pv 4) Ad)))) (C5 C6 (pv 3) (Cu (pv 5)) Df)))) Bs)
    (Al (Aw (i:=3) Dt.nd rfl (Or.inl rfl) (pv 7))))))))
   (Al (A0 (pv 3))))),?_⟩
  refine⟨_,rfl,dr,sc,4,rfl,by decide,by decide,dk,λr1 H1 _ _ d1 b1=>?_⟩;refine⟨rfl,_,rfl,?_⟩;have b1:But dr H H1:=b1;have hN1:=b1 _ _ hN nnd;refine A9 (λ_=>?_) (λ_=>?_)
  ·-- the grid
   refine⟨_,rfl,_,rfl,nl,_,rfl,.inl (SqL.of hN1),_,_,rfl,rfl,dr,sc,_,rfl,by omega,by rw[Lf];omega,d1,λc H2 c0 c1 d2 b2=>?_⟩;obtain⟨c,rfl⟩:=Na c0;rw[Lf] at c1;have hc:c<=ns.length:=by omega
   have b12:=But.trans b1 b2;have hN2:=b2 _ _ hN1 nnd;obtain⟨xs,hdr⟩:=d2.at;refine⟨_,rfl,_,rfl,_,rfl,_,rfl,nl,_,rfl,SqL.of hN2,λp1 n1=>?_⟩;rw[Jo _ _ _ hc];refine⟨p1,_,rfl,SqL.of Ab,λp2 n2=>?_⟩;refine⟨nl,p2,_,_,rfl,rfl,ku (ku hN2 n1) n2,Ab,h24 _ (by simp;omega),λp3 n3=>?_⟩;refine⟨_,rfl,_,rfl,_,rfl,nl,_,rfl,SqL.of (ku (ku (ku hN2 n1) n2) n3),λp4 n4=>?_⟩;rw[F6 _ _ _ hc];refine⟨p4,_,rfl,SqL.of Ab,λp5 n5=>?_⟩;refine⟨p3,p5,_,_,rfl,rfl,ku (ku Ab n4) n5,Ab,h24 _ (by simp;omega),λp6 n6=>?_⟩;have s5:=(((((Same.refl H2).go n1 n2).go n2 n3).go n3 n4).go n4 n5).go n5 n6;have f6:=s5.free n6;have hpm:(ns++(ns.take c).reverse++(ns.drop c).reverse).Perm (ns++ns):=by
    rw[Ng];refine List.Perm.append_left ns ?_;refine((List.reverse_perm _).append (List.reverse_perm _)).trans ?_;rw[Mo]
   refine k p6 (ns++(ns.take c).reverse++(ns.drop c).reverse) _ (b12.free hdr f6) (Ab.trans (by simp)) hpm (noThree_grid hnd c λz hz=>Fc hnd hpm z ?_) (d2.same (s5.step n6)) (b12.same (s5.step n6));exact hpm.mem_iff.mpr (Nb _ hz)
  ·-- dug one by one
   refine⟨by show 0<=sizeLine;decide,λp np=>?_⟩;obtain⟨xs1,hdr1⟩:=d1.at;have s0:Same H1 (upd H1 p (.lst [])):=(Same.refl H1).step np;refine⟨_,rfl,nl,rfl,⟨_,SqL.of (s0 _ _ hN1)⟩,?_⟩;refine Dv (K:=K) (a:=nl) (xs:=ns.map V.str) (λi σ H2=>∃(v2 v4 v5 v6 v7:Option V) (q:Addr) (row:List Str), σ=[some (.ref dr),some (.ref nl),v2,some (.ref q),v4,v5,v6,v7]/\H2 q=some (.lst (row.map V.str))/\H q=none/\q≠dr/\row.Perm (ns.take i++ns.take i)/\Bq row/\DrawOk H2 dr sc/\But dr H H2) ?_ ?_ ?_ ?_
   ·exact⟨_,_,_,_,_,p,[],rfl,Ab,b1.free hdr1 np,(Aq hdr1 np).symm,by simp,Xkm,d1.same s0,b1.same s0⟩
   ·rintro i σ H2 _ ⟨v2,v4,v5,v6,v7,q,row,rfl,hq,nq,nqd,hp,hno,d2,b2⟩;exact SqL.of (b2 _ _ hN nnd)
   ·rintro i y σ H2 hi ⟨v2,v4,v5,v6,v7,q,row,rfl,hq,nq,nqd,hp,hno,d2,b2⟩;have hil:i<ns.length:=by
     have:=(L9.mp hi).1
     rwa [Lf] at this
    obtain⟨x,rfl,hx⟩:∃x,y=V.str x/\ns[i]? = some x:=by
     rw[L1] at hi;cases z:ns[i]? with
     | none=>rw[z] at hi;cases hi
     | some x=>rw[z] at hi;exact⟨x,(L5 hi).symm,rfl⟩
    have tk:ns.take (i+1)=ns.take i++[x]:=by
     rw[Lw hil];rw[Lm hil] at hx;rw[L5 hx]
    have hrl:row.length<=28:=by
     have:=hp.length_eq;rw[Lp,Mc] at this;omega
    have ndT:(ns.take i++[x]).Nodup:=by rw[<-tk];exact hnd.sublist (Nx ..)
    refine⟨_,rfl,_,rfl,q,_,rfl,.inl (SqL.of hq),_,_,rfl,rfl,dr,sc,_,rfl,by omega,by rw[Lf];omega,d2,λa H3 a0 a1 d3 b3=>?_⟩;obtain⟨a,rfl⟩:=Na a0;rw[Lf] at a1;have hq3:=b3 _ _ hq nqd;refine⟨_,rfl,_,rfl,_,rfl,q,_,rfl,.inl (SqL.of hq3),_,_,rfl,rfl,_,rfl,_,_,rfl,rfl,dr,sc,_,rfl,by rw[Lf];omega,by rw[Lf];omega,d3,λc H4 c0 c1 d4 b4=>?_⟩;obtain⟨c,rfl⟩:=Na c0;rw[Lf] at c1;refine⟨_,_,rfl,rfl,?_⟩;have eac:(a:Int)+(c:Int)=((a+c:Nat):Int):=by omega
    dsimp only;rw[eac];have hac:a+c<=row.length:=by omega
    have hq4:=b4 _ _ hq3 nqd;have b24:=But.trans b2 (But.trans b3 b4);obtain⟨xs4,hdr4⟩:=d4.at;refine⟨_,rfl,_,rfl,_,rfl,_,rfl,q,row,x,a,a+c,rfl,hq4,by omega,by omega,hac,λl H5 nl5 hl5 s5=>?_⟩;have d5:=d4.same s5;have b25:=b24.same s5;have nlH:=b24.free hdr4 nl5;have nld:l≠dr:=(Aq hdr4 nl5).symm;have hperm:(D6 row x a (a+c)).Perm ((ns.take i++[x])++(ns.take i++[x])):=Xc8 hp (Xc5 row x a (a+c) (by omega));have hll:(D6 row x a (a+c)).length<=1000:=by
     have:=hperm.length_eq;rw[Lp,Lp,Mc,Mx] at this;omega
    refine⟨_,rfl,_,rfl,l,_,x,rfl,hl5,hll,Fc ndT hperm,hperm.mem_iff.mpr (by simp),λbb H6 hbb s6=>?_⟩;have d6:=d5.same s6;have b26:=b25.same s6;refine⟨bb,rfl,?_⟩;have two0:∀y∈row,row.count y=2:=Fc (hnd.sublist (Nx ..)) hp;refine A9 (λ_=>?_) (λhbf=>?_)
    ·have hq6:=s6 _ _ (s5 _ _ hq4);refine⟨_,rfl,_,rfl,_,rfl,q,_,rfl,SqL.of hq6,λp1 n1=>?_⟩;rw[Jo _ _ _ (by omega)];refine⟨_,rfl,_,rfl,by show 2<=sizeLine;decide,λp2 n2=>?_⟩;refine⟨p1,p2,_,_,rfl,rfl,ku Ab n2,Ab,h24 _ (by simp;omega),λp3 n3=>?_⟩;refine⟨_,rfl,_,rfl,_,rfl,q,_,rfl,SqL.of (ku (ku (ku hq6 n1) n2) n3),λp4 n4=>?_⟩;rw[F6 _ _ _ (by omega)];refine⟨p3,p4,_,_,rfl,rfl,ku Ab n4,Ab,h24 _ (by simp;omega),λp5 n5=>?_⟩;have s4':=((((Same.refl H6).go n1 n2).go n2 n3).go n3 n4).go n4 n5;have f5:=s4'.free n5;obtain⟨xs6,hdr6⟩:=d6.at;have pN:(row.take a++[x,x]++row.drop a).Perm (x::x::row):=by
      have e:row.take a++[x,x]++row.drop a=row.take a++x::x::row.drop a:=by simp
      rw[e];refine N6.trans (List.Perm.cons x (N6.trans (List.Perm.cons x ?_)));rw[Mo]
     have pM:=Xc8 hp pN;have twoN:=Fc ndT pM;refine⟨_,rfl,_,_,_,_,_,p5,row.take a++[x,x]++row.drop a,rfl,Ab.trans (by simp),b26.free hdr6 f5,(Aq hdr6 f5).symm,by rw[tk];exact pM,?_,d6.same (s4'.step n5),b26.same (s4'.step n5)⟩;refine Xdi (x:=x) hno two0 twoN (λy hy=>?_) (λp hp=>Xkp hp) (λy hy z hz ky=>absurd ky (Xko (twoN x (by simp)) (twoN y hy)));have:=pN.mem_iff.mp hy;simp only[Lo] at this;rcases this with h | h | h
     ·exact .inl h
     ·exact .inl h
     ·exact .inr h
    ·refine⟨_,rfl,_,_,_,_,_,l,_,rfl,s6 _ _ hl5,nlH,nld,by rw[tk];exact hperm,?_,d6,b26⟩;refine Xdi (x:=x) hno two0 (Fc ndT hperm) (λy hy=>?_) (λp hp=>Xkn (by omega) hp) (hbb hbf);have:=(Xc5 row x a (a+c) (by omega)).mem_iff.mp hy;simp only[Lo] at this;rcases this with h | h | h
     ·exact .inl h
     ·exact .inl h
     ·exact .inr h
   ·rintro σ H2 ⟨v2,v4,v5,v6,v7,q,row,rfl,hq,nq,nqd,hp,hno,d2,b2⟩;rw[Lf,Mr] at hp;exact⟨_,rfl,k q row H2 nq hq hp hno d2 b2⟩
theorem Ee:FnScope NNa ["_law_draw", "_law_many"] (Ak sNames):=⟨rfl,rfl,rfl,by decide +kernel,rfl,by decide +kernel,by decide +kernel⟩
theorem Xop{f:Addr}{fd:FuncData}(F:Fun K "_law_names" "_law_names" sNames f fd)(T:Bl mg)(FP:FnPick P w K mg base):FnOk P w K mg base CX0 2 f fd ["_law_draw", "_law_many"] J7:=by
 refine F.ok Ee (λvs H Q E h=>?_) (λcdv A outer s H vs Q E hr h=>?_)
 ·obtain⟨dr,sc,n,rfl,_⟩:=h;rfl
 ·obtain⟨dr,sc,n,rfl,hn,dk,k⟩:=h;refine⟨_,Ai (Aw (i:=2) Ee.nd rfl (Or.inl rfl) Bg)
   (Ai (Aw (i:=3) Ee.nd rfl (Or.inl rfl) (Ap FP hr rfl Ar (Aa (pv 0) (Aa Ah Ad))))
   (Ai (Aw (i:=4) Ee.nd rfl (Or.inl rfl) (Ft Ck (Ap FP hr rfl Ar (Aa (pv 0) (Aa Ah Ad))) Ah (Ba _)))
   (Ai (Aw (i:=5) Ee.nd rfl (Or.inl rfl) (Ct Ad))
   (Ai (B9 PassesOwn.never rfl (Fp rfl T.range (Aa (pv 1) Ad)) (Av (i:=6) Ee.nd rfl (Or.inl rfl))
    (Ai (Aw (i:=7) Ee.nd rfl (Or.inl rfl) (Ay Xgx (pv 2) (Am E4 (Am Bt (pv 3) (pv 6)) Ah) (λ_ _=>rfl)))
    (Ai (Aw (i:=8) Ee.nd rfl (Or.inl rfl) (Am Xh2 Bg (Am E4 (Am Bt (pv 3) (Am Gw (pv 6) (pv 6))) Ah)))
    (Al (Fo (Iw PySem.F.plainAttrs_list PySem.F.slot_list_append PySem.F.type_list_append Gx (pv 5)
     (Aa (Hy (Fm (pv 4)) (Am Il (Am Il (pv 8) (pv 7)) Bg) (Am Il (pv 7) (pv 8))) Ad)))))))
   (Al (A0 (pv 5))))))),?_⟩
  refine⟨_,rfl,dr,sc,26,rfl,by decide,by decide,dk,λr1 H1 r10 r11 d1 b1=>?_⟩;refine⟨_,rfl,dr,sc,2,rfl,by decide,by decide,d1,λr2 H2 r20 r21 d2 b2=>?_⟩;refine⟨rfl,?_⟩;refine⟨by show 0<=sizeLine;decide,λl nl=>?_⟩;obtain⟨st,rfl⟩:=Na r10;have hst:st<26:=by omega
  generalize hlt:decide (V.int r2=V.int 1)=late;have b12:But dr H H2:=But.trans b1 b2;obtain⟨xs,hdr⟩:=d2.at;have nlH:H l=none:=b12.free hdr nl;obtain⟨nld,nls⟩:=d2.ne nl;refine⟨_,rfl,(n:Int),rfl,by omega,by omega,?_⟩;rw[Og];refine Fs (lo:=0) (n:=n) (λi σ H3=>∃v1 v2 v3, σ=[some (.ref dr),some (.int n),some (.str Ev),some (.int st),some (.bl late),some (.ref l),v1,v2,v3]/\H3 l=some (.lst ((Bc st late i).map V.str))/\DrawOk H3 dr sc/\But dr H H3) ?_ ?_ ?_
  ·exact⟨none,none,none,rfl,Ab,d2.upd nld nls,b12.upd nlH⟩
  ·rintro i σ H3 hi ⟨v1,v2,v3,rfl,hl3,d3,b3⟩;have e26:((st:Int)+(0+(i:Int))) % 26=(((st+i) % 26:Nat):Int):=by omega
   have h26:(st+i) % 26<26:=Pk _ (by decide);have eii:((0:Int)+(i:Int)) * (0+(i:Int))=((i * i:Nat):Int):=by rw[Po];exact(Int.natCast_mul i i).symm
   have h7:(st+i * i) % 7<7:=Pk _ (by decide);have e7:((st:Int)+((i * i:Nat):Int)) % 7=(((st+i * i) % 7:Nat):Int):=by
    generalize i * i=j;omega
   refine⟨_,rfl,_,rfl,_,rfl,_,_,rfl,rfl,_,_,rfl,rfl,(by show (0:Int)<26;decide),_,_,_,rfl,rfl,(by show 26<=sizeLine;decide),by rw[e26];exact Xjz h26,?_⟩;refine⟨_,rfl,_,rfl,_,rfl,_,_,rfl,rfl,.inl ⟨by omega,by omega⟩,_,_,rfl,rfl,_,_,rfl,rfl,(by show (0:Int)<7;decide),?_⟩;have e77:((st:Int)+((0:Int)+(i:Int)) * (0+(i:Int))) % 7=(((st+i * i) % 7:Nat):Int):=by rw[eii,e7]
   refine⟨_,_,rfl,rfl,by rw[e77];omega,by rw[e77];omega,by show 1<=1000;decide,?_⟩;rw[e77,Og];have hrl:(repS "m" ((st+i * i) % 7)).length<=6:=by
    rw[Je];have:(Str.ofString "m").length=1:=rfl;rw[this];omega
   have hsl:(signOf ((st+i) % 26)).length=1:=rfl;have hnl:(Bc st late i).length=i:=by unfold Bc;simp
   have hsnoc:Bc st late (i+1)=Bc st late i++[Gf st late i]:=by unfold Bc;rw[Mg,Lu];rfl
   have h24:∀m,m<=100000->m<=sizeLine:=λm h=>by rw[Pr];omega
   have fin:∀z:Str,Gf st late i=z->Xa5 (.ref l) [.str z] H3 λ_ H4=>∃v1 v2 v3,[some (V.ref dr),some (.int n),some (.str Ev),some (.int st),some (.bl late),some (.ref l),some (.int (0+(i:Int))),some (.str (signOf ((st+i) % 26))),some (.str (repS "m" ((st+i * i) % 7)))]=[some (.ref dr),some (.int n),some (.str Ev),some (.int st),some (.bl late),some (.ref l),v1,v2,v3]/\H4 l=some (.lst ((Bc st late (i+1)).map V.str))/\DrawOk H4 dr sc/\But dr H H4:=λz hz=>by
    refine⟨l,_,_,rfl,rfl,hl3,by rw[Lf,hnl,Pr];omega,_,_,_,rfl,?_,d3.upd nld nls,b3.upd nlH⟩;rw[Ab,hsnoc,Lu,<-hz];rfl
   refine⟨_,rfl,.inl ⟨rfl,_,SqL.of hl3⟩,_,rfl,late,rfl,?_⟩;refine A9 (λhL=>?_) (λhL=>?_)
   ·refine⟨_,rfl,_,rfl,_,_,rfl,rfl,h24 _ (by show (repS "m" ((st+i * i) % 7)).length+1<=100000;omega),_,_,rfl,rfl,h24 _ ?_,fin _ (by unfold Gf;rw[Pt hL];rfl)⟩;rw[Ek];show (repS "m" ((st+i * i) % 7)).length+1+1<=100000;omega
   ·exact⟨_,rfl,_,rfl,_,_,rfl,rfl,h24 _ (by show 1+(repS "m" ((st+i * i) % 7)).length<=100000;omega),fin _ (by unfold Gf;rw[Ps (by rw[hL];decide)];rfl)⟩
  ·rintro σ H3 ⟨v1,v2,v3,rfl,hl3,d3,b3⟩;exact⟨_,rfl,k l st late H3 nlH hst hl3 nls d3 b3⟩
theorem Ld:FnScope NIs ["_law_draw", "_law_most"] (Ak sIsland):=⟨rfl,rfl,rfl,by decide +kernel,rfl,by decide +kernel,by decide +kernel⟩
theorem Xoq{f:Addr}{fd:FuncData}(F:Fun K "_law_island" "_law_island" sIsland f fd)(T:Bl mg)(FP:FnPick P w K mg base)(FN:Fn P w K mg base CX0 2 "_law_names" ["_law_draw", "_law_many"] J7)
  (FR:Fn P w K mg base CX0 3 "_law_row" ["_law_draw", "_law_names_here"] spRowN):FnOk P w K mg base CX0 4 f fd ["_law_draw", "_law_most"] spIslandN:=by
 refine F.ok Ld (λvs H Q E h=>?_) (λcdv A outer s H vs Q E hr h=>?_)
 ·obtain⟨dr,sc,m,rfl,_⟩:=h;rfl
 ·obtain⟨dr,sc,m,rfl,hm,dk,k⟩:=h;have hr1:Room 1 _:=hr.mono (by decide);have hr2:Room 2 _:=hr.mono (by decide);refine⟨_,Ai (Aw (i:=2) Ld.nd rfl (Or.inl rfl) (Am Bt Ah (Ap FP hr1 rfl Ar (Aa (pv 0) (Aa Ah Ad)))))
   (Ai (Aw (i:=3) Ld.nd rfl (Or.inl rfl) (Ay Iv (B5 (Aa (Ap FP hr1 rfl Ar (Aa (pv 0) (Aa Ah Ad))) (Aa (pv 2) (Aa (Ap FP hr1 rfl Ar (Aa (pv 0) (Aa (Am Bt (pv 1) Ah) Ad))) Ad))))
    (Ap FP hr1 rfl Ar (Aa (pv 0) (Aa Ah Ad))) (λ_ _=>rfl)))
   (Al (A0 (Ap FR hr rfl Ar (Aa (pv 0) (Aa (Ap FN hr2 rfl Ar (Aa (pv 0) (Aa (Bb (Xgn rfl) (by rfl) T.min boot_min (Aa (pv 3) (Aa (pv 1) Ad))) Ad))) Ad)))))),?_⟩
  refine⟨_,rfl,dr,sc,5,rfl,by decide,by decide,dk,λr1 H1 r10 _ d1 b1=>⟨_,_,rfl,rfl,?_⟩⟩;refine⟨_,rfl,dr,sc,5,rfl,by decide,by decide,d1,λr2 H2 r20 _ d2 b2=>?_⟩;refine⟨_,rfl,_,rfl,_,rfl,_,_,rfl,rfl,dr,sc,_,rfl,by omega,by omega,d2,λr3 H3 r30 _ d3 b3=>?_⟩;have b1:But dr H H1:=b1;have b13:But dr H H3:=But.trans b1 (But.trans b2 b3);refine⟨by show 3<=sizeLine;decide,λp np=>?_⟩;obtain⟨ne1,ne2⟩:=d3.ne np;obtain⟨xs3,hdr3⟩:=d3.at;have npH:=b13.free hdr3 np;refine⟨_,rfl,dr,sc,3,rfl,by decide,by decide,d3.upd ne1 ne2,λr4 H4 r40 r41 d4 b4=>?_⟩;have b4:But dr (L2.upd H3 p (.tup [.int r2,.int (2+r1),.int r3])) H4:=b4;have hp4:=b4 p _ Ab ne1;have b14:But dr H H4:=But.trans (b13.upd npH) b4;obtain⟨mm,hmm0,hmm⟩:∃mm:Int,0<=mm/\atI ([.int r2,.int (2+r1),.int r3]:List V) r4=some (.int mm):=by
   obtain⟨i,rfl⟩:=Na r40;have hi:i<3:=by omega
   match i,hi with
   | 0,_=>exact⟨r2,r20,rfl⟩
   | 1,_=>exact⟨2+r1,by omega,rfl⟩
   | 2,_=>exact⟨r3,r30,rfl⟩
  refine⟨p,_,_,_,rfl,rfl,SqT.of hp4,hmm,?_⟩;obtain⟨n,hn,hnm⟩:∃n:Nat,(if (m:Int)<mm then (m:Int) else mm)=(n:Int)/\n<=m:=by
   obtain⟨j,rfl⟩:=Na hmm0;by_cases hj:(m:Int)<(j:Int)
   ·exact⟨m,Pt hj,Li _⟩
   ·exact⟨j,Ps hj,by omega⟩
  refine⟨_,rfl,_,rfl,_,rfl,_,rfl,_,_,rfl,?_⟩;rw[hn];refine⟨dr,sc,n,rfl,by omega,d4,λl st late H5 nl hst hl5 nls d5 b5=>?_⟩;obtain⟨xs4,hdr4⟩:=d4.at;have nld:l≠dr:=(Aq hdr4 nl).symm;have b15:=But.trans b14 b5;refine⟨dr,sc,l,_,rfl,d5,hl5,nld,J6 hst (by omega),by unfold Bc;simp;omega,λl2 row H6 nl2 hl6 hp hno d6 b6=>?_⟩;obtain⟨xs5,hdr5⟩:=d5.at;exact k l2 row n st late H6 (b15.free hdr5 nl2) hnm hst hl6 hp hno d6 (But.trans b15 b6)
abbrev NCr:List Str:=["_law_row_here", "_law_where_here", "_law_names_here", "_law_told", "_law_at", "_law_other"]
theorem Fj:FnScope NCr ["_law_row_here"] (Ak s__law_crossed):=⟨rfl,rfl,rfl,by decide +kernel,rfl,by decide +kernel,by decide +kernel⟩
theorem Xor{f:Addr}{fd:FuncData}(F:Fun K "_law_crossed" "_law_crossed" s__law_crossed f fd)(T:Bl mg)(FW:Fn P w K mg base CX0 1 "_law_where" ["_law_row_here"] Ge)
  (FO:Fn P w K mg base CX0 1 "_law_word" ["_law_where_here", "_law_one", "_law_other"] spWord):FnOk P w K mg base CX0 2 f fd ["_law_row_here"] Fe:=by
 refine F.ok Fj (λvs H Q E h=>?_) (λcdv A outer s H vs Q E hr h=>?_)
 ·obtain⟨r,row,rfl,_⟩:=h;rfl
 ·obtain⟨r,row,rfl,hR,R2,k⟩:=h;refine⟨_,Ai (Aw (i:=1) Fj.nd rfl (Or.inl rfl) (Ap FW hr (by rfl) Ar (Aa (pv 0) Ad)))
   (Ai (Aw (i:=2) Fj.nd rfl (Or.inl rfl) (Bb (Xcc rfl) (by rfl) T.sorted (by rfl) (Aa (pv 1) Ad)))
   (Ai (Aw (i:=3) Fj.nd rfl (Or.inl rfl) (Ct Ad))
   (Ai (B9 PassesOwn.never rfl (Fp rfl T.range (Aa (Bb Bo (by rfl) T.len boot_len (Aa (pv 2) Ad)) Ad)) (Av (i:=4) Fj.nd rfl (Or.inl rfl))
    (Al (B9 PassesOwn.never rfl (Bu (C5 C6 (pv 2) (Cu (Am Bt (pv 4) Ah)) Df)) (Av (i:=5) Fj.nd rfl (Or.inl rfl))
     (Al (Bm (A8 Ck (Ap FO hr (by rfl) Ar (Aa (pv 1) (Aa (Ay Bd (pv 2) (pv 4) (λ_ _=>rfl)) (Aa (pv 5) Ad)))) Bg (Ba _))
      (Al (Fo (Iw PySem.F.plainAttrs_list PySem.F.slot_list_append PySem.F.type_list_append Gx (pv 3) (Aa (B5 (Aa (Ay Bd (pv 2) (pv 4) (λ_ _=>rfl)) (Aa (pv 5) Ad))) Ad)))) Bs)))))
   (Al (A0 (pv 3)))))),?_⟩
  have hrl:=R2.len;have hdl:=F4 row;have two:=R2.two;refine⟨_,rfl,r,row,rfl,hR,by omega,λd kvs H1 nd hd wh s1=>?_⟩;obtain⟨ss,hss,hsn,hsm⟩:=wh.names;have hsl:ss.length<=60:=by
   have h1:=congrArg List.length hss;rw[Lf,Lf] at h1;have:=wh.len;omega
  refine⟨_,rfl,d,kvs,ss,rfl,.inl hd,hss,Pe hsl (by decide),λsn ls nsn hp1 hs1=>?_⟩;rw[Xch hp1 hs1 hsn hsm];have s2:Same H1 (upd H1 sn (.lst ((dit row).map V.str))):=(Same.refl H1).step nsn;have hsn2:upd H1 sn (.lst ((dit row).map V.str)) sn=some (.lst ((dit row).map V.str)):=Ab;dsimp only[A6];generalize upd H1 sn (.lst ((dit row).map V.str))=H2 at s2 hsn2;refine⟨by show 0<=sizeLine;decide,λu nu=>?_⟩;have s3:Same H2 (upd H2 u (.lst [])):=(Same.refl H2).step nu;have hu3:upd H2 u (.lst []) u=some (.lst []):=Ab;have nsu:sn≠u:=Aq hsn2 nu;dsimp only[A6];generalize upd H2 u (.lst [])=H3 at s3 hu3;have s23:=s2.trans s3;have hsn3:=s3 _ _ hsn2;have base3:∀b o,H1 b=some o->hid u H3 b=some o:=λb o e=>B4 (s23 _ _ e) (Aq (s2 _ _ e) nu);refine⟨_,rfl,sn,_,rfl,.inl (SqL.of hsn3),(((dit row).map V.str).length:Int),rfl,by omega,by rw[Lf];omega,?_⟩;have hn:(((dit row).map V.str).length:Int).toNat=(dit row).length:=by rw[Lf];simp
  rw[hn];refine Fs (lo:=0) (n:=(dit row).length) (λi σ H4=>∃v4 v5, σ=[some (.ref r),some (.ref d),some (.ref sn),some (.ref u),v4,v5]/\Same (hid u H3) H4/\∃xs,H4 u=some (.lst xs)/\DAll (hid u H4) ((Ds row i).map prD) xs) ?_ ?_ ?_
  ·exact⟨none,none,rfl,Eu u H3,[],hu3,C1⟩
  ·rintro i σ H4 hi ⟨v4,v5,rfl,s4,xs,hu4,hal⟩;have hx1:(dit row)[i]? = some ((dit row)[i]'hi):=Lm hi;have hxm:(dit row)[i]'hi∈row:=Ag.mp (Mj hi);generalize hxe:(dit row)[i]'hi=x at hx1 hxm;have hat:atI ((dit row).map V.str) (0+(i:Int))=some (.str x):=by
    rw[Po];exact Fu (by rw[L1,hx1];rfl)
   have hsn4:=s4 _ _ (B4 hsn3 nsu);refine⟨_,rfl,_,rfl,_,_,rfl,rfl,_,rfl,sn,_,rfl,SqL.of hsn4,λc nc=>?_⟩;have e0:(0:Int)+(i:Int)+1=((i+1:Nat):Int):=by omega
   rw[e0,F6 _ _ _ (by omega)];have s5:Same H4 (upd H4 c (.lst (((dit row).drop (i+1)).map V.str))):=(Same.refl H4).step nc;have hc5:upd H4 c (.lst (((dit row).drop (i+1)).map V.str)) c=some (.lst (((dit row).drop (i+1)).map V.str)):=Ab;have ncu:c≠u:=(Aq hu4 nc).symm;generalize upd H4 c (.lst (((dit row).drop (i+1)).map V.str))=H5 at s5 hc5;have hal5:=DAll.same (Gc (D:=u) s5) _ _ hal;have hu5:=s5 _ _ hu4;have b5:=s4.trans s5;refine⟨c,rfl,⟨_,SqL.of hc5⟩,?_⟩;refine Dv (K:=K) (a:=c) (xs:=((dit row).drop (i+1)).map V.str) (λj σ H6=>∃v5, σ=[some (.ref r),some (.ref d),some (.ref sn),some (.ref u),some (.int (0+(i:Int))),v5]/\Same (hid u H5) H6/\∃xs,H6 u=some (.lst xs)/\DAll (hid u H6) ((Ds row i++Cs row x (((dit row).drop (i+1)).take j)).map prD) xs) ?_ ?_ ?_ ?_
   ·exact⟨v5,rfl,Eu u H5,xs,hu5,by simpa [Cs] using hal5⟩
   ·rintro j σ H6 _ ⟨v5,rfl,s6,_⟩;exact SqL.of (s6 _ _ (B4 hc5 ncu))
   ·rintro j z σ H6 hj ⟨v5,rfl,s6,xs,hu6,hal6⟩;obtain⟨y,rfl,hy1⟩:=Xnl hj;have hyd:y∈(dit row).drop (i+1):=Nk hy1;have hyr:y∈row:=Ag.mp (Oi hyd);have bb:∀b o,H1 b=some o->H6 b=some o:=λb o e=>s6 _ _ (B4 (b5 _ _ (base3 b o e)) (Aq (s2 _ _ e) nu));have hsn6:=s6 _ _ (B4 (s5 _ _ hsn4) nsu);obtain⟨l1,e1,g1⟩:=wh.pl hxm (two x hxm);obtain⟨l2,e2,g2⟩:=wh.pl hyr (two y hyr);refine⟨_,rfl,_,rfl,_,rfl,sn,_,_,_,rfl,rfl,SqL.of hsn6,hat,_,rfl,?_⟩;dsimp only[Ip,O3,N1];refine⟨d,l1,l2,kvs,x,y,_,_,_,_,rfl,.inl (bb _ _ hd),e1,e2,bb _ _ g1,bb _ _ g2,λH7 s7=>?_⟩;rw[<-Ey (two x hxm) (two y hyr)];refine⟨rfl,_,rfl,?_⟩;rw[He];have hu7:=s7 _ _ hu6;have hal7:=DAll.same (Gc (D:=u) s7) _ _ hal6;have b7:=s6.trans s7;have htk:((dit row).drop (i+1)).take (j+1)=((dit row).drop (i+1)).take j++[y]:=by
     rw[List.take_succ,hy1];rfl
    refine A9 (λq=>?_) (λq=>?_)
    ·have hxl:xs.length<=5000:=by
      rw[Ga hal7,Lf,Lp];have h1:=Xnk row i;have h2:(Cs row x (((dit row).drop (i+1)).take j)).length<=60:=by
       unfold Cs;rw[Lf];refine Mh (Ms ..) ?_;rw[Mc,Ol];omega
      have h3:i * (dit row).length<=60 * 60:=Nat.mul_le_mul (by omega) (by omega);omega
     refine⟨_,rfl,.inl ⟨rfl,_,SqL.of hu7⟩,_,rfl,_,rfl,sn,_,_,_,rfl,rfl,SqL.of (s7 _ _ hsn6),hat,_,rfl,by show 2<=sizeLine;decide,λp np=>?_⟩;refine⟨u,_,_,rfl,rfl,ku hu7 np,by rw[Pr];omega,?_⟩;refine⟨_,rfl,?_,xs++[.ref p],Ab,?_⟩
     ·intro b o e;have nb:b≠u:=λz=>by rw[z] at e;unfold hid at e;rw[Pt rfl] at e;cases e
      rw[Ac nb,Ac (Aq (b7 _ _ e) np)];exact b7 _ _ e
     ·have hq:Cs row x (((dit row).drop (i+1)).take (j+1))=Cs row x (((dit row).drop (i+1)).take j)++[(x,y)]:=by
       unfold Cs;rw[htk,Lx,Lu];congr 1;rw[List.filter_cons_of_pos (by simpa using q)];rfl
      rw[Xcz,hq,<-Ng,Lu];refine Js (DAll.same (Gc (D:=u) ((Same.refl H7).step np)) _ _ hal7) ?_;exact Xc0 hu7 np (Jt [x,y])
    ·refine⟨_,rfl,b7,xs,hu7,?_⟩;have hq:Cs row x (((dit row).drop (i+1)).take (j+1))=Cs row x (((dit row).drop (i+1)).take j):=by
      unfold Cs;rw[htk,Lx,List.filter_cons_of_neg (by simpa using q)];simp
     rw[hq];exact hal7
   ·rintro σ H6 ⟨v5,rfl,s6,xs,hu6,hal6⟩;rw[Lf,Mr] at hal6;refine⟨_,_,rfl,λb o e=>?_,xs,hu6,?_⟩
    ·have nb:b≠u:=λz=>by rw[z] at e;unfold hid at e;rw[Pt rfl] at e;cases e
     exact s6 _ _ (B4 (b5 _ _ e) nb)
    ·rw[Xnj row hi,hxe];exact hal6
  ·rintro σ H4 ⟨v4,v5,rfl,s4,xs,hu4,hal⟩;rw[Xnh] at hal;exact⟨_,rfl,k u xs H4 (s1.free (s2.free nu)) hu4 hal (λb o e=>s4 _ _ (base3 _ _ (s1 _ _ e)))⟩
end
end K14
set_option maxHeartbeats 8000000
namespace K14
open PySem PySem.Spec PyProof.Rows L2 SH
def Ht (K:PySem.W.Frag) (T:Addr):Sp:=λvs H Q _=>∃(a:Addr) (ns:List Int),vs=[.ref a]/\SqL K H a (ns.map V.int)/\ns.length<=63/\H T=some (.tbl #[])/\∀H',Q (.bl true) H'
theorem get2{H0 H:Hp}{by_:Addr}{row:List Str}{Ts:List (List Str)}(h:ByAt H0 by_ row Ts)(s:Same H0 H)(nd:Ts.Nodup){S:List Str}(hS:S∈Ts){b:Addr}(hb:H b=some (.tup (S.map V.str))):
  ∃(D:Addr) (qs:List Addr),DGet H by_ (.ref b) (some (.ref D))/\H0 D=some (.lst (qs.map V.ref))/\Nbs H0 qs (nbL row S)/\qs.length<=14:=by
 obtain⟨ds,h1,h2⟩:=h.ex;obtain⟨i,hi,rfl⟩:=Mv.mp hS;obtain⟨qs,a,b2,c⟩:=h2 i hi;have e:Ts.getD i []=Ts[i]:=by simp[List.getD,hi]
 rw[e] at b2;refine⟨ds.getD i 0,qs,.inr ⟨_,kOf Ts[i],b,.inl (s _ _ h1),rfl,by rw[Xe5];exact hb,?_⟩,a,b2,c⟩;have:=Xfe (i:=i) (q:=(kOf Ts[i],V.ref (ds.getD i 0))) (Xff nd ds) (by unfold kvB;rw[L1,Oo hi];simp[List.getD,hi]);exact this.symm
section
variable {P:Program}{w:World}{K:PySem.W.Frag}{mg:Str->Option Value}{base:Heap}
theorem Bk:FnScope NL4 ["_law_script"] (Ak s_law):=⟨rfl,rfl,rfl,by decide +kernel,rfl,by decide +kernel,by decide +kernel⟩
theorem Xos{f T:Addr}{fd:FuncData}(F:Fun K "law" "law" s_law f fd)(B:Bl mg)(FB:Fn P w K mg base CX0 1 "_law_begin" ["_law_script"] (Jy K))
  (FI:Fn P w K mg base CX0 4 "_law_island" ["_law_draw", "_law_most"] spIslandN) (FPl:Fn P w K mg base CX0 5 "plots" ["row"] (spPlotsA T (lamPos s_in_order)))
  (FN:Fn P w K mg base (CX1 P w) 6 "neighbours" ["row", "plot"] (spNbs T (lamPos s_in_order))) (FWh:Fn P w K mg base CX0 1 "_law_where" ["_law_row_here"] Ge)
  (FO:Fn P w K mg base CX0 1 "_law_word" ["_law_where_here", "_law_one", "_law_other"] spWord) (FCd:Fn P w K mg base CX0 2 "_law_crossed" ["_law_row_here"] Fe):
  FnOk P w K mg base CX0 8 f fd ["_law_script"] (Ht K T):=by
 refine F.ok Bk (λvs H Q E h=>?_) (λcdv A outer s H vs Q E hr h=>?_)
 ·obtain⟨a,ns,rfl,_⟩:=h;rfl
 ·obtain⟨a,ns,rfl,hS,hlen,hTb,k⟩:=h;have hu:=Ej hr;have hr1:Room 1 _:=hr.mono (by decide);have hr2:Room 2 _:=hr.mono (by decide);have hr4:Room 4 _:=hr.mono (by decide);have hr5:Room 5 _:=hr.mono (by decide);have hr6:Room 6 _:=hr.mono (by decide);refine⟨_,Ai (Aw (i:=1) Bk.nd rfl (Or.inl rfl) (Ap FB hr1 (by rfl) Ar (Aa (pv 0) Ad)))
   (Ai (Aw (i:=2) Bk.nd rfl (Or.inr rfl) (Ap FI hr4 (by rfl) Ar (Aa (pv 1) (Aa Ah Ad))))
   (Ai (Aw (i:=3) Bk.nd rfl (Or.inr rfl) (Ap FWh hr1 (by rfl) Ar (Aa (pv 2) Ad)))
   (Ai (E9 (i:=4) (N:=NL4a) (cap:=[none,some 2]) (CompScope.of (Ak s_law) NL4 rfl rfl rfl (by decide +kernel)) rfl Bk.nd rfl rfl (Bu (Ap FPl hr5 (by rfl) Ar (Aa (pv 2) Ad))) (λ_ _ _=>Av (i:=0) (show NL4a.Nodup by decide +kernel) rfl (Or.inl rfl) (Or.inr rfl)) (λ_ _ _=>Cy) (λ_ _ _=>B5 (Aa (pv 0) (Aa (Ap (by exact FN) (by exact hr6) (by rfl) Xck (Aa (pv 1) (Aa (pv 0) Ad))) Ad))))
   (Ai (Aw (i:=5) Bk.nd rfl (Or.inl rfl) (C4 (Xmy rfl (hu3 hr)) (by rfl) B.dict (by rfl) (Aa (pv 4) Ad)))
   (Ai (B9 PassesOwn.never rfl (Bu (pv 4)) (D1 K 2 rfl rfl (Bn (Av (i:=6) Bk.nd rfl (Or.inl rfl)) (Bn (Av (i:=7) Bk.nd rfl (Or.inl rfl)) De)))
     (Al (B9 PassesOwn.never rfl (Bu (pv 7)) (D1 K 2 rfl rfl (Bn (Av (i:=8) Bk.nd rfl (Or.inr rfl)) (Bn (Av (i:=9) Bk.nd rfl (Or.inl rfl)) De)))
     (Al (Bm (Hv (Xaf (Xbe hu (pv 9) (pv 5)) (by rfl)) (Hu (A8 (Xds (hu4 hr)) (B5 (Aa (pv 8) (Aa (pv 6) Ad))) (B2 hu (pv 5) (pv 9) (λ_ _=>rfl)) (by rfl)))).pt (Al (A0 Fk)) Bs)))))
   (Ai (B9 PassesOwn.never rfl (Bu (Bb (Xcc rfl) (by rfl) B.sorted (by rfl) (Aa (pv 3) Ad))) (Av (i:=8) Bk.nd rfl (Or.inr rfl))
     (Ai (E9 (i:=10) (N:=NL4b) (cap:=[none,some 8,some 3]) (CompScope.of (Ak s_law) NL4 rfl rfl rfl (by decide +kernel)) rfl Bk.nd rfl rfl (Et (pv 3)) (λ_ _ _=>Av (i:=0) (show NL4b.Nodup by decide +kernel) rfl (Or.inl rfl) (Or.inr rfl)) (λ_ _ _=>Dz (A8 Ck (Ap (by exact FO) (by exact hr1) (by rfl) Ar (Aa (pv 2) (Aa (pv 1) (Aa (pv 0) Ad)))) Bg (Ba _))) (λ_ _ _=>pv 0))
     (Ai (Aw (i:=11) Bk.nd rfl (Or.inl rfl) (Bb Bo (by rfl) B.len boot_len (Aa (F9 (N:=NL4c) (cap:=[none,none,some 8]) (CompScope.of (Ak s_law) NL4 rfl rfl rfl (by decide +kernel)) rfl (Bu (pv 4)) (λ_ _ _=>D1 K 2 rfl rfl (Bn (Av (i:=0) (show NL4c.Nodup by decide +kernel) rfl (Or.inl rfl) (Or.inr rfl)) (Bn (Av (i:=1) (show NL4c.Nodup by decide +kernel) rfl (Or.inl rfl) (Or.inr rfl)) De))) (λ_ _ _=>Dz (Xaf (Xhe (by exact hu) (pv 2) (C4 (Xmv rfl) (by rfl) B.dict (by rfl) (Aa (pv 1) Ad))) (by rfl))) (λ_ _ _=>pv 0)) Ad)))
     (Al (Bm (A8 Ii (pv 11) (Am Gw Ah (Am Bt Ah (Bb Bo (by rfl) B.len boot_len (Aa (pv 10) Ad)))) (Ba _)) (Al (A0 Fk)) Bs)))))
   (Ai (Aw (i:=12) Bk.nd rfl (Or.inl rfl) (Ct (Aa (B5 Ad) Ad)))
   (Ai (B9 PassesOwn.never rfl (Fp rfl B.range (Aa (Am Ig (Bb Bo (by rfl) B.len boot_len (Aa (pv 2) Ad)) Ah) Ad)) (Av (i:=13) Bk.nd rfl (Or.inl rfl))
     (Al (B9 PassesOwn.never rfl (Bu (C4 Xa3 (by rfl) B.list (by rfl) (Aa (pv 12) Ad))) (Av (i:=6) Bk.nd rfl (Or.inl rfl))
     (Al (B9 PassesOwn.never rfl (Bu (B2 hu (pv 5) (pv 6) (λ_ _=>rfl))) (D1 K 2 rfl rfl (Bn (Av (i:=8) Bk.nd rfl (Or.inr rfl)) (Bn (Av (i:=9) Bk.nd rfl (Or.inl rfl)) De)))
     (Al (Bm (A8 (Xds (hu4 hr)) (pv 9) (pv 12) (by rfl)) (Al (Fo (Iw PySem.F.plainAttrs_list PySem.F.slot_list_append PySem.F.type_list_append Gx (pv 12) (Aa (pv 9) Ad)))) Bs)))))))
   (Ai (Aw (i:=14) Bk.nd rfl (Or.inl rfl) (Bb (Xml rfl) (by rfl) B.sum (by rfl) (Aa (F9 (N:=NL4d) (cap:=[none,none]) (CompScope.of (Ak s_law) NL4 rfl rfl rfl (by decide +kernel)) rfl (Bu (pv 4)) (λ_ _ _=>D1 K 2 rfl rfl (Bn (Av (i:=0) (show NL4d.Nodup by decide +kernel) rfl (Or.inl rfl) (Or.inr rfl)) (Bn (Av (i:=1) (show NL4d.Nodup by decide +kernel) rfl (Or.inl rfl) (Or.inr rfl)) De))) (λ_ _ _=>Cy) (λ_ _ _=>(Bb (Xi6 K (by rfl)) (by rfl) B.len boot_len (Aa (pv 1) Ad)))) Ad)))
   (Ai (Aw (i:=15) Bk.nd rfl (Or.inl rfl) (Ap FCd hr2 (by rfl) Ar (Aa (pv 2) Ad)))
   (Al (A0 (Xf5 (Ft Ck (Bb Bo (by rfl) B.len boot_len (Aa (pv 12) Ad)) (Bb Bo (by rfl) B.len boot_len (Aa (pv 4) Ad)) (Ba _)) (Xag (Ft Ck (pv 14) (Am Bt (Bb Bo (by rfl) B.len boot_len (Aa (pv 2) Ad)) (Am Gw Ah (Bb Bo (by rfl) B.len boot_len (Aa (pv 15) Ad)))) (Ba _)))))))))))))))),?_⟩
  have nT:∀{H':Hp} {b:Addr} {o:HO},Ao T (lamPos s_in_order) qIn H'->H' b=some o->(∀z,o ≠ .tbl z)->b≠T:=λtb e n z=>by
   rcases tb with q | ⟨_,q,_⟩<;>(rw[z,q] at e;cases e;exact n _ rfl)
  have frT:∀{H' H'':Hp} {b:Addr},Ao T (lamPos s_in_order) qIn H''->But T H' H''->H'' b=none->H' b=none:=λ{H' H'' b} t' b' e=>by
   cases q:H' b with
   | none=>rfl
   | some o=>
    by_cases z:b=T
    ·rcases t' with t | ⟨_,t,_⟩<;>(rw[<-z,e] at t;cases t)
    ·rw[b' _ _ q z] at e;cases e
  refine⟨_,rfl,a,ns,rfl,hS,hlen,λdr sc H1 ndr nsc d1 s1=>?_⟩;have tab1:Ao T (lamPos s_in_order) qIn H1:=.inl (s1 _ _ hTb);refine⟨_,rfl,dr,sc,10,rfl,by decide,d1,λr row n st late H2 nr hn hst hR hp hno d2 b2=>?_⟩;have tab2:Ao T (lamPos s_in_order) qIn H2:=by
   obtain⟨xs1,h1⟩:=d1.at;exact SH.Ao.but tab1 h1 b2
  have hI:Isl row:=⟨n,st,late,by omega,hst,hp⟩;have R2:=hI.row2;have hrl:=R2.len;have nl0:(Bc st late n).length=n:=by unfold Bc;rw[Lf,Mp]
  have hdn:(dit row).length=n:=by
   have hp':(dit row).Perm (Bc st late n):=F5 (Cz row) (J6 hst (by omega)) λx=>by
    rw[Ag,hp.mem_iff,Lr,or_self]
   rw[hp'.length_eq,nl0]
  have hrow:row.length=2 * (dit row).length:=by
   rw[hp.length_eq,Lp,nl0,hdn];omega
  have h13:(dit row).length<=13:=by omega
  refine⟨_,rfl,r,row,rfl,hR,by omega,λwh kvs Hw nwh hwh whw sw=>?_⟩;have tabw:=SH.Ao.same tab2 sw;have hRw:=sw _ _ hR;obtain⟨ss,hss,hsn,hsm⟩:=whw.names;have hsl:ss.length<=60:=by
   have h1:=congrArg List.length hss;rw[Lf,Lf] at h1;have:=whw.len;omega
  dsimp only[A6];refine⟨_,rfl,r,row,rfl,hRw,R2,hno,h13,tabw,λl ps Ts H4 nl hl4 hT4 hPL pw hps64 tab4 bt4=>?_⟩;have bt4:But T Hw H4:=bt4;have hR4:=bt4 _ _ hRw (nT tabw hRw λz=>by simp);have hwh4:=bt4 _ _ hwh (nT tabw hwh λz=>by simp);have hps:=hT4.1;have ndT:=Xmr pw;have okp:∀t,Ae row t=true->(∀y∈t,okN y)/\t.length<=14:=λt ht=>⟨λy hy=>R2.ok y ((Br ht).1 y hy),Mh (Xdt ht) (by omega)⟩;refine⟨l,rfl,⟨_,SqL.of hl4⟩,?_⟩;refine Xnd (row:=row) (ps:=ps) (Ts:=Ts) (n:=ps.length) (by rw[Pr];omega) (λj=>.ref (ps.getD j 0)) (fun σ=>∃v, σ=[v,some (.ref r)]) ⟨_,rfl⟩ tab4 ?_ ?_ ?_ ?_
  ·intro j H6 hj b6;have:=Em (K:=K) (SqL.of (b6 _ _ hl4 (nT tab4 hl4 λz=>by simp))) (show j<(ps.map V.ref).length by rw[Lf];exact hj)
   rwa [Db V.ref 0 ps hj] at this
  ·intro H6 b6;have:=En (K:=K) (SqL.of (b6 _ _ hl4 (nT tab4 hl4 λz=>by simp)))
   rwa [Lf] at this
  ·rintro j σ1 H6 Q1 Q0 hj ⟨v,rfl⟩ t6 b6 kk;have hp6:=b6 _ _ (hT4.2 j hj) (nT tab4 (hT4.2 j hj) λz=>by simp);have iS:=(hPL _).mp (SH.Tups.at hT4 hj);generalize Ts.getD j []=S at hp6 iS kk;dsimp only[A6,C7];rw[Pt rfl];refine⟨_,rfl,_,rfl,_,rfl,r,ps.getD j 0,row,S,rfl,b6 _ _ hR4 (nT tab4 hR4 λz=>by simp),R2,hno,h13,t6,hp6,iS,λD qs H8 nD hD hnb hql t8 b8=>?_⟩;have b8:But T H6 H8:=b8;refine⟨by show 2<=sizeLine;decide,λt nt=>?_⟩;have s9:Same H8 (upd H8 t (.tup [.ref (ps.getD j 0),.ref D])):=(Same.refl H8).step nt;exact kk _ t D qs _ ⟨_,rfl⟩ nD (frT t8 b8 nt) Ab (s9 _ _ hD) (hnb.same s9) hql (SH.Ao.same t8 s9) λb o e n=>s9 _ _ (b8 _ _ e n)
  intro sd ts ds H5 nsd tab5 b5 lts hsd hall;have k5:∀{b:Addr} {o:HO},H4 b=some o->(∀z,o ≠ .tbl z)->H5 b=some o:=λe n=>b5 _ _ e (nT tab4 e n);have kl:(kvB Ts ds).length=ps.length:=by unfold kvB;rw[Lf,Mp,hps]
  have atB:∀i,i<ps.length->(kvB Ts ds).getD i Ch=(kOf (Ts.getD i []),V.ref (ds.getD i 0)):=λi hi=>by
   unfold kvB;rw[List.getD,L1,Oo (by omega)];rfl
  dsimp only[A6];refine⟨_,rfl,sd,ts,ps,kvB Ts ds,rfl,hsd,by rw[lts,kl],by omega,λi hi=>?_,λby_ nby=>?_⟩
  ·rw[lts] at hi;rw[atB i hi];refine⟨(hall i hi).1,?_⟩;rw[Xe5];exact k5 (hT4.2 i hi) λz=>by simp
  rw[Xnc _ rfl (Xff ndT ds)];have s6:Same H5 (upd H5 by_ (.dT (kvB Ts ds))):=(Same.refl H5).step nby;have hby:upd H5 by_ (.dT (kvB Ts ds)) by_=some (.dT (kvB Ts ds)):=Ab;dsimp only[A6];generalize upd H5 by_ (.dT (kvB Ts ds))=Hb at s6 hby;have hwhb:=s6 _ _ (k5 hwh4 λz=>by simp);have k0:∀{b:Addr} {o:HO},Hb b=some o->o ≠ .dK kvs->hid wh Hb b=some o:=λ{b o} e n=>B4 e λz=>n (by rw[z,hwhb] at e;exact(L5 e).symm);have B0:ByAt (hid wh Hb) by_ row Ts:=⟨ds,k0 hby (by simp),λi hi=>by
   obtain⟨_,qs,h1,h2,h3⟩:=hall i (by omega);exact⟨qs,k0 (s6 _ _ h1) (by simp),(h2.same s6).keep λb w e=>k0 e (by simp),h3⟩⟩
  have hR0:hid wh Hb r=some (.lst (row.map V.str)):=k0 (s6 _ _ (k5 hR4 λz=>by simp)) (by simp);have hsd0:hid wh Hb sd=some (.lst (ts.map V.ref)):=k0 (s6 _ _ hsd) (by simp);have hts0:∀i,i<ps.length->hid wh Hb (ts.getD i 0)=some (.tup [.ref (ps.getD i 0),.ref (ds.getD i 0)])/\hid wh Hb (ps.getD i 0)=some (.tup ((Ts.getD i []).map V.str))/\∃qs:List Addr,hid wh Hb (ds.getD i 0)=some (.lst (qs.map V.ref))/\Nbs (hid wh Hb) qs (nbL row (Ts.getD i []))/\qs.length<=14:=λi hi=>by
   obtain⟨h0,qs,h1,h2,h3⟩:=hall i hi;exact⟨k0 (s6 _ _ h0) (by simp),k0 (s6 _ _ (k5 (hT4.2 i hi) λz=>by simp)) (by simp),qs,k0 (s6 _ _ h1) (by simp),(h2.same s6).keep λb w e=>k0 e (by simp),h3⟩
  have wh0:Wh (hid wh Hb) kvs row:=⟨whw.keys,λy hy=>let ⟨l',e1,e2⟩:=whw.val y hy; ⟨l',e1,k0 (s6 _ _ (k5 (bt4 _ _ e2 (nT tabw e2 λz=>by simp)) λz=>by simp)) (by simp)⟩,whw.none,whw.nd,whw.len⟩;have sb0:Same (hid wh Hb) Hb:=Eu wh Hb;have hwn:hid wh Hb wh=none:=by unfold hid;rw[Pt rfl]
  generalize hid wh Hb=H0 at B0 hR0 hsd0 hts0 wh0 sb0 hwn;clear hall k0 hby;have ipT:∀i,i<ps.length->Ae row (Ts.getD i [])=true:=λi hi=>(hPL _).mp (SH.Tups.at hT4 hi);have goS:∀{Hx:Hp} (j:Nat) H5,Same H0 Hx->j<ps.length->Same Hx H5->(Itl K sd).go j H5/\∀x H4,(Itl K sd).yld j H5 x H4->H4=H5/\x = .ref (ts.getD j 0):=λ{Hx} j H5 sx hj s5=>by
   have:=Em (K:=K) (SqL.of (s5 _ _ (sx _ _ hsd0))) (show j<(ts.map V.ref).length by rw[Lf,lts];exact hj)
   rwa [Db V.ref 0 ts (by omega)] at this
  have stS:∀{Hx:Hp} H5,Same H0 Hx->Same Hx H5->(Itl K sd).stop ps.length H5:=λ{Hx} H5 sx s5=>by
   have:=En (K:=K) (SqL.of (s5 _ _ (sx _ _ hsd0)))
   rwa [Lf,lts] at this
  refine⟨_,rfl,sd,rfl,⟨_,SqL.of (sb0 _ _ hsd0)⟩,?_⟩;refine Dv (K:=K) (a:=sd) (xs:=ts.map V.ref) (λi σ H'=>(∃v6 v7 v8 v9, σ=[some (.ref a),some (.ref dr),some (.ref r),some (.ref wh),some (.ref sd),some (.ref by_),v6,v7,v8,v9,none,none,none,none,none,none])/\Same H0 H'/\H' wh=some (.dK kvs)) ?_ ?_ ?_ ?_
  ·exact⟨⟨_,_,_,_,rfl⟩,sb0,hwhb⟩
  ·rintro i σ H' _ ⟨_,s',_⟩;exact SqL.of (s' _ _ hsd0)
  ·rintro i x σ H6 hx ⟨⟨v6,v7,v8,v9,rfl⟩,s6',w6⟩;obtain⟨hi,rfl⟩:=Ho hx;rw[lts] at hi;obtain⟨t1,t2,qs,t3,t4,t5⟩:=hts0 i hi;have iS:=ipT i hi;generalize Ts.getD i []=S at t2 t4 iS;refine⟨_,_,rfl,SqT.of (s6' _ _ t1),rfl,_,_,rfl,_,_,rfl,rfl,?_⟩;refine⟨_,rfl,ds.getD i 0,rfl,⟨_,SqL.of (s6' _ _ t3)⟩,?_⟩;refine Dv (K:=K) (a:=ds.getD i 0) (xs:=qs.map V.ref) (λj σ H'=>(∃v8 v9, σ=[some (.ref a),some (.ref dr),some (.ref r),some (.ref wh),some (.ref sd),some (.ref by_),some (.ref (ps.getD i 0)),some (.ref (ds.getD i 0)),v8,v9,none,none,none,none,none,none])/\Same H0 H'/\H' wh=some (.dK kvs)) ?_ ?_ ?_ ?_
   ·exact⟨⟨_,_,rfl⟩,s6',w6⟩
   ·rintro j σ H' _ ⟨_,s',_⟩;exact SqL.of (s' _ _ t3)
   ·rintro j y σ H7 hy ⟨⟨v8,v9,rfl⟩,s7,w7⟩;obtain⟨hj,rfl⟩:=Ho hy;obtain⟨q,hq,p',h1,h2⟩:=t4.at hj;obtain⟨x1,x2,x3⟩:=Ed.mp hq;have mT:=(hPL _).mpr x3;obtain⟨D',qs',gg,hD',hnb',_⟩:=get2 B0 s7 ndT mT (s7 _ _ h2);refine⟨_,_,rfl,SqT.of (s7 _ _ h1),rfl,_,_,rfl,_,_,rfl,rfl,?_⟩;refine⟨_,rfl,_,rfl,by_,_,rfl,gg,_,rfl,Ce ?_⟩;refine⟨_,rfl,_,rfl,by show 2<=sizeLine;decide,λt nt=>?_⟩;have s8:Same H7 (upd H7 t (.tup [.str q.1,.ref (ps.getD i 0)])):=(Same.refl H7).step nt;have ht:upd H7 t (.tup [.str q.1,.ref (ps.getD i 0)]) t=some (.tup [.str q.1,.ref (ps.getD i 0)]):=Ab;dsimp only;generalize upd H7 t (.tup [.str q.1,.ref (ps.getD i 0)])=H8 at s8 ht;have s08:=s7.trans s8;obtain⟨D2,qs2,gg2,hD2,hnb2,_⟩:=get2 B0 s08 ndT mT (s08 _ _ h2);have ok2:=Xm9 (S:=q.2) R2;have okx:=R2.ok _ x1;have okS:=(okp S iS).1;refine⟨_,rfl,_,rfl,by_,_,rfl,gg2,dNb (q.1,S),(nbL row q.2).map dNb,?_,Xm8 (s08 _ _ hD2) (hnb2.same s08),Fa _ (Gk okx okS),Fb _ ?_,?_,_,rfl,?_⟩
    ·unfold dNb DAt;exact⟨t,_,rfl,ht,C9 (by unfold DAt;rfl) (C9 (D8 (s08 _ _ t2)) C1)⟩
    ·exact Xfd ok2
    ·show max 0 (max (PyData.depthAll (S.map PyData.str)+1) 0)+1<=3;rw[Gg];decide
    rw[Xnn (q:=(q.1,S)) ok2 okx okS,Pu (Xns iS hq)];exact Ce ⟨⟨_,_,rfl⟩,s08,s8 _ _ w7⟩
   ·rintro σ H7 ⟨⟨v8,v9,rfl⟩,s7,w7⟩;exact⟨⟨_,_,_,_,rfl⟩,s7,w7⟩
  ·rintro σ H6 ⟨⟨v6,v7,v8,v9,rfl⟩,s6',w6⟩;refine⟨_,rfl,wh,kvs,ss,rfl,.inl w6,hss,by omega,λsn ls nsn hp1 hs1=>?_⟩;rw[Xch hp1 hs1 hsn hsm];have s7:Same H6 (upd H6 sn (.lst ((dit row).map V.str))):=(Same.refl H6).step nsn;have hsn7:upd H6 sn (.lst ((dit row).map V.str)) sn=some (.lst ((dit row).map V.str)):=Ab;have nsw:sn≠wh:=(Aq w6 nsn).symm;generalize upd H6 sn (.lst ((dit row).map V.str))=H7 at s7 hsn7;have s07:=s6'.trans s7;have w7:=s7 _ _ w6;refine⟨sn,rfl,⟨_,SqL.of hsn7⟩,?_⟩;refine Dv (K:=K) (a:=sn) (xs:=(dit row).map V.str) (λi σ H'=>(∃v6 v7 v8 v9 v10 v11, σ=[some (.ref a),some (.ref dr),some (.ref r),some (.ref wh),some (.ref sd),some (.ref by_),v6,v7,v8,v9,v10,v11,none,none,none,none])/\Same H0 H'/\H' sn=some (.lst ((dit row).map V.str))/\(H' wh=some (.dK kvs) \/ ∃o,H' wh=some (.frz o (.dK kvs)))) ?_ ?_ ?_ ?_
   ·exact⟨⟨_,_,_,_,_,_,rfl⟩,s07,hsn7,.inl w7⟩
   ·rintro i σ H' _ ⟨_,_,h,_⟩;exact SqL.of h
   ·rintro i v σ H8 hi ⟨⟨v6,v7,v8,v9,v10,v11,rfl⟩,s8,hsn8,w8⟩;obtain⟨x,rfl,hx1⟩:=Xmn hi;have hxr:x∈row:=Ag.mp (Nk hx1);dsimp only[A6];unfold Gs Xbo;refine Xno (i:=3) (d:=wh) (kvs:=kvs) ?_ w8 λo HX kx hX=>?_
    ·exact⟨.ref wh,rfl,rfl,rfl⟩
    have sX:Same H0 HX:=λb u e=>kx b u (Aq e hwn) (s8 _ _ e);have hsnX:HX sn=some (.lst ((dit row).map V.str)):=kx _ _ nsw hsn8;have eK:kvs.map (λp=>kV p.1)=ss.map V.str:=by
     have:=congrArg (List.map kV) hss;rw[Mb,Mb] at this;exact this
    have lk:kvs.length=ss.length:=by
     have:=congrArg List.length eK
     rwa [Lf,Lf] at this
    refine Jp (n:=ss.length) (by rw[Pr];omega) (λj=>.str (ss.getD j Str.empty)) (λj=>decide (lieR row x (ss.getD j Str.empty) = "cross")) (λj=>.str (ss.getD j Str.empty)) ?_ ?_ ?_ ?_ ?_
    ·intro j H9 hj s9;have:=E6 (kvs:=kvs) (s9 _ _ hX) (by omega:j<kvs.length);rw[eK,Db V.str Str.empty ss hj] at this;exact this
    ·intro H9 s9;have:=E7 (kvs:=kvs) (s9 _ _ hX)
     rwa [lk] at this
    ·intro j H9 Q' hj s9 kk;have hy:ss.getD j Str.empty∈row:=(hsm _).mp (Cp hj);generalize ss.getD j Str.empty=y at hy kk ⊢;have s09:=sX.trans s9;obtain⟨l1,e1,g1⟩:=wh0.pl hxr (R2.two x hxr);obtain⟨l2,e2,g2⟩:=wh0.pl hy (R2.two y hy);refine⟨_,rfl,_,rfl,_,rfl,wh,l1,l2,kvs,x,y,_,_,_,_,rfl,.inr ⟨o,s9 _ _ hX⟩,e1,e2,s09 _ _ g1,s09 _ _ g2,λHA sA=>?_⟩;refine⟨rfl,_,rfl,?_⟩;rw[<-Ey (R2.two x hxr) (R2.two y hy)];have e:decide (V.str (lieR row x y)=V.str "cross")=decide (lieR row x y = "cross"):=by
      by_cases z:lieR row x y = "cross"
      ·rw[Pu z,z];exact Pu rfl
      ·rw[Pw z,Pw (λq=>z (by injection q))]
     rw[e];exact kk HA sA
    ·intro j H9 Q' hj hk s9 kk;exact⟨_,rfl,kk H9 (Same.refl _)⟩
    intro mL H9 nmL s9 hmL;have lmet:(((List.range ss.length).filter λj=>decide (lieR row x (ss.getD j Str.empty) = "cross")).map λj=>V.str (ss.getD j Str.empty)).length=crN row x:=by
     have q:=congrArg List.length (B7 Str.empty (λy=>decide (lieR row x y = "cross")) ss);rw[Lf] at q ⊢;rw[q,Xng R2.two hxr];exact Nat.le_antisymm (nd_le (hsn.filter _) λy hy=>by
      obtain⟨h1,h2⟩:=Lg.mp hy;exact Lg.mpr ⟨Ag.mpr ((hsm y).mp h1),h2⟩) (nd_le ((Cz row).filter _) λy hy=>by
      obtain⟨h1,h2⟩:=Lg.mp hy;exact Lg.mpr ⟨(hsm y).mpr (Ag.mp h1),h2⟩)
    have s09:=sX.trans s9;have w9:=s9 _ _ hX;have hsn9:=s9 _ _ hsnX;dsimp only[A6];refine⟨_,rfl,sd,rfl,⟨_,SqL.of (s09 _ _ hsd0)⟩,?_⟩;refine Xnp (n:=ps.length) (by rw[Pr];omega) (λj=>.ref (ts.getD j 0)) (λj=>.ref (ps.getD j 0)) (λj=>Ae row (Aj (Ts.getD j []) x)) (fun σ=>∃u v, σ=[u,v,some (.str x)]) ⟨_,_,rfl⟩ (λj HA hj sA=>goS j HA s09 hj sA) (λHA sA=>stS HA s09 sA) ?_ ?_
    ·rintro j σ1 HA Q1 Q0 hj ⟨u,v,rfl⟩ sA k1 k0;obtain⟨t1,t2,qs,t3,t4,t5⟩:=hts0 j hj;have iS:=ipT j hj;generalize Ts.getD j []=S at t2 t4 iS k1 k0;have s0A:=s09.trans sA;obtain⟨ps',lp',hp'⟩:=(t4.same s0A).places;have lq:qs.length=(nbL row S).length:=t4.1;refine⟨_,_,rfl,SqT.of (s0A _ _ t1),rfl,_,_,rfl,_,_,rfl,rfl,?_⟩;have prs_at:∀i,i<qs.length->((List.range qs.length).map λi=>((Sum.inr ((nbL row S).getD i dN).1:Key),V.ref (ps'.getD i 0))).getD i dft0=((Sum.inr ((nbL row S).getD i dN).1:Key),V.ref (ps'.getD i 0)):=λi hi=>by
      rw[List.getD,L1,Oo hi];rfl
     refine⟨_,rfl,_,rfl,ds.getD j 0,qs,(List.range qs.length).map λi=>((Sum.inr ((nbL row S).getD i dN).1:Key),V.ref (ps'.getD i 0)),rfl,s0A _ _ t3,by rw[Lf,Mp],by rw[Lf,Mp];omega,λi hi=>?_,λd nd=>?_⟩
     ·rw[prs_at i hi];exact(hp' i hi).1
     have sB:Same HA (upd HA d (.dK (Bx ((List.range qs.length).map λi=>((Sum.inr ((nbL row S).getD i dN).1:Key),V.ref (ps'.getD i 0)))))):=(Same.refl HA).step nd;refine⟨d,_,rfl,.inl ⟨_,Sum.inr x,.inl Ab,rfl,rfl⟩,_,rfl,?_⟩;have keys:((List.range qs.length).map λi=>((Sum.inr ((nbL row S).getD i dN).1:Key),V.ref (ps'.getD i 0))).map (λq:Key×V=>q.1)=((nbL row S).map (·.1)).map λz=>(Sum.inr z:Key):=by
      have q:=congrArg (List.map λz:Str×List Str=>(Sum.inr z.1:Key)) (B7 dN (λ_=>true) (nbL row S));rw[L0.mpr (λ_ _=>rfl),L0.mpr (λ_ _=>rfl),Mb] at q;rw[Mb,Mb,lq];exact q
     have eS:=Xnq ((List.range qs.length).map λi=>((Sum.inr ((nbL row S).getD i dN).1:Key),V.ref (ps'.getD i 0))) (Sum.inr x:Key);rw[keys] at eS;have eS2:(An (Bx ((List.range qs.length).map λi=>((Sum.inr ((nbL row S).getD i dN).1:Key),V.ref (ps'.getD i 0)))) (Sum.inr x:Key)).isSome=Ae row (Aj S x):=by
      rw[M3,eS,<-Xnr hxr];constructor
      ·intro h;obtain⟨z,hz,e⟩:=Lz.mp h;injection e with e
       exact e ▸ hz
      ·intro h;exact Lz.mpr ⟨x,h,rfl⟩
     rw[eS2];cases e:Ae row (Aj S x) with
     | true=>exact Di ⟨_,rfl,k1 _ _ e ⟨_,_,rfl⟩ sB⟩
     | false=>exact Ce (k0 _ _ e ⟨_,_,rfl⟩ sB)
    intro mC HA nmC sA hmC;have lmany:(((List.range ps.length).filter λj=>Ae row (Aj (Ts.getD j []) x)).map λj=>V.ref (ps.getD j 0)).length=2 * (1+crN row x):=by
     have q:=congrArg List.length (B7 ([]:List Str) (λS=>Ae row (Aj S x)) Ts);rw[Lf] at q ⊢;rw[hps,q,<-Mi];exact Xfh R2.two hno ndT hPL hxr
    have s0A:=s09.trans sA;refine⟨mC,_,rfl,.inl (SqL.of hmC),?_⟩;rw[lmany];dsimp only[A6];refine⟨_,rfl,_,rfl,mL,_,rfl,.inl (SqL.of (sA _ _ hmL)),?_⟩;rw[lmet];refine⟨_,_,rfl,rfl,_,_,rfl,rfl,.inl ⟨by omega,by omega⟩,rfl,_,rfl,?_⟩;rw[Pu (by show V.int ((2 * (1+crN row x):Nat):Int)=V.int (2 * (1+(crN row x:Int)));congr 1)];exact Ce ⟨⟨_,_,_,_,_,_,rfl⟩,s0A,sA _ _ hsn9,.inr ⟨o,sA _ _ w9⟩⟩
   ·rintro σ H8 ⟨⟨v6,v7,v8,v9,v10,v11,rfl⟩,s8,hsn8,w8⟩;refine⟨by show 0<=sizeLine;decide,λe0 ne0=>⟨by show 1<=sizeLine;decide,λrc nrc=>?_⟩⟩;have s9:=((Same.refl H8).go ne0 nrc).step (o:=.lst [.ref e0]) nrc;have he9:upd (upd H8 e0 (.tup [])) rc (.lst [.ref e0]) e0=some (.tup (([]:List Str).map V.str)):=ku Ab nrc;have hrc9:upd (upd H8 e0 (.tup [])) rc (.lst [.ref e0]) rc=some (.lst ([e0].map V.ref)):=Ab;have nrc8:H8 rc=none:=by
     cases q:H8 rc with
     | none=>rfl
     | some o=>rw[ku q ne0] at nrc;cases nrc
    have nrc0:=s8.free nrc8;dsimp only[A6];generalize upd (upd H8 e0 (.tup [])) rc (.lst [.ref e0])=H9 at s9 he9 hrc9;have s09:=s8.trans s9;have ip0:Ae row []=true:=Xdu row;have et:(((row.map V.str).length:Int) / 2).toNat=(dit row).length:=by rw[Lf,hrow];omega
    refine⟨_,rfl,r,_,rfl,.inl (SqL.of (s09 _ _ hR0)),_,_,rfl,rfl,⟨by decide,by decide⟩,_,rfl,by omega,by rw[Lf];omega,?_⟩;rw[et];refine Fs (lo:=0) (n:=(dit row).length) (λi σ H'=>∃(v6 v7 v8 v9 v13:Option V) (rs:List Addr) (Re:List (List Str)), σ=[some (.ref a),some (.ref dr),some (.ref r),some (.ref wh),some (.ref sd),some (.ref by_),v6,v7,v8,v9,v10,v11,some (.ref rc),v13,none,none]/\Same H0 H'/\H' rc=some (.lst (rs.map V.ref))/\Tups H' rs Re/\Re.Nodup/\(∀S∈Re,Ae row S=true)/\∀S,upK row [] i S->S∈Re) ?_ ?_ ?_
    ·refine⟨_,_,_,_,_,[e0],[[]],rfl,s09,hrc9,Tups.cons he9 (Tups.nil _),by simp,λS hS=>by rw[Lk.mp hS];exact ip0,λS hS=>?_⟩;rw[Lk];exact(Xm0 ip0 hS.1 (Nat.le_zero.mp hS.2)).symm
    ·rintro i σ HA hi ⟨v6,v7,v8,v9,v13,rs,Re,rfl,sA,hrcA,htA,ndR,plR,upR⟩;dsimp only[A6];refine⟨_,rfl,rc,_,rfl,.inl (SqL.of hrcA),λs2 ns2=>?_⟩;have sB:Same HA (upd HA s2 (.lst (rs.map V.ref))):=(Same.refl HA).step ns2;have hs2:upd HA s2 (.lst (rs.map V.ref)) s2=some (.lst (rs.map V.ref)):=Ab;have n2r:s2≠rc:=(Aq hrcA ns2).symm;generalize upd HA s2 (.lst (rs.map V.ref))=HB at sB hs2;have s0B:=sA.trans sB;refine⟨s2,rfl,⟨_,SqL.of hs2⟩,?_⟩;refine Dv (K:=K) (a:=s2) (xs:=rs.map V.ref) (λi2 σ H'=>(∃v6 v8 v9, σ=[some (.ref a),some (.ref dr),some (.ref r),some (.ref wh),some (.ref sd),some (.ref by_),v6,v7,v8,v9,v10,v11,some (.ref rc),some (.int (0+(i:Int))),none,none])/\Same H0 H'/\H' s2=some (.lst (rs.map V.ref))/\Tups H' rs Re/\∃rs2 Ex,H' rc=some (.lst (rs2.map V.ref))/\Tups H' rs2 (Re++Ex)/\(Re++Ex).Nodup/\(∀S∈Re++Ex,Ae row S=true)/\∀L∈Re.take i2,∀q∈nbL row L,q.2∈Re++Ex) ?_ ?_ ?_ ?_
     ·exact⟨⟨_,_,_,rfl⟩,s0B,hs2,htA.same sB,rs,[],sB _ _ hrcA,by rw[Mm];exact htA.same sB,by rw[Mm];exact ndR,by rw[Mm];exact plR,λL hL=>by simp at hL⟩
     ·rintro i2 σ H' _ ⟨_,_,h,_⟩;exact SqL.of h
     ·rintro i2 x σ HC hx ⟨⟨v6,v8,v9,rfl⟩,sC,hs2C,htC,rs2,Ex,hrcC,ht2,nd2,pl2,don⟩;obtain⟨hi2,rfl⟩:=Ho hx;have hiL:i2<Re.length:=by rw[<-htA.1];exact hi2
      have hq:=htC.2 i2 hi2;have mL:=SH.Tups.at htC hi2;have htk:Re.take (i2+1)=Re.take i2++[Re.getD i2 []]:=by
       rw[Lw hiL];simp[List.getD,hiL]
      generalize Re.getD i2 []=L at hq mL htk;generalize rs.getD i2 0=pq at hq;obtain⟨D,qs,gg,hD0,hnb0,hql⟩:=get2 B0 sC ndT ((hPL L).mpr (plR L mL)) hq;dsimp only[A6];refine⟨_,rfl,_,rfl,by_,_,rfl,gg,D,rfl,⟨_,SqL.of (sC _ _ hD0)⟩,?_⟩;refine Dv (K:=K) (a:=D) (xs:=qs.map V.ref) (λj σ H'=>(∃v8 v9, σ=[some (.ref a),some (.ref dr),some (.ref r),some (.ref wh),some (.ref sd),some (.ref by_),some (.ref pq),v7,v8,v9,v10,v11,some (.ref rc),some (.int (0+(i:Int))),none,none])/\Same H0 H'/\H' s2=some (.lst (rs.map V.ref))/\Tups H' rs Re/\∃rs2 Ex,H' rc=some (.lst (rs2.map V.ref))/\Tups H' rs2 (Re++Ex)/\(Re++Ex).Nodup/\(∀S∈Re++Ex,Ae row S=true)/\(∀L∈Re.take i2,∀q∈nbL row L,q.2∈Re++Ex)/\∀q∈(nbL row L).take j,q.2∈Re++Ex) ?_ ?_ ?_ ?_
      ·exact⟨⟨_,_,rfl⟩,sC,hs2C,htC,rs2,Ex,hrcC,ht2,nd2,pl2,don,λq hq=>by simp at hq⟩
      ·rintro j σ H' _ ⟨_,s',_⟩;exact SqL.of (s' _ _ hD0)
      ·rintro j y σ HD hy ⟨⟨v8,v9,rfl⟩,sD,hs2D,htD,rs3,Ex,hrcD,ht3,nd3,pl3,don,hj⟩;obtain⟨hjq,rfl⟩:=Ho hy;have hjn:j<(nbL row L).length:=by rw[<-hnb0.1];exact hjq
       obtain⟨p',h1,h2⟩:=hnb0.2 j hjq;have htk2:(nbL row L).take (j+1)=(nbL row L).take j++[(nbL row L).getD j dN]:=by
        rw[Lw hjn];simp[List.getD,hjn]
       have mq:(nbL row L).getD j dN∈nbL row L:=by
        rw[show (nbL row L).getD j dN=(nbL row L)[j] by simp[List.getD,hjn]];exact Mj hjn
       generalize (nbL row L).getD j dN=nq at h1 h2 htk2 mq;obtain⟨_,_,iq⟩:=Ed.mp mq;have okM:∀S∈Re++Ex,∀y∈S,okN y:=λS hS=>(okp S (pl3 S hS)).1;have okq:=(okp _ iq).1;have lm:rs3.length<=64:=by
        rw[ht3.1];exact Mh (Xna (B:=Ts) nd3 λS hS=>(hPL S).mpr (pl3 S hS)) (by omega)
       have h1D:=sD _ _ h1;have h2D:=sD _ _ h2;refine⟨_,_,rfl,SqT.of h1D,rfl,_,_,rfl,_,_,rfl,rfl,?_⟩;refine⟨_,rfl,_,rfl,Bj nq.2,(Re++Ex).map Bj,D8 h2D,Xe3 hrcD ht3,Fa _ (D7 okq),Fb _ (Xe2 okM),by show PyData.depthAll (nq.2.map PyData.str)+1<=3;rw[Gg];decide,_,rfl,?_⟩;rw[isin okM okq];refine A9 (λhno'=>?_) (λhyes=>?_)
       ·have nin:nq.2∉Re++Ex:=λz=>by rw[Pu z] at hno';cases hno'
        refine⟨_,rfl,.inl ⟨rfl,_,SqL.of hrcD⟩,_,rfl,rc,_,_,rfl,rfl,hrcD,by rw[Lf,Pr];omega,?_⟩;have kt:∀{b:Addr} {w:List V},HD b=some (.tup w)->upd HD rc (.lst (rs3.map V.ref++[.ref p'])) b=some (.tup w):=λ{b w} e=>by
         rw[Ac (λz=>by rw[z,hrcD] at e;cases e)];exact e
        have ktt:∀{ps:List Addr} {Ts:List (List Str)},Tups HD ps Ts->Tups (upd HD rc (.lst (rs3.map V.ref++[.ref p']))) ps Ts:=λh=>⟨h.1,λi hi=>kt (h.2 i hi)⟩;have up:∀{S:List Str},S∈Re++Ex->S∈Re++(Ex++[nq.2]):=λh=>by rw[<-Ng];exact Lr.mpr (.inl h)
        refine⟨⟨_,_,rfl⟩,λb o e=>by rw[Ac (Aq e nrc0)];exact sD _ _ e,by rw[Ac n2r];exact hs2D,ktt htD,rs3++[p'],Ex++[nq.2],by rw[Ab,Lu];rfl,?_,?_,λS hS=>?_,λL' hL' q' hq'=>up (don L' hL' q' hq'),λq' hq'=>?_⟩
        ·rw[<-Ng];exact Tups.app (ktt ht3) (Tups.cons (kt h2D) (Tups.nil _))
        ·rw[<-Ng,M6];exact⟨nd3,by simp,λx hx y hy e=>nin (by rw[Lk.mp hy] at e;exact e ▸ hx)⟩
        ·rw[<-Ng] at hS;rcases Lr.mp hS with z | z
         ·exact pl3 S z
         ·rw[Lk.mp z];exact iq
        ·rw[htk2] at hq';rcases Lr.mp hq' with z | z
         ·exact up (hj q' z)
         ·rw[Lk.mp z];simp
       ·have yin:nq.2∈Re++Ex:=Classical.byContradiction λz=>by rw[Pw z] at hyes;cases hyes
        refine⟨⟨_,_,rfl⟩,sD,hs2D,htD,rs3,Ex,hrcD,ht3,nd3,pl3,don,λq' hq'=>?_⟩;rw[htk2] at hq';rcases Lr.mp hq' with z | z
        ·exact hj q' z
        ·rw[Lk.mp z];exact yin
      ·rintro σ HD ⟨⟨v8,v9,rfl⟩,sD,hs2D,htD,rs3,Ex,hrcD,ht3,nd3,pl3,don,hj⟩;rw[Lf,hnb0.1,Mr] at hj;refine⟨⟨_,_,_,rfl⟩,sD,hs2D,htD,rs3,Ex,hrcD,ht3,nd3,pl3,λL' hL'=>?_⟩;rw[htk] at hL';rcases Lr.mp hL' with z | z
       ·exact don L' z
       ·rw[Lk.mp z];exact hj
     ·rintro σ HC ⟨⟨v6,v8,v9,rfl⟩,sC,hs2C,htC,rs2,Ex,hrcC,ht2,nd2,pl2,don⟩;rw[Lf,htA.1,Mr] at don;refine⟨_,_,_,_,_,rs2,Re++Ex,rfl,sC,hrcC,ht2,nd2,pl2,λS hS=>?_⟩;by_cases z:(Bh [] S).length<=i
      ·exact Lr.mpr (.inl (upR S ⟨hS.1,z⟩))
      ·have e:(Bh [] S).length=i+1:=by have:=hS.2;omega
       have n0:S≠[]:=λq=>by
        rw[q,Hq ip0 ip0] at e;have:(dit row).countP (ne2 [] [])=0:=Xmo.mpr λx _=>rfl;omega
       obtain⟨x,c,hc,hx,ef,hl⟩:=Xm7 R2 ip0 hS.1 n0;exact don c (upR c ⟨hc,by omega⟩) (x,S) (Ed.mpr ⟨hx,ef.symm,hS.1⟩)
    ·rintro σ HA ⟨v6,v7,v8,v9,v13,rs,Re,rfl,sA,hrcA,htA,ndR,plR,upR⟩;have eR:rs.length=ps.length:=by
      rw[htA.1,hps];refine K4 ndR ndT λS=>?_;rw[hPL];exact⟨plR S,λh=>upR S ⟨h,Xm6 ip0 h⟩⟩
     refine⟨_,rfl,sd,rfl,⟨_,SqL.of (sA _ _ hsd0)⟩,?_⟩;refine Xmm (n:=ps.length) (by rw[Pr];omega) (λj=>.ref (ts.getD j 0)) (λj=>.int ((nbL row (Ts.getD j [])).length:Int)) (fun σ=>∃u v, σ=[u,v]) ⟨_,_,rfl⟩ (λj HB hj sB=>goS j HB sA hj sB) (λHB sB=>stS HB sA sB) ?_ ?_
     ·rintro j σ1 HB Q1 Q0 hj ⟨u,v,rfl⟩ sB kk;obtain⟨t1,t2,qs,t3,t4,t5⟩:=hts0 j hj;have s0B:=sA.trans sB;refine⟨_,_,rfl,SqT.of (s0B _ _ t1),rfl,_,_,rfl,_,_,rfl,rfl,?_⟩;dsimp only[C7];rw[Pt rfl];refine⟨_,rfl,ds.getD j 0,_,rfl,.inl (SqL.of (s0B _ _ t3)),?_⟩;rw[Lf,t4.1];exact kk _ _ ⟨_,_,rfl⟩ (Same.refl HB)
     intro SL HB nSL sB hSL;have eL:(List.range ps.length).map (λj=>V.int ((nbL row (Ts.getD j [])).length:Int))=(Ts.map λS=>((nbL row S).length:Int)).map V.int:=by
      have q:=congrArg (List.map λS=>V.int ((nbL row S).length:Int)) (B7 ([]:List Str) (λ_=>true) Ts);rw[L0.mpr (λ_ _=>rfl),L0.mpr (λ_ _=>rfl),<-hps,Mb] at q;rw[Mb];exact q
     rw[eL] at hSL;refine⟨SL,_,rfl,hSL,by rw[Lf];omega,λn hn=>?_,?_⟩
     ·obtain⟨S,_,rfl⟩:=Lz.mp hn;have:(nbL row S).length<=(dit row).length:=by rw[Xfi];exact List.countP_le_length
      omega
     have eSum:(Ts.map λS=>((nbL row S).length:Int)).sum=((2 * (dit row).length+4 * (crs row).length:Nat):Int):=by
      rw[<-Xnf R2.two hno ndT hPL];clear eL hSL;generalize Ts=U
      induction U with
      | nil=>rfl
      | cons S U ih=>
       rw[Ly,Ly,Mt,Mt,ih];omega
     rw[eSum];have s0B:=sA.trans sB;dsimp only[A6];refine⟨_,rfl,r,row,rfl,s0B _ _ hR0,R2,λcl xs HC ncl hcl hxs sC=>?_⟩;have s0C:=s0B.trans sC;have lx:xs.length=(crs row).length:=by
      have:=Ga hxs
      rwa [Lf] at this
     dsimp only[A6];refine⟨_,rfl,rc,_,rfl,.inl (SqL.of (sC _ _ (sB _ _ hrcA))),_,rfl,sd,_,rfl,.inl (SqL.of (s0C _ _ hsd0)),rfl,_,rfl,?_⟩;rw[Pu (by rw[Lf,Lf,eR,lts])];refine Di ?_;refine⟨_,rfl,_,rfl,r,_,rfl,.inl (SqL.of (s0C _ _ hR0)),_,rfl,cl,_,rfl,.inl (SqL.of hcl),_,_,rfl,rfl,.inl ⟨by omega,by omega⟩,_,_,rfl,rfl,rfl,?_⟩;rw[Pu (by rw[Lf,lx,hrow];congr 1)];exact k _
end
end K14
set_option maxHeartbeats 4000000
namespace PySem.OldK
theorem of_tab{h₀ h:Heap}{T:Addr}(ht:isCodeTable h₀ T)(hT:h₀.get? T=some (PySem.W.tabObj #[]))(hT':∃ps,h.get? T=some (PySem.W.tabObj ps))(k:∀b o,b≠T->h₀.get? b=some o->h.get? b=some o):OldK h₀ h:=by
 obtain⟨ps,hps⟩:=hT';refine⟨λb o e=>?_,λb o e=>?_⟩
 ·by_cases z:b=T
  ·subst z;rw[hT] at e;cases e;exact .inr (.inl ⟨ht,rfl, #[],ps,rfl,by simpa using hps⟩)
  ·exact .inl (k b o z e)
 ·by_cases z:b=T
  ·exact⟨_,z ▸ hps⟩
  ·exact⟨o,k b o z e⟩
end PySem.OldK
namespace L2
open PySem PySem.Spec PyProof.Rows
theorem Xot{P:Program}{w:World}{K:PySem.W.Frag}{mg mb:Str->Option Value}{CX:CXT}{k:Nat}{fa a:Addr}{fd:FuncData}{x:Str}{sp:Sp}{s₁ : Shared}{vs:List Value}{ns:List Int}{T c0:Addr}
  (hT:s₁.heap.get? T=some (PySem.W.tabObj #[])) (hTK:K.lookup T=none) (hhd:PySem.W.codeHdIn K c0 T=true) (hbm:BmOk mg s₁.heap)
  (KX:K.In s₁.heap) (hns:s₁.heap.Ns mainGlobals mg) (hb:s₁.heap.Ns builtinsNs mb) (hbb:∀x:Str,x ≠ "__name__" -> mb x=bootBuiltins x) (hlim:s₁.heap.NoLimit) (hg:s₁.gens = #[])
  (ha:s₁.heap.get? a=some {cls:=.type "list",data:=.seq vs.toArray}) (hi:IntsAre vs ns) (hl:ns.length<=sizeLine) (hr:Room k callerA)
  (F:∀base:Heap,K.In base->base.Ns mainGlobals mg->BmOk mg base->FnOk P w K mg base CX k fa fd [x] sp) (hbind:∀(s:Shared) (u:Value),BindsTo s fd ⟨[u],[]⟩ [(x,u)])
  (hsp:∀H:Hp,H T=some (.tbl #[])->SqL K H a (ns.map V.int)->sp [.ref a] H (λv _=>v = .bl true) λ_ _ _=>False)
  (hCX:∀H e s',CX [] H s₁ (λ_ _ _=>False) e s'->False):
  codeAny (model P w) callerA (.call (.ref fa) ⟨[.ref a],[]⟩) (λr s'=>r = .ok (.ret (.bool true))/\OldK s₁.heap s'.heap/\s'.os=s₁.os/\AllBare s'.gens) s₁:=by
 have rv:=Xbh hi;have lenV:=hi.length;have core:∀H:Hp,H T=some (.tbl #[])->(∀b,b≠T->H b=none \/ ∃o xs,H b=some (.frz o (.lst xs)))->SqL K H a (ns.map V.int)->HOk P w H s₁.heap->(∀b,H b≠none->b=a\/b=T)->(H a≠none->K.lookup a=none) ->
   codeAny (model P w) callerA (.call (.ref fa) ⟨[.ref a],[]⟩) (λr s'=>r = .ok (.ret (.bool true))/\OldK s₁.heap s'.heap/\s'.os=s₁.os/\AllBare s'.gens) s₁:=by
  intro H hHT hO hS hok hA hK;have base_of:∀{b:Addr} {o:Obj},s₁.heap.get? b=some o->H b=none->(C3 s₁.heap H).get? b=some o:=λe n=>Xfx e n;have noA:∀{b:Addr} {o:Obj} {es:Array DictEntry} {ep:Nat},s₁.heap.get? b=some o->o.data = .dict es ep->H b=none:=λ{b o es ep} e d=>by
   cases q:H b with
   | none=>rfl
   | some u=>
    rcases hA b (by rw[q];simp) with e' | e'
    ·subst e';rw[ha] at e;cases e;have d':Data.seq vs.toArray _=Data.dict es ep:=d;cases d'
    ·subst e';rw[hT] at e;cases e;cases d
  have nsK:∀{b:Addr} {m:Str->Option Value},s₁.heap.Ns b m->(C3 s₁.heap H).Ns b m:=λ{b m} ⟨o,es,ep,e,d,r⟩=>⟨o,es,ep,base_of e (noA e d),d,r⟩;have hKb:K.In (C3 s₁.heap H):=λb o e=>base_of (KX b o e) (by
   cases q:H b with
   | none=>rfl
   | some u=>
    rcases hA b (by rw[q];simp) with e' | e'
    ·subst e';rw[hK (by rw[q];simp)] at e;cases e
    ·subst e';rw[hTK] at e;cases e)
  have hbm':BmOk mg (C3 s₁.heap H):=by
   obtain⟨bm,ob,b1,b2,b3,b4,b5,b6⟩:=hbm;refine⟨bm,ob,b1,b2,base_of b3 ?_,b4,b5,b6⟩;cases q:H bm with
   | none=>rfl
   | some u=>
    rcases hA bm (by rw[q];simp) with e' | e'
    ·subst e';rw[ha] at b3;cases b3;exact absurd (show Value.type "list" = Value.type "module" from b4) (by decide)
    ·subst e';rw[hT] at b3;cases b3;cases b4
  have hM:Mod K mg (C3 s₁.heap H):=⟨hKb,nsK hns,⟨mb,nsK hb,hbb⟩,let ⟨mc,h1,h2⟩:=hlim; ⟨mc,nsK h1,h2⟩⟩;have e0:Env0 P w K mg (C3 s₁.heap H) callerA [] s₁ H:=⟨rfl,hM,λb o e=>Xfy e,Nat.le_of_eq (Xfw _ _),trivial,λb hb=>absurd (show b∈([]:List Addr) from hb) (by simp),hok,.of_eq hg⟩;refine codeAny_mono ((F _ hKb (nsK hns) hbm').run callerA [] s₁ H ⟨[.ref a],[]⟩ [.ref a] [.ref a] _ _ hr e0 (hbind s₁ (.ref a)) (.cons rfl .nil) (hsp H hHT hS)) λr s' h=>?_;cases r with
  | error e=>exact(hCX H e s' h).elim
  | ok fl=>
   cases fl with
   | next=>exact False.elim h
   | brk=>exact False.elim h
   | cont=>exact False.elim h
   | ret u=>
    obtain⟨v,H',os,bare,un,hok',r',q⟩:=h;have q':v = .bl true:=q;subst q';obtain rfl:u=Value.bool true:=r';refine⟨rfl,OldK.of_tab (T:=T) (by have C:=PySem.W.codeHd_of_K KX hhd;exact(C.tab hT).isCodeTable) hT ?_ λb o nb e=>?_,os,bare⟩
    ·obtain⟨more,hm⟩:=un.tbls T #[] hHT;exact⟨#[]++more,hok' T _ hm⟩
    cases q:H b with
    | none=>exact un.keep b o e q (by intro z;exact absurd (show b∈([]:List Addr) from z) (by simp)) (by simp)
    | some u=>
     rcases hO b nb with z | ⟨ob,xs,z⟩
     ·rw[q] at z;cases z
     ·have z2:=un.frzs b ob _ z;obtain⟨e1,_⟩:=hok b _ z;obtain⟨e2,_⟩:=hok' b _ z2;rw[e] at e1;cases e1;exact e2
 cases hk:K.lookup a with
 | some o=>
  have e:=KX a o hk;rw[ha] at e;cases e;have naT:a≠T:=λz=>by rw[z,hTK] at hk;cases hk
  refine core (λb=>if b=T then some (.tbl #[]) else none) (Pt rfl) (λb n=>.inl (Ps n)) (.inr ⟨_,vs.toArray,_,hk,rfl,rfl,rfl,by rw[Lq,lenV];exact hl,by simpa using rv⟩) (λb u z=>?_) (λb z=>.inr (Classical.byContradiction λn=>z (Ps n))) λz=>absurd (Ps naT) z;by_cases hb:b=T
  ·have z':=(Pt hb).symm.trans z;cases z';rw[hb];exact hT
  ·have z':=(Ps hb).symm.trans z;cases z'
 | none=>
  have naT:T≠a:=λz=>by rw[z,ha] at hT;cases hT
  refine core (λb=>if b=T then some (.tbl #[]) else if b=a then some (.frz {cls:=.type "list",data:=.seq vs.toArray} (.lst (ns.map V.int))) else none) (Pt rfl) (λb n=>?_) (.inl (.inr ⟨{cls:=.type "list",data:=.seq vs.toArray},(Ps naT.symm).trans (Pt rfl)⟩)) (λb u z=>?_) (λb z=>?_) λ_=>hk
  ·by_cases hb:b=a
   ·exact .inr ⟨_,_,(Ps n).trans (Pt hb)⟩
   ·exact .inl ((Ps n).trans (Ps hb))
  ·by_cases hb:b=T
   ·have z':=(Pt hb).symm.trans z;cases z';rw[hb];exact hT
   ·have z1:=(Ps hb).symm.trans z;by_cases hb:b=a
    ·have z':=(Pt hb).symm.trans z1;cases z';subst hb;exact⟨ha,by rw[Lf];exact hl,vs,_,rv,ha⟩
    ·have z':=(Ps hb).symm.trans z1;cases z'
  ·by_cases hb:b=T
   ·exact .inr hb
   ·by_cases hc:b=a
    ·exact .inl hc
    ·exact absurd ((Ps hb).trans (Ps hc)) z
theorem Xou{l:PySem.W.OpenLaw}{n k:Nat}{q:Program}{loose:List Str}{XP:(Str->Option Value)->Heap->Prop}{YP:World->Heap->Prop}{d:DefRec}{K:Params->PySem.W.Frag}{CX:World->CXT}{sp:World->Sp}{x:Str}{T c0:Addr}
  (hn:l.most=some n) (hn2:n<=sizeLine) (hdf:d.params.defaults=[]) (hr:Room k callerA)
  (hY:∀(w:World) (h:Heap),YP w h->(K w.params).In h) (hYT:∀(w:World) (h:Heap),YP w h->h.get? T=some (PySem.W.tabObj #[])) (hTK:∀P,(K P).lookup T=none) (hhd:∀P,PySem.W.codeHdIn (K P) c0 T=true)
  (F:∀(w:World) (mg:Str->Option Value) (fa:Addr) (h:Heap),(K w.params).In h->h.Ns mainGlobals mg->mg d.name=some (.ref fa) ->
   ∃fd:FuncData,(∀(s:Shared) (u:Value),BindsTo s fd ⟨[u],[]⟩ [(x,u)]) /\
    ∀base:Heap,(K w.params).In base->base.Ns mainGlobals mg->BmOk mg base->FnOk l.prog w (K w.params) mg base (CX w) k fa fd [x] (sp w))
  (hsp:∀(w:World) (H:Hp) (a:Addr) (ns:List Int),ns.length<=n->H T=some (.tbl #[])->SqL (K w.params) H a (ns.map V.int)->sp w [.ref a] H (λv _=>v = .bl true) λ_ _ _=>False)
  (hCX:∀(w:World) (H:Hp) (s:Shared) (e:Value) (s':Shared),CX w [] H s (λ_ _ _=>False) e s'->False):
  PySem.W.WalkO q loose XP YP l.row.toRowW d [] (λf vs=>PySem.call f vs):=by
 refine Att.attach_call hn hdf λw s₀ s₁ mg mb fa o pm cd doc a vs ns G Y ho hd hcd hmg hobj hints hlen hg=>?_;have KX:=hY w _ Y;obtain⟨fd,hb,hF⟩:=F w mg fa _ KX G.T.g hmg;exact Xot (hYT w _ Y) (hTK _) (hhd _) G.T.bmain KX G.T.g G.T.b G.T.builtins G.T.nolimit hg hobj hints (Mh hlen hn2) hr hF hb (λH hO hS=>hsp w H a ns hlen hO hS) λH e s'=>hCX w H s₁ e s'
theorem Fn.ofT{P:Program}{w:World}{K:PySem.W.Frag}{h:Heap}{mg:Str->Option Value}{base:Heap}{CX:CXT}{k:Nat}{x:Str}{st:Stmt}{ps:List Str}{sp:Sp}{T:Addr}(X:K.In h)(G:h.Ns mainGlobals mg)(D:DefT K x st T)
  (hb:∀(kV doc pm:Value) (an:Option Addr) (cdv ct:Value) (us:List Value),us.length=ps.length->bindArgs (PySem.W.fnOf x x (Dh st) (Cd st) (Ak st) .none kV doc pm an cdv ct) ⟨us,[]⟩=pure (ps.zip us))
  (ok:∀f fd,FunT K x st f fd T->FnOk P w K mg base CX k f fd ps sp):Fn P w K mg base CX k x ps sp:=by
 obtain⟨f,fd,a,hk,F,F'⟩:=D.ex;exact⟨⟨f,fd,PySem.W.mg_of X G a,hk,F'.binds hb,ok f fd F⟩⟩
end L2
namespace L2
open PySem
theorem len1{us:List Value}(h:us.length=1):∃a,us=[a]:=List.length_eq_one_iff.mp h
theorem len2{us:List Value}(h:us.length=2):∃a b,us=[a,b]:=by
 cases us with
 | nil=>cases h
 | cons a r=>
  obtain⟨b,rfl⟩:=len1 (Nat.succ.inj h);exact⟨a,b,rfl⟩
theorem len3{us:List Value}(h:us.length=3):∃a b c,us=[a,b,c]:=by
 cases us with
 | nil=>cases h
 | cons a r=>
  obtain⟨b,c,rfl⟩:=len2 (Nat.succ.inj h);exact⟨a,b,c,rfl⟩
theorem len4{us:List Value}(h:us.length=4):∃a b c d,us=[a,b,c,d]:=by
 cases us with
 | nil=>cases h
 | cons a r=>
  obtain⟨b,c,d,rfl⟩:=len3 (Nat.succ.inj h);exact⟨a,b,c,d,rfl⟩
end L2
namespace K14
open PySem PySem.Spec PyProof.Rows L2 SH
theorem Xov{P:Program}{w:World}{K:PySem.W.Frag}{h:Heap}{mg:Str->Option Value}{fa C_NoDitch C_NoPlot T_:Addr}(X:K.In h)(G:h.Ns mainGlobals mg)(hfa:mg "law" = some (.ref fa))
  (d_ask_ditch:DefAt K "ask_ditch" sAsk)
  (d_ditches:DefAt K "ditches" sDitches)
  (d_ends:DefAt K "ends" sEnds)
  (d_spans:DefAt K "spans" sSpans)
  (d_lie_of:DefAt K "lie_of" sLieOf)
  (d_crossings:DefAt K "crossings" sCross)
  (d_told:DefAt K "told" sTold)
  (d_in_order:DefT K "in_order" s_in_order T_)
  (d_allows:DefAt K "allows" sAllows)
  (d_is_plot:DefAt K "is_plot" sIsPlot)
  (d_ask_plot:DefAt K "ask_plot" s_ask_plot)
  (d_plots:DefAt K "plots" s_plots)
  (d_parting:DefAt K "parting" s_parting)
  (d_across:DefAt K "across" s_across)
  (d_neighbours:DefAt K "neighbours" s_neighbours)
  (d__law_begin:DefAt K "_law_begin" sBegin)
  (d__law_pick:DefAt K "_law_pick" sPick)
  (d__law_put:DefAt K "_law_put" sPut)
  (d__law_where:DefAt K "_law_where" sWhere)
  (d__law_word:DefAt K "_law_word" sWord)
  (d__law_barred:DefAt K "_law_barred" sBarred)
  (d__law_row:DefAt K "_law_row" sRow)
  (d__law_names:DefAt K "_law_names" sNames)
  (d__law_island:DefAt K "_law_island" sIsland)
  (d__law_crossed:DefAt K "_law_crossed" s__law_crossed)
  (d_law:DefAt K "law" s_law)
  (x_NoDitch:ExcAt K "NoDitch" C_NoDitch)
  (x_NoPlot:ExcAt K "NoPlot" C_NoPlot)
  (z_len:PySem.W.nsIn K mainGlobals "len" = some none)
  (z_range:PySem.W.nsIn K mainGlobals "range" = some none)
  (z_list:PySem.W.nsIn K mainGlobals "list" = some none)
  (z_min:PySem.W.nsIn K mainGlobals "min" = some none)
  (z_isinstance:PySem.W.nsIn K mainGlobals "isinstance" = some none)
  (z_all:PySem.W.nsIn K mainGlobals "all" = some none)
  (z_str:PySem.W.nsIn K mainGlobals "str" = some none)
  (z_ValueError:PySem.W.nsIn K mainGlobals "ValueError" = some none)
  (z_sorted:PySem.W.nsIn K mainGlobals "sorted" = some none)
  (z_set:PySem.W.nsIn K mainGlobals "set" = some none)
  (z_enumerate:PySem.W.nsIn K mainGlobals "enumerate" = some none)
  (z_int:PySem.W.nsIn K mainGlobals "int" = some none)
  (z_bool:PySem.W.nsIn K mainGlobals "bool" = some none)
  (z_tuple:PySem.W.nsIn K mainGlobals "tuple" = some none)
  (z_any:PySem.W.nsIn K mainGlobals "any" = some none)
  (z_dict:PySem.W.nsIn K mainGlobals "dict" = some none)
  (z_sum:PySem.W.nsIn K mainGlobals "sum" = some none)
  (z_max:PySem.W.nsIn K mainGlobals "max" = some none)
  : ∃fd:FuncData,(∀(s:Shared) (v:Value),BindsTo s fd ⟨[v],[]⟩ [("_law_script",v)])/\∀base:Heap,K.In base->base.Ns mainGlobals mg->BmOk mg base->FnOk P w K mg base CX0 8 fa fd ["_law_script"] (Ht K T_):=by
 have T:Bl mg:=⟨PySem.W.mg_none_of X G z_len,PySem.W.mg_none_of X G z_range,PySem.W.mg_none_of X G z_list,PySem.W.mg_none_of X G z_min,PySem.W.mg_none_of X G z_isinstance,PySem.W.mg_none_of X G z_all,PySem.W.mg_none_of X G z_str,PySem.W.mg_none_of X G z_ValueError,PySem.W.mg_none_of X G z_sorted,PySem.W.mg_none_of X G z_set,PySem.W.mg_none_of X G z_enumerate,PySem.W.mg_none_of X G z_int,PySem.W.mg_none_of X G z_bool,PySem.W.mg_none_of X G z_tuple,PySem.W.mg_none_of X G z_any,PySem.W.mg_none_of X G z_dict,PySem.W.mg_none_of X G z_sum,PySem.W.mg_none_of X G z_max⟩;obtain⟨f,fd,a,hk,F⟩:=d_law.ex;have e:=hfa.symm.trans (PySem.W.mg_of X G a);cases e;refine⟨fd,?_,λbase hB hG hbm=>?_⟩
 ·obtain⟨oc,od,kV,doc,pm,an,cdv,ct,osl,rfl,lk,hcd⟩:=F.ex;exact λs v=>.of_eq rfl
 ·have FB:Fn P w K mg base CX0 1 "_law_begin" ["_law_script"] (Jy K):=Fn.of X G d__law_begin (λ_ _ _ _ _ _ us hl=>by obtain⟨a,rfl⟩:=L2.len1 hl;rfl) λf fd F=>Xoi F T;have FP:FnPick P w K mg base:=Fn.of X G d__law_pick (λ_ _ _ _ _ _ us hl=>by obtain⟨a,b,rfl⟩:=L2.len2 hl;rfl) λf fd F=>Xoj F T;have FU:Fn P w K mg base CX0 1 "_law_put" ["_law_row_here", "_law_name", "_law_at", "_law_to"] Jz:=Fn.of X G d__law_put (λ_ _ _ _ _ _ us hl=>by obtain⟨a,b,c,d,rfl⟩:=L2.len4 hl;rfl) λf fd F=>Xok F;have FW:Fn P w K mg base CX0 1 "_law_where" ["_law_row_here"] Ge:=Fn.of X G d__law_where (λ_ _ _ _ _ _ us hl=>by obtain⟨a,rfl⟩:=L2.len1 hl;rfl) λf fd F=>Xol F T;have FO:Fn P w K mg base CX0 1 "_law_word" ["_law_where_here", "_law_one", "_law_other"] spWord:=Fn.of X G d__law_word (λ_ _ _ _ _ _ us hl=>by obtain⟨a,b,c,rfl⟩:=L2.len3 hl;rfl) λf fd F=>Xom F T;have FA:Fn P w K mg base CX0 2 "_law_barred" ["_law_row_here", "_law_name"] spBarredN:=Fn.of X G d__law_barred (λ_ _ _ _ _ _ us hl=>by obtain⟨a,b,rfl⟩:=L2.len2 hl;rfl) λf fd F=>Xon F T FW FO;have FR:Fn P w K mg base CX0 3 "_law_row" ["_law_draw", "_law_names_here"] spRowN:=Fn.of X G d__law_row (λ_ _ _ _ _ _ us hl=>by obtain⟨a,b,rfl⟩:=L2.len2 hl;rfl) λf fd F=>Xoo F T FP FU FA;have FN:Fn P w K mg base CX0 2 "_law_names" ["_law_draw", "_law_many"] J7:=Fn.of X G d__law_names (λ_ _ _ _ _ _ us hl=>by obtain⟨a,b,rfl⟩:=L2.len2 hl;rfl) λf fd F=>Xop F T FP;have FI:Fn P w K mg base CX0 4 "_law_island" ["_law_draw", "_law_most"] spIslandN:=Fn.of X G d__law_island (λ_ _ _ _ _ _ us hl=>by obtain⟨a,b,rfl⟩:=L2.len2 hl;rfl) λf fd F=>Xoq F T FP FN FR;have FK:Fn P w K mg base (CX1 P w) 1 "ask_ditch" ["row", "name"] (J9 C_NoDitch):=Fn.of X G d_ask_ditch (λ_ _ _ _ _ _ us hl=>by obtain⟨a,b,rfl⟩:=L2.len2 hl;rfl) λf fd F=>Xnu F (PySem.W.mg_of X G x_NoDitch.a) x_NoDitch.e;have FD:Fn P w K mg base CX0 1 "ditches" ["row"] spDitches:=Fn.of X G d_ditches (λ_ _ _ _ _ _ us hl=>by obtain⟨a,rfl⟩:=L2.len1 hl;rfl) λf fd F=>Xnw F T;have FE:Fn P w K mg base (CX1 P w) 2 "ends" ["row", "name"] (Ka C_NoDitch):=Fn.of X G d_ends (λ_ _ _ _ _ _ us hl=>by obtain⟨a,b,rfl⟩:=L2.len2 hl;rfl) λf fd F=>Xnx F T FK;have FSp:Fn P w K mg base CX0 3 "spans" ["row"] spSpans:=Fn.of X G d_spans (λ_ _ _ _ _ _ us hl=>by obtain⟨a,rfl⟩:=L2.len1 hl;rfl) λf fd F=>Xnz F FD FE;have FLo:Fn P w K mg base CX0 2 "lie_of" ["here", "there"] spLieOf:=Fn.of X G d_lie_of (λ_ _ _ _ _ _ us hl=>by obtain⟨a,b,rfl⟩:=L2.len2 hl;rfl) λf fd F=>Xn0 F;have FCr:Fn P w K mg base CX0 4 "crossings" ["row"] Fe:=Fn.of X G d_crossings (λ_ _ _ _ _ _ us hl=>by obtain⟨a,rfl⟩:=L2.len1 hl;rfl) λf fd F=>Xn1 F FSp FLo;have FTo:Fn P w K mg base CX0 1 "told" ["names"] (spTold K):=Fn.of X G d_told (λ_ _ _ _ _ _ us hl=>by obtain⟨a,rfl⟩:=L2.len1 hl;rfl) λf fd F=>Xn3 F T;have FAl:Fn P w K mg base CX0 1 "allows" ["how", "off"] spAllows:=Fn.of X G d_allows (λ_ _ _ _ _ _ us hl=>by obtain⟨a,b,rfl⟩:=L2.len2 hl;rfl) λf fd F=>Xn7 F;have FIp:Fn P w K mg base CX0 4 "is_plot" ["row", "plot"] Kk:=Fn.of X G d_is_plot (λ_ _ _ _ _ _ us hl=>by obtain⟨a,b,rfl⟩:=L2.len2 hl;rfl) λf fd F=>Xn8 F T FSp FLo FTo FAl;have FIo:Fn P w K mg base CX0 4 "in_order" ["some"] (spInOrder T_ (lamPos s_in_order)):=Fn.ofT X G d_in_order (λ_ _ _ _ _ _ us hl=>by obtain⟨a,rfl⟩:=L2.len1 hl;rfl) λf fd F=>Xn5 F T hbm;have FPl:Fn P w K mg base CX0 5 "plots" ["row"] (spPlotsA T_ (lamPos s_in_order)):=Fn.of X G d_plots (λ_ _ _ _ _ _ us hl=>by obtain⟨a,rfl⟩:=L2.len1 hl;rfl) λf fd F=>Xob F FSp FLo FTo FCr FIo;have FAp:Fn P w K mg base (CX1 P w) 5 "ask_plot" ["row", "plot"] (spAskPlot C_NoPlot):=Fn.of X G d_ask_plot (λ_ _ _ _ _ _ us hl=>by obtain⟨a,b,rfl⟩:=L2.len2 hl;rfl) λf fd F=>Xoa F (PySem.W.mg_of X G x_NoPlot.a) x_NoPlot.e FIp;have FPt:Fn P w K mg base CX0 1 "parting" ["one", "other"] spParting:=Fn.of X G d_parting (λ_ _ _ _ _ _ us hl=>by obtain⟨a,b,rfl⟩:=L2.len2 hl;rfl) λf fd F=>Xod F T;have FXs:Fn P w K mg base CX0 2 "across" ["plot", "name"] K2:=Fn.of X G d_across (λ_ _ _ _ _ _ us hl=>by obtain⟨a,b,rfl⟩:=L2.len2 hl;rfl) λf fd F=>Xof F T FPt;have FNb:Fn P w K mg base (CX1 P w) 6 "neighbours" ["row", "plot"] (spNbs T_ (lamPos s_in_order)):=Fn.of X G d_neighbours (λ_ _ _ _ _ _ us hl=>by obtain⟨a,b,rfl⟩:=L2.len2 hl;rfl) λf fd F=>Xog F FAp FPl FD FXs;have FCd:Fn P w K mg base CX0 2 "_law_crossed" ["_law_row_here"] Fe:=Fn.of X G d__law_crossed (λ_ _ _ _ _ _ us hl=>by obtain⟨a,rfl⟩:=L2.len1 hl;rfl) λf fd F=>Xor F T FW FO;exact Xos F T FB FI FPl FNb FW FO FCd
theorem walk{l:PySem.W.OpenLaw}{q:Program}{loose:List Str}{XP:(Str->Option Value)->Heap->Prop}{YP:World->Heap->Prop}{d:DefRec}{K:Params->PySem.W.Frag}{T c0:Addr}(hn:l.most=some 63)(hdf:d.params.defaults=[])
  (hY:∀(w:World) (h:Heap),YP w h->(K w.params).In h) (hYT:∀(w:World) (h:Heap),YP w h->h.get? T=some (PySem.W.tabObj #[])) (hTK:∀P,(K P).lookup T=none) (hhd:∀P,PySem.W.codeHdIn (K P) c0 T=true)
  (F:∀(w:World) (mg:Str->Option Value) (fa:Addr) (h:Heap),(K w.params).In h->h.Ns mainGlobals mg->mg d.name=some (.ref fa) ->
   ∃fd:FuncData,(∀(s:Shared) (u:Value),BindsTo s fd ⟨[u],[]⟩ [("_law_script",u)])/\∀base:Heap,(K w.params).In base->base.Ns mainGlobals mg->BmOk mg base->FnOk l.prog w (K w.params) mg base CX0 8 fa fd ["_law_script"] (Ht (K w.params) T)):
  PySem.W.WalkO q loose XP YP l.row.toRowW d [] (λf vs=>PySem.call f vs):=
 L2.Xou (n:=63) (k:=8) (x := "_law_script") (CX:=λ_=>CX0) (sp:=λw=>Ht (K w.params) T) hn (by decide) hdf ⟨rfl,by decide,by decide,rfl⟩ hY hYT hTK hhd F (λ_ _ a ns hl hT hS=>⟨a,ns,rfl,hS,hl,hT,λ_=>rfl⟩) λ_ _ _ _ _ z=>z
end K14
open PySem PySem.W PyProof.Rows
set_option maxRecDepth 100000 in
set_option maxHeartbeats 0 in
theorem PySem.Challenge.cw_shoretold_k14_whole_sides_counted_holds : PySem.Challenge.rw_shoretold_k14_whole_sides_counted.Holds := by
 w_on;o_law;k_head;(case hw=>w_witness2)
 k_fill
 refine K14.walk (l:=PySem.Challenge.rw_shoretold_k14_whole_sides_counted) (T:=96) (c0:=100) rfl rfl (λw h Y=>PySem.W.km_in_of Y) (λw h Y=>PySem.W.km_tabs_of Y _ (Lk.mpr rfl)) ?hTK ?hhd ?F
 case hTK=>intro P;kernel_rfl
 case hhd=>intro P;kernel_rfl
 case F=>
  intro w mg fa h KX G hmg;refine' K14.Xov KX G hmg ?d_ask_ditch ?d_ditches ?d_ends ?d_spans ?d_lie_of ?d_crossings ?d_told ?d_in_order ?d_allows ?d_is_plot ?d_ask_plot ?d_plots ?d_parting ?d_across ?d_neighbours ?d__law_begin ?d__law_pick ?d__law_put ?d__law_where ?d__law_word ?d__law_barred ?d__law_row ?d__law_names ?d__law_island ?d__law_crossed ?d_law ?x_NoDitch ?x_NoPlot ?z_len ?z_range ?z_list ?z_min ?z_isinstance ?z_all ?z_str ?z_ValueError ?z_sorted ?z_set ?z_enumerate ?z_int ?z_bool ?z_tuple ?z_any ?z_dict ?z_sum ?z_max
  (case d_ask_ditch=>(refine' L2.DefAt.of ?a ?l ?c ?k;(case a=>k_is);(case l=>k_is);(case c=>k_is);(case k=>k_is)))
  (case d_ditches=>(refine' L2.DefAt.of ?a ?l ?c ?k;(case a=>k_is);(case l=>k_is);(case c=>k_is);(case k=>k_is)))
  (case d_ends=>(refine' L2.DefAt.of ?a ?l ?c ?k;(case a=>k_is);(case l=>k_is);(case c=>k_is);(case k=>k_is)))
  (case d_spans=>(refine' L2.DefAt.of ?a ?l ?c ?k;(case a=>k_is);(case l=>k_is);(case c=>k_is);(case k=>k_is)))
  (case d_lie_of=>(refine' L2.DefAt.of ?a ?l ?c ?k;(case a=>k_is);(case l=>k_is);(case c=>k_is);(case k=>k_is)))
  (case d_crossings=>(refine' L2.DefAt.of ?a ?l ?c ?k;(case a=>k_is);(case l=>k_is);(case c=>k_is);(case k=>k_is)))
  (case d_told=>(refine' L2.DefAt.of ?a ?l ?c ?k;(case a=>k_is);(case l=>k_is);(case c=>k_is);(case k=>k_is)))
  (case d_in_order=>(refine' L2.DefT.of ?a ?l ?c ?k ?t;(case a=>k_is);(case l=>k_is);(case c=>k_is);(case k=>k_is);(case t=>kernel_rfl)))
  (case d_allows=>(refine' L2.DefAt.of ?a ?l ?c ?k;(case a=>k_is);(case l=>k_is);(case c=>k_is);(case k=>k_is)))
  (case d_is_plot=>(refine' L2.DefAt.of ?a ?l ?c ?k;(case a=>k_is);(case l=>k_is);(case c=>k_is);(case k=>k_is)))
  (case d_ask_plot=>(refine' L2.DefAt.of ?a ?l ?c ?k;(case a=>k_is);(case l=>k_is);(case c=>k_is);(case k=>k_is)))
  (case d_plots=>(refine' L2.DefAt.of ?a ?l ?c ?k;(case a=>k_is);(case l=>k_is);(case c=>k_is);(case k=>k_is)))
  (case d_parting=>(refine' L2.DefAt.of ?a ?l ?c ?k;(case a=>k_is);(case l=>k_is);(case c=>k_is);(case k=>k_is)))
  (case d_across=>(refine' L2.DefAt.of ?a ?l ?c ?k;(case a=>k_is);(case l=>k_is);(case c=>k_is);(case k=>k_is)))
  (case d_neighbours=>(refine' L2.DefAt.of ?a ?l ?c ?k;(case a=>k_is);(case l=>k_is);(case c=>k_is);(case k=>k_is)))
  (case d__law_begin=>(refine' L2.DefAt.of ?a ?l ?c ?k;(case a=>k_is);(case l=>k_is);(case c=>k_is);(case k=>k_is)))
  (case d__law_pick=>(refine' L2.DefAt.of ?a ?l ?c ?k;(case a=>k_is);(case l=>k_is);(case c=>k_is);(case k=>k_is)))
  (case d__law_put=>(refine' L2.DefAt.of ?a ?l ?c ?k;(case a=>k_is);(case l=>k_is);(case c=>k_is);(case k=>k_is)))
  (case d__law_where=>(refine' L2.DefAt.of ?a ?l ?c ?k;(case a=>k_is);(case l=>k_is);(case c=>k_is);(case k=>k_is)))
  (case d__law_word=>(refine' L2.DefAt.of ?a ?l ?c ?k;(case a=>k_is);(case l=>k_is);(case c=>k_is);(case k=>k_is)))
  (case d__law_barred=>(refine' L2.DefAt.of ?a ?l ?c ?k;(case a=>k_is);(case l=>k_is);(case c=>k_is);(case k=>k_is)))
  (case d__law_row=>(refine' L2.DefAt.of ?a ?l ?c ?k;(case a=>k_is);(case l=>k_is);(case c=>k_is);(case k=>k_is)))
  (case d__law_names=>(refine' L2.DefAt.of ?a ?l ?c ?k;(case a=>k_is);(case l=>k_is);(case c=>k_is);(case k=>k_is)))
  (case d__law_island=>(refine' L2.DefAt.of ?a ?l ?c ?k;(case a=>k_is);(case l=>k_is);(case c=>k_is);(case k=>k_is)))
  (case d__law_crossed=>(refine' L2.DefAt.of ?a ?l ?c ?k;(case a=>k_is);(case l=>k_is);(case c=>k_is);(case k=>k_is)))
  (case d_law=>(refine' L2.DefAt.of ?a ?l ?c ?k;(case a=>k_is);(case l=>k_is);(case c=>k_is);(case k=>k_is)))
  (case x_NoDitch=>(refine' ⟨?a,?e,?ga,?gn,?cl,?sb,?so,?sv,?ss,?ic,?ty⟩;(case a=>k_is);(case e=>k_exc);(case ga=>k_is);(case gn=>k_is);(case cl=>k_is);(case sb=>k_is);(case so=>k_is);(case sv=>k_is);(case ss=>k_is);(case ic=>k_is);(case ty=>k_is)))
  (case x_NoPlot=>(refine' ⟨?a,?e,?ga,?gn,?cl,?sb,?so,?sv,?ss,?ic,?ty⟩;(case a=>k_is);(case e=>k_exc);(case ga=>k_is);(case gn=>k_is);(case cl=>k_is);(case sb=>k_is);(case so=>k_is);(case sv=>k_is);(case ss=>k_is);(case ic=>k_is);(case ty=>k_is)))
  (case z_len=>k_is);(case z_range=>k_is);(case z_list=>k_is);(case z_min=>k_is);(case z_isinstance=>k_is);(case z_all=>k_is);(case z_str=>k_is);(case z_ValueError=>k_is);(case z_sorted=>k_is);(case z_set=>k_is);(case z_enumerate=>k_is);(case z_int=>k_is);(case z_bool=>k_is);(case z_tuple=>k_is);(case z_any=>k_is);(case z_dict=>k_is);(case z_sum=>k_is);(case z_max=>k_is)
#print axioms PySem.Challenge.cw_shoretold_k14_whole_sides_counted_holds
