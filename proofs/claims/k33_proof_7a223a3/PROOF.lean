import PyProof.Rows.All
import Wide.All
import OpenK.AllK
import Wide.FinOn
import Lean
import PyProof.EqAt
import PyProof.EqKinds
import PyProof.TupleCall
import KE.KDictSum
import PyProof.Rows.SortStr
import PyProof.EnumStmt
import PyProof.EnumMake
import PyProof.StrBlockH
import PyProof.ReprStr
import PyProof.StrLawsRepr
import PyProof.FString
import PyProof.DictCompW
import PyProof.P3Eq
import PyProof.P3In
import PyProof.NeData
import PyProof.ReprHeadsTuple
import KE.KLam
import KE.KNestM
import KE.KSortKey
import KE.KSortTup
import PyProof.ReprNest
import PyProof.ReprLen
import KE.KDictOf
import PyProof.AttrMissSeq
import PyProof.WalkInts
import PySem.Challenge.RW_shoretold_k33_gates_of_a_ground
set_option bootstrap.genMatcherCode false
noncomputable section
set_option Elab.async false
set_option linter.all false
set_option maxRecDepth 100000
abbrev Xzk := @List.length_map
abbrev Xzl := @List.getElem?_eq_getElem
abbrev Xzm := @List.size_toArray
abbrev Xzn := @Nat.le_refl
abbrev Xzo := @List.mem_cons_of_mem
abbrev Xzp := @List.mem_cons_self
abbrev Xzq := @List.map_append
abbrev Xzr := @List.mem_singleton
abbrev Xzs := @Nat.ne_of_lt
abbrev Xzt := @List.length_append
abbrev Xzu := @List.mem_filter
abbrev Xzv := @List.mem_append
abbrev Xzw := @List.mem_cons
abbrev Xzx := @Option.some.inj
abbrev Xzy := @List.take_succ_eq_append_getElem
abbrev Xzz := @Array.length_toList
abbrev Xz0 := @Bool.false_ne_true
abbrev Xz1 := @List.getElem?_map
abbrev Xz2 := @List.getElem?_eq_some_iff
abbrev Xz3 := @Bool.and_eq_true
abbrev Xz4 := @List.mem_map
abbrev Xz5 := @Nat.lt_of_lt_of_le
abbrev Xz6 := @List.length_take
abbrev Xz7 := @List.filter_append
abbrev Xz8 := @List.all_eq_true
abbrev Xz9 := @List.map_cons
abbrev X0a := @List.length_cons
abbrev X0b := @List.getElem_mem
abbrev X0c := @Nat.le_trans
abbrev X0d := @List.filter_eq_self
abbrev X0e := @List.mem_append_right
abbrev X0f := @List.map_map
abbrev X0g := @List.length_eq_zero_iff
abbrev X0h := @Int.eq_ofNat_of_zero_le
abbrev X0i := @List.length_filter_le
abbrev X0j := @List.take_length
abbrev X0k := @Nat.zero_le
abbrev X0l := @List.filter_cons
abbrev X0m := @List.append_nil
abbrev X0n := @Nat.lt_irrefl
abbrev X0o := @List.length_singleton
abbrev X0p := @List.lookup_cons
abbrev X0q := @List.range_succ
abbrev X0r := @List.mem_iff_getElem
abbrev X0s := @List.length_range
abbrev X0t := @Bool.false_eq_true
abbrev X0u := @List.take_append_drop
abbrev X0v := @List.mem_range
abbrev X0w := @Bool.false_and
abbrev X0x := @List.map_congr_left
abbrev X0y := @List.countP_cons
abbrev X0z := @List.mem_append_left
abbrev X00 := @Nat.le_succ
abbrev X01 := @Bool.eq_iff_iff
abbrev X02 := @List.nodup_cons
abbrev X03 := @Nat.lt_succ_of_lt
abbrev X04 := @List.nodup_append
abbrev X05 := @List.length_drop
abbrev X06 := @Bool.true_and
abbrev X07 := @List.filterMap_cons
abbrev X08 := @List.length_reverse
abbrev X09 := @List.mem_singleton_self
abbrev X1a := @List.mem_of_mem_take
abbrev X1b := @Sum.inr.inj
abbrev X1c := @List.exists_mem_of_ne_nil
abbrev X1d := @List.length_nil
abbrev X1e := @Nat.not_lt_zero
abbrev X1f := @Option.isSome_iff_exists
abbrev X1g := @List.any_eq_true
abbrev X1h := @List.mem_of_mem_drop
abbrev X1i := @Nat.lt_trans
abbrev X1j := @List.take_sublist
abbrev X1k := @List.replicate_succ
abbrev X1l := @Option.map_some
abbrev X1m := @List.dropWhile_cons
abbrev X1n := @List.takeWhile_cons
abbrev X1o := @List.filter_eq_nil_iff
abbrev X1p := @List.getElem_map
abbrev X1q := @List.pairwise_cons
abbrev X1r := @List.sum_cons
abbrev X1s := @Bool.eq_false_iff
abbrev X1t := @List.count_append
abbrev X1u := @List.pairwise_map
abbrev X1v := @List.flatMap_cons
abbrev X1w := @List.flatMap_append
abbrev X1x := @List.perm_middle
abbrev X1y := @List.take_of_length_le
abbrev X1z := @List.dropLast_concat_getLast
abbrev X10 := @List.count_eq_zero
abbrev X11 := @List.countP_eq_length_filter
abbrev X12 := @List.nil_append
abbrev X13 := @List.find?_cons
abbrev X14 := @List.getElem?_eq_none
abbrev X15 := @Nat.min_eq_left
abbrev X16 := @Bool.or_eq_true
abbrev X17 := @Int.toNat_natCast
abbrev X18 := @List.append_assoc
abbrev X19 := @List.mem_of_getElem?
abbrev X2a := @List.count_cons_self
abbrev X2b := @List.Perm.refl
abbrev X2c := @List.ext_getElem
abbrev X2d := @List.flatMap_nil
abbrev X2e := @Nat.le_of_lt
abbrev X2f := @List.getElem?_take_of_lt
abbrev X2g := @Int.emod_lt_of_pos
abbrev X2h := @List.getElem?_set_self
abbrev X2i := @List.length_eq_one_iff
abbrev X2j := @List.flatten_cons
abbrev X2k := @Nat.lt_of_succ_lt
abbrev X2l := @Array.getElem?_toList
abbrev X2m := @List.set_set
abbrev X2n := @List.getElem_inj
abbrev X2o := @List.not_mem_nil
abbrev X2p := @List.getElem?_set_ne
abbrev X2q := @List.getElem_toArray
abbrev X2r := @List.any_cons
abbrev X2s := @List.of_mem_zip
abbrev X2t := @Bool.or_eq_true_iff
abbrev X2u := @List.filter_nil
abbrev X2v := @Array.Perm.refl
abbrev X2w := @Int.emod_nonneg
abbrev X2x := @List.length_pos_iff
abbrev X2y := @List.mem_filterMap
abbrev X2z := @Option.isSome_some
abbrev X20 := @Nat.lt_of_le_of_lt
abbrev X21 := @List.count_pos_iff
abbrev X22 := @List.map_inj_right
abbrev X23 := @List.getElem?_drop
abbrev X24 := @Bool.and_false
abbrev X25 := @List.drop_zero
abbrev X26 := @Bool.not_eq_true'
abbrev X27 := @Bool.or_false
abbrev X28 := @List.all_cons
abbrev X29 := @List.map_take
abbrev X3a := @List.map_drop
abbrev X3b := @Nat.ne_of_gt
abbrev X3c := @List.map_nil
abbrev X3d := @Bool.or_true
abbrev X3e := @PySem.wpAny_bind
abbrev X3f := @PySem.wpAny_pure
abbrev X3g := @PySem.sizeLine_eq
abbrev X3h := @if_neg
abbrev X3i := @if_pos
abbrev X3j := @decide_eq_true
abbrev X3k := @decide_eq_false
abbrev X3l := @of_decide_eq_true
abbrev X3m := @of_decide_eq_false
abbrev X3n := @PySem.Heap.lt_size
abbrev X3o := @PySem.Heap.get?_push_of_some
abbrev X3p := @PySem.Heap.SameBut.update
namespace L2
open PySem PySem.Spec PyProof.Rows
abbrev Key:=Sum Int Str
def Xh0:Key->Value->Bool
 | .inl k,v=>Value.isInt k v
 | .inr x,v=>Value.isStrOf x v
def keyH (w:World):Key->Int
 | .inl k=>hashInt k
 | .inr x=>hashStr w x
theorem Xa8:∀{k:Key} {v:Value},Xh0 k v=true->(∃i t,k=Sum.inl i/\v=Value.int i t)\/(∃x t,k=Sum.inr x/\v=Value.str x t)
 | .inl i,v,h=>by
  obtain⟨t,e⟩:=Value.isInt_shape (k:=i) (v:=v) h
  exact .inl ⟨i,t,rfl,e⟩
 | .inr x,v,h=>by
  obtain⟨t,e⟩:=Value.isStrOf_shape (x:=x) (v:=v) h
  exact .inr ⟨x,t,rfl,e⟩
theorem Xog(i:Int)(t:Tok):Xh0 (.inl i) (.int i t)=true:=by simp[Xh0,Value.isInt]
theorem Xoh(x:Str)(t:Tok):Xh0 (.inr x) (.str x t)=true:=by simp[Xh0,Value.isStrOf]
theorem Xwf(a b:Int):decide ((Sum.inl a:Key)=Sum.inl b)=(a==b):=by
 by_cases e:a=b
 ·subst e;simp
 ·have h:¬(Sum.inl a:Key)=Sum.inl b:=λq=>e (Sum.inl.inj q)
  rw[X3k h]
  exact(beq_eq_false_iff_ne.mpr e).symm
theorem Xwg(a b:Str):decide ((Sum.inr a:Key)=Sum.inr b)=decide (a=b):=by
 by_cases e:a=b
 ·subst e;simp
 ·have h:¬(Sum.inr a:Key)=Sum.inr b:=λq=>e (X1b q)
  rw[X3k h,X3k e]
theorem Xwh(a:Int)(b:Str):decide ((Sum.inl a:Key)=Sum.inr b)=false:=X3k (λq=>nomatch q)
theorem Xwi(a:Str)(b:Int):decide ((Sum.inr a:Key)=Sum.inl b)=false:=X3k (λq=>nomatch q)
def Xas (prog:Program) (w:World):PySem.KeyKind prog w Key where
 is:=Xh0
 hash:=keyH w
 inj:=λv a b ha hb=>by
  rcases Xa8 ha with ⟨i,t,rfl,rfl⟩ | ⟨x,t,rfl,rfl⟩
  ·rcases Xa8 hb with ⟨j,u,rfl,e⟩ | ⟨y,u,rfl,e⟩
   ·injection e with e1 _;rw[e1]
   ·exact nomatch e
  ·rcases Xa8 hb with ⟨j,u,rfl,e⟩ | ⟨y,u,rfl,e⟩
   ·exact nomatch e
   ·injection e with e1 _;rw[e1]
 byValue:=λk v h=>by
  rcases Xa8 h with ⟨i,t,rfl,rfl⟩ | ⟨x,t,rfl,rfl⟩<;>rfl
 pyHash:=λhv h=>by
  rcases Xa8 hv with ⟨i,t,rfl,rfl⟩ | ⟨x,t,rfl,rfl⟩
  ·exact wpAny_pyHash_int h
  ·exact wpAny_pyHash_str h
 eqBool:=λhu hv h=>by
  rcases Xa8 hu with ⟨i,t,rfl,rfl⟩ | ⟨x,t,rfl,rfl⟩
  ·rcases Xa8 hv with ⟨j,u,rfl,rfl⟩ | ⟨y,u,rfl,rfl⟩
   ·rw[Xwf] at h;exact wpAny_eqBool_int h
   ·rw[Xwh] at h;exact SeqAt.EqAt.int_str i t y u _ _ _ _ h
  ·rcases Xa8 hv with ⟨j,u,rfl,rfl⟩ | ⟨y,u,rfl,rfl⟩
   ·rw[Xwi] at h;exact SeqAt.EqAt.str_int x t j u _ _ _ _ h
   ·rw[Xwg] at h;exact wpAny_eqBool_str h
 «strs»:=λk x t v h=>by
  rcases Xa8 h with ⟨i,u,rfl,e⟩ | ⟨y,u,rfl,e⟩
  ·exact nomatch e
  ·injection e with e1 _
   subst e1
   cases v<;>rfl
theorem Xkv(prog:Program)(w:World)(i:Int)(t:Tok):(Xas prog w).is (.inl i) (.int i t)=true:=Xog i t
theorem Xkw(prog:Program)(w:World)(x:Str)(t:Tok):(Xas prog w).is (.inr x) (.str x t)=true:=Xoh x t
inductive V where
 | non | bl (b:Bool) | int (i:Int) | str (x:Str) | byt (b:Array UInt8) | flt (b:UInt64) | ref (a:Addr) | ty (n:String)
 deriving DecidableEq
def RelV:V->Value->Prop
 | .non,u=>u=Value.none
 | .bl b,u=>u=Value.bool b
 | .int i,u=>∃t,u=Value.int i t
 | .str x,u=>∃t,u=Value.str x t
 | .byt b,u=>∃t,u=Value.bytes b t
 | .flt b,u=>∃t,u=Value.float b t
 | .ref a,u=>u=Value.ref a
 | .ty n,u=>u=Value.type n
abbrev Vals:List V->List Value->Prop:=Paired RelV
theorem Vals.length{xs:List V}{us:List Value}(r:Vals xs us):xs.length=us.length:=Paired.length r
theorem Vals.get:∀{xs:List V} {us:List Value} {i:Nat} {x:V},Vals xs us->xs[i]? = some x->∃u,us[i]? = some u/\RelV x u
 | _,_,_,_,.nil,e=>by simp at e
 | _,_,0,_,.cons r _,e=>by simp at e;subst e;exact⟨_,rfl,r⟩
 | _,_,i+1,x,.cons _ t,e=>by
  obtain⟨u,h1,h2⟩:=Vals.get (i:=i) (x:=x) t (by simpa using e)
  exact⟨u,by simpa using h1,h2⟩
theorem Vals.set{x:V}{u:Value}(r:RelV x u):∀{xs:List V} {us:List Value} (i:Nat),Vals xs us->Vals (xs.set i x) (us.set i u)
 | _,_,_,.nil=>.nil
 | _,_,0,.cons _ t=>.cons r t
 | _,_,i+1,.cons q t=>.cons q (Vals.set r i t)
theorem Vals.append:∀{xs ys:List V} {us ws:List Value},Vals xs us->Vals ys ws->Vals (xs++ys) (us++ws)
 | _,_,_,_,.nil,s=>s
 | _,_,_,_,.cons r t,s=>.cons r (Vals.append t s)
theorem Vals.take:∀{xs:List V} {us:List Value} (n:Nat),Vals xs us->Vals (xs.take n) (us.take n)
 | _,_,0,_=>.nil
 | _,_,_+1,.nil=>.nil
 | _,_,n+1,.cons r t=>.cons r (Vals.take n t)
theorem Vals.drop:∀{xs:List V} {us:List Value} (n:Nat),Vals xs us->Vals (xs.drop n) (us.drop n)
 | _,_,0,r=>r
 | _,_,_+1,.nil=>.nil
 | _,_,n+1,.cons _ t=>Vals.drop n t
def RelO:Option V->Option Value->Prop
 | some v,some u=>RelV v u
 | none,none=>True
 | _,_=>False
def KV {κ : Type}:List (κ × V)->List (κ × Value)->Prop:=Paired λ(p : κ × V) (q : κ × Value)=>p.1=q.1/\RelV p.2 q.2
def kV:Key->V
 | .inl i=>.int i
 | .inr x=>.str x
inductive HO where
 | lst (xs:List V)
 | tup (xs:List V)
 | dK (kvs:List (Key×V)) | dT (kvs:List (List Key×V))
 | set (S:Int->Bool) (n:Nat)
 | ins (C dx:Addr) (fs:List (Str×V))
 | own (x:Addr)
 | xd (fs:List (Str×V))
 | met (f x:Addr)
 | rng (lo hi:Int)
 | frz (o:Obj) (u:HO)
 | tbl (ps:Array Value)
 | ext (φ : Heap->Prop)
abbrev Hp:=Addr->Option HO
def upd (H:Hp) (a:Addr) (o:HO):Hp:=λb=>if b=a then some o else H b
theorem Xab{H:Hp}{a:Addr}{o:HO}:upd H a o a=some o:=by unfold upd;rw[X3i rfl]
theorem Xae{H:Hp}{a b:Addr}{o:HO}(h:b≠a):upd H a o b=H b:=by unfold upd;rw[X3h h]
theorem Xwj{H:Hp}{a b:Addr}{o u:HO}(h:H a=some o)(h':H b=some u)(d:o≠u):a≠b:=by
 intro e;subst e;rw[h] at h';exact d (Xzx h')
theorem Xaf{H:Hp}{a b:Addr}{o:HO}(h:H a=some o)(h':H b=none):a≠b:=by
 intro e;subst e;rw[h] at h';cases h'
section
variable (P:Program) (w:World)
def Xbm (H:Hp) (h:Heap) (a:Addr):HO->Prop
 | .lst xs=>xs.length<=sizeLine/\∃(its:List Value) (n:Nat),Vals xs its/\h.get? a=some {cls:=.type "list",data:=.seq its.toArray n}
 | .tup xs=>xs.length<=sizeLine/\∃its:List Value,Vals xs its/\IsTup h a its.toArray
 | .dK kvs=>kvs.length<=sizeLine/\(a==sysModules)=false/\∃vs,KV kvs vs/\h.DictOf (Xas P w) a vs
 | .dT kvs=>kvs.length<=sizeLine/\(a==sysModules)=false/\∃xs:List (List Key×Addr×Value),
   Paired (λ(p:List Key×V) (q:List Key×Addr×Value)=>p.1=q.1/\H q.2.1=some (.tup (p.1.map kV))/\RelV p.2 q.2.2) kvs xs /\
   ∃o es ep,h.get? a=some o/\o.ExactDict/\o.data = .dict es ep/\es.toList=xs.map (entryOfKey (tupleKind (Xas P w)))/\(xs.map (·.1)).Nodup
 | .set S n=>h.SetOf (intKind P w) a S n
 | .ins C dx fs=>H dx=some (.own a)/\fs.length<=1000/\dx≠a/\h.get? a=some (PySem.W.instObj C dx) /\
   ∃mA,h.Ns1 dx mA/\(∀f,RelO (fs.lookup f) (mA f))/\PySem.Within mA (fs.map (·.1))
 | .own _=>∃o,h.get? a=some o
 | .xd fs=>∃mA,h.Ns1 a mA/\∀f,RelO (fs.lookup f) (mA f)
 | .rng lo hi=>∃t u v,h.get? a=some {cls:=.type "range",data:=.fields #[.int lo t,.int hi u,.int 1 v]}
 | .frz o u=>h.get? a=some o/\Xbm H h a u
 | .tbl ps=>h.get? a=some {cls:=.none,data:=.fields ps}
 | .met f x=>h.get? a=some (PySem.W.methodObj (.ref f) (.ref x))
 | .ext φ => φ h/\(∃o,h.get? a=some o)/\∀h1 h2:Heap, φ h1->(∀o,h1.get? a=some o->h2.get? a=some o) -> φ h2
def HOk (H:Hp) (h:Heap):Prop:=∀a o,H a=some o->Xbm P w H h a o
end
section
variable {P:Program}{w:World}{H H':Hp}{h h':Heap}{a:Addr}{o:HO}
theorem Xbm.lt(x:Xbm P w H h a o):a<h.objs.size:=by
 cases o with
 | lst xs=>obtain⟨_,_,_,_,e⟩:=x;exact X3n e
 | tup xs=>obtain⟨_,_,_,p⟩:=x;exact p.lt
 | dK kvs=>obtain⟨_,_,_,_,o,_,_,e,_⟩:=x;exact X3n e
 | dT kvs=>obtain⟨_,_,_,_,o,_,_,e,_⟩:=x;exact X3n e
 | set S n=>obtain⟨o,_,_,_,e,_⟩:=x;exact X3n e
 | ins C dx fs=>obtain⟨_,_,_,e,_⟩:=x;exact X3n e
 | own y=>obtain⟨_,e⟩:=x;exact X3n e
 | xd fs=>obtain⟨_,⟨_,_,_,e,_⟩,_⟩:=x;exact X3n e
 | rng lo hi=>obtain⟨_,_,_,e⟩:=x;exact X3n e
 | frz ob u=>obtain⟨e,_⟩:=x;exact X3n e
 | tbl ps=>exact X3n (show h.get? a=some _ from x)
 | met f y=>exact X3n (show h.get? a=some _ from x)
 | ext φ=>obtain⟨_,⟨_,e⟩,_⟩:=x;exact X3n e
theorem Paired.mapP{α β : Type}{F G : α -> β->Prop}:∀{l₁ : List α} {l₂ : List β},Paired F l₁ l₂->(∀a b,F a b->G a b)->Paired G l₁ l₂
 | _,_,.nil,_=>.nil
 | _,_,.cons r t,f=>.cons (f _ _ r) (Paired.mapP t f)
theorem Xbm.stay(x:Xbm P w H h a o)(k:∀b u,(b=a\/H b=some (.own a))->h.get? b=some u->h'.get? b=some u)
  (ho:∀b,H b=some (.own a)->H' b=some (.own a)) (ht:∀b xs,H b=some (.tup xs)->H' b=some (.tup xs)):Xbm P w H' h' a o:=by
 induction o with
 | lst xs=>obtain⟨z,its,n,r,e⟩:=x;exact⟨z,its,n,r,k _ _ (.inl rfl) e⟩
 | tup xs=>obtain⟨z,its,r,ob,e,c⟩:=x;exact⟨z,its,r,ob,k _ _ (.inl rfl) e,c⟩
 | dK kvs=>obtain⟨z,y,vs,r,ob,es,ep,e,c⟩:=x;exact⟨z,y,vs,r,ob,es,ep,k _ _ (.inl rfl) e,c⟩
 | dT kvs=>
  obtain⟨z,y,xs,r,ob,es,ep,e,c⟩:=x
  exact⟨z,y,xs,Paired.mapP r λp q z=>⟨z.1,ht _ _ z.2.1,z.2.2⟩,ob,es,ep,k _ _ (.inl rfl) e,c⟩
 | set S n=>obtain⟨ob,es,ep,t,e,c⟩:=x;exact⟨ob,es,ep,t,k _ _ (.inl rfl) e,c⟩
 | ins C dx fs=>
  obtain⟨d,z,ne,e,mA,⟨od,es,ep,e2,c⟩,r⟩:=x
  exact⟨ho _ d,z,ne,k _ _ (.inl rfl) e,mA,⟨od,es,ep,k _ _ (.inr d) e2,c⟩,r⟩
 | own y=>obtain⟨ob,e⟩:=x;exact⟨ob,k _ _ (.inl rfl) e⟩
 | xd fs=>obtain⟨mA,⟨od,es,ep,e,c⟩,r⟩:=x;exact⟨mA,⟨od,es,ep,k _ _ (.inl rfl) e,c⟩,r⟩
 | rng lo hi=>obtain⟨t,u,v,e⟩:=x;exact⟨t,u,v,k _ _ (.inl rfl) e⟩
 | frz ob u ih=>obtain⟨e,q⟩:=x;exact⟨k _ _ (.inl rfl) e,ih q⟩
 | tbl ps=>
  have e:h.get? a=some {cls:=.none,data:=.fields ps}:=x
  show h'.get? a=some {cls:=.none,data:=.fields ps}
  exact k a _ (.inl rfl) e
 | met f y=>
  have e:h.get? a=some (PySem.W.methodObj (.ref f) (.ref y)):=x
  show h'.get? a=some (PySem.W.methodObj (.ref f) (.ref y))
  exact k a _ (.inl rfl) e
 | ext φ=>obtain⟨p,⟨o,e⟩,st⟩:=x;exact⟨st _ _ p λo q=>k _ _ (.inl rfl) q,⟨o,k _ _ (.inl rfl) e⟩,st⟩
theorem HOk.lt(x:HOk P w H h)(e:H a=some o):a<h.objs.size:=(x a o e).lt
theorem HOk.fresh(x:HOk P w H h)(e:h.objs.size<=a):H a=none:=by
 cases q:H a with
 | none=>rfl
 | some u=>exact absurd (Xz5 (x.lt q) e) (X0n _)
theorem HOk.kept(x:HOk P w H h)(k:∀b u,h.get? b=some u->h'.get? b=some u):HOk P w H h':=λa o e=>
 (x a o e).stay (λb u _ q=>k b u q) (λ_ q=>q) λ_ _ q=>q
theorem HOk.laid(x:HOk P w H h)(k:∀b u,h.get? b=some u->h'.get? b=some u)(hp:h.objs.size<=a)(new:Xbm P w (upd H a o) h' a o):HOk P w (upd H a o) h':=λb u e=>by
 have hn:=x.fresh hp
 by_cases hb:b=a
 ·subst hb;rw[Xab] at e;cases e;exact new
 ·rw[Xae hb] at e
  exact(x b u e).stay (λc v _ q=>k c v q) (λc q=>by rw[Xae (Xaf q hn)];exact q) λc xs q=>by rw[Xae (Xaf q hn)];exact q
end
def Rd (H:Hp) (a:Addr) (u:HO):Prop:=H a=some u \/ ∃o,H a=some (.frz o u)
theorem Rd.ok{P:Program}{w:World}{H:Hp}{h:Heap}{a:Addr}{u:HO}(r:Rd H a u)(x:HOk P w H h):Xbm P w H h a u:=by
 rcases r with r | ⟨o,r⟩
 ·exact x a u r
 ·obtain⟨_,q⟩:=x a _ r
  exact q
def Mut:Option HO->Prop
 | some (.lst _)=>True
 | some (.dK _)=>True
 | some (.dT _)=>True
 | some (.set _ _)=>True
 | some (.ins _ _ _)=>True
 | some (.ext _)=>True
 | _=>False
section
variable {P:Program}{w:World}{H:Hp}{h h':Heap}{x e:Addr}{o':HO}
theorem HOk.write(ok:HOk P w H h)(mu:Mut (H x))(he:e=x\/H e=some (.own x))(k:∀b u,b≠e->h.get? b=some u->h'.get? b=some u)(heo:∃u,h'.get? e=some u)
  (new:Xbm P w (upd H x o') h' x o'):HOk P w (upd H x o') h':=λb u q=>by
 have nown:∀c y,H c=some (.own y)->c≠x:=λc y r z=>by subst z;rw[r] at mu;exact mu
 have ntup:∀c xs,H c=some (.tup xs)->c≠x:=λc xs r z=>by subst z;rw[r] at mu;exact mu
 by_cases hb:b=x
 ·subst hb;rw[Xab] at q;cases q;exact new
 ·rw[Xae hb] at q
  by_cases hbe:b=e
  ·have q':H b=some (.own x):=by
    rcases he with z | z
    ·exact absurd (hbe.trans z) hb
    ·rw[hbe];exact z
   rw[q] at q';cases q'
   obtain⟨v,hv⟩:=heo
   exact⟨v,by rw[hbe];exact hv⟩
  ·refine(ok b u q).stay (λc v hc r=>k c v ?_ r) (λc r=>by rw[Xae (nown c b r)];exact r) λc xs r=>by rw[Xae (ntup c xs r)];exact r
   rcases hc with rfl | hc
   ·exact hbe
   ·rintro rfl
    rcases he with z | z
    ·exact nown c b hc z
    ·rw[hc] at z;cases z;exact hb rfl
end
structure Un (fs ex:List Addr) (H H':Hp) (h h':Heap):Prop where
 keep:∀b o,h.get? b=some o->H b=none->b∉fs->b∉ex->h'.get? b=some o
 slot:∀b o,h.get? b=some o->H b=none->b∈fs->b∉ex->∃sl,h'.get? b=some {o with slots:=sl}
 free:∀b o,h.get? b=some o->H b=none->b∉ex->H' b=none
 there:∀b o,h.get? b=some o->b∉ex->∃o',h'.get? b=some o'
 tups:∀b xs,H b=some (.tup xs)->H' b=some (.tup xs)
 frzs:∀b o u,H b=some (.frz o u)->H' b=some (.frz o u)
 tbls:∀b ps,H b=some (.tbl ps)->∃more,H' b=some (.tbl (ps++more))
section
variable {fs fs' ex ex':List Addr}{H H1 H2:Hp}{h h1 h2 h':Heap}{a x e:Addr}{o:HO}
theorem Un.any(u:Un fs ex H H1 h h1){b:Addr}{ob:Obj}(q:h.get? b=some ob)(n:H b=none)(hx:b∉ex):∃sl,h1.get? b=some {ob with slots:=sl}:=by
 by_cases hb:b∈fs
 ·exact u.slot b ob q n hb hx
 ·exact⟨ob.slots,u.keep b ob q n hb hx⟩
theorem Un.kept(k:∀b u,h.get? b=some u->h'.get? b=some u):Un fs ex H H h h':=
 ⟨λb ob q _ _ _=>k b ob q,λb ob q _ _ _=>⟨ob.slots,k b ob q⟩,λ_ _ _ n _=>n,λb ob q _=>⟨ob,k b ob q⟩,λ_ _ q=>q,λ_ _ _ q=>q,λ_ ps q=>⟨#[],by rw[q];simp⟩⟩
theorem Un.refl:Un fs ex H H h h:=Un.kept λ_ _ q=>q
theorem Un.laid(k:∀b u,h.get? b=some u->h'.get? b=some u)(hp:h.objs.size<=a)(hn:H a=none):Un fs ex H (upd H a o) h h' where
 keep:=λb u q _ _ _=>k b u q
 slot:=λb u q _ _ _=>⟨u.slots,k b u q⟩
 free:=λb u q n _=>by rw[Xae (Xzs (Xz5 (X3n q) hp))];exact n
 there:=λb u q _=>⟨u,k b u q⟩
 tups:=λb xs q=>by rw[Xae (Xaf q hn)];exact q
 frzs:=λb u xs q=>by rw[Xae (Xaf q hn)];exact q
 tbls:=λb ps q=>⟨#[],by rw[Xae (Xaf q hn),q];simp⟩
theorem Un.write(mu:Mut (H x))(he:e=x\/H e=some (.own x))(k:∀b u,b≠e->h.get? b=some u->h'.get? b=some u)(heo:∃u,h'.get? e=some u):Un fs ex H (upd H x o) h h':=by
 have hx:∀b,H b=none->b≠x:=λb n z=>by subst z;rw[n] at mu;exact mu
 have hb:∀b,H b=none->b≠e:=λb n z=>by
  subst z
  rcases he with r | r
  ·exact hx b n r
  ·rw[n] at r;cases r
 have hm:∀b u,H b=some u->¬Mut (some u)->b≠x:=λb u q nm z=>by subst z;rw[q] at mu;exact nm mu
 refine⟨λb u q n _ _=>k b u (hb b n) q,λb u q n _ _=>⟨u.slots,k b u (hb b n) q⟩,λb u q n _=>by rw[Xae (hx b n)];exact n,λb u q _=>?_,
  λb xs q=>by rw[Xae (hm b _ q λz=>z)];exact q,λb u xs q=>by rw[Xae (hm b _ q λz=>z)];exact q,λb ps q=>⟨#[],by rw[Xae (hm b _ q λz=>z),q];simp⟩⟩
 by_cases hbe:b=e
 ·subst hbe;exact heo
 ·exact⟨u,k b u hbe q⟩
end
def trk (h:Heap) (H:Hp):List Addr:=(List.range h.objs.size).filter λa=>(H a).isSome
def hidT (h:Heap) (H:Hp):Heap:=PySem.W.hideAll h (trk h H)
theorem Xoi(h:Heap)(H:Hp):(hidT h H).objs.size=h.objs.size:=PySem.W.hideAll_size _ _
theorem Xro{h:Heap}{H:Hp}{b:Addr}{o:Obj}(e:h.get? b=some o)(n:H b=none):(hidT h H).get? b=some o:=
 PySem.W.hideAll_get _ e λhm=>by
  have q:(H b).isSome=true:=(Xzu.mp hm).2
  rw[n] at q;simp at q
theorem Xt9{h:Heap}{H:Hp}{b:Addr}{o:Obj}(e:(hidT h H).get? b=some o):h.get? b=some o/\H b=none:=by
 have e':h.get? b=some o:=PySem.W.of_hideAll (trk h H) e
 refine⟨e',?_⟩
 cases q:H b with
 | none=>rfl
 | some x=>
  have hm:b∈trk h H:=Xzu.mpr ⟨X0v.mpr (X3n e'),by simp[q]⟩
  have z:(hidT h H).get? b=none:=PySem.W.hideAll_none (trk h H) hm
  rw[z] at e;cases e
def Xua (g h:Heap) (L:Addr):List (Addr×Obj):=(List.range h.objs.size).filterMap λa=>if a=L\/(g.get? a).isSome=true then none else (h.get? a).map λo=>(a,o)
def rest (g h:Heap) (L d:Addr):List (Addr×Obj):=(Xua g h L).filter λp=>decide (p.1≠d)
structure Mod (K:PySem.W.Frag) (mg:Str->Option Value) (base:Heap):Prop where
 kin:K.In base
 glob:base.Ns mainGlobals mg
 blt:∃mb,base.Ns builtinsNs mb/\∀x:Str,x ≠ "__name__" -> mb x=bootBuiltins x
 nolimit:base.NoLimit
structure Cx where
 prog:Program
 w:World
 K:PySem.W.Frag
 mg:Str->Option Value
 base:Heap
 A:Around
 N:List Str
 s₀ : Shared
 H₀ : Hp
 env:Env
 outer:List Env
 stack:List Env
 ex:List Addr
 fn:Str->Bool
 calm:Bool
 pn:List (Addr×Obj)
 xe:Value->Shared->Prop
def frs (l:List Env):List Addr:=l.filterMap (·.frame)
abbrev Cx.fs (X:Cx):List Addr:=frs X.outer
def Vis (sc:Scope) (x:Str):Prop:=sc.names.lookup x=some .local\/sc.names.lookup x=some .cell\/sc.names.lookup x=some .free
def Loc (sc:Scope) (x:Str):Prop:=sc.names.lookup x=some .local\/sc.names.lookup x=some .cell
def Look (env:Env) (h:Heap) (m:Str->Option Value) (x:Str) (u:Value):Prop:=
 (env.kindOf x=some .local/\m x=some u)\/((env.kindOf x=some .cell\/env.kindOf x=some .free)/\∃c,env.cells.lookup x=some c/\h.IsCell c (some u))
structure Cx.Ok (X:Cx):Prop where
 mod:Mod X.K X.mg X.base
 kind:X.env.scope.kind = .function
 glob:X.env.globals=mainGlobals
 blt:X.env.builtins=builtinsNs
 above:X.s₀.heap.objs.size<=X.env.locals
 inj:∀x y c,X.env.cells.lookup x=some c->X.env.cells.lookup y=some c->x=y
 has:∀x,(X.env.kindOf x=some .cell\/X.env.kindOf x=some .free)->∃c,X.env.cells.lookup x=some c
 cab:∀x c,X.fn x=true->X.env.cells.lookup x=some c->X.s₀.heap.objs.size<=c
 hd:X.calm=true->X.A.handled=none
 frames:X.A.frames=some X.stack
 stk:X.stack=X.outer\/(X.stack=X.env::X.outer/\X.env.frame=some X.env.locals)
 exf:∀b∈X.ex,b≠X.env.locals/\∀x c,X.env.cells.lookup x=some c->c≠b
 bs:∀b o,X.base.get? b=some o->X.s₀.heap.get? b=some o/\X.H₀ b=none
 bsz:X.base.objs.size<=X.s₀.heap.objs.size
 noex:∀b o,X.base.get? b=some o->b∉X.ex
 exfs:∀b∈X.ex,b∉X.fs
 funs:X.s₀.heap.FunFrames X.base X.outer
 frf:∀b∈X.fs,X.H₀ b=none
structure Inv (X:Cx) (pins:List (Addr×Obj)) (σ:List (Option V)) (H:Hp) (s:Shared):Prop where
 ok:X.Ok
 os:s.os=X.s₀.os
 bare:AllBare s.gens
 base:Un X.fs X.ex X.H₀ H X.s₀.heap s.heap
 loc:∃m,s.heap.Ns X.env.locals m/\∀(i:Nat) (x:Str) (v:V),X.N[i]? = some x -> σ[i]? = some (some v)->Vis X.env.scope x->∃u,RelV v u/\Look X.env s.heap m x u
 cell:∀x c,X.env.cells.lookup x=some c->∃v,s.heap.IsCell c v
 free:H X.env.locals=none
 freeC:∀x c,X.env.cells.lookup x=some c->H c=none
 pin:∀p∈X.pn++pins,s.heap.get? p.1=some p.2/\H p.1=none/\p.1≠X.env.locals/\p.1∉X.fs/\∀v,p.2.data ≠ .cell v
 hok:HOk X.prog X.w H s.heap
 len : σ.length=X.N.length
section
variable {X:Cx}{pins:List (Addr×Obj)}{σ:List (Option V)}{H H':Hp}{s:Shared}{h':Heap}
theorem Cx.Ok.nofr(ok:X.Ok){b:Addr}{o:Obj}(e:X.base.get? b=some o):b∉X.fs:=λhb=>by
 have:=(ok.funs.mem hb).1
 rw[e] at this;cases this
theorem Inv.bs(I:Inv X pins σ H s):∀b o,X.base.get? b=some o->s.heap.get? b=some o/\H b=none:=λb o e=>
 ⟨I.base.keep b o (I.ok.bs b o e).1 (I.ok.bs b o e).2 (I.ok.nofr e) (I.ok.noex b o e),I.base.free b o (I.ok.bs b o e).1 (I.ok.bs b o e).2 (I.ok.noex b o e)⟩
theorem Inv.bk(I:Inv X pins σ H s):∀b o,X.base.get? b=some o->s.heap.get? b=some o:=λb o e=>(I.bs b o e).1
theorem Inv.mod(I:Inv X pins σ H s):Mod X.K X.mg X.base:=I.ok.mod
theorem Inv.kIn(I:Inv X pins σ H s):X.K.In s.heap:=I.ok.mod.kin.keeps I.bk
theorem Inv.lt(I:Inv X pins σ H s):X.env.locals<s.heap.objs.size:=let ⟨_,hn,_⟩:=I.loc;hn.lt
theorem Inv.sz(I:Inv X pins σ H s):X.s₀.heap.objs.size<=s.heap.objs.size:=X0c I.ok.above (X2e I.lt)
theorem Inv.nofs(I:Inv X pins σ H s){a:Addr}(h:s.heap.objs.size<=a):a∉X.fs:=λhb=>by
 obtain⟨_,o,ho,_⟩:=I.ok.funs.mem hb
 exact absurd (Xz5 (X3n ho) (X0c I.sz h)) (X0n _)
theorem Inv.cne(I:Inv X pins σ H s):∀x c,X.env.cells.lookup x=some c->c≠X.env.locals:=λx c e z=>by
 obtain⟨v,o,ho,hd⟩:=I.cell x c e
 obtain⟨m,⟨o',es,ep,ho',hd',_⟩,_⟩:=I.loc
 rw[z,ho'] at ho;cases ho;rw[hd'] at hd;cases hd
theorem Inv.funs(I:Inv X pins σ H s):s.heap.FunFrames X.base X.outer:=by
 have all:∀(l:List Env),(∀b∈frs l,b∈X.fs)->X.s₀.heap.FunFrames X.base l->s.heap.FunFrames X.base l:=by
  intro l
  induction l with
  | nil=>intro _ _;trivial
  | cons env r ih=>
   intro hs hl
   obtain⟨hk,⟨L,o,hf,hn,ho,hd⟩,hr⟩:=hl
   have hL:L∈X.fs:=hs L (by unfold frs;rw[X07,hf];exact Xzp)
   obtain⟨sl,e⟩:=I.base.slot L o ho (I.ok.frf L hL) hL λz=>I.ok.exfs L z hL
   exact⟨hk,⟨L,_,hf,hn,e,hd⟩,ih (λb hb=>hs b (by unfold frs;rw[X07,hf];exact Xzo _ hb)) hr⟩
 exact all X.outer (λ_ hb=>hb) I.ok.funs
theorem Inv.stack(I:Inv X pins σ H s):s.heap.FunFrames X.base X.stack:=by
 rcases I.ok.stk with e | ⟨e,hf⟩
 ·rw[e];exact I.funs
 ·rw[e]
  obtain⟨m,hn,_⟩:=I.loc
  refine .cons (by rw[I.ok.kind];decide) hf hn ?_ I.funs
  exact Heap.get?_none_of_le (X0c I.ok.bsz I.ok.above)
theorem Inv.stkSub(I:Inv X pins σ H s):∀b∈frs X.stack,b∈X.env.locals::X.fs:=λb hb=>by
 rcases I.ok.stk with e | ⟨e,hf⟩
 ·rw[e] at hb;exact Xzo _ hb
 ·rw[e] at hb
  unfold frs at hb
  rw[X07,hf] at hb
  exact hb
theorem Inv.stkFree(I:Inv X pins σ H s):∀b∈frs X.stack,H b=none:=λb hb=>by
 rcases Xzw.mp (I.stkSub b hb) with e | hb
 ·rw[e];exact I.free
 ·obtain⟨_,o,ho,_⟩:=I.ok.funs.mem hb
  exact I.base.free b o ho (I.ok.frf b hb) λz=>I.ok.exfs b z hb
theorem Inv.step{g':Array GenState}{t':Nat}{d':Drawn}{ch:List Addr}(I:Inv X pins σ H s)
  (hch:∀b∈ch,(b∈X.ex\/X.s₀.heap.objs.size<=b)/\b≠X.env.locals/\(∀x c,X.env.cells.lookup x=some c->c≠b)/\∀p∈X.pn++pins,p.1≠b)
  (keep:∀b o,b≠X.env.locals->b∉X.fs->b∉ch->s.heap.get? b=some o->H b=none->h'.get? b=some o)
  (slot:∀b o,b≠X.env.locals->b∈X.fs->b∉ch->s.heap.get? b=some o->H b=none->∃sl,h'.get? b=some {o with slots:=sl}) (free:∀b o,b∉ch->s.heap.get? b=some o->H b=none->H' b=none)
  (there:∀b o,b∉ch->s.heap.get? b=some o->∃o',h'.get? b=some o')
  (tups:∀b xs,H b=some (.tup xs)->H' b=some (.tup xs)) (frzs:∀b o u,H b=some (.frz o u)->H' b=some (.frz o u)) (tbls:∀b ps,H b=some (.tbl ps)->∃more,H' b=some (.tbl (ps++more)))
  (ns:∀m,s.heap.Ns X.env.locals m->h'.Ns X.env.locals m) (hok:HOk X.prog X.w H' h') (hg:AllBare g'):
  Inv X pins σ H' {s with heap:=h',gens:=g',drawn:=d',toks:=t'}:=by
 have neL:∀b o,X.s₀.heap.get? b=some o->b≠X.env.locals:=λb o e=>Xzs (Xz5 (X3n e) I.ok.above)
 have neC:∀b o,X.s₀.heap.get? b=some o->b∉X.ex->b∉ch:=λb o e hx hb=>by
  rcases (hch b hb).1 with z | z
  ·exact hx z
  ·exact absurd (Xz5 (X3n e) z) (X0n _)
 have cellK:∀x c,X.env.cells.lookup x=some c->∀v,s.heap.IsCell c v->h'.IsCell c v:=λx c e v ⟨o,ho,hd⟩=>by
  have nch:c∉ch:=λz=>(hch c z).2.2.1 x c e rfl
  by_cases hc:c∈X.fs
  ·obtain⟨sl,q⟩:=slot c o (I.cne x c e) hc nch ho (I.freeC x c e)
   exact⟨_,q,hd⟩
  ·exact⟨o,keep c o (I.cne x c e) hc nch ho (I.freeC x c e),hd⟩
 refine⟨I.ok,I.os,hg,⟨λb o e n hb hx=>?_,λb o e n hb hx=>?_,λb o e n hx=>?_,λb o e hx=>?_,λb xs e=>tups b xs (I.base.tups b xs e),λb o xs e=>frzs b o xs (I.base.frzs b o xs e),λb ps e=>?_⟩,?_,λx c e=>?_,?_,λx c e=>?_,λp hp=>?_,hok,I.len⟩
 ·exact keep b o (neL b o e) hb (neC b o e hx) (I.base.keep b o e n hb hx) (I.base.free b o e n hx)
 ·obtain⟨sl,e1⟩:=I.base.slot b o e n hb hx
  obtain⟨sl',e2⟩:=slot b _ (neL b o e) hb (neC b o e hx) e1 (I.base.free b o e n hx)
  exact⟨sl',e2⟩
 ·obtain⟨o',e1⟩:=I.base.there b o e hx
  exact free b o' (neC b o e hx) e1 (I.base.free b o e n hx)
 ·obtain⟨o',e1⟩:=I.base.there b o e hx
  exact there b o' (neC b o e hx) e1
 ·obtain⟨m1,e1⟩:=I.base.tbls b ps e
  obtain⟨m2,e2⟩:=tbls b _ e1
  exact⟨m1++m2,by rw[e2,Array.append_assoc]⟩
 ·obtain⟨m,hn,hl⟩:=I.loc
  refine⟨m,ns m hn,λi x v e1 e2 e3=>?_⟩
  obtain⟨u,r,l⟩:=hl i x v e1 e2 e3
  refine⟨u,r,?_⟩
  rcases l with l | ⟨k,c,e,z⟩
  ·exact .inl l
  ·exact .inr ⟨k,c,e,cellK x c e _ z⟩
 ·obtain⟨v,z⟩:=I.cell x c e
  exact⟨v,cellK x c e v z⟩
 ·obtain⟨m,⟨o,_,_,ho,_⟩,_⟩:=I.loc
  exact free _ o (λz=>(hch _ z).2.1 rfl) ho I.free
 ·obtain⟨v,o,ho,hd⟩:=I.cell x c e
  exact free c o (λz=>(hch c z).2.2.1 x c e rfl) ho (I.freeC x c e)
 ·obtain⟨e,n,ne,nf,d⟩:=I.pin p hp
  have nch:p.1∉ch:=λz=>(hch p.1 z).2.2.2 p hp rfl
  exact⟨keep p.1 p.2 ne nf nch e n,free p.1 p.2 nch e n,ne,nf,d⟩
theorem Inv.un{t':Nat}(I:Inv X pins σ H s)(u:Un X.fs [] H H' s.heap h')(hok:HOk X.prog X.w H' h'):Inv X pins σ H' {s with heap:=h',toks:=t'}:=by
 obtain⟨m,⟨o,es,ep,ho,r⟩,_⟩:=id I.loc
 obtain⟨sl,hL⟩:=u.any ho I.free (by simp)
 exact I.step (g':=s.gens) (d':=s.drawn) (ch:=[]) (λ_ z=>nomatch z) (λb o _ hb _ e n=>u.keep b o e n hb (by simp)) (λb o _ hb _ e n=>u.slot b o e n hb (by simp)) (λb o _ e n=>u.free b o e n (by simp)) (λb o _ e=>u.there b o e (by simp)) u.tups u.frzs u.tbls (λm' hm=>by
  obtain⟨o',es',ep',ho',r'⟩:=hm
  rw[ho] at ho';cases ho'
  exact⟨_,es',ep',hL,r'⟩) hok I.bare
theorem Inv.call{g':Array GenState}{t':Nat}{d':Drawn}{ch:List Addr}(I:Inv X pins σ H s)(u:Un (frs X.stack) ch H H' s.heap h')(hok:HOk X.prog X.w H' h')(hg:AllBare g')
  (hch:∀b∈ch,(b∈X.ex\/X.s₀.heap.objs.size<=b)/\b≠X.env.locals/\(∀x c,X.env.cells.lookup x=some c->c≠b)/\∀p∈X.pn++pins,p.1≠b):
  Inv X pins σ H' {s with heap:=h',gens:=g',drawn:=d',toks:=t'}:=by
 obtain⟨m,⟨o,es,ep,ho,r⟩,_⟩:=id I.loc
 obtain⟨sl,hL⟩:=u.any ho I.free λz=>(hch _ z).2.1 rfl
 exact I.step (ch:=ch) hch (λb o hL hb hc e n=>u.keep b o e n (λz=>(Xzw.mp (I.stkSub b z)).elim hL hb) hc) (λb o _ _ hc e n=>u.any e n hc) (λb o hc e n=>u.free b o e n hc) (λb o hc e=>u.there b o e hc) u.tups u.frzs u.tbls (λm' hm=>by
  obtain⟨o',es',ep',ho',r'⟩:=hm
  rw[ho] at ho';cases ho'
  exact⟨_,es',ep',hL,r'⟩) hok hg
theorem Inv.turned{t':Nat}{it:Addr}(I:Inv X pins σ H s)(k:∀b o,b≠it->s.heap.get? b=some o->h'.get? b=some o)(hn:H it=none)(hL:it≠X.env.locals)
  (h1:it∈X.ex\/X.s₀.heap.objs.size<=it) (h2:∀x c,X.env.cells.lookup x=some c->c≠it) (h3:∀p∈X.pn++pins,p.1≠it):Inv X pins σ H {s with heap:=h',toks:=t'}:=by
 have nit:∀b u,H b=some u->b≠it:=λb u e z=>by rw[z,hn] at e;cases e
 refine I.step (g':=s.gens) (d':=s.drawn) (ch:=[it]) (λb hb=>?_) (λb o _ _ hc e _=>k b o (λz=>hc (by simp[z])) e) (λb o _ _ hc e _=>⟨o.slots,k b o (λz=>hc (by simp[z])) e⟩) (λ_ _ _ _ n=>n)
  (λb o hc e=>⟨o,k b o (λz=>hc (by simp[z])) e⟩) (λ_ _ e=>e) (λ_ _ _ e=>e) (λb ps e=>⟨#[],by rw[e];simp⟩) (λm hm=>?_) (λb u e=>?_) I.bare
 ·have e:b=it:=by simpa using hb
  subst e
  exact⟨h1,hL,h2,h3⟩
 ·obtain⟨o,es,ep,ho,r⟩:=hm
  exact⟨o,es,ep,k _ o (Ne.symm hL) ho,r⟩
 ·refine(I.hok b u e).stay (λc v hc q=>k c v ?_ q) (λ_ q=>q) λ_ _ q=>q
  rcases hc with z | z
  ·rw[z];exact nit b u e
  ·exact nit c _ z
theorem Inv.tok(I:Inv X pins σ H s)(t:Nat):Inv X pins σ H {s with toks:=t}:=I.un (h':=s.heap) (t':=t) Un.refl I.hok
theorem Inv.kept{t':Nat}(I:Inv X pins σ H s)(k:∀b u,s.heap.get? b=some u->h'.get? b=some u):Inv X pins σ H {s with heap:=h',toks:=t'}:=I.un (Un.kept k) (I.hok.kept k)
theorem Inv.laid{a:Addr}{o:HO}{t':Nat}(I:Inv X pins σ H s)(k:∀b u,s.heap.get? b=some u->h'.get? b=some u)(hp:s.heap.objs.size<=a)(new:Xbm X.prog X.w (upd H a o) h' a o):
  Inv X pins σ (upd H a o) {s with heap:=h',toks:=t'}:=I.un (Un.laid k hp (I.hok.fresh hp)) (I.hok.laid k hp new)
theorem Inv.write{x e:Addr}{o:HO}{t':Nat}(I:Inv X pins σ H s)(mu:Mut (H x))(he:e=x\/H e=some (.own x))(k:∀b u,b≠e->s.heap.get? b=some u->h'.get? b=some u)(heo:∃u,h'.get? e=some u)
  (new:Xbm X.prog X.w (upd H x o) h' x o):Inv X pins σ (upd H x o) {s with heap:=h',toks:=t'}:=I.un (Un.write mu he k heo) (I.hok.write mu he k heo new)
theorem Inv.pins_of{pins':List (Addr×Obj)}(I:Inv X pins σ H s)(h:∀p∈pins',s.heap.get? p.1=some p.2/\H p.1=none/\p.1≠X.env.locals/\p.1∉X.fs/\∀v,p.2.data ≠ .cell v):Inv X pins' σ H s:=
 ⟨I.ok,I.os,I.bare,I.base,I.loc,I.cell,I.free,I.freeC,λp hp=>(Xzv.mp hp).elim (λz=>I.pin p (X0z _ z)) (h p),I.hok,I.len⟩
theorem Xh1{N:List Str}(hN:N.Nodup){i j:Nat}{x:Str}(a:N[i]? = some x)(b:N[j]? = some x):i=j:=by
 obtain⟨h1,e1⟩:=Xz2.mp a
 obtain⟨h2,e2⟩:=Xz2.mp b
 exact(X2n hN).mp (e1.trans e2.symm)
theorem Xgf{M:Model}{A:Around}{E:Value->Shared->Prop}{i:Nat}{x:Str}{v:V}{u:Value}{Q:Unit->Shared->Prop}(I:Inv X pins σ H s)(hN:X.N.Nodup)(hi:X.N[i]? = some x)(hx:Loc X.env.scope x)(r:RelV v u)
  (h:∀s',Inv X pins (σ.set i (some v)) H s'->(∃a,Heap.SameBut a s.heap s'.heap/\(a=X.env.locals\/X.env.cells.lookup x=some a))->Q () s') (hf:X.fn x=true\/X.env.scope.names.lookup x=some .local:=by first | exact .inl rfl | exact .inr rfl | assumption):wpAny M A (storeName X.env x u) Q E s:=by
 obtain⟨m,hn,hl⟩:=id I.loc
 have hcls:(X.env.scope.kind == .class||(X.env.scope.kind == .module&&X.env.locals != X.env.globals))=false:=by rw[I.ok.kind];rfl
 have hiσ:i < σ.length:=by rw[I.len];exact(Xz2.mp hi).1
 have cne:=I.cne
 have tracked:∀{a:Addr} {h':Heap},(∃o,s.heap.get? a=some o/\H a=none)->Heap.SameBut a s.heap h'->HOk X.prog X.w H h':=λ{a h'} ha hs b ob e=>by
  obtain⟨_,_,hfree⟩:=ha
  refine(I.hok b ob e).stay (λc w' hc q=>(hs.2 c ?_).trans q) (λ_ q=>q) λ_ _ q=>q
  rintro rfl
  rcases hc with rfl | hc
  ·rw[hfree] at e;cases e
  ·rw[hfree] at hc;cases hc
 rcases hx with hk | hk
 ·refine wpAny_storeName_local hk hn (λh' hn' hs=>?_) hcls
  obtain⟨oL,_,_,hoL,_⟩:=id hn
  refine h _ ⟨I.ok,I.os,I.bare,⟨λb o e n hb hx=>?_,λb o e n hb hx=>?_,I.base.free,λb o e hx=>?_,I.base.tups,I.base.frzs,I.base.tbls⟩,⟨_,hn',λj y v' e1 e2 e3=>?_⟩,λy c e=>?_,I.free,I.freeC,λp hp=>?_,tracked ⟨oL,hoL,I.free⟩ hs,by simpa using I.len⟩ ⟨_,hs,.inl rfl⟩
  ·exact(hs.2 b (Xzs (Xz5 (X3n e) I.ok.above))).trans (I.base.keep b o e n hb hx)
  ·obtain⟨sl,e1⟩:=I.base.slot b o e n hb hx
   exact⟨sl,(hs.2 b (Xzs (Xz5 (X3n e) I.ok.above))).trans e1⟩
  ·obtain⟨o',e1⟩:=I.base.there b o e hx
   exact⟨o',(hs.2 b (Xzs (Xz5 (X3n e) I.ok.above))).trans e1⟩
  ·by_cases hj:j=i
   ·subst hj
    rw[hi] at e1;cases e1
    rw[X2h hiσ] at e2
    cases e2
    exact⟨u,r,.inl ⟨hk,by simp⟩⟩
   ·rw[X2p (Ne.symm hj)] at e2
    obtain⟨u',r',q⟩:=hl j y v' e1 e2 e3
    refine⟨u',r',?_⟩
    rcases q with ⟨k,e⟩ | ⟨k,c,e,z⟩
    ·refine .inl ⟨k,?_⟩
     have:y≠x:=λe=>hj (Xh1 hN e1 (e ▸ hi))
     simp[this,e]
    ·exact .inr ⟨k,c,e,z.sameBut hs (cne y c e)⟩
  ·obtain⟨w',z⟩:=I.cell y c e
   exact⟨w',z.sameBut hs (cne y c e)⟩
  ·obtain⟨e,n,ne,nf,d⟩:=I.pin p hp
   exact⟨(hs.2 p.1 ne).trans e,n,ne,nf,d⟩
 ·have hfn:X.fn x=true:=by
   rcases hf with z | z
   ·exact z
   ·rw[z] at hk;cases hk
  obtain⟨c,hc⟩:=I.ok.has x (.inl hk)
  obtain⟨w',z⟩:=I.cell x c hc
  refine wpAny_storeName_cell I.ok.kind hk hc z (λh' hc' hs=>?_)
  obtain⟨oc,hoc,hocd⟩:=id z
  refine h {s with heap:=h'} ⟨I.ok,I.os,I.bare,⟨λb o e n hb hx=>?_,λb o e n hb hx=>?_,I.base.free,λb o e hx=>?_,I.base.tups,I.base.frzs,I.base.tbls⟩,⟨m,hn.sameBut hs (Ne.symm (cne x c hc)),λj y v' e1 e2 e3=>?_⟩,λy c' e=>?_,I.free,I.freeC,λp hp=>?_,tracked ⟨oc,hoc,I.freeC x c hc⟩ hs,by simpa using I.len⟩ ⟨c,hs,.inr hc⟩
  ·exact(hs.2 b (Xzs (Xz5 (X3n e) (I.ok.cab x c hfn hc)))).trans (I.base.keep b o e n hb hx)
  ·obtain⟨sl,e1⟩:=I.base.slot b o e n hb hx
   exact⟨sl,(hs.2 b (Xzs (Xz5 (X3n e) (I.ok.cab x c hfn hc)))).trans e1⟩
  ·obtain⟨o',e1⟩:=I.base.there b o e hx
   exact⟨o',(hs.2 b (Xzs (Xz5 (X3n e) (I.ok.cab x c hfn hc)))).trans e1⟩
  ·by_cases hj:j=i
   ·subst hj
    rw[hi] at e1;cases e1
    rw[X2h hiσ] at e2
    cases e2
    exact⟨u,r,.inr ⟨.inl hk,c,hc,hc'⟩⟩
   ·rw[X2p (Ne.symm hj)] at e2
    obtain⟨u',r',q⟩:=hl j y v' e1 e2 e3
    refine⟨u',r',?_⟩
    rcases q with q | ⟨k,c',e,z'⟩
    ·exact .inl q
    ·refine .inr ⟨k,c',e,z'.sameBut hs ?_⟩
     rintro rfl
     exact hj (Xh1 hN e1 (I.ok.inj _ _ _ e hc ▸ hi))
  ·by_cases hcc:c'=c
   ·subst hcc;exact⟨_,hc'⟩
   ·obtain⟨w2,z2⟩:=I.cell y c' e
    exact⟨w2,z2.sameBut hs hcc⟩
  ·obtain⟨e,n,ne,nf,d⟩:=I.pin p hp
   refine⟨(hs.2 p.1 ?_).trans e,n,ne,nf,d⟩
   intro q
   rw[q,hoc] at e
   have q':oc=p.2:=Xzx e
   exact d w' (by rw[<-q'];exact hocd)
theorem Xl3{M:Model}{A:Around}{E:Value->Shared->Prop}{i:Nat}{x:Str}{v:V}{u:Value}{Q:Unit->Shared->Prop}(I:Inv X pins σ H s)(hN:X.N.Nodup)(hi:X.N[i]? = some x)(hx:Loc X.env.scope x)(r:RelV v u)
  (h:∀s',Inv X pins (σ.set i (some v)) H s'->Q () s') (hf:X.fn x=true\/X.env.scope.names.lookup x=some .local:=by first | exact .inl rfl | exact .inr rfl | assumption):wpAny M A (storeName X.env x u) Q E s:=
 Xgf I hN hi hx r (λs' I' _=>h s' I') hf
theorem Inv.call'{s':Shared}{ch:List Addr}(I:Inv X pins σ H s)(ho:s'.os=s.os)(u:Un (frs X.stack) ch H H' s.heap s'.heap)(hok:HOk X.prog X.w H' s'.heap)(hg:AllBare s'.gens)
  (hch:∀b∈ch,(b∈X.ex\/X.s₀.heap.objs.size<=b)/\b≠X.env.locals/\(∀x c,X.env.cells.lookup x=some c->c≠b)/\∀p∈X.pn++pins,p.1≠b):Inv X pins σ H' s':=by
 obtain⟨h',g',d',t',o'⟩:=s'
 have e:o'=s.os:=ho
 subst e
 exact I.call (g':=g') (t':=t') (d':=d') u hok hg hch
end
abbrev XK:=Value->Option Addr->Hp->Prop
abbrev St:=List (Option V)
abbrev VK:=V->Hp->Prop
abbrev TE:=St->Hp->VK->Prop
abbrev TT:=St->Hp->(Bool->Hp->Prop)->Prop
abbrev TA:=St->Hp->(List V->Hp->Prop)->Prop
structure Ends where
 nx:St->Hp->Prop
 rt:VK
 bk:St->Hp->Prop:=λ_ _=>False
 ct:St->Hp->Prop:=λ_ _=>False
abbrev TS:=Ends->St->Hp->Prop
def EP (X:Cx) (pins:List (Addr×Obj)) (σ:St) (Q:VK) (u:Value) (s':Shared):Prop:=∃v H',Inv X pins σ H' s'/\RelV v u/\Q v H'
def TP (X:Cx) (pins:List (Addr×Obj)) (σ:St) (Q:Bool->Hp->Prop) (b:Bool) (s':Shared):Prop:=∃H',Inv X pins σ H' s'/\Q b H'
def AP (X:Cx) (pins:List (Addr×Obj)) (σ:St) (Q:List V->Hp->Prop) (us:List Value) (s':Shared):Prop:=∃vs H',Inv X pins σ H' s'/\Vals vs us/\Q vs H'
def SP (X:Cx) (pins:List (Addr×Obj)) (D:Ends) (f:Flow) (s':Shared):Prop:=
 match f with
 | .next=>∃σ' H',Inv X pins σ' H' s'/\D.nx σ' H'
 | .brk=>∃σ' H',Inv X pins σ' H' s'/\D.bk σ' H'
 | .cont=>∃σ' H',Inv X pins σ' H' s'/\D.ct σ' H'
 | .ret u=>∃v σ' H',Inv X pins σ' H' s'/\RelV v u/\D.rt v H'
def PE (X:Cx) (e:Expr) (t:TE):Prop:=
 ∀(pins:List (Addr×Obj)) (s:Shared) (σ:St) (H:Hp) (Q:VK),Inv X pins σ H s->t σ H Q->wpAny (model X.prog X.w) X.A (eval e X.env) (EP X pins σ Q) X.xe s
def PT (X:Cx) (e:Expr) (t:TT):Prop:=
 ∀(pins:List (Addr×Obj)) (s:Shared) (σ:St) (H:Hp) (Q:Bool->Hp->Prop),Inv X pins σ H s->t σ H Q->wpAny (model X.prog X.w) X.A (isTrue e X.env (eval e X.env)) (TP X pins σ Q) X.xe s
def PW (X:Cx) (e:Expr) (t:TT):Prop:=
 ∀(whole:Sem Value) (pins:List (Addr×Obj)) (s:Shared) (σ:St) (H:Hp) (Q:Bool->Hp->Prop),Inv X pins σ H s->t σ H Q->wpAny (model X.prog X.w) X.A (isTrue e X.env whole) (TP X pins σ Q) X.xe s
theorem PW.pt{X:Cx}{e:Expr}{t:TT}(h:PW X e t):PT X e t:=h _
def PA (X:Cx) (es:List Expr) (t:TA):Prop:=
 ∀(pos:Pos) (pins:List (Addr×Obj)) (s:Shared) (σ:St) (H:Hp) (Q:List V->Hp->Prop),Inv X pins σ H s->t σ H Q->wpAny (model X.prog X.w) X.A (spliced (backTo pos (starEach es X.env))) (AP X pins σ Q) X.xe s
def PS (X:Cx) (st:Stmt) (t:TS):Prop:=
 ∀(pins:List (Addr×Obj)) (s:Shared) (σ:St) (H:Hp) (D:Ends),Inv X pins σ H s->t D σ H->wpAny (model X.prog X.w) X.A (exec st X.env) (SP X pins D) X.xe s
def PSs (X:Cx) (st:List Stmt) (t:TS):Prop:=
 ∀(pins:List (Addr×Obj)) (s:Shared) (σ:St) (H:Hp) (D:Ends),Inv X pins σ H s->t D σ H->wpAny (model X.prog X.w) X.A (execs st X.env) (SP X pins D) X.xe s
theorem thn{α : Type}{t:Sem α}{Q Q' : α->Shared->Prop}{M:Model}{A:Around}{E:Value->Shared->Prop}{s:Shared}(h:wpAny M A t Q E s)(hQ:∀a s,Q a s->Q' a s):wpAny M A t Q' E s:=wpAny_mono h hQ λ_ _ x=>x
section
variable {X:Cx}
def tVar (i:Nat):TE:=fun σ H Q=>∃v, σ[i]? = some (some v)/\Q v H
def tC (v:V):TE:=λ_ H Q=>Q v H
theorem Xwk{i:Nat}{x:Str}{pos:Pos}(hN:X.N[i]? = some x)(hv:Vis X.env.scope x)(hd:(x==("__debug__" : Str))=false:=by decide)(hcd:(x==("__classdict__" : Str))=false:=by decide):PE X (.Name x pos) (tVar i):=by
 intro pins s σ H Q I h
 obtain⟨v,e,h⟩:=h
 obtain⟨m,hn,hl⟩:=I.loc
 obtain⟨u,r,l⟩:=hl i x v hN e hv
 have fin:EP X pins σ Q u s:=⟨v,H,I,r,h⟩
 rcases l with ⟨hk,hm⟩ | ⟨hk,c,hc,hcell⟩
 ·exact wpAny_Name (wpAny_loadName_local I.ok.kind hk hn hm fin) hd
 ·rcases hk with hk | hk
  ·exact wpAny_Name (wpAny_loadName_cell I.ok.kind hk hc hcell fin) hd
  ·exact wpAny_Name (wpAny_loadName_free I.ok.kind hk hc hcell fin hcd) hd
theorem Xah{i j pos}:PE X (.Constant (.int i) j pos) (tC (.int i)):=λ_ _ _ H _ I h=>wpAny_Constant_int ⟨.int i,H,I.tok _,⟨_,rfl⟩,h⟩
theorem Xhe{b j pos}:PE X (.Constant (.bool b) j pos) (tC (.bl b)):=λ_ _ _ H _ I h=>Constant_bool ⟨.bl b,H,I,rfl,h⟩
theorem Xaq{x j pos}:PE X (.Constant (.str x) j pos) (tC (.str x)):=λ_ _ _ H _ I h=>Calls.Constant_str ⟨.str x,H,I.tok _,⟨_,rfl⟩,h⟩
def Gl (X:Cx) (x:Str):Prop:=X.env.kindOf x=some .globalImplicit
theorem Xgg{E:Value->Shared->Prop}{pins:List (Addr×Obj)}{s:Shared}{σ:St}{H:Hp}{x:Str}{u:Value}{pos:Pos}{Q:Value->Shared->Prop}(I:Inv X pins σ H s)(hg:Gl X x)(hm:X.mg x=some u)(h:Q u s)
  (hd:(x==("__debug__" : Str))=false:=by decide):wpAny (model X.prog X.w) X.A (eval (.Name x pos) X.env) Q E s:=
 Calls.Name_function_global I.ok.kind hg (Calls.loadGlobal_global (by rw[I.ok.glob];exact I.mod.glob.keeps I.bk) hm h) hd
theorem Xhi{E:Value->Shared->Prop}{pins:List (Addr×Obj)}{s:Shared}{σ:St}{H:Hp}{x:Str}{u:Value}{pos:Pos}{Q:Value->Shared->Prop}(I:Inv X pins σ H s)(hg:Gl X x)(hm:X.mg x=none)(hv:bootBuiltins x=some u)(h:Q u s)
  (hn:x ≠ "__name__" := by decide) (hd:(x==("__debug__" : Str))=false:=by decide):wpAny (model X.prog X.w) X.A (eval (.Name x pos) X.env) Q E s:=by
 obtain⟨mb,h1,h2⟩:=I.mod.blt
 exact Calls.Name_function_global I.ok.kind hg (Calls.loadGlobal_builtin (by rw[I.ok.glob];exact I.mod.glob.keeps I.bk) hm (by rw[I.ok.blt];exact h1.keeps I.bk) ((h2 x hn).trans hv) h) hd
theorem Xoj{x:Str}{v:V}{u:Value}{pos:Pos}(hg:Gl X x)(hm:X.mg x=some u)(r:RelV v u)(hd:(x==("__debug__" : Str))=false:=by decide):PE X (.Name x pos) (tC v):=
 λ_ _ _ H _ I h=>Xgg I hg hm ⟨v,H,I,r,h⟩ hd
theorem Xkx{x:Str}{v:V}{u:Value}{pos:Pos}(hg:Gl X x)(hm:X.mg x=none)(hv:bootBuiltins x=some u)(r:RelV v u)(hn:x ≠ "__name__" := by decide)(hd:(x==("__debug__" : Str))=false:=by decide):PE X (.Name x pos) (tC v):=
 λ_ _ _ H _ I h=>Xhi I hg hm hv ⟨v,H,I,r,h⟩ hn hd
def t2I (ta tb:TE) (k:Int->Int->Hp->Prop):St->Hp->Prop:=fun σ H=>ta σ H λx H1=>tb σ H1 λy H2=>∃i j,x = .int i/\y = .int j/\k i j H2
def tMul (ta tb:TE):TE:=fun σ H Q=>t2I ta tb (λi j H2=>(-(2 ^ 64)<i/\i<2 ^ 64)/\Q (.int (i * j)) H2) σ H
variable {a b:Expr}{ta tb:TE}{pos:Pos}
def PC (X:Cx) (op:CmpOp) (a b:Expr) (t:TE):Prop:=
 ∀(pins:List (Addr×Obj)) (s:Shared) (σ:St) (H:Hp) (Q:VK),Inv X pins σ H s->t σ H Q ->
  wpAny (model X.prog X.w) X.A (eval a X.env) (λv s₁=>wpAny (model X.prog X.w) X.A (eval b X.env) (λu s₂=>wpAny (model X.prog X.w) X.A (compareOp op v u) (EP X pins σ Q) X.xe s₂) X.xe s₁) X.xe s
def tIsN (ta:TE):TE:=fun σ H Q=>ta σ H λx H1=>Q (.bl (decide (x = .non))) H1
def tB (t:TE):TT:=fun σ H Q=>t σ H λx H1=>∃c,x = .bl c/\Q c H1
theorem Xwl{op:CmpOp}{t:TE}(h:PC X op a b t)(h1:behindInMarks op b=false:=by first | exact nobehind _ (by decide) (by decide) | rfl):PE X (.Compare a [op] [b] pos) t:=λpins s σ H Q I hw=>wpAny_Compare1 (h pins s σ H Q I hw) h1
theorem Xdm{e:Expr}{t:TE}(h:PE X e t)(he:∀whole,isTrue e X.env whole=(do let v <-whole;standAt e.pos;holding [v] (truthy v)):=by intro _;rfl):PT X e (tB t):=by
 intro pins s σ H Q I hw
 refine isTrue_plain (thn (h pins s σ H _ I hw) λv s1 ⟨x,H1,I1,r1,q1⟩=>?_) (he _)
 obtain⟨d,rfl,q⟩:=q1
 cases r1
 exact wpAny_truthy_bool ⟨H1,I1,q⟩
variable {tA tB':TT}{rest:List Expr}
def tAnd (t u:TT):TT:=fun σ H Q=>t σ H λc H1=>if c=true then u σ H1 Q else Q false H1
def tOr (t u:TT):TT:=fun σ H Q=>t σ H λc H1=>if c=true then Q true H1 else u σ H1 Q
def tNot (t:TT):TT:=fun σ H Q=>t σ H λc H1=>Q (!c) H1
theorem Xdn(ha:PT X a tA):PW X (.BoolOp .And [a] pos) tA:=by
 intro wh pins s σ H Q I h
 refine isTrue_and (thn (ha pins s σ H Q I h) λc s1 e=>?_)
 cases c with
 | true=>exact isTrue_and_nil e
 | false=>exact e
theorem Xgh(ha:PT X a tA):PW X (.BoolOp .Or [a] pos) tA:=by
 intro wh pins s σ H Q I h
 refine isTrue_or (thn (ha pins s σ H Q I h) λc s1 e=>?_)
 cases c with
 | false=>exact isTrue_or_nil e
 | true=>exact e
theorem Xfu(ha:PT X a tA)(hb:PW X (.BoolOp .And (b::rest) pos) tB'):PW X (.BoolOp .And (a::b::rest) pos) (tAnd tA tB'):=by
 intro wh pins s σ H Q I h
 refine isTrue_and (thn (ha pins s σ H _ I h) λc s1 ⟨H1,I1,q1⟩=>?_)
 cases c with
 | true=>exact hb wh pins s1 σ H1 Q I1 q1
 | false=>exact⟨H1,I1,q1⟩
theorem Xh2(ha:PT X a tA)(hb:PW X (.BoolOp .Or (b::rest) pos) tB'):PW X (.BoolOp .Or (a::b::rest) pos) (tOr tA tB'):=by
 intro wh pins s σ H Q I h
 refine isTrue_or (thn (ha pins s σ H _ I h) λc s1 ⟨H1,I1,q1⟩=>?_)
 cases c with
 | true=>exact⟨H1,I1,q1⟩
 | false=>exact hb wh pins s1 σ H1 Q I1 q1
theorem Xiz(ha:PT X a tA):PT X (.UnaryOp .Not a pos) (tNot tA):=by
 intro pins s σ H Q I h
 exact isTrue_not (ha pins s σ H (λc H1=>Q (!c) H1) I h)
def Xys (ta tb:TE):TE:=fun σ H Q=>ta σ H λx H1=>∃c,x = .bl c/\if c=true then tb σ H1 Q else Q (.bl false) H1
def tOrV (ta tb:TE):TE:=fun σ H Q=>ta σ H λx H1=>∃c,x = .bl c/\if c=true then Q (.bl true) H1 else tb σ H1 Q
def Xyt (ta:TE):TE:=fun σ H Q=>ta σ H λx H1=>∃c,x = .bl c/\Q (.bl (!c)) H1
theorem Xl4{op}{t:TE}(h:PE X a t):PE X (.BoolOp op [a] pos) t:=λpins s σ H Q I hw=>BoolOp_one (h pins s σ H Q I hw)
theorem Xok(ha:PE X a ta)(hb:PE X (.BoolOp .And (b::rest) pos) tb):PE X (.BoolOp .And (a::b::rest) pos) (Xys ta tb):=by
 intro pins s σ H Q I h
 refine BoolOp_and (thn (ha pins s σ H _ I h) λv s1 ⟨x,H1,I1,r1,q1⟩=>?_)
 obtain⟨c,rfl,q1⟩:=q1
 cases r1
 refine wpAny_truthy_bool ?_
 cases c with
 | true=>exact hb pins s1 σ H1 Q I1 q1
 | false=>exact⟨.bl false,H1,I1,rfl,q1⟩
theorem Xyu(ha:PE X a ta)(hb:PE X (.BoolOp .Or (b::rest) pos) tb):PE X (.BoolOp .Or (a::b::rest) pos) (tOrV ta tb):=by
 intro pins s σ H Q I h
 refine BoolOp_or (thn (ha pins s σ H _ I h) λv s1 ⟨x,H1,I1,r1,q1⟩=>?_)
 obtain⟨c,rfl,q1⟩:=q1
 cases r1
 refine wpAny_truthy_bool ?_
 cases c with
 | false=>exact hb pins s1 σ H1 Q I1 q1
 | true=>exact⟨.bl true,H1,I1,rfl,q1⟩
theorem Xwm(ha:PE X a ta):PE X (.UnaryOp .Not a pos) (Xyt ta):=by
 intro pins s σ H Q I h
 refine UnaryOp_ (thn (ha pins s σ H _ I h) λv s1 ⟨x,H1,I1,r1,q1⟩=>?_)
 obtain⟨c,rfl,q1⟩:=q1
 cases r1
 exact not_of (wpAny_truthy_bool ⟨.bl (!c),H1,I1,rfl,q1⟩)
def tIf (t:TT) (ta tb:TE):TE:=fun σ H Q=>t σ H λc H1=>if c=true then ta σ H1 Q else tb σ H1 Q
theorem Xei{c:Expr}(hc:PT X c tA)(ha:PE X a ta)(hb:PE X b tb):PE X (.IfExp c a b pos) (tIf tA ta tb):=by
 intro pins s σ H Q I h
 refine wpAny_IfExp (thn (hc pins s σ H _ I h) λd s1 ⟨H1,I1,q1⟩=>?_)
 cases d with
 | true=>exact ha pins s1 σ H1 Q I1 q1
 | false=>exact hb pins s1 σ H1 Q I1 q1
end
def SqL (K:PySem.W.Frag) (H:Hp) (a:Addr) (xs:List V):Prop:=
 Rd H a (.lst xs) \/
  ∃(o:Obj) (its:Array Value) (n:Nat),K.lookup a=some o/\o.cls = .type "list" /\ o.dict=none/\o.data = .seq its n/\its.size<=sizeLine/\Vals xs its.toList
def SqT (K:PySem.W.Frag) (H:Hp) (a:Addr) (xs:List V):Prop:=
 Rd H a (.tup xs) \/
  ∃(o:Obj) (its:Array Value) (n:Nat),K.lookup a=some o/\o.cls = .type "tuple" /\ o.data = .seq its n/\its.size<=sizeLine/\Vals xs its.toList
def absV:Value->Option V
 | .none=>some .non
 | .bool b=>some (.bl b)
 | .int i _=>some (.int i)
 | .str x _=>some (.str x)
 | .bytes b _=>some (.byt b)
 | .float b _=>some (.flt b)
 | .ref a=>some (.ref a)
 | .type n=>some (.ty n)
 | _=>none
theorem RelV.abs{x:V}{u:Value}(r:RelV x u):absV u=some x:=by
 cases x with
 | non=>cases r;rfl
 | bl _=>cases r;rfl
 | int _=>obtain⟨t,rfl⟩:=r;rfl
 | str _=>obtain⟨t,rfl⟩:=r;rfl
 | byt _=>obtain⟨t,rfl⟩:=r;rfl
 | flt _=>obtain⟨t,rfl⟩:=r;rfl
 | ref _=>cases r;rfl
 | ty _=>cases r;rfl
theorem RelV.inj{x y:V}{u:Value}(r:RelV x u)(q:RelV y u):x=y:=Xzx (r.abs.symm.trans q.abs)
theorem Vals.inj:∀{xs ys:List V} {us:List Value},Vals xs us->Vals ys us->xs=ys
 | _,_,_,.nil,.nil=>rfl
 | _,_,_,.cons r t,.cons r' t'=>by rw[r.inj r',Vals.inj t t']
section
variable {X:Cx}{pins:List (Addr×Obj)}{σ:St}{H:Hp}{s:Shared}{a:Addr}{xs ys:List V}
theorem SqL.of{K:PySem.W.Frag}(h:H a=some (.lst xs)):SqL K H a xs:=.inl (.inl h)
theorem SqT.of{K:PySem.W.Frag}(h:H a=some (.tup xs)):SqT K H a xs:=.inl (.inl h)
theorem Inv.list(I:Inv X pins σ H s)(h:SqL X.K H a xs):∃its:List Value,Vals xs its/\PlainL s.heap a its.toArray/\xs.length<=sizeLine:=by
 rcases h with h | ⟨o,its,n,hk,hc,hd,hs,hz,r⟩
 ·obtain⟨z,its,n,r,e⟩:=h.ok I.hok
  exact⟨its,r,⟨_,n,e,rfl,rfl,rfl⟩,z⟩
 ·refine⟨its.toList,r,⟨o,n,I.kIn a o hk,hc,hd,by simpa using hs⟩,?_⟩
  have e:=r.length
  simp only[Xzz] at e
  omega
theorem Inv.tuple(I:Inv X pins σ H s)(h:SqT X.K H a xs):∃its:List Value,Vals xs its/\IsTup s.heap a its.toArray/\xs.length<=sizeLine:=by
 rcases h with h | ⟨o,its,n,hk,hc,hs,hz,r⟩
 ·obtain⟨z,its,r,p⟩:=h.ok I.hok
  exact⟨its,r,p,z⟩
 ·refine⟨its.toList,r,⟨o,I.kIn a o hk,hc,n,by simpa using hs⟩,?_⟩
  have e:=r.length
  simp only[Xzz] at e
  omega
theorem Inv.list_inj(I:Inv X pins σ H s)(h:SqL X.K H a xs)(h':SqL X.K H a ys):xs=ys:=by
 obtain⟨its,r,⟨o,n,e,_,_,d⟩,_⟩:=I.list h
 obtain⟨its',r',⟨o',n',e',_,_,d'⟩,_⟩:=I.list h'
 rw[e] at e';cases e'
 rw[d] at d'
 injection d' with d1 _
 have:its=its':=by simpa using congrArg Array.toList d1
 subst this
 exact r.inj r'
theorem Inv.tuple_inj(I:Inv X pins σ H s)(h:SqT X.K H a xs)(h':SqT X.K H a ys):xs=ys:=by
 obtain⟨its,r,⟨o,e,_,n,d⟩,_⟩:=I.tuple h
 obtain⟨its',r',⟨o',e',_,n',d'⟩,_⟩:=I.tuple h'
 rw[e] at e';cases e'
 rw[d] at d'
 injection d' with d1 _
 have:its=its':=by simpa using congrArg Array.toList d1
 subst this
 exact r.inj r'
end
abbrev Cx.wish (X:Cx) (E:Value->Shared->Prop):Cx:={X with xe:=E}
abbrev Cx.nox (X:Cx):Cx:=X.wish λ_ _=>False
theorem Cx.Ok.wish{X:Cx}(ok:X.Ok)(E:Value->Shared->Prop):(X.wish E).Ok:=
 ⟨ok.mod,ok.kind,ok.glob,ok.blt,ok.above,ok.inj,ok.has,ok.cab,ok.hd,ok.frames,ok.stk,ok.exf,ok.bs,ok.bsz,ok.noex,ok.exfs,ok.funs,ok.frf⟩
theorem Cx.Ok.unwish{X:Cx}{E:Value->Shared->Prop}(ok:(X.wish E).Ok):X.Ok:=
 ⟨ok.mod,ok.kind,ok.glob,ok.blt,ok.above,ok.inj,ok.has,ok.cab,ok.hd,ok.frames,ok.stk,ok.exf,ok.bs,ok.bsz,ok.noex,ok.exfs,ok.funs,ok.frf⟩
section
variable {X:Cx}{pins:List (Addr×Obj)}{σ:St}{H:Hp}{s:Shared}{E:Value->Shared->Prop}
theorem Inv.wish(I:Inv X pins σ H s)(E:Value->Shared->Prop):Inv (X.wish E) pins σ H s:=⟨I.ok.wish E,I.os,I.bare,I.base,I.loc,I.cell,I.free,I.freeC,I.pin,I.hok,I.len⟩
theorem Inv.unwish(I:Inv (X.wish E) pins σ H s):Inv X pins σ H s:=⟨I.ok.unwish,I.os,I.bare,I.base,I.loc,I.cell,I.free,I.freeC,I.pin,I.hok,I.len⟩
theorem SP.unwish{D:Ends}{f:Flow}{s':Shared}(h:SP (X.wish E) pins D f s'):SP X pins D f s':=by
 cases f with
 | next=>obtain⟨σ',H',I,q⟩:=h;exact⟨σ',H',I.unwish,q⟩
 | brk=>obtain⟨σ',H',I,q⟩:=h;exact⟨σ',H',I.unwish,q⟩
 | cont=>obtain⟨σ',H',I,q⟩:=h;exact⟨σ',H',I.unwish,q⟩
 | ret u=>obtain⟨v, σ',H',I,r,q⟩:=h;exact⟨v, σ',H',I.unwish,r,q⟩
theorem PSs.nox{st:List Stmt}{t:TS}(h:PSs X.nox st t):PSs X st t:=λpins s σ H D I hw=>
 wpAny_mono (h pins s σ H D (I.wish _) hw) (λ_ _ q=>q.unwish) λ_ _ z=>False.elim z
end
section
variable {X:Cx}{st:Stmt}{rest:List Stmt}{t u:TS}{e:Expr}{te:TE}{pos:Pos}
def Xub:TS:=λD σ H=>D.nx σ H
def tSeq (t u:TS):TS:=λD σ H=>t {D with nx:=u D} σ H
theorem Xar:PSs X [] Xub:=λ_ _ σ H _ I h=>wpAny_execs_nil ⟨σ,H,I,h⟩
theorem Xad(h1:PS X st t)(h2:PSs X rest u):PSs X (st::rest) (tSeq t u):=by
 intro pins s σ H D I h
 refine wpAny_execs_cons (thn (h1 pins s σ H {D with nx:=u D} I h) λf s1 q=>?_)
 cases f with
 | next=>
  obtain⟨σ',H',I',q⟩:=q
  exact h2 pins s1 σ' H' D I' q
 | ret v=>exact q
 | brk=>exact q
 | cont=>exact q
theorem Xag(h1:PS X st t):PSs X [st] t:=by
 intro pins s σ H D I h
 refine wpAny_execs_cons (thn (h1 pins s σ H D I h) λf s1 q=>?_)
 cases f with
 | next=>exact wpAny_execs_nil q
 | ret v=>exact q
 | brk=>exact q
 | cont=>exact q
theorem Inv.quiet{pins:List (Addr×Obj)}{σ:St}{H:Hp}{s:Shared}(I:Inv X pins σ H s):interactive X.env=false:=by simp[interactive,I.ok.kind]
def Xwn (te:TE):TS:=λD σ H=>te σ H λ_ H1=>D.nx σ H1
theorem Xea(he:PE X e te)(hs:swapsWith e none pos.line X.env=pure false:=by rfl):PS X (.Expr e pos) (Xwn te):=by
 intro pins s σ H D I h
 exact wpAny_Expr_any (thn (he pins s σ H _ I h) λv s1 ⟨x,H1,I1,r1,q1⟩=>⟨σ,H1,I1,q1⟩) I.quiet hs
def tRet (te:TE):TS:=λD σ H=>te σ H D.rt
theorem Xak(he:PE X e te):PS X (.Return (some e) pos) (tRet te):=by
 intro pins s σ H D I h
 exact wpAny_Return_some (thn (he pins s σ H _ I h) λv s1 ⟨x,H1,I1,r1,q1⟩=>⟨x, σ,H1,I1,r1,q1⟩)
def tIfS (c:TT) (t u:TS):TS:=λD σ H=>c σ H λb H1=>if b=true then t D σ H1 else u D σ H1
theorem Xbn{c:Expr}{a b:List Stmt}{tc:TT}(hc:PT X c tc)(ha:PSs X a t)(hb:PSs X b u):PS X (.If c a b pos) (tIfS tc t u):=by
 intro pins s σ H D I h
 refine wpAny_If (thn (hc pins s σ H _ I h) λd s1 ⟨H1,I1,q1⟩=>?_)
 cases d with
 | true=>exact ha pins s1 σ H1 D I1 q1
 | false=>exact hb pins s1 σ H1 D I1 q1
def tNever:TS:=λ_ _ _=>False
end
abbrev TG:=V->St->Hp->(St->Hp->Prop)->Prop
abbrev TGs:=List V->St->Hp->(St->Hp->Prop)->Prop
def PG (X:Cx) (target:Expr) (t:TG):Prop:=
 ∀(pins:List (Addr×Obj)) (s:Shared) (σ:St) (H:Hp) (v:V) (u:Value) (Q:St->Hp->Prop),Inv X pins σ H s->RelV v u->t v σ H Q ->
  wpAny (model X.prog X.w) X.A (assign target X.env u) (λ_ s'=>∃σ' H',Inv X pins σ' H' s'/\Q σ' H') X.xe s
def PGs (X:Cx) (ts:List Expr) (t:TGs):Prop:=
 ∀(pins:List (Addr×Obj)) (s:Shared) (σ:St) (H:Hp) (vs:List V) (us:List Value) (Q:St->Hp->Prop),Inv X pins σ H s->Vals vs us->t vs σ H Q ->
  wpAny (model X.prog X.w) X.A (assignInOrder ((assignEach ts X.env).map (·.2)) us) (λ_ s'=>∃σ' H',Inv X pins σ' H' s'/\Q σ' H') X.xe s
abbrev TSet:=V->V->V->Hp->(Hp->Prop)->Prop
def PSet (X:Cx) (t:TSet):Prop:=
 ∀(pins:List (Addr×Obj)) (s:Shared) (σ:St) (H:Hp) (o i v:V) (ov iv u:Value) (Q:Hp->Prop),Inv X pins σ H s->RelV o ov->RelV i iv->RelV v u->t o i v H Q ->
  wpAny (model X.prog X.w) X.A (setItem ov iv u) (λ_ s'=>∃H',Inv X pins σ H' s'/\Q H') X.xe s
abbrev TIp:=V->V->Hp->VK->Prop
section
variable {X:Cx}{pos:Pos}
def Xbv (i:Nat):TG:=λv σ H Q=>Q (σ.set i (some v)) H
theorem Xal{i:Nat}{x:Str}(hN:X.N.Nodup)(hi:X.N[i]? = some x)(hx:Loc X.env.scope x)(hf:X.fn x=true\/X.env.scope.names.lookup x=some .local:=by first | exact .inl rfl | exact .inr rfl | assumption):PG X (.Name x pos) (Xbv i):=by
 intro pins s σ H v u Q I r h
 exact wpAny_assign_Name (Xl3 I hN hi hx r (λs' I'=>⟨_,H,I',h⟩) hf)
def gNil:TGs:=λvs σ H Q=>vs=[]/\Q σ H
def Xuc (t:TG) (u:TGs):TGs:=λvs σ H Q=>∃v r,vs=v::r/\t v σ H fun σ' H'=>u r σ' H' Q
theorem Xeb:PGs X [] gNil:=by
 intro pins s σ H vs us Q I r h
 obtain⟨e,h⟩:=h
 subst e
 cases r
 exact assignInOrder_nil ⟨σ,H,I,h⟩
theorem Xbe{e:Expr}{es:List Expr}{t:TG}{u:TGs}(h1:PG X e t)(h2:PGs X es u)
  (hs:(assignEach (e::es) X.env).map (·.2)=assign e X.env::(assignEach es X.env).map (·.2):=by rfl):PGs X (e::es) (Xuc t u):=by
 intro pins s σ H vs us Q I r h
 obtain⟨v,vr,e1,h⟩:=h
 subst e1
 cases r with
 | cons r rr=>
  rw[hs]
  refine assignInOrder_cons (thn (h1 pins s σ H _ _ _ I r h) λ_ s1 ⟨σ1,H1,I1,q1⟩=>?_)
  exact h2 pins s1 σ1 H1 _ _ Q I1 rr q1
def gTup (K:PySem.W.Frag) (n:Nat) (t:TGs):TG:=λv σ H Q=>∃a xs,v = .ref a/\SqT K H a xs/\xs.length=n/\t xs σ H Q
theorem Xol{es:List Expr}{k:Nat}{t:TGs}{n:Nat}(hc:X.calm=true)(h:PGs X es t)
  (hn:(assignEach es X.env).length=n:=by rfl) (hst:(assignEach es X.env).findIdx? (·.1)=none:=by rfl):PG X (.Tuple es k pos) (gTup X.K n t):=by
 intro pins s σ H v u Q I r hw
 obtain⟨a,xs,e1,hq,hl,hw⟩:=hw
 subst e1
 cases r
 obtain⟨its,rv,ht,hz⟩:=I.tuple hq
 refine assign_Tuple_tuple (I.ok.hd hc) ht (by simp[hn,<-hl,rv.length]) hst λh' hx=>?_
 have I1:Inv X pins σ H {s with heap:=h'}:=I.kept (t':=s.toks) λb o e=>hx b o (Xzs (X3n e)) e
 exact h pins _ σ H xs _ Q I1 (by simpa using rv) hw
def gSub (to ti:TE) (t:TSet):TG:=λv σ H Q=>to σ H λo H1=>ti σ H1 λi H2=>t o i v H2 λH3=>Q σ H3
theorem Xgi{o i:Expr}{to ti:TE}{t:TSet}(ho:PE X o to)(hi:PE X i ti)(hs:PSet X t)
  (ha:∀v,assign (.Subscript o i pos) X.env v=(do
   let ov <-holding [v] (eval o X.env)
   let iv <-holding [v,ov] (eval i X.env)
   standAt pos
   holding [v,ov,iv] (setItem ov iv v)
   release [v,ov,iv] []):=by intro _;rfl):PG X (.Subscript o i pos) (gSub to ti t):=by
 intro pins s σ H v u Q I r h
 rw[ha]
 refine X3e (wpAny_holding (thn (ho pins s σ H _ I h) λov s1 ⟨x,H1,I1,r1,q1⟩=>?_))
 refine X3e (wpAny_holding (thn (hi pins s1 σ H1 _ I1 q1) λiv s2 ⟨y,H2,I2,r2,q2⟩=>?_))
 refine X3e (wpAny_standAt (X3e (wpAny_holding (thn (hs pins s2 σ H2 x y v ov iv u _ I2 r1 r2 r q2) λ_ s3 ⟨H3,I3,q3⟩=>?_))))
 exact wpAny_release ⟨σ,H3,I3,q3⟩
def tAsg (te:TE) (g:TG):TS:=λD σ H=>te σ H λx H1=>g x σ H1 D.nx
theorem Xej{tg e:Expr}{te:TE}{g:TG}(he:PE X e te)(hg:PG X tg g)(hs:swapsWithSole [tg] e pos.line X.env=pure false:=by rfl)(hw:swappedStores [tg] e X.env=pure none:=by rfl)
  (h1:(assignEach [tg] X.env).map (·.2)=[assign tg X.env]:=by rfl):PS X (.Assign [tg] e pos) (tAsg te g):=by
 intro pins s σ H D I h
 refine wpAny_Assign_stores (thn (he pins s σ H _ I h) λv s1 ⟨x,H1,I1,r1,q1⟩=>?_) hs hw
 rw[h1]
 exact thn (hg pins s1 σ H1 x v _ I1 r1 q1) λ_ s2 q=>q
theorem Xam{i:Nat}{x:Str}{e:Expr}{te:TE}{pos':Pos}(hN:X.N.Nodup)(hi:X.N[i]? = some x)(hx:Loc X.env.scope x)(he:PE X e te)(hs:swapsWith e (some (.Name x pos')) pos.line X.env=pure false:=by rfl)(hf:X.fn x=true\/X.env.scope.names.lookup x=some .local:=by first | exact .inl rfl | exact .inr rfl | assumption):
  PS X (.Assign [.Name x pos'] e pos) (tAsg te (Xbv i)):=by
 intro pins s σ H D I h
 refine wpAny_Assign_Name (thn (he pins s σ H _ I h) λv s1 ⟨y,H1,I1,r1,q1⟩=>?_) hs
 exact Xl3 I1 hN hi hx r1 (λs2 I2=>⟨_,H1,I2,q1⟩) hf
def tPar (i j:Nat) (ta:TA):TS:=λD σ H=>ta σ H λvs H1=>∃v w,vs=[v,w]/\D.nx ((σ.set i (some v)).set j (some w)) H1
def tAug (i:Nat) (te:TE) (ti:TIp):TS:=λD σ H=>∃x, σ[i]? = some (some x)/\te σ H λy H1=>ti x y H1 λz H2=>D.nx (σ.set i (some z)) H2
def tAugS (to ti te:TE) (tget:V->V->Hp->VK->Prop) (tip:TIp) (tset:TSet):TS:=λD σ H=>to σ H λo H1=>ti σ H1 λi H2=>tget o i H2 λx H3=>te σ H3 λy H4=>tip x y H4 λz H5=>tset o i z H5 λH6=>D.nx σ H6
def PGet (X:Cx) (t:V->V->Hp->VK->Prop):Prop:=
 ∀(pins:List (Addr×Obj)) (s:Shared) (σ:St) (H:Hp) (o i:V) (ov iv:Value) (Q:VK),Inv X pins σ H s->RelV o ov->RelV i iv->t o i H Q ->
  wpAny (model X.prog X.w) X.A (getItem ov iv) (EP X pins σ Q) X.xe s
def ipI (f:Int->Int->Int):TIp:=λx y H Q=>∃i j,x = .int i/\y = .int j/\Q (.int (f i j)) H
end
section
variable {X:Cx}{pos:Pos}
def tWhile (c:TT) (tb:TS):TS:=λD σ H=>∃W:Nat->St->Hp->Prop,(∃m,W m σ H)/\∀m σ H,W m σ H ->
 c σ H λb H1=>if b=true then ∃N:St->Hp->Prop,(∀σ' H',N σ' H'->∃m',m'<m/\W m' σ' H')/\tb {D with nx:=N,ct:=N,bk:=D.nx} σ H1 else D.nx σ H1
end
structure It where
 go:Nat->Hp->Prop
 yld:Nat->Hp->V->Hp->Prop
 stop:Nat->Hp->Prop
def FpOk (X:Cx) (pins:List (Addr×Obj)) (H:Hp) (b:Addr):Prop:=
 H b=none/\b≠X.env.locals/\b∉X.fs/\(b∈X.ex\/X.s₀.heap.objs.size<=b)/\(∀x c,X.env.cells.lookup x=some c->c≠b)/\∀p∈X.pn++pins,p.1≠b
theorem Inv.fpOk{X:Cx}{pins:List (Addr×Obj)}{σ:St}{H H':Hp}{s:Shared}{b:Addr}(I:Inv X pins σ H s)(hb:s.heap.objs.size<=b)(hn:H' b=none):FpOk X pins H' b:=by
 refine⟨hn,X3b (Xz5 I.lt hb),I.nofs hb,.inr (X0c I.sz hb),λx c e z=>?_,λp hp z=>?_⟩
 ·obtain⟨v,q⟩:=I.cell x c e
  exact absurd (Xz5 q.lt (by rw[z];exact hb)) (X0n _)
 ·exact absurd (Xz5 (X3n (I.pin p hp).1) (by rw[z];exact hb)) (X0n _)
structure Turn (P:Program) (w:World) (K:PySem.W.Frag) (tg:Expr) (J:It) (fp:List Addr) (it:Addr) (tn:Nat->Heap->Prop):Prop where
 mem:it∈fp
 obj:∀i h,tn i h->∀b∈fp,∃o,h.get? b=some o/\∀v,o.data ≠ .cell v
 keep:∀i h h',tn i h->(∀b∈fp,∀o,h.get? b=some o->h'.get? b=some o)->tn i h'
 item:∀(X:Cx),X.prog=P->X.w=w->X.K=K->X.calm=true->∀(i:Nat) (pins:List (Addr×Obj)) (s:Shared) (σ:St) (H:Hp) (E:Value->Shared->Prop),Inv X pins σ H s->(∀b∈fp,FpOk X pins H b)->tn i s.heap->J.go i H ->
  wpAny (model P w) X.A (pyNext (.ref it)) (λr s1=>∃u,r=some u /\
   wpAny (model P w) X.A (letOwnedTupleGo tg (.ref it) u) (λ_ s2=>∃x H',Inv X pins σ H' s2/\RelV x u/\J.yld i H x H'/\tn (i+1) s2.heap/\∀b∈fp,H' b=none) E s1) E s
 done:∀(X:Cx),X.prog=P->X.w=w->X.K=K->X.calm=true->∀(i:Nat) (pins:List (Addr×Obj)) (s:Shared) (σ:St) (H:Hp) (E:Value->Shared->Prop),Inv X pins σ H s->(∀b∈fp,FpOk X pins H b)->tn i s.heap->J.stop i H ->
  wpAny (model P w) X.A (pyNext (.ref it)) (λr s1=>r=none/\Inv X pins σ H s1) E s
 self:∀(A:Around) (i:Nat) (s:Shared) (Q:Value->Shared->Prop) (E:Value->Shared->Prop),tn i s.heap->Q (.ref it) s->wpAny (model P w) A (pyIter (.ref it)) Q E s
abbrev TI:=St->Hp->(It->Hp->Prop)->Prop
def PIE (X:Cx) (pins:List (Addr×Obj)) (σ:St) (tg:Expr) (R:It->Hp->Prop) (itv:Value) (s2:Shared):Prop:=
 ∃(it:Addr) (fp:List Addr) (tn:Nat->Heap->Prop) (J:It) (H':Hp),itv = .ref it/\Inv X pins σ H' s2/\Turn X.prog X.w X.K tg J fp it tn/\tn 0 s2.heap/\(∀b∈fp,FpOk X pins H' b)/\R J H'
def PI (X:Cx) (tg iter:Expr) (wi:TI):Prop:=
 ∀(pins:List (Addr×Obj)) (s:Shared) (σ:St) (H:Hp) (R:It->Hp->Prop),Inv X pins σ H s->wi σ H R ->
  wpAny (model X.prog X.w) X.A (eval iter X.env) (λv s1=>wpAny (model X.prog X.w) X.A (pyIter v) (PIE X pins σ tg R) X.xe s1) X.xe s
theorem Xrp{M:Model}{A:Around}{E:Value->Shared->Prop}{s:Shared}{tg:Expr}{it:Addr}{u:Value}{o:Obj}{n:String}{vs:Array Value}{Q:Unit->Shared->Prop}(ho:s.heap.get? it=some o)(hc:o.cls = .type n)(hd:o.data = .fields vs)
    (hn:["enumerate", "zip", "dict_itemiterator", "dict_reverseitemiterator", "odict_iterator", "itertools.zip_longest", "itertools.pairwise"].contains n=false) (hQ:Q () s):wpAny M A (letOwnedTupleGo tg (.ref it) u) Q E s:=by
  unfold letOwnedTupleGo
  cases tg<;>first
    | exact X3f hQ
    | (cases u<;>first
        | exact X3f hQ
        | (refine X3e (wpAny_load ho ?_)
           rw[hc,hd]
           show wpAny M A (if (["enumerate", "zip", "dict_itemiterator", "dict_reverseitemiterator", "odict_iterator", "itertools.zip_longest", "itertools.pairwise"].contains n&&vs[0]? == some (rawInt _))=true then _ else _) Q E s
           rw[X3h (by intro h;rw[hn,X0w] at h;cases h)]
           exact X3f hQ))
def Itl (K:PySem.W.Frag) (a:Addr):It:=
 ⟨λi H=>∃xs x,SqL K H a xs/\xs[i]? = some x,λi H x H'=>H'=H/\∀xs,SqL K H a xs->xs[i]? = some x,λi H=>∃xs,SqL K H a xs/\xs.length<=i⟩
def Itt (K:PySem.W.Frag) (a:Addr):It:=
 ⟨λi H=>∃xs x,SqT K H a xs/\xs[i]? = some x,λi H x H'=>H'=H/\∀xs,SqT K H a xs->xs[i]? = some x,λi H=>∃xs,SqT K H a xs/\xs.length<=i⟩
def Itr (lo:Int) (n:Nat):It:=⟨λi _=>i<n,λi H x H'=>H'=H/\x = .int (lo+i),λi _=>n<=i⟩
theorem Xom{P:Program}{w:World}{K:PySem.W.Frag}{tg:Expr}(a it:Addr):Turn P w K tg (Itl K a) [it] it (λi h=>h.IsListIter it a i) where
 mem:=by simp
 obj:=λi h st b hb=>by
  have e:b=it:=by simpa using hb
  subst e
  obtain⟨o,e,c,d⟩:=st
  exact⟨o,e,λv z=>by rw[d] at z;cases z⟩
 keep:=λi h h' st k=>st.at λo e=>k it (by simp) o e
 item:=by
  intro X hP hw hK hc i pins s σ H E I hf st hg
  subst hP hw hK
  obtain⟨xs,x,hq,hx⟩:=hg
  obtain⟨its,rv,p,hz⟩:=I.list hq
  obtain⟨u,hu,ru⟩:=rv.get hx
  obtain⟨f0,f1,f2,f3,f4,f5⟩:=hf it (by simp)
  refine wpAny_pyNext_list_item st p.isList (x:=u) (by simpa using hu) λh' st' sb=>?_
  have I1:Inv X pins σ H {s with heap:=h'}:=I.turned (t':=s.toks) (λb o hb e=>(sb.2 b hb).trans e) f0 f1 f3 f4 f5
  obtain⟨o,e,c,d⟩:=id st'
  exact⟨u,rfl,Xrp (s:={s with heap:=h'}) e c d (by decide) ⟨x,H,I1,ru,⟨rfl,λys hy=>by rw[I.list_inj hy hq];exact hx⟩,st',λb hb=>(hf b hb).1⟩⟩
 done:=by
  intro X hP hw hK hc i pins s σ H E I hf st hg
  subst hP hw hK
  obtain⟨xs,hq,hx⟩:=hg
  obtain⟨its,rv,p,hz⟩:=I.list hq
  obtain⟨f0,f1,f2,f3,f4,f5⟩:=hf it (by simp)
  have hl:=rv.length
  exact wpAny_pyNext_list_end (I.ok.hd hc) st p.isList (by simp;omega) λh' eb=>⟨rfl,I.turned (t':=s.toks) (λb o hb e=>eb b o hb e) f0 f1 f3 f4 f5⟩
 self:=λ_ _ _ _ _ st h=>wpAny_pyIter_listiter st h
theorem Xnh{P:Program}{w:World}{K:PySem.W.Frag}{tg:Expr}(a it:Addr):Turn P w K tg (Itt K a) [it] it (λi h=>h.IsTupleIter it a i) where
 mem:=by simp
 obj:=λi h st b hb=>by
  have e:b=it:=by simpa using hb
  subst e
  obtain⟨o,e,c,d⟩:=st
  exact⟨o,e,λv z=>by rw[d] at z;cases z⟩
 keep:=λi h h' st k=>st.at λo e=>k it (by simp) o e
 item:=by
  intro X hP hw hK hc i pins s σ H E I hf st hg
  subst hP hw hK
  obtain⟨xs,x,hq,hx⟩:=hg
  obtain⟨its,rv,p,hz⟩:=I.tuple hq
  obtain⟨u,hu,ru⟩:=rv.get hx
  obtain⟨f0,f1,f2,f3,f4,f5⟩:=hf it (by simp)
  refine wpAny_pyNext_tuple_item st (show s.heap.IsTuple a its.toArray from p) (x:=u) (by simpa using hu) λh' st' sb=>?_
  have I1:Inv X pins σ H {s with heap:=h'}:=I.turned (t':=s.toks) (λb o hb e=>(sb.2 b hb).trans e) f0 f1 f3 f4 f5
  obtain⟨o,e,c,d⟩:=id st'
  exact⟨u,rfl,Xrp (s:={s with heap:=h'}) e c d (by decide) ⟨x,H,I1,ru,⟨rfl,λys hy=>by rw[I.tuple_inj hy hq];exact hx⟩,st',λb hb=>(hf b hb).1⟩⟩
 done:=by
  intro X hP hw hK hc i pins s σ H E I hf st hg
  subst hP hw hK
  obtain⟨xs,hq,hx⟩:=hg
  obtain⟨its,rv,p,hz⟩:=I.tuple hq
  obtain⟨f0,f1,f2,f3,f4,f5⟩:=hf it (by simp)
  have hl:=rv.length
  exact wpAny_pyNext_tuple_end (I.ok.hd hc) st (show s.heap.IsTuple a its.toArray from p) (by simp;omega) λh' eb=>⟨rfl,I.turned (t':=s.toks) (λb o hb e=>eb b o hb e) f0 f1 f3 f4 f5⟩
 self:=λ_ _ _ _ _ st h=>wpAny_pyIter_tupleiter st h
theorem Xni{P:Program}{w:World}{K:PySem.W.Frag}{tg:Expr}(it:Addr)(lo:Int)(n:Nat):Turn P w K tg (Itr lo n) [it] it (λi h=>IsRangeIter h it (lo+(i:Nat) * 1) ((n:Int) - (i:Nat)) 1) where
 mem:=by simp
 obj:=λi h st b hb=>by
  have e:b=it:=by simpa using hb
  subst e
  exact⟨_,st,λv z=>by
   have z':Data.fields _=Data.cell v:=z
   cases z'⟩
 keep:=λi h h' st k=>k it (by simp) _ st
 item:=by
  intro X hP hw hK hc i pins s σ H E I hf st hg
  subst hP hw hK
  obtain⟨f0,f1,f2,f3,f4,f5⟩:=hf it (by simp)
  have W:=Walks.range (prog:=X.prog) (w:=X.w) (I.ok.hd hc) it lo 1 n
  refine W.item i s _ _ hg st λv h' tk hv st' kk=>?_
  obtain⟨t,rfl⟩:=hv
  have I1:Inv X pins σ H {s with heap:=h',toks:=tk}:=I.turned (λb o hb e=>kk b o (by simpa using hb) e) f0 f1 f3 f4 f5
  refine⟨_,rfl,Xrp (s:={s with heap:=h',toks:=tk}) (n := "range_iterator") st' rfl rfl (by decide) ⟨.int (lo+i),H,I1,⟨t,?_⟩,⟨rfl,rfl⟩,st',λb hb=>(hf b hb).1⟩⟩
  rw[Int.mul_one]
 done:=by
  intro X hP hw hK hc i pins s σ H E I hf st hg
  subst hP hw hK
  obtain⟨f0,f1,f2,f3,f4,f5⟩:=hf it (by simp)
  exact wpAny_pyNext_range_end (I.ok.hd hc) st (by have:n<=i:=hg;omega) λh' eb=>⟨rfl,I.turned (t':=s.toks) (λb o hb e=>eb b o hb e) f0 f1 f3 f4 f5⟩
 self:=λ_ _ _ _ _ st h=>wpAny_pyIter_rangeiter st h
section
variable {X:Cx}{tg:Expr}
def Xwo (K:PySem.W.Frag) (tl:TE):TI:=fun σ H R=>tl σ H λx H1=>∃a,x = .ref a/\(∃xs,SqL K H1 a xs)/\R (Itl K a) H1
def iTup (K:PySem.W.Frag) (tl:TE):TI:=fun σ H R=>tl σ H λx H1=>∃a,x = .ref a/\(∃xs,SqT K H1 a xs)/\R (Itt K a) H1
theorem Xa9{l:Expr}{tl:TE}(hl:PE X l tl):PI X tg l (Xwo X.K tl):=by
 intro pins s σ H R I h
 refine thn (hl pins s σ H _ I h) λv s1 ⟨x,H1,I1,r1,q1⟩=>?_
 obtain⟨a,e,⟨xs,hq⟩,q⟩:=q1
 subst e
 cases r1
 obtain⟨its,rv,p,hz⟩:=I1.list hq
 refine wpAny_pyIter_list p.isList ?_
 refine⟨s1.heap.objs.size,[s1.heap.objs.size],_,_,H1,rfl,I1.kept (t':=s1.toks) λb o e=>X3o _ e,Xom a _,⟨_,Heap.get?_push_size _ rfl,rfl,rfl⟩,λb hb=>?_,q⟩
 have e:b=s1.heap.objs.size:=by simpa using hb
 subst e
 exact I1.fpOk (Xzn _) (I1.hok.fresh (Xzn _))
theorem Xl5{l:Expr}{tl:TE}(hl:PE X l tl):PI X tg l (iTup X.K tl):=by
 intro pins s σ H R I h
 refine thn (hl pins s σ H _ I h) λv s1 ⟨x,H1,I1,r1,q1⟩=>?_
 obtain⟨a,e,⟨xs,hq⟩,q⟩:=q1
 subst e
 cases r1
 obtain⟨its,rv,p,hz⟩:=I1.tuple hq
 refine wpAny_pyIter_tuple (show s1.heap.IsTuple a its.toArray from p) ?_
 refine⟨s1.heap.objs.size,[s1.heap.objs.size],_,_,H1,rfl,I1.kept (t':=s1.toks) λb o e=>X3o _ e,Xnh a _,⟨_,Heap.get?_push_size _ rfl,rfl,rfl⟩,λb hb=>?_,q⟩
 have e:b=s1.heap.objs.size:=by simpa using hb
 subst e
 exact I1.fpOk (Xzn _) (I1.hok.fresh (Xzn _))
theorem Xrq{pins:List (Addr×Obj)}{σ:St}{H:Hp}{s:Shared}{R:It->Hp->Prop}{E:Value->Shared->Prop}{lo hi:Int}{t u v:Tok}{tk:Nat}(I:Inv X pins σ H s)(h1 : -(2 ^ 62)<=lo)(h2:lo<2 ^ 62)(h3 : -(2 ^ 62)<=hi)(h4:hi<2 ^ 62)
  (q:R (Itr lo (hi - lo).toNat) H):wpAny (model X.prog X.w) X.A (pyIter (.ref s.heap.objs.size)) (PIE X pins σ tg R) E {s with heap:=s.heap.push {cls:=.type "range",data:=.fields #[.int lo t,.int hi u,.int 1 v]},toks:=tk}:=by
 refine wpAny_pyIter_range (IsRange.new ..) (small_one h1 h2 h3 h4) ?_
 have I1:Inv X pins σ H {s with heap:=s.heap.push {cls:=.type "range",data:=.fields #[.int lo t,.int hi u,.int 1 v]},toks:=tk}:=I.kept λb o e=>X3o _ e
 refine⟨(s.heap.push {cls:=.type "range",data:=.fields #[.int lo t,.int hi u,.int 1 v]}).objs.size,[(s.heap.push {cls:=.type "range",data:=.fields #[.int lo t,.int hi u,.int 1 v]}).objs.size],_,_,H,rfl,
  I1.kept (t':=tk) λb o e=>X3o _ e,Xni _ lo (hi - lo).toNat,?_,λb hb=>?_,q⟩
 ·have e1:lo+((0:Nat):Int) * 1=lo:=by simp
  have e2:(((hi - lo).toNat:Nat):Int) - ((0:Nat):Int)=Builtin.Range.rangeSize lo hi 1:=by rw[rangeSize_one];split<;>omega
  show IsRangeIter _ _ (lo+((0:Nat):Int) * 1) ((((hi - lo).toNat:Nat):Int) - ((0:Nat):Int)) 1
  rw[e1,e2]
  exact Heap.get?_push_size _ rfl
 ·have e:b=(s.heap.push {cls:=.type "range",data:=.fields #[.int lo t,.int hi u,.int 1 v]}).objs.size:=by simpa using hb
  subst e
  exact I1.fpOk (Xzn _) (I1.hok.fresh (Xzn _))
def Xyv (ta:TA):TI:=fun σ H R=>ta σ H λvs H1=>∃j:Int,vs=[.int j] /\ -(2 ^ 62)<=j/\j<2 ^ 62/\R (Itr 0 j.toNat) H1
theorem Xdo{a:Expr}{ta:TA}{p pos:Pos}(hg:Gl X "range")(hm:X.mg "range" = none)(ha:PA X [a] ta)(hs:starEach [a] X.env=[(false,eval a X.env)]:=by rfl):PI X tg (.Call (.Name "range" p) [a] [] pos) (Xyv ta):=by
 intro pins s σ H R I h
 refine Call_ (Xhi I hg hm boot_range (PyProof.Rows.callWith_type1 (thn (ha pos pins s σ H _ I h) λus s1 ⟨vs,H1,I1,r1,q1⟩=>?_) hs rfl))
 obtain⟨j,e,q1,q2,q⟩:=q1
 subst e
 cases r1 with
 | cons r rr=>
  cases rr
  obtain⟨t,rfl⟩:=r
  exact call_range_1 (Xrq I1 (by omega) (by omega) q1 q2 (by simpa using q))
def tFor (wi:TI) (g:TG) (tb:TS):TS:=λD σ H=>wi σ H λJ H1=>∃W:Nat->Nat->St->Hp->Prop,(∃m,W 0 m σ H1)/\∀i m σ H,W i m σ H ->
 (J.stop i H/\D.nx σ H)\/(J.go i H/\∃N:St->Hp->Prop,(∀σ' H',N σ' H'->∃m',m'<m/\W (i+1) m' σ' H')/\∀x H',J.yld i H x H'->g x σ H' fun σ2 H2=>tb {D with nx:=N,ct:=N,bk:=D.nx} σ2 H2)
def Xi0 (fp:List Addr) (h:Heap):List (Addr×Obj):=fp.filterMap λb=>(h.get? b).map λo=>(b,o)
theorem Xd0{fp:List Addr}{h:Heap}{b:Addr}{o:Obj}(hb:b∈fp)(e:h.get? b=some o):(b,o)∈Xi0 fp h:=X2y.mpr ⟨b,hb,by rw[e];rfl⟩
theorem Xon{fp:List Addr}{h:Heap}{p:Addr×Obj}(hp:p∈Xi0 fp h):p.1∈fp/\h.get? p.1=some p.2:=by
 obtain⟨b,hb,e⟩:=X2y.mp hp
 cases q:h.get? b with
 | none=>rw[q] at e;cases e
 | some o=>
  rw[q] at e
  have e':(b,o)=p:=Xzx e
  subst e'
  exact⟨hb,q⟩
theorem Inv.pinned{pins:List (Addr×Obj)}{σ:St}{H:Hp}{s:Shared}{fp:List Addr}(I:Inv X pins σ H s)(hf:∀b∈fp,FpOk X pins H b)(ho:∀b∈fp,∃o,s.heap.get? b=some o/\∀v,o.data ≠ .cell v):Inv X (pins++Xi0 fp s.heap) σ H s:=
 I.pins_of λp hp=>(Xzv.mp hp).elim (λz=>I.pin p (X0e _ z)) λz=>by
  obtain⟨hb,e⟩:=Xon z
  obtain⟨f0,f1,f2,_⟩:=hf p.1 hb
  obtain⟨o,e',d⟩:=ho p.1 hb
  rw[e] at e';cases e'
  exact⟨e,f0,f1,f2,d⟩
theorem Inv.unpinned{pins pl:List (Addr×Obj)}{σ:St}{H:Hp}{s:Shared}(I:Inv X (pins++pl) σ H s):Inv X pins σ H s:=I.pins_of λp hp=>I.pin p (X0e _ (X0z _ hp))
theorem Xdk{iter:Expr}{body:List Stmt}{wi:TI}{g:TG}{tb:TS}{pos:Pos}(hp:PassesOwn (model X.prog X.w) X.A X.env X.xe)(hc:X.calm=true)(hi:PI X tg iter wi)(hg:PG X tg g)(hb:PSs X body tb)
  (hs:∀x,foldedSetIterable iter X.env x=pure x:=by intro _;rfl):PS X (.For tg iter body [] pos) (tFor wi g tb):=by
 intro pins s σ H D I h
 refine wpAny_For (thn (hi pins s σ H _ I h) λv s1 h1=>thn h1 λitv s2 h2=>?_) hs
 obtain⟨it,fp,tn,J,H2,e,I2,T,st2,f2,W,⟨m0,w0⟩,turn⟩:=h2
 subst e
 have stat:∀{H':Hp},(∀b∈fp,H' b=none)->∀b∈fp,FpOk X pins H' b:=λhn b hb=>⟨hn b hb,(f2 b hb).2⟩
 refine codeAny_forLoop_any (λn s'=>∃i σ' H',Inv X pins σ' H' s'/\tn i s'.heap/\(∀b∈fp,H' b=none)/\W i n σ' H') ?_ m0 ⟨0, σ,H2,I2,st2,λb hb=>(f2 b hb).1,w0⟩
 rintro n s3 ⟨i, σ3,H3,I3,st3,fr3,w3⟩
 rcases turn i n σ3 H3 w3 with ⟨stop,qn⟩ | ⟨go,N,hN,step⟩
 ·refine wpAny_passesOwn hp (thn (T.done X rfl rfl rfl hc i pins s3 σ3 H3 X.xe I3 (stat fr3) st3 stop) λr s4 ⟨hr,I4⟩=>?_)
  subst hr
  exact wpAny_execs_nil ⟨σ3,H3,I4,qn⟩
 ·refine wpAny_passesOwn hp (thn (T.item X rfl rfl rfl hc i pins s3 σ3 H3 X.xe I3 (stat fr3) st3 go) λr s4 ⟨u,hr,h4⟩=>?_)
  subst hr
  refine wpAny_passesOwn hp (thn h4 λ_ s5 ⟨x,H5,I5,r5,y5,st5,fr5⟩=>?_)
  have I5':=I5.pinned (stat fr5) (T.obj _ _ st5)
  refine wpAny_passesOwn hp (thn (hg _ s5 σ3 H5 x u _ I5' r5 (step x H5 y5)) λ_ s6 ⟨σ6,H6,I6,q6⟩=>?_)
  refine wpAny_passesOwn hp (thn (hb _ s6 σ6 H6 _ I6 q6) λf s7 q7=>?_)
  have again:∀{σ7:St} {H7:Hp},Inv X (pins++Xi0 fp s5.heap) σ7 H7 s7->N σ7 H7->∃m,m<n/\∃i σ' H',Inv X pins σ' H' s7/\tn i s7.heap/\(∀b∈fp,H' b=none)/\W i m σ' H':=λ{σ7 H7} I7 n7=>by
   obtain⟨m',hm,w7⟩:=hN σ7 H7 n7
   refine⟨m',hm,i+1, σ7,H7,I7.unpinned,T.keep _ _ _ st5 λb hb o e=>(I7.pin (b,o) (X0e _ (X0e _ (Xd0 hb e)))).1,λb hb=>?_,w7⟩
   obtain⟨o,e,d⟩:=T.obj _ _ st5 b hb
   exact(I7.pin (b,o) (X0e _ (X0e _ (Xd0 hb e)))).2.1
  cases f with
  | next=>obtain⟨σ7,H7,I7,n7⟩:=q7;exact again I7 n7
  | cont=>obtain⟨σ7,H7,I7,n7⟩:=q7;exact again I7 n7
  | brk=>obtain⟨σ7,H7,I7,q7⟩:=q7;exact⟨σ7,H7,I7.unpinned,q7⟩
  | ret v=>obtain⟨x7, σ7,H7,I7,r7,q7⟩:=q7;exact⟨x7, σ7,H7,I7.unpinned,r7,q7⟩
end
theorem Xcy{K:PySem.W.Frag}{a:Addr}{xs:List V}{g:TG}{tb:TS}{D:Ends}{σ:St}{H:Hp}(Pv:Nat->St->Hp->Prop)(h0:Pv 0 σ H)(hl:∀i σ H,i<=xs.length->Pv i σ H->SqL K H a xs)
  (hs:∀i x σ H,xs[i]? = some x->Pv i σ H->g x σ H fun σ2 H2=>tb {D with nx:=Pv (i+1),ct:=Pv (i+1),bk:=D.nx} σ2 H2) (hd:∀σ H,Pv xs.length σ H->D.nx σ H):
  ∃W:Nat->Nat->St->Hp->Prop,(∃m,W 0 m σ H)/\∀i m σ H,W i m σ H ->
   ((Itl K a).stop i H/\D.nx σ H)\/((Itl K a).go i H/\∃N:St->Hp->Prop,(∀σ' H',N σ' H'->∃m',m'<m/\W (i+1) m' σ' H')/\∀x H',(Itl K a).yld i H x H'->g x σ H' fun σ2 H2=>tb {D with nx:=N,ct:=N,bk:=D.nx} σ2 H2):=by
 refine⟨λi m σ H=>m=xs.length - i/\i<=xs.length/\Pv i σ H,⟨xs.length,by simp,X0k _,h0⟩,?_⟩
 rintro i m σ H ⟨rfl,hi,p⟩
 have q:=hl i σ H hi p
 by_cases hlt:i<xs.length
 ·refine .inr ⟨⟨xs,xs[i],q,by simp[hlt]⟩,Pv (i+1),fun σ' H' p'=>⟨xs.length - (i+1),by omega,rfl,hlt,p'⟩,λx H' y=>?_⟩
  obtain⟨e,y⟩:=y
  subst e
  exact hs i x σ _ (y xs q) p
 ·have e:i=xs.length:=by omega
  subst e
  exact .inl ⟨⟨xs,q,Xzn _⟩,hd σ H p⟩
theorem Xek{lo:Int}{n:Nat}{g:TG}{tb:TS}{D:Ends}{σ:St}{H:Hp}(Pv:Nat->St->Hp->Prop)(h0:Pv 0 σ H)
  (hs:∀i σ H,i<n->Pv i σ H->g (.int (lo+i)) σ H fun σ2 H2=>tb {D with nx:=Pv (i+1),ct:=Pv (i+1),bk:=D.nx} σ2 H2) (hd:∀σ H,Pv n σ H->D.nx σ H):
  ∃W:Nat->Nat->St->Hp->Prop,(∃m,W 0 m σ H)/\∀i m σ H,W i m σ H ->
   ((Itr lo n).stop i H/\D.nx σ H)\/((Itr lo n).go i H/\∃N:St->Hp->Prop,(∀σ' H',N σ' H'->∃m',m'<m/\W (i+1) m' σ' H')/\∀x H',(Itr lo n).yld i H x H'->g x σ H' fun σ2 H2=>tb {D with nx:=N,ct:=N,bk:=D.nx} σ2 H2):=by
 refine⟨λi m σ H=>m=n - i/\i<=n/\Pv i σ H,⟨n,by simp,X0k _,h0⟩,?_⟩
 rintro i m σ H ⟨rfl,hi,p⟩
 by_cases hlt:i<n
 ·refine .inr ⟨hlt,Pv (i+1),fun σ' H' p'=>⟨n - (i+1),by omega,rfl,hlt,p'⟩,λx H' y=>?_⟩
  obtain⟨e,y⟩:=y
  subst e y
  exact hs i σ _ hlt p
 ·have e:i=n:=by omega
  subst e
  exact .inl ⟨Xzn _,hd σ H p⟩
abbrev R2:=V->V->Hp->VK->Prop
def OpR (X:Cx) (f:Value->Value->Sem Value) (r:R2):Prop:=
 ∀(pins:List (Addr×Obj)) (s:Shared) (σ:St) (H:Hp) (x y:V) (v u:Value) (Q:VK),Inv X pins σ H s->RelV x v->RelV y u->r x y H Q ->
  wpAny (model X.prog X.w) X.A (f v u) (EP X pins σ Q) X.xe s
def UnR (X:Cx) (f:Value->Sem Value) (r:V->Hp->VK->Prop):Prop:=
 ∀(pins:List (Addr×Obj)) (s:Shared) (σ:St) (H:Hp) (x:V) (v:Value) (Q:VK),Inv X pins σ H s->RelV x v->r x H Q ->
  wpAny (model X.prog X.w) X.A (f v) (EP X pins σ Q) X.xe s
def Xcx (X:Cx) (f:Value) (r:List V->Hp->VK->Prop):Prop:=
 ∀(pins:List (Addr×Obj)) (s:Shared) (σ:St) (H:Hp) (xs:List V) (us:List Value) (Q:VK),Inv X pins σ H s->Vals xs us->r xs H Q ->
  wpAny (model X.prog X.w) X.A (call f us) (EP X pins σ Q) X.xe s
def TruR (X:Cx) (r:V->Hp->(Bool->Hp->Prop)->Prop):Prop:=
 ∀(pins:List (Addr×Obj)) (s:Shared) (σ:St) (H:Hp) (x:V) (v:Value) (Q:Bool->Hp->Prop),Inv X pins σ H s->RelV x v->r x H Q ->
  wpAny (model X.prog X.w) X.A (truthy v) (TP X pins σ Q) X.xe s
def tOp (r:R2) (ta tb:TE):TE:=fun σ H Q=>ta σ H λx H1=>tb σ H1 λy H2=>r x y H2 Q
def tUn (r:V->Hp->VK->Prop) (ta:TE):TE:=fun σ H Q=>ta σ H λx H1=>r x H1 Q
def rI (C:Int->Int->Prop) (g:Int->Int->V):R2:=λx y H Q=>∃i j,x = .int i/\y = .int j/\C i j/\Q (g i j) H
def rI0 (g:Int->Int->V):R2:=λx y H Q=>∃i j,x = .int i/\y = .int j/\Q (g i j) H
def rU (g:Int->V):V->Hp->VK->Prop:=λx H Q=>∃i,x = .int i/\Q (g i) H
section
variable {X:Cx}{a b c:Expr}{ta tb tc:TE}{pos:Pos}
theorem binT(ha:PE X a ta)(hb:PE X b tb){pins:List (Addr×Obj)}{s:Shared}{σ:St}{H:Hp}{R:V->V->Hp->Prop}(I:Inv X pins σ H s)
  (h:ta σ H λx H1=>tb σ H1 λy H2=>R x y H2) {Q:Value->Shared->Prop} {f:Value->Value->Sem Value}
  (hf:∀v u s2 x y H2,Inv X pins σ H2 s2->RelV x v->RelV y u->R x y H2->wpAny (model X.prog X.w) X.A (f v u) Q X.xe s2):
  wpAny (model X.prog X.w) X.A (eval a X.env) (λv s₁=>wpAny (model X.prog X.w) X.A (eval b X.env) (λu s₂=>wpAny (model X.prog X.w) X.A (f v u) Q X.xe s₂) X.xe s₁) X.xe s:=by
 refine thn (ha pins s σ H _ I h) λv s1 ⟨x,H1,I1,r1,q1⟩=>?_
 refine thn (hb pins s1 σ H1 _ I1 q1) λu s2 ⟨y,H2,I2,r2,q2⟩=>?_
 exact hf v u s2 x y H2 I2 r1 r2 q2
theorem Xat{op:Operator}{r:R2}(ho:OpR X (binaryOp op) r)(ha:PE X a ta)(hb:PE X b tb):PE X (.BinOp a op b pos) (tOp r ta tb):=by
 intro pins s σ H Q I h
 exact wpAny_BinOp (binT ha hb I h λv u s2 x y H2 I2 rx ry q=>ho pins s2 σ H2 x y v u Q I2 rx ry q)
theorem Xwp{op:UnaryOp}{r:V->Hp->VK->Prop}(ho:UnR X (unaryOp op) r)(ha:PE X a ta):PE X (.UnaryOp op a pos) (tUn r ta):=by
 intro pins s σ H Q I h
 exact UnaryOp_ (thn (ha pins s σ H _ I h) λv s1 ⟨x,H1,I1,r1,q1⟩=>ho pins s1 σ H1 x v Q I1 r1 q1)
theorem opI{f:Value->Value->Sem Value}{C:Int->Int->Prop}{g:Int->Int->Int}
  (rule:∀(i j:Int) (t u:Tok) (s:Shared) (Q:Value->Shared->Prop) (E:Value->Shared->Prop),C i j->Q (.int (g i j) s.toks) {s with toks:=s.toks+1}->wpAny (model X.prog X.w) X.A (f (.int i t) (.int j u)) Q E s):
  OpR X f (rI C λi j=>.int (g i j)):=by
 intro pins s σ H x y v u Q I rx ry h
 obtain⟨i,j,rfl,rfl,hc,q⟩:=h
 obtain⟨t,rfl⟩:=rx
 obtain⟨t',rfl⟩:=ry
 exact rule i j t t' s _ _ hc ⟨.int (g i j),H,I.tok _,⟨_,rfl⟩,q⟩
theorem opI0{f:Value->Value->Sem Value}{g:Int->Int->Int}
  (rule:∀(i j:Int) (t u:Tok) (s:Shared) (Q:Value->Shared->Prop) (E:Value->Shared->Prop),Q (.int (g i j) s.toks) {s with toks:=s.toks+1}->wpAny (model X.prog X.w) X.A (f (.int i t) (.int j u)) Q E s):
  OpR X f (rI0 λi j=>.int (g i j)):=by
 intro pins s σ H x y v u Q I rx ry h
 obtain⟨i,j,rfl,rfl,q⟩:=h
 obtain⟨t,rfl⟩:=rx
 obtain⟨t',rfl⟩:=ry
 exact rule i j t t' s _ _ ⟨.int (g i j),H,I.tok _,⟨_,rfl⟩,q⟩
theorem opB0{f:Value->Value->Sem Value}{g:Int->Int->Bool}
  (rule:∀(i j:Int) (t u:Tok) (s:Shared) (Q:Value->Shared->Prop) (E:Value->Shared->Prop),Q (.bool (g i j)) s->wpAny (model X.prog X.w) X.A (f (.int i t) (.int j u)) Q E s):
  OpR X f (rI0 λi j=>.bl (g i j)):=by
 intro pins s σ H x y v u Q I rx ry h
 obtain⟨i,j,rfl,rfl,q⟩:=h
 obtain⟨t,rfl⟩:=rx
 obtain⟨t',rfl⟩:=ry
 exact rule i j t t' s _ _ ⟨.bl (g i j),H,I,rfl,q⟩
def CDiv (i j:Int):Prop:=0<j/\j<1073741824
def CPow (i j:Int):Prop:=0<=j/\j<=1000000/\i.natAbs<2 ^ 64
def CMul (i j:Int):Prop:=(-(2 ^ 64)<i/\i<2 ^ 64)\/(-(2 ^ 64)<j/\j<2 ^ 64)
theorem CMul.ok{i j:Int}(h:CMul i j):IntMulOk i j:=by
 rcases h with ⟨h1,h2⟩ | ⟨h1,h2⟩
 ·exact .of_left (intBits_le_64 h1 h2)
 ·exact .of_right (intBits_le_64 h1 h2)
theorem Xb4:OpR X (binaryOp .Add) (rI0 λi j=>.int (i+j)):=opI0 λ_ _ _ _ _ _ _ q=>add_int q
theorem Xwq:OpR X (binaryOp .Sub) (rI0 λi j=>.int (i - j)):=opI0 λ_ _ _ _ _ _ _ q=>sub_int q
theorem Xtm:OpR X (binaryOp .Mult) (rI CMul λi j=>.int (i * j)):=opI λ_ _ _ _ _ _ _ hc q=>mul_int q hc.ok
theorem Xoo:OpR X (binaryOp .FloorDiv) (rI CDiv λi j=>.int (i / j)):=opI λi j _ _ _ _ _ hc q=>by
 have h1:(0:Int)<j:=hc.1
 have h2:j<1073741824:=hc.2
 exact floordiv_int (by omega) (by rw[Int.fdiv_eq_ediv_of_nonneg i (by omega)];exact q) (.inl (PyProof.noPylong_small (by omega)))
theorem Xhj:OpR X (binaryOp .Mod) (rI (λ_ j=>0<j) λi j=>.int (i % j)):=opI λi j _ _ _ _ _ hc q=>by
 have h1:(0:Int)<j:=hc
 exact mod_int' (by omega) (by rw[Int.fmod_eq_emod_of_nonneg i (by omega)];exact q)
theorem Xtn:OpR X (binaryOp .Pow) (rI CPow λi j=>.int (i ^ j.toNat)):=opI λ_ _ _ _ _ _ _ hc q=>pow_int_small hc.1 hc.2.1 hc.2.2 q
theorem unI{f:Value->Sem Value}{g:Int->Int}
  (rule:∀(i:Int) (t:Tok) (s:Shared) (Q:Value->Shared->Prop) (E:Value->Shared->Prop),Q (.int (g i) s.toks) {s with toks:=s.toks+1}->wpAny (model X.prog X.w) X.A (f (.int i t)) Q E s):
  UnR X f (rU λi=>.int (g i)):=by
 intro pins s σ H x v Q I rx h
 obtain⟨i,rfl,q⟩:=h
 obtain⟨t,rfl⟩:=rx
 exact rule i t s _ _ ⟨.int (g i),H,I.tok _,⟨_,rfl⟩,q⟩
theorem Xto:UnR X (unaryOp .USub) (rU λi=>.int (-i)):=unI λ_ _ _ _ _ q=>neg_int q
end
def scal:V->V->Bool
 | .non,.non=>true | .non,.int _=>true | .int _,.non=>true | .non,.bl _=>true | .bl _,.non=>true | .non,.str _=>true | .str _,.non=>true
 | .int _,.int _=>true | .bl _,.bl _=>true | .str _,.str _=>true | .byt _,.byt _=>true
 | .int _,.str _=>true | .str _,.int _=>true | .bl _,.str _=>true | .str _,.bl _=>true
 | _,_=>false
def rEq:R2:=λx y H Q=>scal x y=true/\Q (.bl (decide (x=y))) H
def rNe:R2:=λx y H Q=>scal x y=true/\Q (.bl (!decide (x=y))) H
theorem Xop{i j:Int}:decide (V.int i=V.int j)=(i==j):=by
 rw[X01]
 simp
theorem Xoq{i j:Bool}:decide (V.bl i=V.bl j)=(i==j):=by
 rw[X01]
 simp
theorem Xor{i j:Str}:decide (V.str i=V.str j)=(i==j):=by
 rw[X01]
 simp
theorem Xos{i j:Array UInt8}:decide (V.byt i=V.byt j)=(i.toList==j.toList):=by
 rw[X01]
 cases i
 cases j
 simp
section
variable {X:Cx}{a b c:Expr}{ta tb tc:TE}{pos:Pos}
theorem Xa4{pins:List (Addr×Obj)}{σ:St}{H:Hp}{s:Shared}{Q:VK}{k k':Bool}(I:Inv X pins σ H s)(q:Q (.bl k) H)(e:k=k'):EP X pins σ Q (.bool k') s:=by
 subst e
 exact⟨.bl k,H,I,rfl,q⟩
theorem Xb3:OpR X (compareOp .Eq) rEq:=by
 intro pins s σ H x y v u Q I rx ry h
 obtain⟨hs,q⟩:=h
 cases x with
 | non=>
  cases rx
  cases y with
  | non=>cases ry;exact PySem.EqNone.eq_none_none (Xa4 I q (by simp))
  | bl j=>cases ry;exact PySem.EqNone.eq_none_bool (Xa4 I q (by simp))
  | int j=>obtain⟨t',rfl⟩:=ry;exact PySem.EqNone.eq_none_int (Xa4 I q (by simp))
  | str j=>obtain⟨t',rfl⟩:=ry;exact PySem.EqNone.eq_none_str (Xa4 I q (by simp))
  | _=>exact absurd (show false=true from hs) Xz0
 | bl i=>
  cases rx
  cases y with
  | non=>cases ry;exact PySem.EqNone.eq_bool_none (Xa4 I q (by simp))
  | bl j=>cases ry;exact eq_bool (Xa4 I q Xoq)
  | str j=>obtain⟨t',rfl⟩:=ry;exact PySem.EqMixed.eq_bool_str (Xa4 I q (by simp))
  | _=>exact absurd (show false=true from hs) Xz0
 | int i=>
  obtain⟨t,rfl⟩:=rx
  cases y with
  | non=>cases ry;exact PySem.EqNone.eq_int_none (Xa4 I q (by simp))
  | int j=>obtain⟨t',rfl⟩:=ry;exact eq_int (Xa4 I q Xop)
  | str j=>obtain⟨t',rfl⟩:=ry;exact PySem.EqMixed.eq_int_str (Xa4 I q (by simp))
  | _=>exact absurd (show false=true from hs) Xz0
 | str i=>
  obtain⟨t,rfl⟩:=rx
  cases y with
  | non=>cases ry;exact PySem.EqNone.eq_str_none (Xa4 I q (by simp))
  | bl j=>cases ry;exact PySem.EqMixed.eq_str_bool (Xa4 I q (by simp))
  | int j=>obtain⟨t',rfl⟩:=ry;exact PySem.EqMixed.eq_str_int (Xa4 I q (by simp))
  | str j=>obtain⟨t',rfl⟩:=ry;exact eq_str (Xa4 I q Xor)
  | _=>exact absurd (show false=true from hs) Xz0
 | byt i=>
  obtain⟨t,rfl⟩:=rx
  cases y with
  | byt j=>obtain⟨t',rfl⟩:=ry;exact PySem.W.eq_bytes (Xa4 I q Xos)
  | _=>exact absurd (show false=true from hs) Xz0
 | _=>cases y<;>exact absurd (show false=true from hs) Xz0
theorem Xot:OpR X (compareOp .NotEq) rNe:=by
 intro pins s σ H x y v u Q I rx ry h
 obtain⟨hs,q⟩:=h
 cases x with
 | non=>
  cases rx
  cases y with
  | non=>cases ry;exact PySem.EqNone.ne_none_none (Xa4 I q (by simp))
  | bl j=>cases ry;exact PySem.EqNone.ne_none_bool (Xa4 I q (by simp))
  | int j=>obtain⟨t',rfl⟩:=ry;exact PySem.EqNone.ne_none_int (Xa4 I q (by simp))
  | str j=>obtain⟨t',rfl⟩:=ry;exact PySem.EqNone.ne_none_str (Xa4 I q (by simp))
  | _=>exact absurd (show false=true from hs) Xz0
 | bl i=>
  cases rx
  cases y with
  | non=>cases ry;exact PySem.EqNone.ne_bool_none (Xa4 I q (by simp))
  | bl j=>cases ry;exact ne_bool (Xa4 I q (congrArg not Xoq))
  | str j=>obtain⟨t',rfl⟩:=ry;exact PySem.EqMixed.ne_bool_str (Xa4 I q (by simp))
  | _=>exact absurd (show false=true from hs) Xz0
 | int i=>
  obtain⟨t,rfl⟩:=rx
  cases y with
  | non=>cases ry;exact PySem.EqNone.ne_int_none (Xa4 I q (by simp))
  | int j=>obtain⟨t',rfl⟩:=ry;exact ne_int (Xa4 I q (congrArg not Xop))
  | str j=>obtain⟨t',rfl⟩:=ry;exact PySem.EqMixed.ne_int_str (Xa4 I q (by simp))
  | _=>exact absurd (show false=true from hs) Xz0
 | str i=>
  obtain⟨t,rfl⟩:=rx
  cases y with
  | non=>cases ry;exact PySem.EqNone.ne_str_none (Xa4 I q (by simp))
  | bl j=>cases ry;exact PySem.EqMixed.ne_str_bool (Xa4 I q (by simp))
  | int j=>obtain⟨t',rfl⟩:=ry;exact PySem.EqMixed.ne_str_int (Xa4 I q (by simp))
  | str j=>obtain⟨t',rfl⟩:=ry;exact ne_str (Xa4 I q (congrArg not Xor))
  | _=>exact absurd (show false=true from hs) Xz0
 | byt i=>
  obtain⟨t,rfl⟩:=rx
  cases y with
  | byt j=>obtain⟨t',rfl⟩:=ry;exact PySem.W.ne_bytes (Xa4 I q (congrArg not Xos))
  | _=>exact absurd (show false=true from hs) Xz0
 | _=>cases y<;>exact absurd (show false=true from hs) Xz0
theorem Xfy:OpR X (compareOp .Lt) (rI0 λi j=>.bl (decide (i<j))):=opB0 λ_ _ _ _ _ _ _ q=>lt_int q
theorem Xyw:OpR X (compareOp .Gt) (rI0 λi j=>.bl (decide (j<i))):=opB0 λ_ _ _ _ _ _ _ q=>gt_int q
theorem Xwr:OpR X (compareOp .GtE) (rI0 λi j=>.bl (decide (j<=i))):=opB0 λ_ _ _ _ _ _ _ q=>ge_int q
theorem Xi1:OpR X (compareOp .Lt) (λx y H Q=>∃i j,x = .str i/\y = .str j/\Q (.bl (decide (i.cps.toList<j.cps.toList))) H):=by
 intro pins s σ H x y v u Q I rx ry h
 obtain⟨i,j,rfl,rfl,q⟩:=h
 obtain⟨t,rfl⟩:=rx
 obtain⟨t',rfl⟩:=ry
 exact lt_str (Xa4 I q rfl)
def isObj:HO->Bool
 | .lst _=>true
 | .ins _ _ _=>true
 | _=>false
theorem nomark(b:Expr){op:CmpOp}(h:op ≠ .In:=by decide)(h2:op ≠ .NotIn:=by decide):behindInMarks op b=false:=by
 have e1:(op==CmpOp.In)=false:=by cases op<;>first | rfl | exact absurd rfl h
 have e2:(op==CmpOp.NotIn)=false:=by cases op<;>first | rfl | exact absurd rfl h2
 cases b<;>simp[behindInMarks,e1,e2]
theorem Xbo{op:CmpOp}{r:R2}(ho:OpR X (compareOp op) r)(ha:PE X a ta)(hb:PE X b tb)(hm:behindInMarks op b=false):PE X (.Compare a [op] [b] pos) (tOp r ta tb):=by
 intro pins s σ H Q I h
 exact wpAny_Compare1 (binT ha hb I h λv u s2 x y H2 I2 rx ry q=>ho pins s2 σ H2 x y v u Q I2 rx ry q) hm
def Xud (t:TE):TT:=fun σ H Q=>t σ H λx H'=>∃k,x = .bl k/\Q k H'
theorem Xaj{op:CmpOp}{r:R2}(ho:OpR X (compareOp op) r)(ha:PE X a ta)(hb:PE X b tb)(hm:behindInMarks op b=false):PT X (.Compare a [op] [b] pos) (Xud (tOp r ta tb)):=by
 intro pins s σ H Q I h
 refine wpAny_isTrue_Compare1 (thn (ha pins s σ H _ I h) λv s1 ⟨x,H1,I1,r1,q1⟩=>thn (hb pins s1 σ H1 _ I1 q1) λu s2 ⟨y,H2,I2,r2,q2⟩=>
  thn (ho pins s2 σ H2 x y v u _ I2 r1 r2 q2) λc s3 ⟨z,H3,I3,r3,k,e,q3⟩=>?_) hm
 subst e
 cases r3
 exact wpAny_truthy_bool ⟨H3,I3,q3⟩
def Xou (r r':R2) (ta tb tc:TE):TE:=fun σ H Q=>ta σ H λx H1=>tb σ H1 λy H2=>r x y H2 λz H3=>∃k,z = .bl k /\
 (if k=true then tc σ H3 λw' H4=>r' y w' H4 Q else Q (.bl false) H3)
theorem Xl6{op op':CmpOp}{r r':R2}(ho:OpR X (compareOp op) r)(ho':OpR X (compareOp op') r')(ha:PE X a ta)(hb:PE X b tb)(hc:PE X c tc)
  (hm:lastMarks [op,op'] [b,c]=false:=by with_unfolding_all rfl):PE X (.Compare a [op,op'] [b,c] pos) (Xou r r' ta tb tc):=by
 intro pins s σ H Q I h
 refine Compare_chain (thn (ha pins s σ H _ I h) λv s1 ⟨x,H1,I1,r1,q1⟩=>chain_link (thn (hb pins s1 σ H1 _ I1 q1) λu s2 ⟨y,H2,I2,r2,q2⟩=>
  thn (ho pins s2 σ H2 x y v u _ I2 r1 r2 q2) λd s3 ⟨z,H3,I3,r3,k,e,q3⟩=>?_)) hm
 subst e
 cases r3
 refine wpAny_truthy_bool ?_
 cases k with
 | false=>exact ite_ff ⟨.bl false,H3,I3,rfl,q3⟩
 | true=>exact ite_tt (chain_last (thn (hc pins s3 σ H3 _ I3 q3) λw' s4 ⟨z',H4,I4,r4,q4⟩=>ho' pins s4 σ H4 y z' u w' Q I4 r2 r4 q4))
theorem Xrr{op op':CmpOp}{r r':R2}(ho:OpR X (compareOp op) r)(ho':OpR X (compareOp op') r')(ha:PE X a ta)(hb:PE X b tb)(hc:PE X c tc)
  (hm:lastMarks [op,op'] [b,c]=false:=by with_unfolding_all rfl):PT X (.Compare a [op,op'] [b,c] pos) (Xud (Xou r r' ta tb tc)):=by
 intro pins s σ H Q I h
 refine isTrue_chain (thn (ha pins s σ H _ I h) λv s1 ⟨x,H1,I1,r1,q1⟩=>test_link (thn (hb pins s1 σ H1 _ I1 q1) λu s2 ⟨y,H2,I2,r2,q2⟩=>
  thn (ho pins s2 σ H2 x y v u _ I2 r1 r2 q2) λd s3 ⟨z,H3,I3,r3,k,e,q3⟩=>?_)) hm
 subst e
 cases r3
 refine wpAny_truthy_bool ?_
 cases k with
 | false=>
  obtain⟨k',e',q'⟩:=q3
  cases e'
  exact ite_ff ⟨H3,I3,q'⟩
 | true=>
  refine ite_tt (test_last (thn (hc pins s3 σ H3 _ I3 q3) λw' s4 ⟨z',H4,I4,r4,q4⟩=>thn (ho' pins s4 σ H4 y z' u w' _ I4 r2 r4 q4) λd' s5 ⟨z2,H5,I5,r5,k2,e2,q5⟩=>?_))
  subst e2
  cases r5
  exact wpAny_truthy_bool ⟨H5,I5,q5⟩
def TruV (K:PySem.W.Frag) (x:V) (H:Hp) (k:Bool):Prop:=
 match x with
 | .non=>k=false
 | .bl b=>k=b
 | .int i=>k=(i != 0)
 | .str y=>y.length<=sizeLine/\k=((y.length:Int) != 0)
 | .byt y=>y.size<=sizeLine/\k=((y.size:Int) != 0)
 | .ref p=>(∃xs,SqL K H p xs/\k = !xs.isEmpty)\/(∃xs,SqT K H p xs/\k = !xs.isEmpty) \/ ∃kvs,H p=some (.dK kvs)/\k = !kvs.isEmpty
 | _=>False
theorem Xnj{κ : Type}{kvs:List (κ × V)}{vs:List (κ × Value)}(r:KV kvs vs):(!vs.isEmpty) = !kvs.isEmpty:=by
 cases r<;>rfl
theorem Xhk{xs:List V}{its:List Value}(r:Vals xs its):(!its.toArray.isEmpty) = !xs.isEmpty:=by
 cases r<;>simp
theorem line63:(sizeLine:Nat)<2 ^ 63:=by rw[X3g];decide
theorem Xws:TruR X (λx H Q=>∃k,TruV X.K x H k/\Q k H):=by
 intro pins s σ H x v Q I rx h
 obtain⟨k,e,q⟩:=h
 have hl:=line63
 have hs:sizeLine=16777216:=X3g
 cases x with
 | non=>
  cases rx
  have e':k=false:=e
  subst e'
  exact truthy_none ⟨H,I,q⟩
 | bl b=>
  cases rx
  have e':k=b:=e
  subst e'
  exact wpAny_truthy_bool ⟨H,I,q⟩
 | int i=>
  obtain⟨t,rfl⟩:=rx
  have e':k=(i != 0):=e
  subst e'
  exact PySem.P.truthy_int ⟨H,I,q⟩
 | str y=>
  obtain⟨t,rfl⟩:=rx
  obtain⟨hy,e'⟩:y.length<=sizeLine/\k=((y.length:Int) != 0):=e
  subst e'
  exact PySem.P.truthy_str (by omega) ⟨H,I.tok _,q⟩
 | byt y=>
  obtain⟨t,rfl⟩:=rx
  obtain⟨hy,e'⟩:y.size<=sizeLine/\k=((y.size:Int) != 0):=e
  subst e'
  exact PySem.W.truthy_bytes (by omega) ⟨H,I.tok _,q⟩
 | ref p=>
  cases rx
  have e':(∃xs,SqL X.K H p xs/\k = !xs.isEmpty)\/(∃xs,SqT X.K H p xs/\k = !xs.isEmpty) \/ ∃kvs,H p=some (.dK kvs)/\k = !kvs.isEmpty:=e
  rcases e' with ⟨xs,hx,e'⟩ | ⟨xs,hx,e'⟩ | ⟨kvs,hx,e'⟩
  ·subst e'
   obtain⟨its,r,pl,hz⟩:=I.list hx
   have hlen:=r.length
   exact wpAny_truthy_list pl.isList (by simp only[Xzm];omega) ⟨H,I.tok _,by rw[Xhk r];exact q⟩
  ·subst e'
   obtain⟨its,r,pl,hz⟩:=I.tuple hx
   have hlen:=r.length
   exact truthy_tuple pl (by simp only[Xzm];omega) ⟨H,I.tok _,by rw[Xhk r];exact q⟩
  ·subst e'
   obtain⟨hz,hS,vs,r,m⟩:kvs.length<=sizeLine/\(p==sysModules)=false/\∃vs,KV kvs vs/\s.heap.DictOf (Xas X.prog X.w) p vs:=I.hok p _ hx
   have hlen:kvs.length=vs.length:=Paired.length r
   exact wpAny_truthy_dict hS m (by omega) ⟨H,I.tok _,by rw[Xnj r];exact q⟩
 | _=>exact(show False from e).elim
theorem Xrs(ha:PE X a ta)(he:∀whole,isTrue a X.env whole=(do let v <-whole;standAt a.pos;holding [v] (truthy v))):
  PT X a (fun σ H Q=>ta σ H λx H'=>∃k,TruV X.K x H' k/\Q k H'):=by
 intro pins s σ H Q I h
 exact isTrue_plain (thn (ha pins s σ H _ I h) λv s1 ⟨x,H1,I1,r1,q1⟩=>Xws pins s1 σ H1 x v Q I1 r1 q1) (he _)
theorem Xd1:OpR X (binaryOp .Add) (λx y H Q=>∃i j,x = .str i/\y = .str j/\i.length+j.length<=sizeLine/\Q (.str (i++j)) H):=by
 intro pins s σ H x y v u Q I rx ry h
 obtain⟨i,j,rfl,rfl,hz,q⟩:=h
 obtain⟨t,rfl⟩:=rx
 obtain⟨t',rfl⟩:=ry
 exact add_str (λt' tk=>⟨.str (i++j),H,I.tok _,⟨_,rfl⟩,q⟩) hz
theorem vals1{x:V}{us:List Value}(r:Vals [x] us):∃u,us=[u]/\RelV x u:=by
 cases r with
 | cons r1 r2=>cases r2;exact⟨_,rfl,r1⟩
theorem vals2{x y:V}{us:List Value}(r:Vals [x,y] us):∃u w',us=[u,w']/\RelV x u/\RelV y w':=by
 cases r with
 | cons r1 r2=>
  cases r2 with
  | cons r3 r4=>cases r4;exact⟨_,_,rfl,r1,r3⟩
theorem Xov(hc:X.calm=true):Xcx X (.builtin "min") (λxs H Q=>∃i j,xs=[.int i,.int j]/\Q (.int (if j<i then j else i)) H):=by
 intro pins s σ H xs us Q I r h
 obtain⟨i,j,rfl,q⟩:=h
 obtain⟨u,w',rfl,⟨t,rfl⟩,⟨t',rfl⟩⟩:=vals2 r
 refine min_two_ints (I.ok.hd hc) λh' tk k=>⟨_,H,I.kept k,?_,q⟩
 by_cases hj:j<i
 ·rw[X3i hj,X3i hj];exact⟨_,rfl⟩
 ·rw[X3h hj,X3h hj];exact⟨_,rfl⟩
theorem Xdp:Xcx X (.type "int") (λxs H Q=>(∃i,xs=[.int i]/\Q (.int i) H) \/ ∃k,xs=[.bl k]/\Q (.int (if k then 1 else 0)) H):=by
 intro pins s σ H xs us Q I r h
 rcases h with ⟨i,rfl,q⟩ | ⟨k,rfl,q⟩
 ·obtain⟨u,rfl,t,rfl⟩:=vals1 r
  exact call_int_int ⟨.int i,H,I,⟨_,rfl⟩,q⟩
 ·obtain⟨u,rfl,r1⟩:=vals1 r
  cases r1
  exact call_int_bool ⟨.int (if k then 1 else 0),H,I.tok _,⟨_,rfl⟩,q⟩
def LenV (K:PySem.W.Frag) (x:V) (H:Hp) (n:Nat):Prop:=
 match x with
 | .str y=>y.length<=sizeLine/\n=y.length
 | .byt y=>y.size<=sizeLine/\n=y.size
 | .ref p=>(∃xs,SqL K H p xs/\n=xs.length) \/ ∃xs,SqT K H p xs/\n=xs.length
 | _=>False
end
structure ObjM (h:Heap) (x dx C:Addr) (mA:Str->Option Value):Prop where
 obj:h.get? x=some (PySem.W.instObj C dx)
 ns:h.Ns1 dx mA
 ne:dx≠x
theorem Xow{h:Heap}{dx:Addr}{mA:Str->Option Value}(n:h.Ns1 dx mA):∃od,h.get? dx=some od/\∀name,PySem.W.lookIn name od=some (mA name):=by
 obtain⟨o,es,ep,ho,hd,hk,_,hm⟩:=n
 refine⟨o,ho,λname=>?_⟩
 have e:=hm name
 unfold nsFind findBy at e
 rw[<-Array.find?_toList] at e
 unfold PySem.W.lookIn
 rw[hd]
 dsimp only
 split
 ·rename_i y q
  rw[q] at e
  exact congrArg some e
 ·rename_i q
  rw[q] at e
  have a:es.toList.any (·.refKey)=false:=by
   rw[List.any_eq_false]
   intro y hy
   obtain⟨z,t,hkey⟩:=hk y (Array.mem_toList_iff.mp hy)
   simp[DictEntry.refKey,hkey]
  have a':¬es.toList.any (·.refKey)=true:=by rw[a];exact Xz0
  rw[X3h a']
  exact congrArg some e
theorem ObjM.look{h:Heap}{x dx C:Addr}{mA:Str->Option Value}(I:ObjM h x dx C mA):∃od,PySem.W.InstAt h x (PySem.W.instObj C dx) C (some od)/\∀name,PySem.W.lookIn name od=some (mA name):=
 let ⟨od,ho,hl⟩:=Xow I.ns
 ⟨od,⟨I.obj,rfl,rfl,ho⟩,hl⟩
section
variable {prog:Program}{w:World}{A:Around}{E:Value->Shared->Prop}{s:Shared}{K:PySem.W.Frag}{x dx C f:Addr}{mA:Str->Option Value}{name:Str}{v:Value}
end
def putF (f:Str) (v:V):List (Str×V)->List (Str×V)
 | []=>[(f,v)]
 | (g,x)::r=>if g=f then (g,v)::r else (g,x)::putF f v r
theorem RelO.some_of{v:V}{o:Option Value}(r:RelO (some v) o):∃u,o=some u/\RelV v u:=by
 cases o with
 | none=>exact(show False from r).elim
 | some u=>exact⟨u,rfl,r⟩
section
variable {P:Program}{w:World}{H H':Hp}{h h':Heap}{a C dx:Addr}{fs fs':List (Str×V)}
theorem Xue(hok:HOk P w H h)(e:H a=some (.ins C dx fs)):∃mA,ObjM h a dx C mA/\(∀f,RelO (fs.lookup f) (mA f))/\PySem.Within mA (fs.map (·.1))/\fs.length<=1000/\H dx=some (.own a):=by
 obtain⟨d,z,ne,ob,mA,n,r,q⟩:=(show Xbm P w H h a (.ins C dx fs) from hok a _ e)
 exact⟨mA,⟨ob,n,ne⟩,r,q,z,d⟩
end
structure Cls (K:PySem.W.Frag) (C:Addr):Prop where
 pg:PySem.W.plainGet K C Str.empty=true
 hd:PySem.W.hasDictIn K C=true
 po:PySem.W.plainOver K C=true
 sa:PySem.W.findIn K (.ref C) "__setattr__" = some (some (.builtin "object.__setattr__"))
theorem Cls.get{K:PySem.W.Frag}{C:Addr}(c:Cls K C)(f:Str):PySem.W.plainGet K C f=true:=c.pg
def Xox (K:PySem.W.Frag) (C:Addr) (f:Str):Prop:=PySem.W.findIn K (.ref C) f=some none
structure Con (K:PySem.W.Frag) (C:Addr) (f:Str) (v:V) (u:Value):Prop where
 at_:PySem.W.findIn K (.ref C) f=some (some u)
 rel:RelV v u
 get:PySem.W.specialIn K u "__get__" = some none
 cp:PySem.W.copiedNames.contains f=false
structure Meth (K:PySem.W.Frag) (C:Addr) (m:Str) (f:Addr):Prop where
 at_:PySem.W.findIn K (.ref C) m=some (some (.ref f))
 fn:PySem.W.isFn K (.ref f)=true
 kp:PySem.W.keepIn K (.ref f)=true
section
variable {X:Cx}{pins:List (Addr×Obj)}{σ:St}{H:Hp}{s:Shared}{a C dx:Addr}{fs:List (Str×V)}{f:Str}{v:V}{A:Around}{E:Value->Shared->Prop}
end
def tFld (K:PySem.W.Frag) (ta:TE) (f:Str):TE:=fun σ H Q=>ta σ H λx H1=>∃a C dx fs v,x = .ref a/\H1 a=some (.ins C dx fs)/\Cls K C/\Xox K C f/\fs.lookup f=some v/\Q v H1
def tCon (K:PySem.W.Frag) (ta:TE) (f:Str):TE:=fun σ H Q=>ta σ H λx H1=>∃a C dx fs v u,x = .ref a/\H1 a=some (.ins C dx fs)/\Cls K C/\Con K C f v u/\fs.lookup f=none/\Q v H1
def sFld (K:PySem.W.Frag) (ta tv:TE) (f:Str):TS:=λD σ H=>tv σ H λy H1=>ta σ H1 λx H2=>∃a C dx fs,x = .ref a/\H2 a=some (.ins C dx fs)/\Cls K C/\Xox K C f/\fs.length<1000 /\
 D.nx σ (upd H2 a (.ins C dx (putF f y fs)))
def InOp (X:Cx) (op:Operator) (rd:V->V->Hp->VK->Prop):Prop:=
 ∀(pins:List (Addr×Obj)) (s:Shared) (σ:St) (H:Hp) (x y:V) (u v:Value) (Q:VK),Inv X pins σ H s->RelV x u->RelV y v->rd x y H Q->wpAny (model X.prog X.w) X.A (inplaceOp op u v) (EP X pins σ Q) X.xe s
def Xyx (K:PySem.W.Frag) (ta tv:TE) (rd:V->V->Hp->VK->Prop) (f:Str):TS:=λD σ H=>ta σ H λx H1=>∃a C dx fs v,x = .ref a/\H1 a=some (.ins C dx fs)/\Cls K C/\Xox K C f/\fs.lookup f=some v /\
 tv σ H1 λy H2=>rd v y H2 λz H3=>∃dx' fs',H3 a=some (.ins C dx' fs')/\fs'.length<1000/\D.nx σ (upd H3 a (.ins C dx' (putF f z fs')))
section
variable {X:Cx}{o e value:Expr}{f:Str}{pos pos' tpos:Pos}{ta tv:TE}
end
section
variable {X:Cx}{pins:List (Addr×Obj)}{σ:St}{H:Hp}{s:Shared}{A:Around}{E:Value->Shared->Prop}{Q:Value->Shared->Prop}{c:Value}{b:Bool}
inductive TyOf (K:PySem.W.Frag) (H:Hp):V->Value->Prop where
 | non:TyOf K H .non (.type "NoneType")
 | bl (x:Bool):TyOf K H (.bl x) (.type "bool")
 | int (i:Int):TyOf K H (.int i) (.type "int")
 | str (x:Str):TyOf K H (.str x) (.type "str")
 | flt (x:UInt64):TyOf K H (.flt x) (.type "float")
 | lst {a:Addr} {xs:List V} (e:H a=some (.lst xs)):TyOf K H (.ref a) (.type "list")
 | frz {a:Addr} {o:Obj} {xs:List V} (e:H a=some (.frz o (.lst xs))):TyOf K H (.ref a) (.type "list")
 | tup {a:Addr} {xs:List V} (e:H a=some (.tup xs)):TyOf K H (.ref a) (.type "tuple")
 | dK {a:Addr} {kvs:List (Key×V)} (e:H a=some (.dK kvs)):TyOf K H (.ref a) (.type "dict")
 | dT {a:Addr} {kvs:List (List Key×V)} (e:H a=some (.dT kvs)):TyOf K H (.ref a) (.type "dict")
 | ins {a C dx:Addr} {fs:List (Str×V)} (e:H a=some (.ins C dx fs)) (cl:Cls K C) (ha:PySem.W.findIn K (.ref C) "__class__" = some (some (.builtin "object.__class__")))
   (hn:PySem.W.specialIn K (.builtin "object.__class__") "__get__" = some (some (.builtin "getset_descriptor.__get__"))) (htk:PySem.W.takesIn K (.builtin "object.__class__")=some true)
   (hm:PySem.W.mroIn K C (.type "object")=some true):TyOf K H (.ref a) (.ref C)
theorem Xoy{x:V}{u t:Value}(I:Inv X pins σ H s)(rx:RelV x u)(ty:TyOf X.K H x t)(e:PySem.W.kitOne X.K t c=some b)(h:∀tk,Q (.bool b) {s with toks:=tk}):
  wpAny (model X.prog X.w) A (call (.builtin "isinstance") [u,c]) Q E s:=by
 cases ty with
 | non=>cases (show u=Value.none from rx);exact PySem.W.kia_one PySem.W.kitx_none I.kIn True.intro e (λz=>nomatch z) h
 | bl y=>cases (show u=Value.bool y from rx);exact PySem.W.kia_one PySem.W.kitx_bool I.kIn True.intro e (λz=>nomatch z) h
 | int i=>obtain⟨t,q⟩:=(show ∃t,u=Value.int i t from rx);cases q;exact PySem.W.kia_one PySem.W.kitx_int I.kIn True.intro e (λz=>nomatch z) h
 | str y=>obtain⟨t,q⟩:=(show ∃t,u=Value.str y t from rx);cases q;exact PySem.W.kia_one PySem.W.kitx_str I.kIn True.intro e (λz=>nomatch z) h
 | flt y=>obtain⟨t,q⟩:=(show ∃t,u=Value.float y t from rx);cases q;exact PySem.W.kia_one PySem.W.kitx_float I.kIn True.intro e (λz=>nomatch z) h
 | @lst a xs ea=>
  cases (show u=Value.ref a from rx)
  obtain⟨_,_,n,_,h1⟩:=(show Xbm X.prog X.w H s.heap a (.lst xs) from I.hok a _ ea)
  exact PySem.W.kia_one PySem.W.kitx_list I.kIn ⟨_,h1,rfl⟩ e (λz=>nomatch z) h
 | @frz a ob xs ea=>
  cases (show u=Value.ref a from rx)
  obtain⟨_,_,_,n,_,h1⟩:=(show Xbm X.prog X.w H s.heap a (.frz ob (.lst xs)) from I.hok a _ ea)
  exact PySem.W.kia_one PySem.W.kitx_list I.kIn ⟨_,h1,rfl⟩ e (λz=>nomatch z) h
 | @tup a xs ea=>
  cases (show u=Value.ref a from rx)
  obtain⟨_,_,_,p⟩:=(show Xbm X.prog X.w H s.heap a (.tup xs) from I.hok a _ ea)
  obtain⟨o,h1,h2,_⟩:=p
  exact PySem.W.kia_one PySem.W.kitx_tuple I.kIn ⟨o,h1,h2⟩ e (λz=>nomatch z) h
 | @dK a kvs ea=>
  cases (show u=Value.ref a from rx)
  obtain⟨_,_,vs,_,p⟩:=(show Xbm X.prog X.w H s.heap a (.dK kvs) from I.hok a _ ea)
  obtain⟨o,es,ep,h1,h2,_⟩:=p
  exact PySem.W.kia_one PySem.W.kitx_dict I.kIn ⟨o,h1,h2.1⟩ e (λz=>nomatch z) h
 | @dT a kvs ea=>
  cases (show u=Value.ref a from rx)
  obtain⟨_,_,xs,_,o,es,ep,h1,h2,_⟩:=(show Xbm X.prog X.w H s.heap a (.dT kvs) from I.hok a _ ea)
  exact PySem.W.kia_one PySem.W.kitx_dict I.kIn ⟨o,h1,h2.1⟩ e (λz=>nomatch z) h
 | @ins a C dx fs ea cl ha hn htk hm=>
  cases (show u=Value.ref a from rx)
  obtain⟨mA,O,_⟩:=Xue I.hok ea
  obtain⟨od,J,_⟩:=O.look
  exact PySem.W.kia_one (PySem.W.kitx_own (cl.get _) cl.hd ha hn htk hm) I.kIn J e (λz=>nomatch z) h
end
structure Room (k:Nat) (A:Around):Prop where
 hd:A.handled=none
 dp:A.depth+3 * k+5<recursionLimit
 un:A.units+16 * k+200<cLine
 gd:A.guards=some []
theorem Room.mono{j k:Nat}{A:Around}(r:Room k A)(h:j<=k):Room j A:=⟨r.hd,by have:=r.dp;omega,by have:=r.un;omega,r.gd⟩
theorem Room.deeper{k:Nat}{A:Around}(r:Room (k+1) A)(env:Env):Room k (A.deeper env):=
 ⟨r.hd,by have:=r.dp;show A.depth+1+3 * k+5<_;omega,by have:=r.un;show A.units+3+16 * k+200<_;omega,r.gd⟩
theorem Room.in1{k:Nat}{A:Around}(r:Room (k+1) A):Room k A.in1:=
 ⟨r.hd,by have:=r.dp;show A.depth+3 * k+5<_;omega,by have:=r.un;show A.units+1+16 * k+200<_;omega,r.gd⟩
theorem Room.depth{k:Nat}{A:Around}(r:Room k A):A.depth<recursionLimit:=by have:=r.dp;omega
theorem Room.units{k:Nat}{A:Around}(r:Room k A):A.units+64<cLine:=by have:=r.un;omega
theorem Room.units0{k:Nat}{A:Around}(r:Room k A):A.units<cLine:=by have:=r.un;omega
def tNil:TA:=λ_ H Q=>Q [] H
def Xi2 (ta:TE) (tr:TA):TA:=fun σ H Q=>ta σ H λx H1=>tr σ H1 λxs H2=>Q (x::xs) H2
section
variable {X:Cx}{e:Expr}{es:List Expr}{te:TE}{t:TA}{pos:Pos}
theorem Xac:PA X [] tNil:=λ_ _ _ _ H Q I h=>Calls.spliced_nil ⟨[],H,I,.nil,h⟩
theorem Xaa(ha:PE X e te)(hr:PA X es t)(hs:starEach (e::es) X.env=(false,eval e X.env)::starEach es X.env:=by rfl):PA X (e::es) (Xi2 te t):=by
 intro pos pins s σ H Q I h
 rw[hs]
 show wpAny _ _ (spliced ((false,eval e X.env)::backTo pos (starEach es X.env))) _ _ s
 refine Calls.spliced_cons (thn (ha pins s σ H _ I h) λu s1 ⟨x,H1,I1,r1,q1⟩=>?_)
 exact thn (hr pos pins s1 σ H1 _ I1 q1) λus s2 ⟨xs,H2,I2,r2,q2⟩=>⟨x::xs,H2,I2,.cons r1 r2,q2⟩
def tTup (t:TA):TE:=fun σ H Q=>t σ H λxs H1=>xs.length<=sizeLine/\∀p,H1 p=none->Q (.ref p) (upd H1 p (.tup xs))
def tLst (t:TA):TE:=fun σ H Q=>t σ H λxs H1=>xs.length<=sizeLine/\∀p,H1 p=none->Q (.ref p) (upd H1 p (.lst xs))
theorem Xbq{x1}(h:PA X es t):PE X (.Tuple es x1 pos) (tTup t):=by
 intro pins s σ H Q I hq
 refine wpAny_Tuple_spliced (thn (h pos pins s σ H _ I hq) λus s1 ⟨xs,H1,I1,r,z,q⟩=>⟨by rw[<-r.length];exact z,?_⟩)
 have hf:H1 s1.heap.objs.size=none:=I1.hok.fresh (Xzn _)
 refine⟨.ref s1.heap.objs.size,upd H1 s1.heap.objs.size (.tup xs),I1.laid (t':=s1.toks) (λb u e=>X3o _ e) (Xzn _) ?_,rfl,q _ hf⟩
 exact⟨z,us,r,⟨_,Heap.get?_push_size _ rfl,rfl,_,rfl⟩⟩
theorem Xbd(h:PA X es t):PE X (.List es pos) (tLst t):=by
 intro pins s σ H Q I hq
 refine wpAny_List_spliced (thn (h pos pins s σ H _ I hq) λus s1 ⟨xs,H1,I1,r,z,q⟩=>⟨by rw[<-r.length];exact z,?_⟩)
 have hf:H1 s1.heap.objs.size=none:=I1.hok.fresh (Xzn _)
 refine⟨.ref s1.heap.objs.size,upd H1 s1.heap.objs.size (.lst xs),I1.laid (t':=s1.toks) (λb u e=>X3o _ e) (Xzn _) ?_,rfl,q _ hf⟩
 exact⟨z,us,0,r,Heap.get?_push_size _ rfl⟩
end
abbrev Sp:=List V->Hp->VK->XK->Prop
abbrev CXT:=List Env->Hp->Shared->XK->Value->Shared->Prop
structure Env0 (P:Program) (w:World) (K:PySem.W.Frag) (mg:Str->Option Value) (base:Heap) (A:Around) (outer:List Env) (s:Shared) (H:Hp):Prop where
 frames:A.frames=some outer
 mod:Mod K mg base
 bs:∀b o,base.get? b=some o->s.heap.get? b=some o/\H b=none
 bsz:base.objs.size<=s.heap.objs.size
 funs:s.heap.FunFrames base outer
 frf:∀b∈frs outer,H b=none
 hok:HOk P w H s.heap
 bare:AllBare s.gens
def CE (outer:List Env) (P:Program) (w:World) (H:Hp) (s:Shared) (Q:VK) (u:Value) (s':Shared):Prop:=
 ∃v H',s'.os=s.os/\AllBare s'.gens/\Un (frs outer) [] H H' s.heap s'.heap/\HOk P w H' s'.heap/\RelV v u/\Q v H'
def CR (CX:CXT) (outer:List Env) (P:Program) (w:World) (H:Hp) (s:Shared) (Q:VK) (E:XK) (r:Result) (s':Shared):Prop:=
 match r with
 | .ok (.ret u)=>CE outer P w H s Q u s'
 | .ok _=>False
 | .error e=>CX outer H s E e s'
structure FnOk (P:Program) (w:World) (K:PySem.W.Frag) (mg:Str->Option Value) (base:Heap) (CX:CXT) (k:Nat) (f:Addr) (fd:FuncData) (ps:List Str) (sp:Sp):Prop where
 len:∀vs H Q E,sp vs H Q E->vs.length=ps.length
 run:∀(A:Around) (outer:List Env) (s:Shared) (H:Hp) (args:Args) (us:List Value) (vs:List V) (Q:VK) (E:XK),Room k A->Env0 P w K mg base A outer s H->BindsTo s fd args (ps.zip us)->Vals vs us->sp vs H Q E ->
  codeAny (model P w) A (.call (.ref f) args) (CR CX outer P w H s Q E) s
theorem Env0.in1{P:Program}{w:World}{K:PySem.W.Frag}{mg:Str->Option Value}{base:Heap}{A:Around}{outer:List Env}{s:Shared}{H:Hp}(e:Env0 P w K mg base A outer s H):
  Env0 P w K mg base A.in1 outer s H:=⟨e.frames,e.mod,e.bs,e.bsz,e.funs,e.frf,e.hok,e.bare⟩
section
variable {X:Cx}{pins:List (Addr×Obj)}{σ:St}{H:Hp}{s s':Shared}
theorem Inv.env0(I:Inv X pins σ H s):Env0 X.prog X.w X.K X.mg X.base X.A X.stack s H:=
 ⟨I.ok.frames,I.ok.mod,I.bs,X0c I.ok.bsz I.sz,I.stack,I.stkFree,I.hok,I.bare⟩
theorem Inv.after{Q:VK}{u:Value}(I:Inv X pins σ H s)(h:CE X.stack X.prog X.w H s Q u s'):EP X pins σ Q u s':=by
 obtain⟨v,H',os,bare,un,hok,r,q⟩:=h
 obtain⟨hh,g,d,t,os'⟩:=s'
 obtain rfl:os'=s.os:=os
 exact⟨v,H',I.call (h':=hh) (g':=g) (d':=d) (t':=t) (ch:=[]) un hok bare (λb z=>absurd z (by simp)),r,q⟩
end
def Xuf (sp:Sp) (dvs:List V) (E:XK) (t:TA):TE:=fun σ H Q=>t σ H λvs H1=>sp (vs++dvs) H1 Q E
def tMeth (C:Addr) (m:Str) (sp:Sp) (dvs:List V) (E:XK) (ta:TE) (t:TA):TE:=fun σ H Q=>ta σ H λx H1=>∃a dx fs,x = .ref a/\H1 a=some (.ins C dx fs)/\fs.lookup m=none /\
 t σ H1 λvs H2=>sp (x::(vs++dvs)) H2 Q E
def tMake (C:Addr) (sp:Sp) (dvs:List V) (E:XK) (t:TA):TE:=fun σ H Q=>t σ H λvs H1=>∀x dx,H1 x=none->H1 dx=none->dx≠x ->
 sp (.ref x::(vs++dvs)) (upd (upd H1 dx (.own x)) x (.ins C dx [])) (λv H2=>v = .non/\Q (.ref x) H2) E
def Binds (K:PySem.W.Frag) (fd:FuncData) (ps:List Str) (ds:List Value):Prop:=
 ∀(s:Shared) (us:List Value),K.In s.heap->(us++ds).length=ps.length->BindsTo s fd ⟨us,[]⟩ (ps.zip (us++ds))
theorem Binds.all{K:PySem.W.Frag}{fd:FuncData}{ps:List Str}(h:∀us:List Value,us.length=ps.length->bindArgs fd ⟨us,[]⟩=pure (ps.zip us)):Binds K fd ps []:=λs us _ hl=>by
 rw[X0m] at hl ⊢
 exact .of_eq (h us hl)
def Passes (CX:CXT) (X:Cx) (E:XK):Prop:=∀(pins:List (Addr×Obj)) (σ:St) (H:Hp) (s:Shared) (e:Value) (s':Shared),Inv X pins σ H s->CX X.stack H s E e s'->X.xe e s'
section
variable {X:Cx}{CX:CXT}{k:Nat}{f C:Addr}{fd:FuncData}{ps:List Str}{sp:Sp}{dvs:List V}{ds:List Value}{E:XK}{x m:Str}{p pos apos:Pos}{e o:Expr}{es:List Expr}{ta:TE}{t:TA}
theorem Xwt{pins:List (Addr×Obj)}{σ:St}{H:Hp}{s:Shared}{Q:VK}{us:List Value}{vs:List V}(F:FnOk X.prog X.w X.K X.mg X.base CX k f fd ps sp)(hr:Room k X.A)(hb:Binds X.K fd ps ds)(hd:Vals dvs ds)(hx:Passes CX X E)
  (I:Inv X pins σ H s) (r:Vals vs us) (h:sp (vs++dvs) H Q E):wpAny (model X.prog X.w) X.A (call (.ref f) us) (EP X pins σ Q) X.xe s:=by
 have r2:Vals (vs++dvs) (us++ds):=r.append hd
 have hl:(us++ds).length=ps.length:=by rw[<-r2.length];exact F.len _ _ _ _ h
 refine wpAny_call (codeAny_mono (F.run X.A X.stack s H ⟨us,[]⟩ (us++ds) (vs++dvs) Q E hr I.env0 (hb s us I.kIn hl) r2 h) λr s' hq=>?_)
 cases r with
 | error e=>exact hx pins σ H s e s' I hq
 | ok fl=>
  cases fl with
  | ret u=>exact I.after hq
  | next=>exact False.elim hq
  | brk=>exact False.elim hq
  | cont=>exact False.elim hq
theorem Xug(F:FnOk X.prog X.w X.K X.mg X.base CX k f fd ps sp)(hr:Room k X.A)(hg:Gl X x)(hm:X.mg x=some (.ref f))(hk:PySem.W.keepIn X.K (.ref f)=true)(hb:Binds X.K fd ps ds)(hd:Vals dvs ds)(hx:Passes CX X E)
  (ha:PA X (e::es) t) (hdb:(x==("__debug__" : Str))=false:=by decide) (he:starEach (e::es) X.env=(false,eval e X.env)::starEach es X.env:=by rfl) (hpl:(backTo pos (starEach es X.env)).any (·.1)=false:=by rfl):
  PE X (.Call (.Name x p) (e::es) [] pos) (Xuf sp dvs E t):=by
 intro pins s σ H Q I h
 refine wpAny_Call_Name_kw (Xgg I hg hm ?_ hdb)
 refine PySem.W.callWith_K (h₀:=X.base) I.ok.mod.kin hk (thn (ha pos pins s σ H _ I h) λus s1 ⟨vs,H1,I1,r,q⟩=>⟨I1.kIn,?_⟩) he hpl
 exact Xwt F hr hb hd hx I1 r q
structure Mk (K:PySem.W.Frag) (C f:Addr):Prop where
 makes:PySem.W.makesIn K C=true
 init:PySem.W.findIn K (.ref C) "__init__" = some (some (.ref f))
 fn:PySem.W.isFn K (.ref f)=true
 kp:PySem.W.keepIn K (.ref C)=true
end
def PK (X:Cx) (kws:List Keyword) (t:TA):Prop:=
 ∀(pos:Pos) (pins:List (Addr×Obj)) (s:Shared) (σ:St) (H:Hp) (Q:List V->Hp->Prop),Inv X pins σ H s->t σ H Q->wpAny (model X.prog X.w) X.A (evalAll ((backToKw pos (keywordEach kws X.env)).map (·.2))) (AP X pins σ Q) X.xe s
section
variable {X:Cx}{CX:CXT}{k:Nat}{f C:Addr}{fd:FuncData}{ps ks:List Str}{sp:Sp}{E:XK}{x m:Str}{p pos apos kpos:Pos}{e o:Expr}{es:List Expr}{kws:List Keyword}{te ta:TE}{t tk:TA}{nm:Option Str}
theorem Xwu:PK X [] tNil:=λ_ _ _ _ H Q I h=>wpAny_evalAll_nil ⟨[],H,I,.nil,h⟩
theorem Xuh(ha:PE X e te)(hr:PK X kws t):PK X (⟨nm,e,kpos⟩::kws) (Xi2 te t):=by
 intro pos pins s σ H Q I h
 show wpAny _ _ (evalAll ((do let v <-eval e X.env;standAt pos;pure v)::(backToKw pos (keywordEach kws X.env)).map (·.2))) _ _ s
 refine wpAny_evalAll_cons (X3e (thn (ha pins s σ H _ I h) λu s1 ⟨x,H1,I1,r1,q1⟩=>X3e (wpAny_standAt (X3f ?_))))
 exact thn (hr pos pins s1 σ H1 _ I1 q1) λus s2 ⟨xs,H2,I2,r2,q2⟩=>⟨x::xs,H2,I2,.cons r1 r2,q2⟩
structure KBinds (K:PySem.W.Frag) (fd:FuncData) (ps ks:List Str) (g:List Value->List Value->List Value) (gV:List V->List V->List V):Prop where
 to:∀(s:Shared) (us ws:List Value),K.In s.heap->(g us ws).length=ps.length->BindsTo s fd ⟨us,ks.zip ws⟩ (ps.zip (g us ws))
 rel:∀{vs:List V} {us:List Value} {zs:List V} {ws:List Value},Vals vs us->Vals zs ws->Vals (gV vs zs) (g us ws)
variable {g:List Value->List Value->List Value}{gV:List V->List V->List V}
end
structure FnScope (N P:List Str) (sc:Scope):Prop where
 kind:sc.kind = .function
 co:sc.isCoroutine=false
 gen:sc.isGenerator=false
 nd:N.Nodup
 pre:N.take P.length=P
 par:∀x∈P,sc.names.lookup x=some .local\/sc.names.lookup x=some .cell
 nofree:∀y∈sc.names,y.2 ≠ .free
theorem Xi3{kindOf:Str->Option NameKind}{x:Str}:∀{binds:List (Str×Value)} {m:Str->Option Value},(∀v,(x,v)∉binds)->bindL kindOf binds m x=m x
 | [],_,_=>rfl
 | (n,v)::r,m,h=>by
  unfold bindL
  rw[Xi3 λw hw=>h w (Xzo _ hw)]
  split
  ·have:x≠n:=by rintro rfl;exact h v Xzp
   simp[this]
  ·rfl
theorem Xi4{kindOf:Str->Option NameKind}{x:Str}:∀{binds:List (Str×Value)} {m:Str->Option Value},(∀v,(x,v)∉binds)->bindC kindOf binds m x=m x
 | [],_,_=>rfl
 | (n,v)::r,m,h=>by
  unfold bindC
  rw[Xi4 λw hw=>h w (Xzo _ hw)]
  split
  ·rfl
  ·have:x≠n:=by rintro rfl;exact h v Xzp
   simp[this]
theorem Xi5{kindOf:Str->Option NameKind}{x:Str}{v:Value}:∀{P:List Str} {vs:List Value} {i:Nat} {m:Str->Option Value},P.Nodup->P[i]? = some x->vs[i]? = some v->kindOf x=some .local ->
  bindL kindOf (P.zip vs) m x=some v
 | [],_,_,_,_,h,_,_=>by simp at h
 | _::_,[],_,_,_,_,h,_=>by simp at h
 | p::P,w::vs,0,m,nd,h1,h2,hk=>by
  simp at h1 h2;subst h1;subst h2
  show bindL kindOf ((p,w)::P.zip vs) m p=_
  unfold bindL
  rw[Xi3 λv hv=>(X02.mp nd).1 (X2s hv).1,X3i hk]
  simp
 | p::P,w::vs,i+1,m,nd,h1,h2,hk=>by
  show bindL kindOf ((p,w)::P.zip vs) m x=_
  unfold bindL
  exact Xi5 (i:=i) (X02.mp nd).2 (by simpa using h1) (by simpa using h2) hk
theorem Xi6{kindOf:Str->Option NameKind}{x:Str}{v:Value}:∀{P:List Str} {vs:List Value} {i:Nat} {m:Str->Option Value},P.Nodup->P[i]? = some x->vs[i]? = some v->kindOf x≠some .local ->
  bindC kindOf (P.zip vs) m x=some v
 | [],_,_,_,_,h,_,_=>by simp at h
 | _::_,[],_,_,_,_,h,_=>by simp at h
 | p::P,w::vs,0,m,nd,h1,h2,hk=>by
  simp at h1 h2;subst h1;subst h2
  show bindC kindOf ((p,w)::P.zip vs) m p=_
  unfold bindC
  rw[Xi4 λv hv=>(X02.mp nd).1 (X2s hv).1,X3h hk]
  simp
 | p::P,w::vs,i+1,m,nd,h1,h2,hk=>by
  show bindC kindOf ((p,w)::P.zip vs) m x=_
  unfold bindC
  exact Xi6 (i:=i) (X02.mp nd).2 (by simpa using h1) (by simpa using h2) hk
def start (N:List Str) (vs:List V):St:=vs.map some++List.replicate (N.length - vs.length) none
def cxOf (CX:CXT) (P:Program) (w:World) (K:PySem.W.Frag) (mg:Str->Option Value) (base:Heap) (N:List Str) (qual:Str) (scope:Scope) (f:Addr) (cd:Value) (A:Around) (outer:List Env) (s:Shared) (H:Hp) (E:XK):Cx where
 prog:=P
 w:=w
 K:=K
 mg:=mg
 base:=base
 A:=A.deeper (envOfC qual scope s.heap.objs.size f cd)
 N:=N
 s₀:=s
 H₀:=H
 env:=envOfC qual scope s.heap.objs.size f cd
 outer:=outer
 stack:=envOfC qual scope s.heap.objs.size f cd::outer
 ex:=[]
 calm:=true
 fn:=λ_=>true
 pn:=[]
 xe:=λe s'=>wpAny (model P w) (A.deeper (envOfC qual scope s.heap.objs.size f cd)) (leaving (envOfC qual scope s.heap.objs.size f cd) e) (λ_ s''=>CX outer H s E e s'') (λe' s''=>CX outer H s E e' s'') s'
theorem Xl7{sc:Scope}{n:Nat}{x:Str}(h:sc.names.lookup x=some .cell):∃c,(cellsFrom n sc.names []).lookup x=some c:=by
 have q:=PySem.W.cellsFrom_some sc.names n [] (.inl h)
 exact X1f.mp q
theorem Xi7{CX:CXT}{P:Program}{w:World}{K:PySem.W.Frag}{mg:Str->Option Value}{base:Heap}{N ps:List Str}{qual:Str}{scope:Scope}{f:Addr}{cd:Value}{A:Around}{outer:List Env}{s s1:Shared}{H:Hp}{E:XK}{us:List Value}{vs:List V}
  (S:FnScope N ps scope) (hd:A.handled=none) (e0:Env0 P w K mg base A outer s H) (hl:vs.length=ps.length) (r:Vals vs us)
  (x:InCallC s s.heap.objs.size (bindL (envOfC qual scope s.heap.objs.size f cd).kindOf (ps.zip us) λ_=>none) (cellsFrom (s.heap.objs.size+1) scope.names []) (bindC (envOfC qual scope s.heap.objs.size f cd).kindOf (ps.zip us) λ_=>none) s1):
  Inv (cxOf CX P w K mg base N qual scope f cd A outer s H E) [] (start N vs) H s1:=by
 have hpl:ps.length<=N.length:=by have:=congrArg List.length S.pre;rw[Xz6] at this;omega
 obtain⟨h1,tk,rfl,hk⟩:=x.done
 have noA:∀b:Addr,b∉(cxOf CX P w K mg base N qual scope f cd A outer s H E).ex:=λb z=>absurd (show b∈([]:List Addr) from z) (by simp)
 refine⟨⟨e0.mod,S.kind,rfl,rfl,Xzn _,λy z c h1 h2=>?_,λy hy=>?_,λy c _ h=>?_,λ_=>hd,Around.frames_deeper e0.frames,.inr ⟨rfl,rfl⟩,λb z=>absurd z (noA b),e0.bs,e0.bsz,λb _ _=>noA b,λb z=>absurd z (noA b),e0.funs,e0.frf⟩,
  rfl,e0.bare,Un.kept hk,⟨_,x.toInCall.ns,λi y v h1 h2 h3=>?_⟩,λy c h=>⟨_,x.cell y c h⟩,e0.hok.fresh (Xzn _),λy c h=>?_,λp hp=>absurd (show p∈([]:List (Addr×Obj)) from hp) (by simp),e0.hok.kept hk,?_⟩
 ·exact name_of_addr x.apart (PySem.mem_of_lookup h1) (PySem.mem_of_lookup h2)
 ·have hy:scope.names.lookup y=some .cell\/scope.names.lookup y=some .free:=hy
  rcases hy with hy | hy
  ·exact Xl7 hy
  ·exact absurd rfl (S.nofree _ (PySem.mem_of_lookup hy))
 ·exact X2e (x.above y c (PySem.mem_of_lookup h))
 ·have hi:i<vs.length:=by
   unfold start at h2
   by_cases hi:i<vs.length
   ·exact hi
   ·rw[List.getElem?_append_right (by simpa using hi)] at h2
    rw[List.getElem?_replicate] at h2
    split at h2<;>cases h2
  have ha:vs[i]? = some v:=by
   unfold start at h2
   rw[List.getElem?_append_left (by simpa using hi),Xz1] at h2
   cases e:vs[i]? with
   | none=>rw[e] at h2;cases h2
   | some a=>rw[e] at h2;cases h2;rfl
  obtain⟨u,hu,rv⟩:=r.get ha
  have hp:ps[i]? = some y:=by
   rw[<-S.pre,X2f (by omega)];exact h1
  have ndP:ps.Nodup:=by rw[<-S.pre];exact S.nd.sublist (X1j _ _)
  refine⟨u,rv,?_⟩
  rcases S.par y (X19 hp) with k | k
  ·exact .inl ⟨k,Xi5 ndP hp hu k⟩
  ·obtain⟨c,e⟩:=Xl7 (n:=s.heap.objs.size+1) k
   refine .inr ⟨.inl k,c,e,?_⟩
   have q:=x.cell y c e
   rw[Xi6 ndP hp hu (by show scope.names.lookup y≠_;rw[k];decide)] at q
   exact q
 ·exact e0.hok.fresh (X2e (x.above y c (PySem.mem_of_lookup h)))
 ·unfold start
  show _=N.length
  rw[Xzt,Xzk,List.length_replicate]
  omega
theorem Xui{CX:CXT}{P:Program}{w:World}{K:PySem.W.Frag}{mg:Str->Option Value}{base:Heap}{k:Nat}{f:Addr}{name qual:Str}{params:Arguments}{body:List Stmt}{scope:Scope}{dV kV doc pm cdv ct oc:Value}{an od:Option Addr}
  {osl:Array (Option Value)} {N ps:List Str} {sp:Sp} (lk:K.lookup f=some ⟨oc,od,.func (PySem.W.fnOf name qual params body scope dV kV doc pm an cdv ct),osl⟩) (hcd:PySem.W.codeIn K cdv qual=true) (S:FnScope N ps scope)
  (len:∀vs H Q E,sp vs H Q E->vs.length=ps.length)
  (hbody:∀(A:Around) (outer:List Env) (s:Shared) (H:Hp) (vs:List V) (Q:VK) (E:XK),Room k (A.deeper (envOfC qual scope s.heap.objs.size f cdv))->sp vs H Q E ->
   ∃t,PSs (cxOf CX P w K mg base N qual scope f cdv A outer s H E) body t/\t {nx:=λ_ H'=>Q .non H',rt:=Q} (start N vs) H):
  FnOk P w K mg base CX (k+1) f (PySem.W.fnOf name qual params body scope dV kV doc pm an cdv ct) ps sp:=by
 refine⟨len,λA outer s H args us vs Q E hr e0 hb r hsp=>?_⟩
 have hl:=len _ _ _ _ hsp
 have KX:K.In s.heap:=e0.mod.kin.keeps λb o e=>(e0.bs b o e).1
 have lim:s.heap.NoLimit:=e0.mod.nolimit.keeps λb o e=>(e0.bs b o e).1
 have hkind:∀y∈ps.zip us,scope.names.lookup y.1=some .local\/(scope.names.lookup y.1=some .cell/\((cellsFrom (s.heap.objs.size+1) scope.names []).lookup y.1).isSome=true):=λ⟨n,v⟩ hy=>by
  rcases S.par n (X2s hy).1 with q | q
  ·exact .inl q
  ·exact .inr ⟨q,PySem.W.cellsFrom_some _ _ _ (.inl q)⟩
 refine codeAny_call_function hr.depth (KX _ _ lk) rfl S.co S.gen rfl (PySem.W.codeRec_of KX hcd) (hb _ _ _ _ ?_)
 refine wpAny_newFunctionEnv_cells S.kind hkind λenv he s1 x=>?_
 subst he
 refine⟨lim.keeps x.toInCall.keep,codeAny_func ?_⟩
 obtain⟨t,ht,hq⟩:=hbody A outer s H vs Q E (hr.deeper _) hsp
 have I:Inv (cxOf CX P w K mg base N qual scope f cdv A outer s H E) [] (start N vs) H s1:=Xi7 S hr.hd e0 hl r x
 refine wpAny_mono (ht [] s1 (start N vs) H _ I hq) (λfl s' hs=>?_) λe s' hs=>hs
 have fin:∀{σ':St} {H':Hp} {v:V} {u:Value},Inv (cxOf CX P w K mg base N qual scope f cdv A outer s H E) [] σ' H' s'->RelV v u->Q v H'->CE outer P w H s Q u s':=
  λ{σ' H' v u} J rv q=>⟨v,H',J.os,J.bare,J.base,J.hok,rv,q⟩
 cases fl with
 | ret u=>
  obtain⟨v, σ',H',J,rv,q⟩:=hs
  exact fin J rv q
 | next=>
  obtain⟨σ',H',J,q⟩:=hs
  exact fin (v:=V.non) (u:=Value.none) J rfl q
 | brk=>
  obtain⟨_,_,_,q⟩:=hs
  exact False.elim q
 | cont=>
  obtain⟨_,_,_,q⟩:=hs
  exact False.elim q
section
variable {X:Cx}{x:Str}{p pos:Pos}{e:Expr}{es:List Expr}{t:TA}{id T:String}{r:List V->Hp->VK->Prop}
def tCB (r:List V->Hp->VK->Prop) (t:TA):TE:=fun σ H Q=>t σ H λvs H1=>r vs H1 Q
theorem Xan(hc:Xcx X (.builtin id) r)(hg:Gl X x)(hm:X.mg x=none)(hv:bootBuiltins x=some (.builtin id))(ha:PA X (e::es) t)(hn:x ≠ "__name__" := by decide)(hdb:(x==("__debug__" : Str))=false:=by decide)
  (he:starEach (e::es) X.env=(false,eval e X.env)::starEach es X.env:=by rfl) (hpl:(backTo pos (starEach es X.env)).any (·.1)=false:=by rfl):PE X (.Call (.Name x p) (e::es) [] pos) (tCB r t):=by
 intro pins s σ H Q I h
 refine wpAny_Call_Name_kw (Xhi I hg hm hv ?_ hn hdb)
 exact PyProof.Rows.callWith_builtin1 (thn (ha pos pins s σ H _ I h) λus s1 ⟨vs,H1,I1,r1,q1⟩=>hc pins s1 σ H1 vs us Q I1 r1 q1) he hpl
theorem Xau(hc:Xcx X (.type T) r)(hg:Gl X x)(hm:X.mg x=none)(hv:bootBuiltins x=some (.type T))(ha:PA X (e::es) t)(hn:x ≠ "__name__" := by decide)(hdb:(x==("__debug__" : Str))=false:=by decide)
  (he:starEach (e::es) X.env=(false,eval e X.env)::starEach es X.env:=by rfl) (hpl:(backTo pos (starEach es X.env)).any (·.1)=false:=by rfl):PE X (.Call (.Name x p) (e::es) [] pos) (tCB r t):=by
 intro pins s σ H Q I h
 refine wpAny_Call_Name_kw (Xhi I hg hm hv ?_ hn hdb)
 exact PyProof.Rows.callWith_type1 (thn (ha pos pins s σ H _ I h) λus s1 ⟨vs,H1,I1,r1,q1⟩=>hc pins s1 σ H1 vs us Q I1 r1 q1) he hpl
end
end L2
namespace HT
open PySem PyProof.Rows
def Xyy:List Int->List Int->Bool
 | [],[]=>false
 | [],_::_=>true
 | _::_,[]=>false
 | x::xs,y::ys=>if x=y then Xyy xs ys else decide (x<y)
section
open PySem.SeqAt
open PySem.AutoSeq1 (wpAny_loadPart')
open PySem.MeetsSeq PySem.MeetsSeq2 PySem.MeetsSeq3
end
section
variable {prog:Program}{w:World}{A:Around}{E:Value->Shared->Prop}{s:Shared}
theorem cat_tup{t b:Addr}{vs ws:List Value}{Q:Value->Shared->Prop}(ht:IsTup s.heap t vs.toArray)(hb:IsTup s.heap b ws.toArray)(hv:vs≠[])
  (h1:ws=[]->Q (.ref t) s) (h2:ws≠[]->Q (.ref s.heap.objs.size) {s with heap:=s.heap.push {cls:=.type "tuple",data:=.seq (vs++ws).toArray} })
  (hsz:vs.length+ws.length<=sizeLine):wpAny (model prog w) A (binaryOp .Add (.ref t) (.ref b)) Q E s:=by
 obtain⟨⟨cls,dd,data,sl⟩,ho,hc,n,hd⟩:=id ht
 obtain⟨⟨cls2,dd2,data2,sl2⟩,ho2,hc2,n2,hd2⟩:=id hb
 simp only at hc hd hc2 hd2
 subst hc hd hc2 hd2
 have e:vs.toArray++ws.toArray=(vs++ws).toArray:=by simp
 by_cases hw:ws=[]
 ·exact concat_meets ⟨_,ho,rfl⟩ ⟨_,ho2,rfl⟩ noFill_tuple_add seq_tuple_add PySem.F.slot_tuple_add PySem.F.entry_tuple_add (PySem.F.args_tuple_add_2 _ _)
   (tuple_addW1 t b vs.toArray ws.toArray n n2 dd dd2 sl sl2 (by simpa using hv) (by simp[hw])) ⟨ho,ho2,h1 hw⟩
 ·refine concat_meets ⟨_,ho,rfl⟩ ⟨_,ho2,rfl⟩ noFill_tuple_add seq_tuple_add PySem.F.slot_tuple_add PySem.F.entry_tuple_add (PySem.F.args_tuple_add_2 _ _)
   (tuple_addW2 t b vs.toArray ws.toArray n n2 dd dd2 sl sl2 (by simpa using hv) (by simpa using hw) (by rw[Xzm,Xzm];exact hsz)) ⟨ho,ho2,?_⟩
  rw[e]
  exact h2 hw
def sIx (n d:Nat):Option Int->Nat
 | none=>d
 | some v=>if v<0 then (v+(n:Int)).toNat else min v.toNat n
theorem sIx_none(n d:Nat):sIx n d none=d:=rfl
theorem sIx_nat(n d k:Nat):sIx n d (some (k:Int))=min k n:=by
 show (if (k:Int)<0 then ((k:Int)+(n:Int)).toNat else min (k:Int).toNat n)=min k n
 rw[X3h (by omega),X17]
theorem Xwv(n d:Nat)(hd:d<=n)(o:Option Int):sIx n d o<=n:=by
 cases o with
 | none=>exact hd
 | some v=>
  show (if v<0 then (v+(n:Int)).toNat else min v.toNat n)<=n
  by_cases hv:v<0
  ·rw[X3i hv];omega
  ·rw[X3h hv];exact Nat.min_le_right _ _
theorem Xoz(v:Int)(n d:Nat):(if v<0 then max (v+(n:Int)) 0 else min v (n:Int))=((sIx n d (some v):Nat):Int):=by
 show (if v<0 then max (v+(n:Int)) 0 else min v (n:Int))=(((if v<0 then (v+(n:Int)).toNat else min v.toNat n):Nat):Int)
 by_cases hv:v<0
 ·simp only[X3i hv];omega
 ·simp only[X3h hv];omega
theorem Xnk(lo hi:Option Int)(n:Nat):Builtin.Slice.sliceAdjust lo hi 1 (n:Int)=(((sIx n 0 lo:Nat):Int),((sIx n n hi:Nat):Int)):=by
 have h1:¬((1:Int)<0):=by omega
 unfold Builtin.Slice.sliceAdjust
 simp only[h1,if_false]
 refine Prod.ext ?_ ?_
 ·cases lo with
  | none=>rfl
  | some v=>exact Xoz v n 0
 ·cases hi with
  | none=>rfl
  | some v=>exact Xoz v n n
theorem Xnl(i j:Nat):Builtin.Slice.slicePlaces (i:Int) (j:Int) 1=j - i:=by
 unfold Builtin.Slice.slicePlaces
 have h1:(1:Int) > 0:=by omega
 simp only[h1,if_true,Int.ediv_one]
 split<;>omega
theorem Xhl{v:Value}{o:Option Int}{Q:Option Int->Shared->Prop}(p:IsPart v o)(h:Q o s):wpAny (model prog w) A (Builtin.Slice.slicePartIndex v) Q E s:=by
 cases p with
 | none=>exact slicePart_none h
 | int i t=>exact slicePart_int h
theorem Xdl{sl:Addr}{vl vu:Value}{lo hi:Option Int}{n:Nat}{Q:Int×Int×Nat->Shared->Prop}(hs:s.heap.IsSliceOf sl vl vu .none)(pl:IsPart vl lo)(pu:IsPart vu hi)
  (h:Q (((sIx n 0 lo:Nat):Int),1,sIx n n hi - sIx n 0 lo) s):wpAny (model prog w) A (Builtin.Slice.sliceApplied (.ref sl) (pure (n:Int))) Q E s:=by
 obtain⟨os,hos,hcs,hds⟩:=id hs
 unfold Builtin.Slice.sliceApplied Builtin.Slice.sliceFields
 refine X3e (X3e (wpAny_field hos hds (x:=vl) rfl (X3e (wpAny_field hos hds (x:=vu) rfl (X3e (wpAny_field hos hds (x:=.none) rfl (X3f ?_)))))))
 refine X3e (slicePart_none ?_)
 show wpAny _ _ (if ((1:Int)==0)=true then _ else _) _ _ s
 rw[X3h (by decide)]
 refine X3e (Xhl pl (X3e (Xhl pu (X3e (X3f ?_)))))
 show wpAny _ _ (match Builtin.Slice.sliceAdjust lo hi 1 (n:Int) with | (lo,hi)=>pure (lo,(1:Int),Builtin.Slice.slicePlaces lo hi 1)) _ _ s
 rw[Xnk lo hi n]
 show wpAny _ _ (pure (((sIx n 0 lo:Nat):Int),(1:Int),Builtin.Slice.slicePlaces ((sIx n 0 lo:Nat):Int) ((sIx n n hi:Nat):Int) 1)) _ _ s
 rw[Xnl]
 exact X3f h
theorem Xrt(xs:Array Value)(i k:Nat):((List.range k).filterMap λ(m:Nat)=>xs[((i:Int)+(m:Int) * 1).toNat]?).toArray=((xs.toList.drop i).take k).toArray:=by
 have e:(λ(m:Nat)=>xs[((i:Int)+(m:Int) * 1).toNat]?)=λm=>xs[i+m]?:=by
  funext m
  have:((i:Int)+(m:Int) * 1).toNat=i+m:=by omega
  rw[this]
 rw[e]
 have:=pick_run xs i k
 rw[List.filterMap_map] at this
 have e2:((λx=>xs[x]?) ∘ λx=>i+x)=λm=>xs[i+m]?:=rfl
 rw[e2] at this
 rw[this]
theorem getItem_tuple_cut{t sl:Addr}{items:Array Value}{vl vu:Value}{lo hi:Option Int}{Q:Value->Shared->Prop}(ht:IsTup s.heap t items)(hs:s.heap.IsSliceOf sl vl vu .none)(pl:IsPart vl lo)(pu:IsPart vu hi)
  (hw:¬(sIx items.size 0 lo=0/\sIx items.size items.size hi=items.size))
  (h:Q (.ref s.heap.objs.size) {s with heap:=s.heap.push {cls:=.type "tuple",data:=.seq ((items.toList.drop (sIx items.size 0 lo)).take (sIx items.size items.size hi - sIx items.size 0 lo)).toArray} })
  (hsz:items.size<=sizeLine):wpAny (model prog w) A (getItem (.ref t) (.ref sl)) Q E s:=by
 have htake:sizeOk (.seq ((items.toList.drop (sIx items.size 0 lo)).take (sIx items.size items.size hi - sIx items.size 0 lo)).toArray):=by
  show ((items.toList.drop (sIx items.size 0 lo)).take (sIx items.size items.size hi - sIx items.size 0 lo)).toArray.size<=sizeLine
  rw[Xzm,Xz6,X05,Xzz]
  omega
 have hj:sIx items.size items.size hi<=items.size:=Xwv _ _ (Xzn _) hi
 obtain⟨os,hos,hcs,hds⟩:=id hs
 have hTs:s.TypeIs (.ref sl) "slice" := ⟨os,hos,hcs⟩
 unfold getItem
 try with_reducible refine wpAny_holding ?_
 first | refine X3e (X3f ?_) | skip
 refine X3e (wpAny_sequenceKey ht.typeIs (by decide) ?_)
 refine X3e (wpAny_callSpecial?_slot (name:=Str.ofString "__getitem__") ht.typeIs PyProof.Rows.slot_tuple_getitem
  (wpAny_call_entry PyProof.Rows.slot_tuple_getitem ht.typeIs entry_tuple_getitem ?_ (args_tuple_getitem _ _)))
 show wpAny _ _ (Builtin.Tuple.tupleItemsOf (.ref t) >>= _) _ _ s
 refine X3e (tupleItemsOf_ ht ?_)
 refine X3e (wpAny_typeOf hTs ?_)
 rw[X3i (by decide)]
 refine X3e (Xdl hs pl pu ?_)
 have hno:¬((((sIx items.size 0 lo:Nat):Int)==0&&(1:Int)==1&&(sIx items.size items.size hi - sIx items.size 0 lo)==items.size)=true):=by
  intro q
  rw[Xz3,Xz3] at q
  have q1:((sIx items.size 0 lo:Nat):Int)=0:=eq_of_beq q.1.1
  have q2:sIx items.size items.size hi - sIx items.size 0 lo=items.size:=eq_of_beq q.2
  exact hw ⟨by omega,by omega⟩
 show wpAny _ _ (if (((sIx items.size 0 lo:Nat):Int)==0&&(1:Int)==1&&(sIx items.size items.size hi - sIx items.size 0 lo)==items.size)=true then _ else _) _ _ s
 rw[X3h hno,Xrt]
 first
  | exact X3e (m:=Builtin.Tuple.tupleExact _) (wpAny_newObj_type (X3f ⟨_,rfl,X3f h⟩) htake)
  | exact X3e (m:=Builtin.Tuple.tupleExact _) (wpAny_newObj_type (X3e (X3f (X3f ⟨_,rfl,X3f h⟩))) htake)
  | exact X3e (X3e (m:=Builtin.Tuple.tupleExact _) (wpAny_newObj_type (X3f (X3f ⟨_,rfl,X3f h⟩)) htake))
  | exact X3e (X3e (m:=Builtin.Tuple.tupleExact _) (wpAny_newObj_type (X3f ⟨_,rfl,X3f h⟩) htake))
end
end HT
namespace L2
open PySem PySem.Spec PyProof.Rows
abbrev TO:=St->Hp->(Option Int->Hp->Prop)->Prop
def PO (X:Cx) (e:Option Expr) (t:TO):Prop:=
 ∀(pins:List (Addr×Obj)) (s:Shared) (σ:St) (H:Hp) (Q:Option Int->Hp->Prop),Inv X pins σ H s->t σ H Q ->
  wpAny (model X.prog X.w) X.A (evalPart e X.env) (λu s'=>∃o H',Inv X pins σ H' s'/\IsPart u o/\Q o H') X.xe s
def Xky:TO:=λ_ H Q=>Q none H
def Xuj (t:TE):TO:=fun σ H Q=>t σ H λx H1=>∃i,x = .int i/\Q (some i) H1
section
variable {X:Cx}{e:Expr}{te:TE}{lo hi:Option Expr}{tl th:TO}{pos p2:Pos}
theorem Xa3:PO X none Xky:=by
 intro pins s σ H Q I h
 rw[evalPart_none]
 exact X3f ⟨none,H,I,.none,h⟩
theorem Xa2(h:PE X e te):PO X (some e) (Xuj te):=by
 intro pins s σ H Q I hw
 rw[evalPart_some]
 refine thn (h pins s σ H _ I hw) λu s1 ⟨x,H1,I1,r1,q1⟩=>?_
 obtain⟨i,rfl,q⟩:=q1
 obtain⟨t,rfl⟩:=r1
 exact⟨some i,H1,I1,.int i t,q⟩
def SlR (X:Cx) (r:V->Option Int->Option Int->Hp->VK->Prop):Prop:=
 ∀(pins:List (Addr×Obj)) (s:Shared) (σ:St) (H:Hp) (x:V) (v vl vu:Value) (lo hi:Option Int) (sl:Addr) (Q:VK),Inv X pins σ H s->RelV x v->s.heap.IsSliceOf sl vl vu .none->IsPart vl lo->IsPart vu hi->r x lo hi H Q ->
  ∃T id,typeLookup (.type T) "__getitem__" = pure (some (.builtin id))/\s.TypeIs v T/\wpAny (model X.prog X.w) X.A (getItem v (.ref sl)) (EP X pins σ Q) X.xe s
def tSl (r:V->Option Int->Option Int->Hp->VK->Prop) (te:TE) (tl th:TO):TE:=fun σ H Q=>te σ H λx H1=>tl σ H1 λl H2=>th σ H2 λu H3=>r x l u H3 Q
theorem Xax{r:V->Option Int->Option Int->Hp->VK->Prop}(hr:SlR X r)(he:PE X e te)(hl:PO X lo tl)(hu:PO X hi th):PE X (.Subscript e (.Slice lo hi none p2) pos) (tSl r te tl th):=by
 intro pins s σ H Q I h
 refine Subscript_ (thn (he pins s σ H _ I h) λv s1 ⟨x,H1,I1,r1,q1⟩=>?_)
 refine wpAny_Slice (thn (hl pins s1 σ H1 _ I1 q1) λvl s2 ⟨l,H2,I2,pl,q2⟩=>thn (hu pins s2 σ H2 _ I2 q2) λvu s3 ⟨u,H3,I3,pu,q3⟩=>?_)
 rw[evalPart_none]
 refine X3f ?_
 have I4:Inv X pins σ H3 {s3 with heap:=s3.heap.push {cls:=.type "slice",data:=.fields #[vl,vu,.none]} }:=I3.kept (t':=s3.toks) λb ob q=>X3o _ q
 obtain⟨T,id,hT,ht,hg⟩:=hr pins {s3 with heap:=s3.heap.push {cls:=.type "slice",data:=.fields #[vl,vu,.none]} } σ H3 x v vl vu l u s3.heap.objs.size Q I4 r1 (Heap.IsSliceOf.new ..) pl pu q3
 show wpAny (model X.prog X.w) X.A (subscriptTail e (.Slice lo hi none p2) v (.ref s3.heap.objs.size)) (EP X pins σ Q) X.xe {s3 with heap:=s3.heap.push {cls:=.type "slice",data:=.fields #[vl,vu,.none]} }
 exact tail_any (ops:=[.ref s3.heap.objs.size,v]) ht hT hg (by with_unfolding_all rfl)
def cutV (xs:List V) (lo hi:Option Int):List V:=(xs.drop (HT.sIx xs.length 0 lo)).take (HT.sIx xs.length xs.length hi - HT.sIx xs.length 0 lo)
theorem Xgj(xs:List V)(lo hi:Option Int):(cutV xs lo hi).length<=xs.length:=by
 unfold cutV
 rw[Xz6,X05]
 omega
def rSlT (K:PySem.W.Frag):V->Option Int->Option Int->Hp->VK->Prop:=λx lo hi H Q=>∃a xs,x = .ref a/\SqT K H a xs /\
 ¬(HT.sIx xs.length 0 lo=0/\HT.sIx xs.length xs.length hi=xs.length)/\∀p,H p=none->Q (.ref p) (upd H p (.tup (cutV xs lo hi)))
theorem Xww:SlR X (rSlT X.K):=by
 intro pins s σ H x v vl vu lo hi sl Q I rx hs pl pu h
 obtain⟨a,xs,rfl,hx,hw,q⟩:=h
 cases rx
 obtain⟨its,r,ht,hz⟩:=I.tuple hx
 have hlen:its.toArray.size=xs.length:=by rw[Xzm];exact r.length.symm
 refine⟨"tuple",_,PyProof.Rows.slot_tuple_getitem.lookup,ht.typeIs,?_⟩
 refine HT.getItem_tuple_cut ht hs pl pu (by rw[hlen];exact hw) ?_ (by rw[hlen];exact hz)
 rw[hlen]
 refine⟨.ref s.heap.objs.size,_,I.laid (t':=s.toks) (o:=.tup (cutV xs lo hi)) (λb ob q=>X3o _ q) (Xzn _) ?_,rfl,q _ (I.hok.fresh (Xzn _))⟩
 exact⟨X0c (Xgj xs lo hi) hz,_,(r.drop (HT.sIx xs.length 0 lo)).take (HT.sIx xs.length xs.length hi - HT.sIx xs.length 0 lo),IsTup.new _ _⟩
def Xyz (K:PySem.W.Frag):R2:=λx y H Q=>∃a b xs ys,x = .ref a/\y = .ref b/\SqT K H a xs/\SqT K H b ys/\xs≠[]/\xs.length+ys.length<=sizeLine /\
 (ys=[]->Q (.ref a) H)/\(ys≠[]->∀p,H p=none->Q (.ref p) (upd H p (.tup (xs++ys))))
theorem Vals.nil_iff{xs:List V}{us:List Value}(r:Vals xs us):us=[]↔xs=[]:=by
 cases r with
 | nil=>simp
 | cons _ _=>simp
theorem Xuk:OpR X (binaryOp .Add) (Xyz X.K):=by
 intro pins s σ H x y v u Q I rx ry h
 obtain⟨a,b,xs,ys,rfl,rfl,ha,hb,hx,hz,q1,q2⟩:=h
 cases rx
 cases ry
 obtain⟨its,r1,p1,_⟩:=I.tuple ha
 obtain⟨its2,r2,p2,_⟩:=I.tuple hb
 refine HT.cat_tup p1 p2 (λz=>hx (r1.nil_iff.mp z)) (λz=>⟨.ref a,H,I,rfl,q1 (r2.nil_iff.mp z)⟩) (λz=>?_) (by rw[<-r1.length,<-r2.length];exact hz)
 refine⟨.ref s.heap.objs.size,_,I.laid (t':=s.toks) (o:=.tup (xs++ys)) (λb ob q=>X3o _ q) (Xzn _) ?_,rfl,q2 (λw=>z (r2.nil_iff.mpr w)) _ (I.hok.fresh (Xzn _))⟩
 exact⟨by rw[Xzt];exact hz,_,r1.append r2,IsTup.new _ _⟩
end
def ixN (n:Nat) (i:Int):Option Nat:=if 0<=i then (if i<n then some i.toNat else none) else if -(n:Int)<=i then some (i+n).toNat else none
def atI {α : Type} (xs:List α) (i:Int):Option α:=(ixN xs.length i).bind λj=>xs[j]?
theorem Xo0{n:Nat}{i:Int}{j:Nat}(h:ixN n i=some j):seqIndex? i n=some j/\j<n /\ -(n:Int)<=i/\i<n:=by
 unfold ixN at h
 by_cases h0:0<=i
 ·rw[X3i h0] at h
  by_cases h1:i<n
  ·rw[X3i h1] at h
   have e:i.toNat=j:=Xzx h
   exact⟨by rw[seqIndex_of h0 h1,e],by omega,by omega,h1⟩
  ·rw[X3h h1] at h;cases h
 ·rw[X3h h0] at h
  by_cases h1 : -(n:Int)<=i
  ·rw[X3i h1] at h
   have e:(i+n).toNat=j:=Xzx h
   exact⟨by rw[seqIndex_neg (by omega) h1,e],by omega,h1,by omega⟩
  ·rw[X3h h1] at h;cases h
theorem Xkz{α : Type}{xs:List α}{i:Int}{v : α}(h:atI xs i=some v):∃j,seqIndex? i xs.length=some j/\xs[j]? = some v/\j<xs.length /\ -(xs.length:Int)<=i/\i<xs.length:=by
 unfold atI at h
 cases e:ixN xs.length i with
 | none=>rw[e] at h;cases h
 | some j=>
  rw[e] at h
  obtain⟨h1,h2,h3,h4⟩:=Xo0 e
  exact⟨j,h1,h,h2,h3,h4⟩
theorem Xdb{α : Type}{xs:List α}{j:Nat}{v : α}(h:xs[j]? = some v):atI xs (j:Int)=some v:=by
 have hj:j<xs.length:=(Xz2.mp h).1
 have e:ixN xs.length (j:Int)=some j:=by
  unfold ixN
  rw[X3i (by omega),X3i (by omega)];simp
 unfold atI;rw[e];exact h
def Xul (b:Expr):Prop:=∀o i,subscripted b false o i=operate [o,i] (getItem o i)
def IxR (X:Cx) (r:R2):Prop:=
 ∀(value slice:Expr) (pins:List (Addr×Obj)) (s:Shared) (σ:St) (H:Hp) (x y:V) (v u:Value) (Q:VK),Inv X pins σ H s->RelV x v->RelV y u->r x y H Q ->
  subscripted slice false v u=operate [v,u] (getItem v u)->wpAny (model X.prog X.w) X.A (subscriptTail value slice v u) (EP X pins σ Q) X.xe s
def MtR (X:Cx) (id:String) (r:V->List V->Hp->VK->Prop):Prop:=
 ∀(pins:List (Addr×Obj)) (s:Shared) (σ:St) (H:Hp) (x:V) (xs:List V) (v:Value) (us:List Value) (Q:VK),Inv X pins σ H s->RelV x v->Vals xs us->r x xs H Q ->
  wpAny (model X.prog X.w) X.A (call (.builtin id) (v::us)) (EP X pins σ Q) X.xe s
section
variable {X:Cx}{a b:Expr}{ta tb:TE}{pos:Pos}
theorem Xa5{r:R2}(hr:IxR X r)(ha:PE X a ta)(hb:PE X b tb)(hs:Xul b):PE X (.Subscript a b pos) (tOp r ta tb):=by
 intro pins s σ H Q I h
 exact Subscript_ (binT ha hb I h λv u s2 x y H2 I2 rx ry q=>hr a b pins s2 σ H2 x y v u Q I2 rx ry q (hs _ _))
def rIxL (K:PySem.W.Frag):R2:=λx y H Q=>∃p xs i v,x = .ref p/\y = .int i/\SqL K H p xs/\atI xs i=some v/\Q v H
def rIxT (K:PySem.W.Frag):R2:=λx y H Q=>∃p xs i v,x = .ref p/\y = .int i/\SqT K H p xs/\atI xs i=some v/\Q v H
def rIxS:R2:=λx y H Q=>∃z i c,x = .str z/\y = .int i/\z.length<=sizeLine/\atI z.cps.toList i=some c/\Q (.str ⟨#[c]⟩) H
theorem Xay:IxR X (rIxL X.K):=by
 intro value slice pins s σ H x y v u Q I rx ry h hs
 obtain⟨p,xs,i,z,rfl,rfl,hq,he,q⟩:=h
 cases rx
 obtain⟨t,rfl⟩:=ry
 obtain⟨its,r,pl,hz⟩:=I.list hq
 obtain⟨j,h1,h2,h3,h4,h5⟩:=Xkz he
 obtain⟨w,ew,rw'⟩:=r.get h2
 have hl:=r.length
 have hn:=line63
 have fin:EP X pins σ Q w s:=⟨z,H,I,rw',q⟩
 by_cases h0:0<=i
 ·have hj:i.toNat=j:=by
   rw[seqIndex_of h0 h5] at h1
   exact Xzx h1
  exact item_listR pl.isList h0 (by omega) (by rw[hj];simpa using ew) fin hs
 ·have hj:(i+(its.toArray.size:Int)).toNat=j:=by
   rw[seqIndex_neg (by omega) h4] at h1
   rw[Xzm,<-hl]
   exact Xzx h1
  exact subscriptTail_builtinR (x:=w) pl.isList.typeIs slot_list_getitem.lookup
   (wpAny_getItem_list_neg (Q:=λr s'=>r=w/\EP X pins σ Q r s') pl.isList (by omega) (by rw[Xzm]<;>omega) (by omega) (by rw[hj];simpa using ew) ⟨rfl,fin⟩) hs
theorem Xl8:IxR X (rIxT X.K):=by
 intro value slice pins s σ H x y v u Q I rx ry h hs
 obtain⟨p,xs,i,z,rfl,rfl,hq,he,q⟩:=h
 cases rx
 obtain⟨t,rfl⟩:=ry
 obtain⟨its,r,pl,hz⟩:=I.tuple hq
 obtain⟨j,h1,h2,h3,h4,h5⟩:=Xkz he
 obtain⟨w,ew,rw'⟩:=r.get h2
 have hl:=r.length
 have hn:=line63
 have fin:EP X pins σ Q w s:=⟨z,H,I,rw',q⟩
 exact subscriptTail_builtinR (x:=w) pl.typeIs slot_tuple_getitem.lookup
  (getItem_tuple (j:=j) (Q:=λr s'=>r=w/\EP X pins σ Q r s') pl (by omega) (by omega) (by rw[Xzm,<-hl];exact h1) (by simpa using ew) ⟨rfl,fin⟩) hs
theorem Xwx:IxR X rIxS:=by
 intro value slice pins s σ H x y v u Q I rx ry h hs
 obtain⟨z,i,c,rfl,rfl,hz,he,q⟩:=h
 obtain⟨t,rfl⟩:=rx
 obtain⟨t',rfl⟩:=ry
 obtain⟨j,h1,h2,h3,h4,h5⟩:=Xkz he
 have hl:z.cps.toList.length=z.length:=by simp[Str.length]
 rw[hl] at h1 h4 h5
 have hn:=line63
 exact tail_any (typeIs_str s z t) slot_str_getitem.lookup (getItem_str (c:=c) (by
  have e1:decide (i < -(2 ^ 63:Int))=false:=X3k (by omega)
  have e2:decide (i ≥ 2 ^ 63)=false:=X3k (by omega)
  rw[e1,e2,X27]) (by rw[h1];simpa using h2) ⟨.str ⟨#[c]⟩,H,I.tok _,⟨_,rfl⟩,q⟩) hs
def rIx (K:PySem.W.Frag):R2:=λx y H Q=>rIxL K x y H Q\/rIxT K x y H Q\/rIxS x y H Q
theorem Xnm(its:List Value)(n j:Nat)(u:Value):Obj.mapSeq (·.setIfInBounds j u) {cls:=.type "list",data:=.seq its.toArray n} = {cls:=.type "list",data:=.seq (its.set j u).toArray n}:=by
 simp[Obj.mapSeq]
theorem Inv.lst{pins:List (Addr×Obj)}{σ:St}{H:Hp}{s:Shared}{p:Addr}{xs:List V}(I:Inv X pins σ H s)(h:H p=some (.lst xs)):
  ∃(its:List Value) (n:Nat),Vals xs its/\s.heap.get? p=some {cls:=.type "list",data:=.seq its.toArray n}/\xs.length<=sizeLine:=by
 obtain⟨z,its,n,r,e⟩:=I.hok p _ h
 exact⟨its,n,r,e,z⟩
theorem Inv.lstUpd{pins:List (Addr×Obj)}{σ:St}{H:Hp}{s:Shared}{p:Addr}{xs ys:List V}{its its':List Value}{n n':Nat}{f:Obj->Obj}(I:Inv X pins σ H s)(h:H p=some (.lst xs))
  (ho:s.heap.get? p=some {cls:=.type "list",data:=.seq its.toArray n}) (hf:f {cls:=.type "list",data:=.seq its.toArray n} = {cls:=.type "list",data:=.seq its'.toArray n'}) (r:Vals ys its') (hz:ys.length<=sizeLine) (t:Nat):
  Inv X pins σ (upd H p (.lst ys)) {s with heap:=s.heap.update p f,toks:=t}:=by
 have e:(s.heap.update p f).get? p=some {cls:=.type "list",data:=.seq its'.toArray n'}:=by
  rw[Heap.get?_update_self f ho (by rw[hf]<;>rfl),hf]
 refine I.write (x:=p) (e:=p) (by rw[h];trivial) (.inl rfl) (λb u hb q=>(Heap.get?_update_other _ _ (Ne.symm hb)).trans q) ⟨_,e⟩ ?_
 exact⟨hz,its',n',r,e⟩
def Xy0:V->V->V->Hp->(Hp->Prop)->Prop:=λo i v H Q=>∃p xs k j,o = .ref p/\i = .int k/\H p=some (.lst xs)/\ixN xs.length k=some j/\Q (upd H p (.lst (xs.set j v)))
theorem Xdc:PSet X Xy0:=by
 intro pins s σ H o i v ov iv u Q I ro ri rv h
 obtain⟨p,xs,k,j,rfl,rfl,hp,hj,q⟩:=h
 cases ro
 obtain⟨t,rfl⟩:=ri
 obtain⟨its,n,r,ho,hz⟩:=I.lst hp
 obtain⟨h1,h2,h3,h4⟩:=Xo0 hj
 have hl:=r.length
 have hn:=line63
 have I':Inv X pins σ (upd H p (.lst (xs.set j v))) {s with heap:=s.heap.update p (Obj.mapSeq (·.setIfInBounds j u))}:=
  I.lstUpd hp ho (Xnm its n j u) (r.set rv j) (by rw[List.length_set];exact hz) s.toks
 by_cases h0:0<=k
 ·have hk:k.toNat=j:=by
   rw[seqIndex_of h0 h4] at h1
   exact Xzx h1
  exact PySem.W.ki_setAt ho h0 (by omega) (by rw[Xzm,<-hl];exact h4) (by rw[hk];exact⟨_,I',q⟩)
 ·have hk:(k+(its.toArray.size:Int)).toNat=j:=by
   rw[seqIndex_neg (by omega) h3] at h1
   rw[Xzm,<-hl]
   exact Xzx h1
  exact PySem.W.ki_setBack ho (by omega) (by rw[Xzm,<-hl];exact h3) (by omega) (by rw[hk];exact⟨_,I',q⟩)
theorem Xi8(lo hi:Option Int)(n:Nat):(sliceBounds lo hi none n).1=((HT.sIx n 0 lo:Nat):Int)/\(sliceBounds lo hi none n).2.1=((HT.sIx n n hi:Nat):Int)/\(sliceBounds lo hi none n).2.2=1:=by
 refine⟨?_,?_,rfl⟩
 ·cases lo with
  | none=>simp[sliceBounds,HT.sIx]
  | some i=>
   simp only[sliceBounds,HT.sIx,Option.getD_none,show (1:Int) > 0 by decide,if_true]
   by_cases h:i<0
   ·simp only[h,if_true]<;>omega
   ·simp only[h,if_false]<;>omega
 ·cases hi with
  | none=>simp[sliceBounds,HT.sIx]
  | some i=>
   simp only[sliceBounds,HT.sIx,Option.getD_none,show (1:Int) > 0 by decide,if_true]
   by_cases h:i<0
   ·simp only[h,if_true]<;>omega
   ·simp only[h,if_false]<;>omega
theorem Xh3(its:List Value)(lo hi:Option Int):slicePick its.toArray lo hi none=((its.drop (HT.sIx its.length 0 lo)).take (HT.sIx its.length its.length hi - HT.sIx its.length 0 lo)).toArray:=by
 obtain⟨h1,h2,h3⟩:=Xi8 lo hi its.toArray.size
 unfold slicePick
 rw[h1,h2,h3]
 simp only[sliceRange_one,pick_run,Xzm]<;>rfl
def rSlL (K:PySem.W.Frag):V->Option Int->Option Int->Hp->VK->Prop:=λx lo hi H Q=>∃a xs,x = .ref a/\SqL K H a xs/\∀p,H p=none->Q (.ref p) (upd H p (.lst (cutV xs lo hi)))
theorem Xbf:SlR X (rSlL X.K):=by
 intro pins s σ H x v vl vu lo hi sl Q I rx hs pl pu h
 obtain⟨a,xs,rfl,hx,q⟩:=h
 cases rx
 obtain⟨its,r,ht,hz⟩:=I.list hx
 have hlen:=r.length
 refine⟨"list",_,slot_list_getitem.lookup,ht.isList.typeIs,?_⟩
 refine wpAny_getItem_list_slice ht.isList hs pl pu .none (by simp) ?_ (by rw[Xzm]<;>omega)
 rw[Xh3,<-hlen]
 refine⟨.ref s.heap.objs.size,_,I.laid (t':=s.toks) (o:=.lst (cutV xs lo hi)) (λb ob q=>X3o _ q) (Xzn _) ?_,rfl,q _ (I.hok.fresh (Xzn _))⟩
 exact⟨X0c (Xgj xs lo hi) hz,_,0,(r.drop (HT.sIx xs.length 0 lo)).take (HT.sIx xs.length xs.length hi - HT.sIx xs.length 0 lo),Heap.get?_push_size _ rfl⟩
def Xdd:V->Bool
 | .non=>true
 | .bl _=>true
 | .int _=>true
 | .str _=>true
 | _=>false
def eqV:V->V->Bool
 | .non,.non=>true
 | .bl a,.bl b=>a==b
 | .bl a,.int b=>(if a then 1 else 0)==b
 | .int a,.bl b=>a==(if b then 1 else 0)
 | .int a,.int b=>a==b
 | .str a,.str b=>a==b
 | _,_=>false
theorem Xtp{A:Around}{s:Shared}{y x:V}{u v:Value}(ry:RelV y u)(rx:RelV x v)(fy:Xdd y=true)(fx:Xdd x=true):SeqAt.EqAt A s u v (eqV y x):=by
 cases y with
 | non=>
  cases ry
  cases x with
  | non=>cases rx;exact SeqAt.EqAt.same _
  | bl b=>cases rx;exact SeqAt.EqAt.none_bool b
  | int b=>obtain⟨t,rfl⟩:=rx;exact SeqAt.EqAt.none_int b t
  | str b=>obtain⟨t,rfl⟩:=rx;exact SeqAt.EqAt.none_str b t
  | _=>exact absurd (show false=true from fx) Xz0
 | bl a=>
  cases ry
  cases x with
  | non=>cases rx;exact SeqAt.EqAt.bool_none a
  | bl b=>cases rx;exact SeqAt.EqAt.bool_bool a b
  | int b=>obtain⟨t,rfl⟩:=rx;exact SeqAt.EqAt.bool_int a b t
  | str b=>obtain⟨t,rfl⟩:=rx;exact SeqAt.EqAt.bool_str a b t
  | _=>exact absurd (show false=true from fx) Xz0
 | int a=>
  obtain⟨t',rfl⟩:=ry
  cases x with
  | non=>cases rx;exact SeqAt.EqAt.int_none a t'
  | bl b=>cases rx;exact SeqAt.EqAt.int_bool a t' b
  | int b=>obtain⟨t,rfl⟩:=rx;exact SeqAt.EqAt.int_int a t' b t
  | str b=>obtain⟨t,rfl⟩:=rx;exact SeqAt.EqAt.int_str a t' b t
  | _=>exact absurd (show false=true from fx) Xz0
 | str a=>
  obtain⟨t',rfl⟩:=ry
  cases x with
  | non=>cases rx;exact SeqAt.EqAt.str_none a t'
  | bl b=>cases rx;exact SeqAt.EqAt.str_bool a t' b
  | int b=>obtain⟨t,rfl⟩:=rx;exact SeqAt.EqAt.str_int a t' b t
  | str b=>obtain⟨t,rfl⟩:=rx;exact SeqAt.EqAt.str_str a t' b t
  | _=>exact absurd (show false=true from fx) Xz0
 | _=>exact absurd (show false=true from fy) Xz0
def eqU (x:V) (u:Value):Bool:=match u with
 | .none=>eqV .non x
 | .bool b=>eqV (.bl b) x
 | .int i _=>eqV (.int i) x
 | .str z _=>eqV (.str z) x
 | _=>false
theorem Xl9{x y:V}{u:Value}(r:RelV y u)(f:Xdd y=true):eqU x u=eqV y x:=by
 cases y with
 | non=>cases r;rfl
 | bl b=>cases r;rfl
 | int i=>obtain⟨t,rfl⟩:=r;rfl
 | str z=>obtain⟨t,rfl⟩:=r;rfl
 | _=>exact absurd (show false=true from f) Xz0
theorem Xgk{x:V}:∀{xs:List V} {us:List Value},Vals xs us->xs.all Xdd=true->us.any (eqU x)=xs.any λy=>eqV y x
 | _,_,.nil,_=>rfl
 | y::xs,u::us,.cons r t,f=>by
  rw[X28,Xz3] at f
  rw[X2r,X2r,Xl9 r f.1,Xgk t f.2]
theorem Xde{A:Around}{s:Shared}{x:V}{v:Value}(rx:RelV x v)(fx:Xdd x=true):∀{xs:List V} {us:List Value},Vals xs us->xs.all Xdd=true->∀u∈us,SeqAt.EqAt A s u v (eqU x u)
 | _,_,.nil,_=>λu hu=>by cases hu
 | y::xs,u::us,.cons r t,f=>λu' hu=>by
  rw[X28,Xz3] at f
  rcases Xzw.mp hu with rfl | hu
  ·rw[Xl9 r f.1];exact Xtp r rx f.1 fx
  ·exact Xde rx fx t f.2 u' hu
def inV (x:V) (xs:List V):Bool:=xs.any λy=>eqV y x
def rIn (K:PySem.W.Frag) (neg:Bool):R2:=λx y H Q=>∃p xs,y = .ref p/\(SqL K H p xs\/SqT K H p xs)/\Xdd x=true/\xs.all Xdd=true/\Q (.bl (if neg then !inV x xs else inV x xs)) H
theorem Xel:OpR X (compareOp .In) (rIn X.K false):=by
 intro pins s σ H x y v u Q I rx ry h
 obtain⟨p,xs,rfl,hq,fx,fs,q⟩:=h
 cases ry
 rcases hq with hq | hq
 ·obtain⟨its,r,pl,hz⟩:=I.list hq
  refine SeqAt.in_listAt (eqU x) pl.isList (λw hw=>Xde rx fx r fs w (by simpa using hw)) ⟨.bl _,H,I,rfl,?_⟩
  rw[show its.toArray.any (eqU x)=its.any (eqU x) by simp,Xgk r fs]
  exact q
 ·obtain⟨its,r,pl,hz⟩:=I.tuple hq
  refine SeqAt.in_tupleAt (eqU x) pl (λw hw=>Xde rx fx r fs w (by simpa using hw)) ⟨.bl _,H,I,rfl,?_⟩
  rw[show its.toArray.any (eqU x)=its.any (eqU x) by simp,Xgk r fs]
  exact q
theorem Xdq:OpR X (compareOp .NotIn) (rIn X.K true):=by
 intro pins s σ H x y v u Q I rx ry h
 obtain⟨p,xs,rfl,hq,fx,fs,q⟩:=h
 cases ry
 rcases hq with hq | hq
 ·obtain⟨its,r,pl,hz⟩:=I.list hq
  refine SeqAt.notIn_listAt (eqU x) pl.isList (λw hw=>Xde rx fx r fs w (by simpa using hw)) ⟨.bl _,H,I,rfl,?_⟩
  rw[show its.toArray.any (eqU x)=its.any (eqU x) by simp,Xgk r fs]
  exact q
 ·obtain⟨its,r,pl,hz⟩:=I.tuple hq
  refine SeqAt.notIn_tupleAt (eqU x) pl (λw hw=>Xde rx fx r fs w (by simpa using hw)) ⟨.bl _,H,I,rfl,?_⟩
  rw[show its.toArray.any (eqU x)=its.any (eqU x) by simp,Xgk r fs]
  exact q
theorem Xap:Xcx X (.builtin "len") (λxs H Q=>∃p ys,xs=[.ref p]/\(SqL X.K H p ys\/SqT X.K H p ys)/\Q (.int ys.length) H):=by
 intro pins s σ H xs us Q I r h
 obtain⟨p,ys,rfl,hq,q⟩:=h
 obtain⟨u,rfl,rx⟩:=vals1 r
 cases rx
 have hn:=line63
 rcases hq with hq | hq
 ·obtain⟨its,r',pl,hz⟩:=I.list hq
  have hlen:=r'.length
  exact Calls.call_len_list pl.isList (by simp only[Xzm]<;>omega) ⟨.int ys.length,H,I.tok _,⟨s.toks+1,by rw[Xzm,hlen]⟩,q⟩
 ·obtain⟨its,r',pl,hz⟩:=I.tuple hq
  have hlen:=r'.length
  exact len_tuple pl (by simp only[Xzm]<;>omega) ⟨.int ys.length,H,I.tok _,⟨s.toks+1,by rw[Xzm,hlen]⟩,q⟩
theorem Xbt:Xcx X (.type "list") (λxs H Q=>∃p ys,xs=[.ref p]/\(SqL X.K H p ys\/SqT X.K H p ys)/\∀l,H l=none->Q (.ref l) (upd H l (.lst ys))):=by
 intro pins s σ H xs us Q I r h
 obtain⟨p,ys,rfl,hq,q⟩:=h
 obtain⟨u,rfl,rx⟩:=vals1 r
 cases rx
 have fin:∀(its:List Value),Vals ys its->ys.length<=sizeLine->∀(h':Heap) (c':Nat),(∀b o',s.heap.get? b=some o'->h'.get? b=some o') ->
   h'.get? s.heap.objs.size=some {cls:=.type "list",dict:=none,data:=.seq its.toArray c',slots := #[]}->EP X pins σ Q (.ref s.heap.objs.size) {s with heap:=h'}:=λits r' hz h' c' kp e=>
  ⟨.ref s.heap.objs.size,_,I.laid (t':=s.toks) kp (Xzn _) (show Xbm X.prog X.w _ h' _ (.lst ys) from ⟨hz,its,c',r',e⟩),rfl,q _ (I.hok.fresh (Xzn _))⟩
 rcases hq with hq | hq
 ·obtain⟨its,r',pl,hz⟩:=I.list hq
  have hlen:=r'.length
  obtain⟨o,ho,hc,n,hd⟩:=pl.isList
  exact call_list_seq p (.inl rfl) ho hc hd (λh' c' kp e=>fin its r' hz h' c' kp e) (by simp only[Xzm]<;>omega)
 ·obtain⟨its,r',pl,hz⟩:=I.tuple hq
  have hlen:=r'.length
  obtain⟨o,ho,hc,n,hd⟩:=pl
  exact call_list_seq p (.inr rfl) ho hc hd (λh' c' kp e=>fin its r' hz h' c' kp e) (by simp only[Xzm]<;>omega)
theorem Xb6:Xcx X (.type "tuple") (λxs H Q=>∃p ys,xs=[.ref p]/\((SqL X.K H p ys/\∀l,H l=none->Q (.ref l) (upd H l (.tup ys)))\/(SqT X.K H p ys/\Q (.ref p) H))):=by
 intro pins s σ H xs us Q I r h
 obtain⟨p,ys,rfl,h⟩:=h
 obtain⟨u,rfl,rx⟩:=vals1 r
 cases rx
 rcases h with ⟨hq,q⟩ | ⟨hq,q⟩
 ·obtain⟨its,r',pl,hz⟩:=I.list hq
  have hlen:=r'.length
  refine call_tuple_list pl.isList (λh' kp=>?_) (by simp only[Xzm]<;>omega)
  have I1:Inv X pins σ H {s with heap:=h'}:=I.kept (t':=s.toks) kp
  have I2:Inv X pins σ (upd H h'.objs.size (.tup ys)) {s with heap:=h'.push {cls:=.type "tuple",data:=.seq its.toArray} }:=
   I1.laid (t':=s.toks) (λb o e=>X3o _ e) (Xzn _) (show Xbm X.prog X.w _ _ _ (.tup ys) from ⟨hz,its,r',IsTup.new _ _⟩)
  exact⟨.ref h'.objs.size,_,I2,rfl,q _ (I1.hok.fresh (Xzn _))⟩
 ·obtain⟨its,r',pl,hz⟩:=I.tuple hq
  exact call_tuple_same pl ⟨.ref p,H,I,rfl,q⟩
def tyV (K:PySem.W.Frag) (T:String) (x:V) (H:Hp):Prop:=match x with
 | .str _=>T = "str"
 | .int _=>T = "int"
 | .ref p=>(T = "list" /\ ∃xs,SqL K H p xs)\/(T = "tuple" /\ ∃o,K.lookup p=some o/\o.cls = .type "tuple" /\ o.dict=none) \/
   (T = "dict" /\ ((∃kvs,H p=some (.dK kvs)) \/ ∃kvs,H p=some (.dT kvs)))\/(T = "set" /\ ∃S n,H p=some (.set S n))
 | _=>False
theorem Xwy{pins:List (Addr×Obj)}{σ:St}{H:Hp}{s:Shared}{T:String}{x:V}{v:Value}(I:Inv X pins σ H s)(r:RelV x v)(ty:tyV X.K T x H):
  s.TypeIs v T/\∀a,v = .ref a->∃ob,s.heap.get? a=some ob/\ob.dict=none:=by
 cases x with
 | str z=>
  obtain⟨t,rfl⟩:=r
  cases (show T = "str" from ty)
  exact⟨typeIs_str s z t,λ_ e=>nomatch e⟩
 | int i=>
  obtain⟨t,rfl⟩:=r
  cases (show T = "int" from ty)
  exact⟨typeIs_int s i t,λ_ e=>nomatch e⟩
 | ref p=>
  cases r
  rcases ty with ⟨rfl,xs,hq⟩ | ⟨rfl,o,hk,hc,hd⟩ | ⟨rfl,hk⟩ | ⟨rfl,S,n,hk⟩
  ·obtain⟨its,_,pl,_⟩:=I.list hq
   refine⟨pl.isList.typeIs,λa e=>?_⟩
   cases e
   obtain⟨o,n,e,c,hd,_⟩:=pl
   exact⟨o,e,hd⟩
  ·refine⟨⟨o,I.kIn p o hk,hc⟩,λa e=>?_⟩
   cases e
   exact⟨o,I.kIn _ o hk,hd⟩
  ·have z:∃o,s.heap.get? p=some o/\o.ExactDict:=by
    rcases hk with ⟨kvs,hk⟩ | ⟨kvs,hk⟩
    ·obtain⟨_,_,_,_,o,_,_,e,ex,_⟩:=I.hok p _ hk
     exact⟨o,e,ex⟩
    ·obtain⟨_,_,_,_,o,_,_,e,ex,_⟩:=I.hok p _ hk
     exact⟨o,e,ex⟩
   obtain⟨o,e,ex⟩:=z
   refine⟨⟨o,e,ex.1⟩,λa e2=>?_⟩
   cases e2
   exact⟨o,e,ex.2.1⟩
  ·obtain⟨o,_,_,_,e,ex,_⟩:=I.hok p _ hk
   refine⟨⟨o,e,ex.1⟩,λa e2=>?_⟩
   cases e2
   exact⟨o,e,ex.2.1⟩
 | _=>exact False.elim ty
def tBM (K:PySem.W.Frag) (T:String) (r:V->List V->Hp->VK->Prop) (to:TE) (t:TA):TE:=fun σ H Q=>to σ H λx H1=>tyV K T x H1/\t σ H1 λxs H2=>r x xs H2 Q
variable {o e:Expr}{es:List Expr}{to:TE}{t:TA}{name:Str}{apos cpos:Pos}{T id:String}{r:V->List V->Hp->VK->Prop}
theorem Xru(pa:PlainAttrs T)(slot:Slot T name id)(hty:typeOf (.builtin id)=pure (.type "method_descriptor"))(hm:MtR X id r)(ho:PE X o to)(ha:PA X (e::es) t)
  (hbase:attributeBase o name X.env (eval o X.env)=eval o X.env:=by rfl)
  (hfew:((backTo cpos (starEach (e::es) X.env)).all (λx => !x.1)&&(backToKw cpos (keywordEach [] X.env)).all (λx=>x.1.isSome)
   && decide ((e::es).length+([]:List Keyword).length+(if ([]:List Keyword).isEmpty then 0 else 1)<30))=true:=by rfl)
  (hline:(apos.endLine==cpos.line)=true:=by rfl) (hs:starEach (e::es) X.env=(false,eval e X.env)::starEach es X.env:=by rfl) (hplain:(backTo cpos (starEach es X.env)).any (·.1)=false:=by rfl):
  PE X (.Call (.Attribute o name apos) (e::es) [] cpos) (tBM X.K T r to t):=by
 intro pins s σ H Q I h
 refine wpAny_Call_method_late hbase hfew hline rfl (thn (ho pins s σ H _ I h) λv s1 ⟨x,H1,I1,r1,ty,q1⟩=>?_)
 obtain⟨h1,h2⟩:=Xwy I1 r1 ty
 refine⟨T,id,pa,slot,hty,h1,h2,?_⟩
 have hA:=ha cpos pins s1 σ H1 _ I1 q1
 rw[hs] at hA ⊢
 refine Calls.callWith_builtin (by show (false||(backTo cpos (starEach es X.env)).any (·.1))=false;rw[hplain]<;>rfl) (Calls.evalArgs_plain ?_)
 exact thn hA λus s2 ⟨vs,H2,I2,r2,q2⟩=>hm pins s2 σ H2 x vs v us Q I2 r1 r2 q2
end
def MtM (X:Cx) (id:String) (r:V->List V->Hp->VK->Prop):Prop:=
 ∀(pins:List (Addr×Obj)) (s:Shared) (σ:St) (H:Hp) (x:V) (xs:List V) (v:Value) (us:List Value) (Q:VK),Inv X pins σ H s->RelV x v->Vals xs us->r x xs H Q ->
  wpAny (model X.prog X.w) X.A (call (.builtin id) (v::us)) (EP X pins σ Q) X.xe s
theorem Vals.one:∀{x:V} {us:List Value},Vals [x] us->∃u,us=[u]/\RelV x u
 | _,_,.cons r .nil=>⟨_,rfl,r⟩
theorem Vals.two{x y:V}{us:List Value}(h:Vals [x,y] us):∃u v,us=[u,v]/\RelV x u/\RelV y v:=by
 cases h with
 | cons r t=>
  cases t with
  | cons q z=>cases z;exact⟨_,_,rfl,r,q⟩
theorem Vals.reverse{xs:List V}{us:List Value}(h:Vals xs us):Vals xs.reverse us.reverse:=by
 induction h with
 | nil=>exact .nil
 | cons r t ih=>rw[List.reverse_cons,List.reverse_cons];exact Vals.append ih (.cons r .nil)
theorem Vals.rep{xs:List V}{us:List Value}(h:Vals xs us):∀k:Nat,Vals (List.replicate k xs).flatten (List.replicate k us).flatten
 | 0=>.nil
 | k+1=>by
  rw[X1k,X1k,X2j,X2j]
  exact Vals.append h (Vals.rep h k)
theorem Xi9(its:List Value):∀(k:Nat) (acc:List Value),
  List.foldl (λx1 x2=>x1++x2) acc.toArray (List.replicate k its.toArray)=(acc++(List.replicate k its).flatten).toArray
 | 0,acc=>by simp
 | k+1,acc=>by
  have e:acc.toArray++its.toArray=(acc++its).toArray:=by simp
  have e2:(acc++its)++(List.replicate k its).flatten=acc++(List.replicate (k+1) its).flatten:=by
   rw[X1k,X2j,X18]
  rw[<-e2,<-Xi9 its k (acc++its),<-e,X1k,List.foldl_cons]
section
variable {X:Cx}{pins:List (Addr×Obj)}{σ:St}{H:Hp}{s:Shared}{l b:Addr}{xs ys zs:List V}
theorem Inv.lset{its its':List Value}{n:Nat}{f:Array Value->Array Value}{t':Nat}(I:Inv X pins σ H s)(hH:H l=some (.lst xs))
  (e:s.heap.get? l=some {cls:=.type "list",data:=.seq its.toArray n}) (hf:f its.toArray=its'.toArray) (hv:Vals ys its') (hz:ys.length<=sizeLine):
  Inv X pins σ (upd H l (.lst ys)) {s with heap:=s.heap.update l (Obj.mapSeq f),toks:=t'}:=by
 have q:=PySem.IsL.update e f
 rw[hf] at q
 refine I.write (x:=l) (e:=l) (by rw[hH];exact trivial) (.inl rfl) (λb' u hb hu=>(Heap.get?_update_other s.heap (Obj.mapSeq f) (Ne.symm hb)).trans hu) ⟨_,q⟩ ?_
 exact⟨hz,its',_,hv,q⟩
theorem Inv.lnew{its:List Value}{t':Nat}(I:Inv X pins σ H s)(hv:Vals ys its)(hz:ys.length<=sizeLine):
  Inv X pins σ (upd H s.heap.objs.size (.lst ys)) {s with heap:=s.heap.push {cls:=.type "list",data:=.seq its.toArray},toks:=t'}:=
 I.laid (λ_ _ q=>X3o _ q) (Xzn _) ⟨hz,its,0,hv,Heap.get?_push_size _ rfl⟩
theorem Inv.fresh(I:Inv X pins σ H s):H s.heap.objs.size=none:=I.hok.fresh (Xzn _)
theorem Inv.lstM(I:Inv X pins σ H s)(hH:H l=some (.lst xs)):xs.length<=sizeLine/\∃(its:List Value) (n:Nat),Vals xs its/\xs.length=its.length/\s.heap.get? l=some {cls:=.type "list",data:=.seq its.toArray n}:=by
 obtain⟨z,its,n,r,e⟩:=I.hok l _ hH
 exact⟨z,its,n,r,r.length,e⟩
theorem Xrv{n:Nat}(h:n<=sizeLine):Builtin.List.listTooLong n=false:=by
 unfold Builtin.List.listTooLong
 exact X3k (by omega)
end
section
variable {X:Cx}
def Xk0:V->List V->Hp->VK->Prop:=λx vs H Q=>∃l xs y,x = .ref l/\vs=[y]/\H l=some (.lst xs)/\xs.length<sizeLine/\Q .non (upd H l (.lst (xs++[y])))
theorem Xem:MtM X "list.append" Xk0:=by
 intro pins s σ H x vs v us Q I rx rv h
 obtain⟨l,xs,y,rfl,rfl,hH,hz,q⟩:=h
 cases rx
 obtain⟨u,rfl,ru⟩:=rv.one
 obtain⟨z,its,n,r,hl,e⟩:=I.lstM hH
 refine call_meets F.slot_list_append ⟨_,e,rfl⟩ F.entry_list_append (F.args_list_append_2 _ _) (PySem.list_append l its.toArray n u (by rw[Xzm];omega)) ⟨e,?_⟩
 refine⟨.non,_,I.lset (its':=its++[u]) hH e (by simp) (r.append (.cons ru .nil)) ?_,rfl,q⟩
 rw[Xzt,X0o]
 omega
def rCat:R2:=λx y H Q=>∃l b xs zs,x = .ref l/\y = .ref b/\H l=some (.lst xs)/\H b=some (.lst zs)/\xs.length+zs.length<=sizeLine/\∀p,H p=none->Q (.ref p) (upd H p (.lst (xs++zs)))
theorem Xbj:OpR X (binaryOp .Add) rCat:=by
 intro pins s σ H x y v u Q I rx ry h
 obtain⟨l,b,xs,zs,rfl,rfl,hH,hB,hz,q⟩:=h
 cases rx
 cases ry
 obtain⟨z,its,n,r,hl,e⟩:=I.lstM hH
 obtain⟨z2,its2,n2,r2,hl2,e2⟩:=I.lstM hB
 refine PySem.P.add_list e e2 ?_ (by rw[Xzm,Xzm];omega)
 have ea:its.toArray++its2.toArray=(its++its2).toArray:=by simp
 rw[ea]
 exact⟨.ref _,_,I.lnew (t':=s.toks) (r.append r2) (by rw[Xzt];omega),rfl,q _ I.fresh⟩
def rRep:R2:=λx y H Q=>∃l k xs,x = .ref l/\y = .int k/\H l=some (.lst xs) /\ -(2 ^ 63)<=k/\k<2 ^ 63/\xs.length * k.toNat<=sizeLine /\
 ∀p,H p=none->Q (.ref p) (upd H p (.lst (List.replicate k.toNat xs).flatten))
theorem Xum{α : Type}(xs:List α)(k:Nat):(List.replicate k xs).flatten.length=k * xs.length:=by
 induction k with
 | zero=>simp
 | succ k ih=>rw[X1k,X2j,Xzt,ih,Nat.succ_mul,Nat.add_comm]
theorem Xtq:OpR X (binaryOp .Mult) rRep:=by
 intro pins s σ H x y v u Q I rx ry h
 obtain⟨l,k,xs,rfl,rfl,hH,h1,h2,hz,q⟩:=h
 cases rx
 obtain⟨t,rfl⟩:=ry
 obtain⟨z,its,n,r,hl,e⟩:=I.lstM hH
 have hlen:its.toArray.size * k.toNat<=sizeLine:=by rw[Xzm,<-hl];exact hz
 have hcap:¬its.toArray.size * k.toNat > (2 ^ 63 - 1) / 8:=by
  have:(sizeLine:Nat)<=(2 ^ 63 - 1) / 8:=by decide
  omega
 have hfit:¬(!Builtin.List.listFitsIndex k)=true:=by
  rw[fitsIndex_both h1 h2]
  exact Xz0
 have hlong:¬Builtin.List.listTooLong (its.toArray.size * k.toNat)=true:=by
  rw[Xrv hlen]
  exact Xz0
 have hnew:List.foldl (λx1 x2=>x1++x2) #[] (List.replicate (if its.toArray.isEmpty=true then 0 else k.toNat) its.toArray)=(List.replicate k.toNat its).flatten.toArray:=by
  have f0:∀m:Nat,List.foldl (λx1 x2=>x1++x2) #[] (List.replicate m its.toArray)=(List.replicate m its).flatten.toArray:=λm=>by
   have:=Xi9 its m []
   rw[X12] at this
   exact this
  rw[f0]
  cases its with
  | nil=>simp
  | cons a r'=>rw[X3h (by simp)]
 refine wpAny_binaryOp_repeat_ref (T := "list") (U := "int") (by decide) ⟨_,e,rfl⟩ (λs'=>typeIs_int s' k t) noFill_list_mul F.fills_int_mul F.slot_int_rmul repeat_list F.slot_int_index.lookup
  (call_meets F.slot_int_rmul (typeIs_int s k t) F.entry_int_rmul (F.args_int_rmul_2 _ _) (int___rmul___int_list k t l its.toArray n)
   ⟨e,rfl,⟨_,e,rfl⟩,call_meets F.slot_list_mul ⟨_,e,rfl⟩ F.entry_list_mul (F.args_list_mul_2 _ _) (AutoListH.list___mul___list_int_3 l its.toArray n k t hfit hcap hlong) ⟨e,?_⟩⟩)
 rw[hnew]
 exact⟨.ref _,_,I.lnew (t':=s.toks) (r.rep k.toNat) (by rw[Xum,Nat.mul_comm];exact hz),rfl,q _ I.fresh⟩
end
section
variable {prog:Program}{w:World}{A:Around}{E:Value->Shared->Prop}{s:Shared}
end
section
variable {X:Cx}
end
section
variable {κ : Type} [DecidableEq κ]
def valV (kvs:List (κ × V)) (k : κ):Option V:=(kvs.find? λkv=>decide (kv.1=k)).map (·.2)
def putK (kvs:List (κ × V)) (k : κ) (v:V):List (κ × V):=
 if (kvs.any λkv=>decide (kv.1=k))=true then kvs.map (λkv=>if kv.1=k then (kv.1,v) else kv) else kvs++[(k,v)]
def Xwz (kvs:List (κ × V)) (k : κ):List (κ × V):=kvs.filter λkv=>decide (kv.1≠k)
theorem Xb7{p : κ × V}{r:List (κ × V)}{k : κ}(e:p.1=k):valV (p::r) k=some p.2:=by simp[valV,X13,e]
theorem Xb8{p : κ × V}{r:List (κ × V)}{k : κ}(e:¬p.1=k):valV (p::r) k=valV r k:=by simp[valV,X13,e]
theorem Xcz(k : κ):∀kvs:List (κ × V),(kvs.any λkv=>decide (kv.1=k))=(valV kvs k).isSome
 | []=>rfl
 | p::r=>by
  rw[X2r]
  by_cases e:p.1=k
  ·simp only[Xb7 e,X3j e,Bool.true_or,X2z]
  ·rw[Xb8 e,X3k e,Bool.false_or];exact Xcz k r
theorem Xma(k j : κ)(y:V):∀kvs:List (κ × V),valV (kvs.map λkv=>if kv.1=k then (kv.1,y) else kv) j=(valV kvs j).map λx=>if j=k then y else x
 | []=>rfl
 | p::r=>by
  have ih:=Xma k j y r
  rw[Xz9]
  by_cases h:p.1=k
  ·rw[X3i h]
   by_cases e:p.1=j
   ·rw[Xb7 (p:=(p.1,y)) e,Xb7 e,X1l,X3i (e.symm.trans h)]
   ·rw[Xb8 (p:=(p.1,y)) e,Xb8 e,ih]
  ·rw[X3h h]
   by_cases e:p.1=j
   ·rw[Xb7 (p:=p) e,Xb7 e,X1l,X3h (λz=>h (e.trans z))]
   ·rw[Xb8 (p:=p) e,Xb8 e,ih]
theorem Xja(k j : κ)(y:V):∀kvs:List (κ × V),valV kvs k=none->valV (kvs++[(k,y)]) j=if j=k then some y else valV kvs j
 | [],_=>by
  by_cases e:k=j
  ·rw[X3i e.symm];exact Xb7 (p:=(k,y)) e
  ·rw[X3h (λz=>e z.symm)];exact Xb8 (p:=(k,y)) e
 | p::r,hn=>by
  rw[List.cons_append]
  have hk:¬p.1=k:=λz=>by rw[Xb7 z] at hn;cases hn
  rw[Xb8 hk] at hn
  have ih:=Xja k j y r hn
  by_cases e:p.1=j
  ·rw[Xb7 e,Xb7 e,X3h (λz=>hk (e.trans z))]
  ·rw[Xb8 e,Xb8 e,ih]
theorem Xd2(kvs:List (κ × V))(k j : κ)(y:V):valV (putK kvs k y) j=if j=k then some y else valV kvs j:=by
 unfold putK
 by_cases a:(kvs.any λkv=>decide (kv.1=k))=true
 ·rw[X3i a,Xma]
  rw[Xcz] at a
  by_cases e:j=k
  ·obtain⟨x,hx⟩:=X1f.mp a
   rw[X3i e,e,hx,X1l,X3i rfl]
  ·rw[X3h e]
   cases valV kvs j with
   | none=>rfl
   | some x=>rw[X1l,X3h e]
 ·rw[X3h a]
  refine Xja k j y kvs ?_
  rw[Xcz] at a
  cases q:valV kvs k with
  | none=>rfl
  | some x=>rw[q] at a;exact(a rfl).elim
theorem Xcb(kvs:List (κ × V))(k : κ)(v:V):(putK kvs k v).length<=kvs.length+1:=by
 unfold putK
 split
 ·rw[Xzk];omega
 ·rw[Xzt,X0a,X1d];omega
theorem Xen{kvs:List (κ × V)}{k : κ}(v:V)(h:valV kvs k=none):putK kvs k v=kvs++[(k,v)]:=by
 unfold putK
 rw[Xcz,h]
 exact X3h (by decide)
theorem RelO.isSome_eq{o:Option V}{u:Option Value}(r:RelO o u):o.isSome=u.isSome:=by
 cases o with
 | none=>cases u with
  | none=>rfl
  | some _=>exact(show False from r).elim
 | some _=>cases u with
  | none=>exact(show False from r).elim
  | some _=>rfl
theorem RelO.getD{o:Option V}{u:Option Value}{d:V}{d':Value}(r:RelO o u)(rd:RelV d d'):RelV (o.getD d) (u.getD d'):=by
 cases o with
 | none=>cases u with
  | none=>exact rd
  | some _=>exact(show False from r).elim
 | some _=>cases u with
  | none=>exact(show False from r).elim
  | some _=>exact r
theorem KV.val{kvs:List (κ × V)}{vs:List (κ × Value)}(r:KV kvs vs)(k : κ):RelO (valV kvs k) (valueAt vs k):=by
 unfold KV at r
 induction r with
 | nil=>exact True.intro
 | @cons p q ps qs h t ih=>
  obtain⟨h1,h2⟩:=h
  by_cases e:p.1=k
  ·have e':q.1=k:=h1.symm.trans e
   have b:valueAt (q::qs) k=some q.2:=by simp[valueAt,X13,e']
   rw[Xb7 e,b];exact h2
  ·have e':¬q.1=k:=λz=>e (h1.trans z)
   have b:valueAt (q::qs) k=valueAt qs k:=by simp[valueAt,X13,e']
   rw[Xb8 e,b];exact ih
theorem KV.any{kvs:List (κ × V)}{vs:List (κ × Value)}(r:KV kvs vs)(k : κ):(kvs.any λkv=>decide (kv.1=k))=vs.any λkv=>decide (kv.1=k):=by
 unfold KV at r
 induction r with
 | nil=>rfl
 | cons h t ih=>rw[X2r,X2r,ih,h.1]
theorem KV.repl{kvs:List (κ × V)}{vs:List (κ × Value)}(r:KV kvs vs)(k : κ){y:V}{u:Value}(ry:RelV y u):
  KV (kvs.map λkv=>if kv.1=k then (kv.1,y) else kv) (vs.map λkv=>if kv.1=k then (kv.1,u) else kv):=by
 unfold KV at r ⊢
 induction r with
 | nil=>exact .nil
 | @cons p q ps qs h t ih=>
  rw[Xz9,Xz9]
  refine .cons ?_ ih
  obtain⟨h1,h2⟩:=h
  by_cases e:p.1=k
  ·rw[X3i e,X3i (h1.symm.trans e)];exact⟨h1,ry⟩
  ·rw[X3h e,X3h (λz=>e (h1.trans z))];exact⟨h1,h2⟩
theorem KV.put{kvs:List (κ × V)}{vs:List (κ × Value)}(r:KV kvs vs)(k : κ){y:V}{u:Value}(ry:RelV y u):KV (putK kvs k y) (stored vs k u):=by
 unfold putK stored
 rw[r.any k]
 by_cases e:(vs.any λkv=>decide (kv.1=k))=true
 ·rw[X3i e,X3i e];exact r.repl k ry
 ·rw[X3h e,X3h e];exact Paired.snoc r ⟨rfl,ry⟩
theorem KV.keys{kvs:List (κ × V)}{vs:List (κ × Value)}(r:KV kvs vs):kvs.map (·.1)=vs.map (·.1):=by
 unfold KV at r
 induction r with
 | nil=>rfl
 | cons h t ih=>rw[Xz9,Xz9,ih,h.1]
theorem KV.length{kvs:List (κ × V)}{vs:List (κ × Value)}(r:KV kvs vs):kvs.length=vs.length:=Paired.length r
end
theorem Xjb{P:Program}{w:World}{k:Key}{u:Value}(r:RelV (kV k) u):(Xas P w).is k u=true:=by
 cases k with
 | inl i=>obtain⟨t,e⟩:=(show ∃t,u=Value.int i t from r);subst e;exact Xkv P w i t
 | inr x=>obtain⟨t,e⟩:=(show ∃t,u=Value.str x t from r);subst e;exact Xkw P w x t
theorem Xjc{P:Program}{w:World}:∀{ks:List Key} {us:List Value},Vals (ks.map kV) us->ItemsAre (Xas P w) ks us
 | [],_,r=>by rw[X3c] at r;cases r;exact .nil
 | k::ks,_,r=>by
  rw[Xz9] at r
  cases r with
  | cons h t=>exact .cons (Xjb h) (Xjc t)
abbrev KT (H:Hp):List (List Key×V)->List (List Key×Addr×Value)->Prop:=Paired λp q=>p.1=q.1/\H q.2.1=some (.tup (p.1.map kV))/\RelV p.2 q.2.2
theorem KT.val{H:Hp}{kvs:List (List Key×V)}{xs:List (List Key×Addr×Value)}(r:KT H kvs xs)(k:List Key):RelO (valV kvs k) ((atKey xs k).map (·.2)):=by
 induction r with
 | nil=>exact True.intro
 | @cons p q ps qs h t ih=>
  obtain⟨h1,_,h2⟩:=h
  by_cases e:p.1=k
  ·have e':q.1=k:=h1.symm.trans e
   have b:atKey (q::qs) k=some q.2:=by simp[atKey,X13,e']
   rw[Xb7 e,b];exact h2
  ·have e':¬q.1=k:=λz=>e (h1.trans z)
   have b:atKey (q::qs) k=atKey qs k:=by simp[atKey,X13,e']
   rw[Xb8 e,b];exact ih
theorem KT.repl{H:Hp}{kvs:List (List Key×V)}{xs:List (List Key×Addr×Value)}(r:KT H kvs xs)(k:List Key){y:V}{u:Value}(ry:RelV y u):
  KT H (kvs.map λkv=>if kv.1=k then (kv.1,y) else kv) (xs.map (putAt k u)):=by
 induction r with
 | nil=>exact .nil
 | @cons p q ps qs h t ih=>
  rw[Xz9,Xz9]
  refine .cons ?_ ih
  obtain⟨h1,h2,h3⟩:=h
  unfold putAt
  by_cases e:p.1=k
  ·rw[X3i e,X3i (h1.symm.trans e)];exact⟨h1,h2,ry⟩
  ·rw[X3h e,X3h (λz=>e (h1.trans z))];exact⟨h1,h2,h3⟩
theorem KT.put{H:Hp}{kvs:List (List Key×V)}{xs:List (List Key×Addr×Value)}(r:KT H kvs xs)(k:List Key){b:Addr}{y:V}{u:Value}(hb:H b=some (.tup (k.map kV)))(ry:RelV y u):
  KT H (putK kvs k y) (storedH xs k b u):=by
 have e:(kvs.any λkv=>decide (kv.1=k))=(atKey xs k).isSome:=by
  rw[Xcz,(r.val k).isSome_eq,Option.isSome_map]
 unfold putK storedH
 rw[e]
 by_cases q:(atKey xs k).isSome=true
 ·rw[X3i q,X3i q];exact r.repl k ry
 ·rw[X3h q,X3h q];exact Paired.snoc r ⟨rfl,hb,ry⟩
theorem KT.keeps{H H':Hp}{kvs:List (List Key×V)}{xs:List (List Key×Addr×Value)}(r:KT H kvs xs)(ht:∀b ys,H b=some (.tup ys)->H' b=some (.tup ys)):KT H' kvs xs:=
 Paired.mapP r λ_ _ z=>⟨z.1,ht _ _ z.2.1,z.2.2⟩
section
variable {P:Program}{w:World}{H:Hp}{h:Heap}{a:Addr}
theorem Xw0{u:HO}(ok:HOk P w H h)(e:Rd H a u):Xbm P w H h a u:=e.ok ok
theorem Xk1{kvs:List (Key×V)}(ok:HOk P w H h)(e:Rd H a (.dK kvs)):kvs.length<=sizeLine/\(a==sysModules)=false/\∃vs,KV kvs vs/\h.DictOf (Xas P w) a vs:=
 show Xbm P w H h a (.dK kvs) from Xw0 ok e
theorem Xun{kvs:List (Key×V)}(ok:HOk P w H h)(e:H a=some (.dK kvs)):kvs.length<=sizeLine/\(a==sysModules)=false/\∃vs,KV kvs vs/\h.DictOf (Xas P w) a vs:=Xk1 ok (.inl e)
theorem Xjd{ks:List Key}(ok:HOk P w H h)(e:H a=some (.tup (ks.map kV))):(tupleKind (Xas P w)).is h ks a:=by
 obtain⟨_,its,r,o,h1,h2,n,h3⟩:=(show Xbm P w H h a (.tup (ks.map kV)) from ok a _ e)
 exact⟨o,its.toArray,n,h1,h2,h3,by simpa using Xjc r⟩
theorem Xnn{kvs:List (List Key×V)}(ok:HOk P w H h)(e:Rd H a (.dT kvs)):kvs.length<=sizeLine/\(a==sysModules)=false /\
  ∃xs,KT H kvs xs/\h.DictOfH (tupleKind (Xas P w)) a xs:=by
 obtain⟨z,y,xs,r,o,es,ep,h1,h2,h3,h4,h5⟩:=(show Xbm P w H h a (.dT kvs) from Xw0 ok e)
 refine⟨z,y,xs,r,o,es,ep,h1,h2,h3,h4,λx hx=>?_,h5⟩
 have all:∀{l:List (List Key×V)} {m:List (List Key×Addr×Value)},KT H l m->∀x∈m,(tupleKind (Xas P w)).is h x.1 x.2.1:=by
  intro l m q
  induction q with
  | nil=>intro x hx;exact nomatch hx
  | @cons p q ps qs hq t ih=>
   intro x hx
   rcases Xzw.mp hx with e | hx
   ·subst e
    exact Xjd ok (by rw[<-hq.1];exact hq.2.1)
   ·exact ih x hx
 exact all r x hx
theorem Xy1{kvs:List (List Key×V)}(ok:HOk P w H h)(e:H a=some (.dT kvs)):kvs.length<=sizeLine/\(a==sysModules)=false /\
  ∃xs,KT H kvs xs/\h.DictOfH (tupleKind (Xas P w)) a xs:=Xnn ok (.inl e)
end
def DGet (H:Hp) (a:Addr) (y:V) (r:Option V):Prop:=
 (∃kvs k,Rd H a (.dK kvs)/\y=kV k/\r=valV kvs k) \/ ∃kvs k b,Rd H a (.dT kvs)/\y = .ref b/\H b=some (.tup (k.map kV))/\r=valV kvs k
def DPut (H:Hp) (a:Addr) (y v:V) (H':Hp):Prop:=
 (∃kvs k,H a=some (.dK kvs)/\y=kV k/\kvs.length<sizeLine/\H'=upd H a (.dK (putK kvs k v))) \/
 ∃kvs k b,H a=some (.dT kvs)/\y = .ref b/\H b=some (.tup (k.map kV))/\kvs.length<sizeLine/\H'=upd H a (.dT (putK kvs k v))
theorem DGet.k{H:Hp}{a:Addr}{kvs:List (Key×V)}{k:Key}(e:H a=some (.dK kvs)):DGet H a (kV k) (valV kvs k):=.inl ⟨kvs,k,.inl e,rfl,rfl⟩
theorem DPut.k{H:Hp}{a:Addr}{kvs:List (Key×V)}{k:Key}{v:V}(e:H a=some (.dK kvs))(hl:kvs.length<sizeLine):DPut H a (kV k) v (upd H a (.dK (putK kvs k v))):=.inl ⟨kvs,k,e,rfl,hl,rfl⟩
section
variable {X:Cx}{pins:List (Addr×Obj)}{σ:St}{H:Hp}{s:Shared}{a:Addr}{y v:V}{u r:Value}{o:Option V}{A:Around}{E:Value->Shared->Prop}
theorem Inv.big(I:Inv X pins σ H s):sysModules<s.heap.objs.size:=by
 have h:mainGlobals<s.heap.objs.size:=(I.mod.glob.keeps I.bk).lt
 exact X1i (by decide) h
theorem d_getItem{Q:Value->Shared->Prop}(hu:A.units+1<cLine)(I:Inv X pins σ H s)(g:DGet H a y (some v))(ry:RelV y u)(h:∀w' s',Inv X pins σ H s'->RelV v w'->Q w' s'):
  wpAny (model X.prog X.w) A (getItem (.ref a) u) Q E s:=by
 rcases g with ⟨kvs,k,e,ey,l⟩ | ⟨kvs,k,b,e,ey,eb,l⟩
 ·subst ey
  obtain⟨z,hd,vs,rel,dd⟩:=Xk1 I.hok e
  obtain⟨w',hw,rw'⟩:=RelO.some_of (v:=v) (o:=valueAt vs k) (by rw[l];exact rel.val k)
  exact wpAny_getItem_of (Xjb ry) dd.mapOf hw (h w' _ (I.tok _) rw')
 ·subst ey
  cases (show u=Value.ref b from ry)
  obtain⟨z,hd,xs,rel,dd⟩:=Xnn I.hok e
  obtain⟨w',hw,rw'⟩:=RelO.some_of (v:=v) (o:=(atKey xs k).map (·.2)) (by rw[l];exact rel.val k)
  obtain⟨p,hp,hp2⟩:=Option.map_eq_some_iff.mp hw
  refine wpAny_getItem_heap (tupleKind_room_in1 hu) (Xjd I.hok eb) dd hp ?_
  rw[hp2]
  exact h w' _ (I.tok _) rw'
theorem Xuo{Q:Value->Shared->Prop}(hu:A.units+1<cLine)(I:Inv X pins σ H s)(g:DGet H a y o)(ry:RelV y u)(h:∀s',Inv X pins σ H s'->Q (.bool (!o.isSome)) s'):
  wpAny (model X.prog X.w) A (compareOp .NotIn u (.ref a)) Q E s:=by
 rcases g with ⟨kvs,k,e,ey,l⟩ | ⟨kvs,k,b,e,ey,eb,l⟩
 ·subst ey
  obtain⟨z,hd,vs,rel,dd⟩:=Xk1 I.hok e
  refine wpAny_notIn_of (Xjb ry) hd dd.mapOf ?_
  rw[<-(rel.val k).isSome_eq,<-l]
  exact h _ (I.tok _)
 ·subst ey
  cases (show u=Value.ref b from ry)
  obtain⟨z,hd,xs,rel,dd⟩:=Xnn I.hok e
  refine wpAny_notIn_heap (tupleKind_room_in1 hu) (Xjd I.hok eb) hd dd ?_
  have q:=(rel.val k).isSome_eq
  rw[Option.isSome_map] at q
  rw[<-q,<-l]
  exact h _ (I.tok _)
theorem Xgl{h':Heap}{t':Nat}{ob:HO}(I:Inv X pins σ H s)(mu:Mut (H a))(hs:Heap.SameBut a s.heap h')(he:∃q,h'.get? a=some q)(new:Xbm X.prog X.w (upd H a ob) h' a ob):
  Inv X pins σ (upd H a ob) {s with heap:=h',toks:=t'}:=
 I.write (x:=a) (e:=a) mu (.inl rfl) (λb q hb z=>(hs.2 b hb).trans z) he new
theorem Xo1{P:Program}{w:World}{H':Hp}{h':Heap}{kvs:List (Key×V)}{vs:List (Key×Value)}(z:kvs.length<=sizeLine)(hd:(a==sysModules)=false)(rel:KV kvs vs)(dd:h'.DictOf (Xas P w) a vs):
  Xbm P w H' h' a (.dK kvs):=⟨z,hd,vs,rel,dd⟩
theorem Xo2{H':Hp}{Q:Unit->Shared->Prop}(hu:A.units+1<cLine)(I:Inv X pins σ H s)(g:DPut H a y v H')(ry:RelV y u)(rv:RelV v r)(h:∀s',Inv X pins σ H' s'->Q () s'):
  wpAny (model X.prog X.w) A (setItem (.ref a) u r) Q E s:=by
 rcases g with ⟨kvs,k,e,ey,l,eH⟩ | ⟨kvs,k,b,e,ey,eb,l,eH⟩
 ·subst ey eH
  obtain⟨z,hd,vs,rel,dd⟩:=Xun I.hok e
  have hz:vs.length<=sizeLine:=by rw[<-rel.length];exact z
  have hl:(putK kvs k v).length<=sizeLine:=by have:=Xcb kvs k v;omega
  refine wpAny_setItem_pairs (hsz:=hz) (Xjb ry) dd λh' dd' hs=>h _ ?_
  have he:∃q,h'.get? a=some q:=let ⟨q,_,_,hq,_⟩:=dd'; ⟨q,hq⟩
  exact Xgl I (by rw[e];exact True.intro) hs he (Xo1 hl hd (rel.put k rv) dd')
 ·subst ey eH
  cases (show u=Value.ref b from ry)
  obtain⟨z,hd,xs,rel,dd⟩:=Xy1 I.hok e
  have hz:xs.length<=sizeLine:=by rw[<-Paired.length rel];exact z
  have hl:(putK kvs k v).length<=sizeLine:=by have:=Xcb kvs k v;omega
  refine wpAny_setItem_heap (hsz:=hz) (tupleKind_room_in1 hu) (Xjd I.hok eb) dd λh' dd' hs=>h _ ?_
  obtain⟨q,es,ep,hq,h2,h3,h4,_,h5⟩:=dd'
  refine Xgl I (by rw[e];exact True.intro) hs ⟨q,hq⟩ ⟨hl,hd,_,(rel.put k eb rv).keeps λc ys ec=>?_,q,es,ep,hq,h2,h3,h4,h5⟩
  rw[Xae (Xwj ec e (λz=>nomatch z))]
  exact ec
end
section
variable {X:Cx}{pins:List (Addr×Obj)}{σ:St}{H:Hp}{s:Shared}{a:Addr}{kvs:List (Key×V)}{k:Key}{u:Value}{A:Around}{E:Value->Shared->Prop}
end
def NoSl (i:Expr):Prop:=∀ov iv,subscripted i false ov iv=operate [ov,iv] (getItem ov iv)
theorem Xup{prog:Program}{w:World}{A:Around}{E:Value->Shared->Prop}{s:Shared}{env:Env}{value slice:Expr}{pos:Pos}{T id:String}{Q:Value->Shared->Prop}
  (hl:typeLookup (.type T) "__getitem__" = pure (some (.builtin id))) (hs:NoSl slice)
  (h:wpAny (model prog w) A (eval value env) (λo s₁=>wpAny (model prog w) A (eval slice env) (λi s₂=>s₂.TypeIs o T/\wpAny (model prog w) A (getItem o i) Q E s₂) E s₁) E s):
  wpAny (model prog w) A (eval (.Subscript value slice pos) env) Q E s:=by
 refine Subscript_ (wpAny_mono h (λo s₁ h₁=>wpAny_mono h₁ (λi s₂ h₂=>?_) λ_ _ x=>x) λ_ _ x=>x)
 obtain⟨hT,h₂⟩:=h₂
 unfold subscriptTail
 refine X3e ?_
 rw[getitemInPython_of_ne hT.not_modules]
 refine X3e (wpAny_specialOf hT hl ?_)
 have fin:wpAny (model prog w) A (subscripted slice false o i) (λr s₃=>wpAny (model prog w) A (letTemporaryGo value o r >>= λ_=>pure r) Q E s₃) E s₂:=by
  rw[hs o i]
  exact wpAny_operating (wpAny_mono h₂ (λr s₃ h₃=>X3e (wpAny_letTemporaryGo (X3f h₃))) λ_ _ x=>x)
 first
  | exact X3f (X3e fin)
  | exact X3e (X3f (X3e fin))
  | exact X3e fin
theorem Xk2{X:Cx}{pins:List (Addr×Obj)}{σ:St}{H:Hp}{s:Shared}{a:Addr}{y:V}{o:Option V}(I:Inv X pins σ H s)(g:DGet H a y o):s.TypeIs (.ref a) "dict" := by
 rcases g with ⟨kvs,k,e,_,_⟩ | ⟨kvs,k,b,e,_,_,_⟩
 ·obtain⟨_,_,vs,_,dd⟩:=Xk1 I.hok e
  exact dd.typeIs
 ·obtain⟨_,_,xs,_,dd⟩:=Xnn I.hok e
  exact dd.typeIs
def Xy2 (td ty:TE):TE:=fun σ H Q=>td σ H λx H1=>ty σ H1 λy H2=>∃a v,x = .ref a/\DGet H2 a y (some v)/\Q v H2
def tDIn (ty td:TE):TE:=fun σ H Q=>ty σ H λy H1=>td σ H1 λx H2=>∃a o,x = .ref a/\DGet H2 a y o/\Q (.bl o.isSome) H2
def Xuq (ty td:TE):TE:=fun σ H Q=>ty σ H λy H1=>td σ H1 λx H2=>∃a o,x = .ref a/\DGet H2 a y o/\Q (.bl (!o.isSome)) H2
def Xy3 (td ty tv:TE):TS:=λD σ H=>tv σ H λv H1=>td σ H1 λx H2=>ty σ H2 λy H3=>∃a H4,x = .ref a/\DPut H3 a y v H4/\D.nx σ H4
def sDAug (td ty tv:TE) (rd:V->V->Hp->VK->Prop):TS:=λD σ H=>td σ H λx H1=>ty σ H1 λy H2=>∃a v,x = .ref a/\DGet H2 a y (some v) /\
 tv σ H2 λy2 H3=>rd v y2 H3 λz H4=>∃H5,DPut H4 a y z H5/\D.nx σ H5
def sDDel (td ty:TE):TS:=λD σ H=>td σ H λx H1=>ty σ H1 λy H2=>∃a kvs k,x = .ref a/\H2 a=some (.dK kvs)/\y=kV k/\(valV kvs k).isSome=true/\D.nx σ (upd H2 a (.dK (Xwz kvs k)))
section
variable {X:Cx}{o i e value:Expr}{pos pos' tpos:Pos}{td ty tv:TE}
theorem Xbw(hu:X.A.units+1<cLine)(ho:PE X o td)(hi:PE X i ty)(hs:NoSl i):PE X (.Subscript o i pos) (Xy2 td ty):=by
 intro pins s σ H Q I h
 refine Xup PySem.F.slot_dict_getitem.lookup hs (thn (ho pins s σ H _ I h) λu s1 ⟨x,H1,I1,rx,q1⟩=>thn (hi pins s1 σ H1 _ I1 q1) λiv s2 ⟨y,H2,I2,ry,a,v,ex,g,q2⟩=>?_)
 subst ex
 obtain rfl:u=Value.ref a:=rx
 exact⟨Xk2 I2 g,d_getItem hu I2 g ry λw' s3 I3 rw'=>⟨v,H2,I3,rw',q2⟩⟩
theorem Xo3(hu:X.A.units+1<cLine)(hi:PE X i ty)(ho:PE X o td):PC X .NotIn i o (Xuq ty td):=by
 intro pins s σ H Q I h
 refine thn (hi pins s σ H _ I h) λiv s1 ⟨y,H1,I1,ry,q1⟩=>thn (ho pins s1 σ H1 _ I1 q1) λu s2 ⟨x,H2,I2,rx,a,ov,ex,g,q2⟩=>?_
 subst ex
 obtain rfl:u=Value.ref a:=rx
 exact Xuo hu I2 g ry λs3 I3=>⟨.bl (!ov.isSome),H2,I3,rfl,q2⟩
theorem Xur(hu:X.A.units+1<cLine)(ho:PE X o td)(hi:PE X i ty)(hv:PE X value tv)(hs:swapsWith value (some (.Subscript o i pos')) pos.line X.env=pure false):
  PS X (.Assign [.Subscript o i pos'] value pos) (Xy3 td ty tv):=by
 intro pins s σ H D I h
 refine wpAny_Assign_Subscript (thn (hv pins s σ H _ I h) λr s1 ⟨v,H1,I1,rv,q1⟩=>thn (ho pins s1 σ H1 _ I1 q1) λu s2 ⟨x,H2,I2,rx,q2⟩=>thn (hi pins s2 σ H2 _ I2 q2) λiv s3 ⟨y,H3,I3,ry,a,H4,ex,g,q3⟩=>?_) hs
 subst ex
 obtain rfl:u=Value.ref a:=rx
 exact Xo2 hu I3 g ry rv λs4 I4=>⟨σ,H4,I4,q3⟩
end
theorem Xh4{P:Program}{w:World}{H:Hp}(h:Heap)(hb:sysModules<h.objs.size):Xbm P w H (h.push {cls:=.type "dict",data:=.dict #[]}) h.objs.size (.dK []):=
 ⟨X0k _,beq_eq_false_iff_ne.mpr (Ne.symm (Xzs hb)),[],.nil,Heap.DictOf.new h⟩
def Xw1:TE:=λ_ H Q=>∀p,H p=none->Q (.ref p) (upd H p (.dK []))
section
variable {X:Cx}{pos:Pos}
theorem Xrw:PE X (.Dict [] [] pos) Xw1:=λpins s σ H Q I h=>
 wpAny_Dict_empty ⟨.ref s.heap.objs.size,_,I.laid (a:=s.heap.objs.size) (o:=.dK []) (t':=s.toks) (λ_ _ q=>X3o _ q) (Xzn _) (Xh4 s.heap I.big),rfl,h _ (I.hok.fresh (Xzn _))⟩
end
def Xo4:List (TE×TE)->St->Hp->(List (V×V)->Hp->Prop)->Prop
 | [],_,H,Q=>Q [] H
 | (tk,tv)::r, σ,H,Q=>tk σ H λx H1=>tv σ H1 λy H2=>Xo4 r σ H2 λps H3=>Q ((x,y)::ps) H3
abbrev VV:List (V×V)->List (Value×Value)->Prop:=Paired λp q=>RelV p.1 q.1/\RelV p.2 q.2
def PPs (X:Cx) (pos:Pos) (keys:List (Option Expr)) (values:List Expr) (trs:List (TE×TE)):Prop:=
 ∀(pins:List (Addr×Obj)) (s:Shared) (σ:St) (H:Hp) (Q:List (V×V)->Hp->Prop),Inv X pins σ H s->Xo4 trs σ H Q ->
  wpAny (model X.prog X.w) X.A (evalPairs (pairTrees keys values X.env pos)) (λvs s'=>∃ps H',Inv X pins σ H' s'/\VV ps vs/\Q ps H') X.xe s
theorem Xus{X:Cx}{pos:Pos}:PPs X pos [] [] []:=λpins s σ H Q I h=>pairTrees_nil_walk ⟨[],H,I,.nil,h⟩
theorem Xmb{X:Cx}{pos:Pos}{k v:Expr}{ks:List (Option Expr)}{vs:List Expr}{tk tv:TE}{trs:List (TE×TE)}(hk:PE X k tk)(hv:PE X v tv)(hr:PPs X pos ks vs trs):
  PPs X pos (some k::ks) (v::vs) ((tk,tv)::trs):=λpins s σ H Q I h=>
 pairTrees_cons_walk (thn (hk pins s σ H _ I h) λu s1 ⟨x,H1,I1,rx,q1⟩=>thn (hv pins s1 σ H1 _ I1 q1) λw2 s2 ⟨y,H2,I2,ry,q2⟩=>
  thn (hr pins s2 σ H2 _ I2 q2) λws s3 ⟨ps,H3,I3,rel,q3⟩=>⟨(x,y)::ps,H3,I3,.cons ⟨rx,ry⟩ rel,q3⟩)
def mergeK (kvs more:List (Key×V)):List (Key×V):=more.foldl (λacc kv=>putK acc kv.1 kv.2) kvs
theorem KV.merge:∀{more:List (Key×V)} {rs:List (Key×Value)} {kvs:List (Key×V)} {vs:List (Key×Value)},KV more rs->KV kvs vs->KV (mergeK kvs more) (merged vs rs):=by
 intro more rs kvs vs r
 unfold KV at r
 induction r generalizing kvs vs with
 | nil=>intro q;exact q
 | @cons p q ps qs h t ih=>
  intro r0
  have e:KV (putK kvs p.1 p.2) (stored vs q.1 q.2):=by
   have:=r0.put p.1 h.2
   rw[<-h.1];exact this
  exact ih e
theorem Xeo:∀(more kvs:List (Key×V)),(mergeK kvs more).length<=kvs.length+more.length
 | [],kvs=>by show kvs.length<=kvs.length+0;omega
 | p::r,kvs=>by
  have h1:=Xeo r (putK kvs p.1 p.2)
  have h2:=Xcb kvs p.1 p.2
  show (mergeK (putK kvs p.1 p.2) r).length<=_
  rw[X0a];omega
theorem Xhm{P:Program}{w:World}:∀{kvs:List (Key×V)} {ws:List (Value×Value)},VV (kvs.map λkv=>(kV kv.1,kv.2)) ws->∃rs,Carries (Xas P w) ws rs/\KV kvs rs
 | [],_,r=>by rw[X3c] at r;cases r;exact⟨[],True.intro,.nil⟩
 | p::kvs,_,r=>by
  rw[Xz9] at r
  cases r with
  | @cons a b as bs h t=>
   obtain⟨rs,c,q⟩:=Xhm (P:=P) (w:=w) t
   obtain⟨b1,b2⟩:=b
   exact⟨(p.1,b2)::rs,⟨Xjb h.1,rfl,c⟩,.cons ⟨rfl,h.2⟩ q⟩
def Xy4 (trs:List (TE×TE)):TE:=fun σ H Q=>∀p,H p=none->Xo4 trs σ (upd H p (.dK [])) λps H2=>H2 p=some (.dK [])/\∃kvs:List (Key×V),ps=kvs.map (λkv=>(kV kv.1,kv.2))/\kvs.length<=15/\Q (.ref p) (upd H2 p (.dK (mergeK [] kvs)))
theorem Xut{X:Cx}{pos:Pos}{keys:List (Option Expr)}{values:List Expr}{trs:List (TE×TE)}(h:PPs X pos keys values trs)(hall:keys.all (·.isSome)=true)(hl:keys.length=values.length)(h0:keys≠[])
  (h15:keys.length<=15):PE X (.Dict keys values pos) (Xy4 trs):=by
 intro pins s σ H Q I q
 have hn:=I.hok.fresh (Xzn s.heap.objs.size)
 have I1:=I.laid (a:=s.heap.objs.size) (o:=.dK []) (h':=s.heap.push {cls:=.type "dict",data:=.dict #[]}) (t':=s.toks) (λ_ _ q=>X3o _ q) (Xzn _) (Xh4 s.heap I.big)
 refine wpAny_Dict_walk (knd:=Xas X.prog X.w) hall hl h0 h15 (thn (h pins _ σ _ _ I1 (q _ hn)) λws s2 ⟨ps,H2,I2,rel,e,kvs,ep,lk,q2⟩=>?_)
 subst ep
 obtain⟨rs,c,rk⟩:=Xhm (P:=X.prog) (w:=X.w) rel
 obtain⟨z,hd,vs0,r0,dd⟩:=Xun I2.hok e
 cases r0
 refine⟨rs,c,dd,λh' dd' hs=>⟨.ref s.heap.objs.size,_,?_,rfl,q2⟩⟩
 have hz:(mergeK [] kvs).length<=sizeLine:=by
  have h1:=Xeo kvs []
  rw[X1d] at h1
  rw[X3g];omega
 have he:∃q,h'.get? s.heap.objs.size=some q:=let ⟨q,_,_,hq,_⟩:=dd'; ⟨q,hq⟩
 exact Xgl I2 (by rw[e];exact True.intro) hs he (Xo1 hz hd (rk.merge .nil) dd')
structure M1 (X:Cx) (o:Expr) (m:Str) (apos:Pos) (e:Expr) (cpos:Pos):Prop where
 base:attributeBase o m X.env (eval o X.env)=eval o X.env
 few:((backTo cpos (starEach [e] X.env)).all (λx => !x.1)&&(backToKw cpos (keywordEach [] X.env)).all (λx=>x.1.isSome)
  && decide (([e]:List Expr).length+([]:List Keyword).length+(if ([]:List Keyword).isEmpty then 0 else 1)<30))=true
 line:(apos.endLine==cpos.line)=true
 trees:backTo cpos (starEach [e] X.env)=[(false,eval e X.env)]
structure M2 (X:Cx) (o:Expr) (m:Str) (apos:Pos) (e f:Expr) (cpos:Pos):Prop where
 base:attributeBase o m X.env (eval o X.env)=eval o X.env
 few:((backTo cpos (starEach [e,f] X.env)).all (λx => !x.1)&&(backToKw cpos (keywordEach [] X.env)).all (λx=>x.1.isSome)
  && decide (([e,f]:List Expr).length+([]:List Keyword).length+(if ([]:List Keyword).isEmpty then 0 else 1)<30))=true
 line:(apos.endLine==cpos.line)=true
 trees:backTo cpos (starEach [e,f] X.env)=[(false,eval e X.env),(false,eval f X.env)]
def IsD (H:Hp) (a:Addr):Prop:=(∃kvs,Rd H a (.dK kvs)) \/ ∃kvs,Rd H a (.dT kvs)
theorem Xw2{X:Cx}{pins:List (Addr×Obj)}{σ:St}{H:Hp}{s:Shared}{a:Addr}(I:Inv X pins σ H s)(d:IsD H a):
  s.TypeIs (.ref a) "dict" /\ (∀b,Value.ref a = .ref b->∃ob,s.heap.get? b=some ob/\ob.dict=none)/\(a==sysModules)=false:=by
 rcases d with ⟨kvs,e⟩ | ⟨kvs,e⟩
 ·obtain⟨_,hd,vs,_,dd⟩:=Xk1 I.hok e
  refine⟨dd.typeIs,λb q=>?_,hd⟩
  cases q
  obtain⟨ob,_,_,h1,h2,_⟩:=dd
  exact⟨ob,h1,h2.2.1⟩
 ·obtain⟨_,hd,xs,_,dd⟩:=Xnn I.hok e
  refine⟨dd.typeIs,λb q=>?_,hd⟩
  cases q
  obtain⟨ob,_,_,h1,h2,_⟩:=dd
  exact⟨ob,h1,h2.2.1⟩
section
variable {X:Cx}{pins:List (Addr×Obj)}{σ:St}{H:Hp}{s:Shared}{a:Addr}{y d:V}{u r:Value}{o:Option V}{A:Around}{E:Value->Shared->Prop}
theorem Xw3{Q:Value->Shared->Prop}(hu:A.units+1<cLine)(I:Inv X pins σ H s)(g:DGet H a y o)(ry:RelV y u)(rd:RelV d r)(h:∀w' s',Inv X pins σ H s'->RelV (o.getD d) w'->Q w' s'):
  wpAny (model X.prog X.w) A (call (.builtin "dict.get") [.ref a,u,r]) Q E s:=by
 rcases g with ⟨kvs,k,e,ey,l⟩ | ⟨kvs,k,b,e,ey,eb,l⟩
 ·subst ey
  obtain⟨z,hd,vs,rel,dd⟩:=Xk1 I.hok e
  refine call_meetsIn PySem.F.slot_dict_get dd.typeIs PySem.F.entry_dict_get (PySem.F.args_dict_get_3 _ _ _) (meets_dict_get_default (Xas X.prog X.w) a (Xjb ry) hd r) ⟨_,dd.mapOf,h _ _ (I.tok _) ?_⟩
  rw[l]
  exact(rel.val k).getD rd
 ·subst ey
  cases (show u=Value.ref b from ry)
  obtain⟨z,hd,xs,rel,dd⟩:=Xnn I.hok e
  refine call_meetsIn PySem.F.slot_dict_get dd.typeIs PySem.F.entry_dict_get (PySem.F.args_dict_get_3 _ _ _) (meetsH_dict_get_default (tupleKind (Xas X.prog X.w)) a b hd r) ⟨tupleKind_room_in1 hu,k,xs,Xjd I.hok eb,dd,h _ _ (I.tok _) ?_⟩
  rw[l]
  exact(rel.val k).getD rd
end
def Xw4 (td ty tx:TE):TE:=fun σ H Q=>td σ H λx H1=>∃a,x = .ref a/\IsD H1 a/\ty σ H1 λy H2=>tx σ H2 λz H3=>∃o,DGet H3 a y o/\Q (o.getD z) H3
def tDPop1 (td ty:TE):TE:=fun σ H Q=>td σ H λx H1=>∃a,x = .ref a/\IsD H1 a/\ty σ H1 λy H2=>∃kvs k v,H2 a=some (.dK kvs)/\y=kV k/\valV kvs k=some v/\Q v (upd H2 a (.dK (Xwz kvs k)))
section
variable {X:Cx}{o e f:Expr}{apos cpos:Pos}{td ty tx:TE}
theorem Xh5(hu:X.A.units+1<cLine)(ho:PE X o td)(he:PE X e ty)(hf:PE X f tx)(m:M2 X o "get" apos e f cpos):PE X (.Call (.Attribute o "get" apos) [e,f] [] cpos) (Xw4 td ty tx):=by
 intro pins s σ H Q I h
 refine wpAny_Call_method m.base m.few m.line PySem.F.plainAttrs_dict PySem.F.slot_dict_get PySem.F.type_dict_get (thn (ho pins s σ H _ I h) λu s1 ⟨x,H1,I1,rx,a,ex,d,q1⟩=>?_)
 subst ex
 obtain rfl:u=Value.ref a:=rx
 obtain⟨t1,t2,_⟩:=Xw2 I1 d
 refine⟨t1,t2,?_⟩
 rw[m.trees]
 refine Calls.callWith_builtin rfl (Calls.evalArgs_plain (Calls.spliced_cons (thn (he pins s1 σ H1 _ I1 q1) λiv s2 ⟨y,H2,I2,ry,q2⟩=>
  Calls.spliced_cons (thn (hf pins s2 σ H2 _ I2 q2) λfv s3 ⟨z,H3,I3,rz,ov,g,q3⟩=>Calls.spliced_nil ?_))))
 exact Xw3 hu I3 g ry rz λw' s4 I4 rw'=>⟨_,H3,I4,rw',q3⟩
end
section
variable {X:Cx}{pins:List (Addr×Obj)}{σ:St}{H:Hp}{s:Shared}{a:Addr}{kvs:List (Key×V)}{A:Around}{E:Value->Shared->Prop}
end
section
variable {X:Cx}{pins:List (Addr×Obj)}{σ:St}{H:Hp}{s:Shared}{a:Addr}{y:V}{u:Value}{A:Around}{E:Value->Shared->Prop}
end
end L2
namespace Att
open PySem PySem.W PySem.Calls PyProof.Rows
theorem Xgm{P:Params}{h:Heap}:∀(ns:List Int) (vs:List Value),WellAll P h vs (ns.map WData.int)->IntsAre vs ns:=by
 intro ns
 induction ns with
 | nil=>
  intro vs w
  rw[X3c] at w
  cases w
  exact .nil
 | cons n ns ih=>
  intro vs w
  rw[Xz9] at w
  cases w with
  | cons a b=>
   cases a
   exact .cons _ _ (ih _ b)
theorem Xo5{l:OpenLaw}{n:Nat}(hn:l.most=some n){P:Params}{h:Heap}{args:List WData}{vals:List Value}
  (hpre:l.row.toRowW.claim.pre args=true) (hwl:WellAll P h vals args):
  ∃a vs ns,vals=[Value.ref a]/\args=[WData.list (ns.map WData.int)]/\h.get? a=some {cls:=.type "list",data:=.seq vs.toArray}/\IntsAre vs ns/\ns.length<=n:=by
 have hsh:WShape.hasAll [] args [.list .int]=true:=(pre_splitW hpre).1
 have hc:l.pre.holds [] {args:=args}=true:=(pre_splitW hpre).2
 obtain⟨d,r,rfl,h1,h2⟩:=hasAllW_cons hsh
 obtain rfl:=hasAllW_nil h2
 obtain⟨xs,rfl,h3⟩:=hasW_list h1
 obtain⟨ns,rfl⟩:=items_int h3
 have hlen:ns.length<=n:=by
  unfold OpenLaw.pre at hc
  have h4:(WTm.not (.lt (.lit (.int (n:Int))) (.len (.arg 0)))).holds [] {args:=[.list (ns.map .int)]}=true:=by
   have h4:=(holds_andW hc).1
   rw[hn] at h4
   exact h4
  have h5:=condW_of h4 (w_not (w_lt w_lit (w_len_list (w_arg rfl))))
  rw[Xzk] at h5
  refine Nat.le_of_not_lt λq=>?_
  have q':(n:Int)<((ns.length:Nat):Int):=by omega
  first
   | (rw[X3j q'] at h5;exact absurd h5 (by decide))
   | (simp at h5;omega)
 cases hwl with
 | cons w1 w2=>
  cases w2
  cases w1 with
  | list ho hall=>exact⟨_,_,ns,rfl,rfl,ho,Xgm ns _ hall,hlen⟩
theorem Xo6(l:OpenLaw)(args:List WData):l.row.toRowW.claim.post args (.bool true) args=true:=
 postW_of (r:=l.row.toRowW) (X:=(true==true))
  (show WShape.has [] (.bool true) .bool=true by first | rfl | decide | simp[WShape.has,WShape.arms,WShape.armsAll])
  (show (WTm.eq .res (.lit (.bool true))).value [] {args:=args,res:=some (.bool true),after:=args}=some (.bool (true==true)) from w_eq_bool (w_res rfl) w_lit) rfl
theorem attach_call{l:OpenLaw}{n:Nat}{q:Program}{loose:List Str}{XP:(Str->Option Value)->Heap->Prop}{YP:World->Heap->Prop}{d:DefRec}
  (hn:l.most=some n) (hdf:d.params.defaults=[])
  (call:∀(w:World) (s₀ s₁ : Shared) (mg mb:Str->Option Value) (fa:Addr) (o:Obj) (pm cd doc:Value) (a:Addr) (vs:List Value) (ns:List Int),
   Ground q loose [] XP w s₀ mg mb s₁.heap->YP w s₁.heap ->
   s₁.heap.get? fa=some o->o.data = .func (docDef d.name d.params d.body d.scope pm cd doc)->s₁.heap.CodeRec cd d.name->mg d.name=some (.ref fa) ->
   s₁.heap.get? a=some {cls:=.type "list",data:=.seq vs.toArray}->IntsAre vs ns->ns.length<=n->s₁.gens = #[] ->
   codeAny (model l.prog w) callerA (.call (.ref fa) ⟨[.ref a],[]⟩) (λr s'=>r = .ok (.ret (.bool true))/\OldK s₁.heap s'.heap/\s'.os=s₁.os/\AllBare s'.gens) s₁):
  WalkO q loose XP YP l.row.toRowW d [] (λf vs=>PySem.call f vs):=by
 intro w s₀ s₁ mg mb G Y fa o pm cd doc dV kV ho hd hcd hD hmg hg args vals as hpre hlay hrd hwl hlo
 obtain rfl:dV = .none:=Dflts.none hD hdf
 obtain rfl:kV = .none:=Dflts.noKw hD
 obtain⟨a,vs,ns,rfl,rfl,hobj,hints,hlen⟩:=Xo5 hn hpre hwl
 refine enter_call (codeAny_mono (call w s₀ s₁ mg mb fa o pm cd doc a vs ns G Y ho (fd_plain hd) hcd hmg hobj hints hlen hg) λr s' hq=>?_)
 obtain⟨rfl,h2,h3,h4⟩:=hq
 exact⟨.inl ⟨.bool true,.bool true,[],rfl,λ_=>rfl,.bool true,Xo6 l _,λ_=>⟨List.Pairwise.nil,λ_ hm=>(nomatch hm)⟩⟩,h2,h3,h4⟩
section
variable {prog:Program}{w:World}{A:Around}{E:Value->Shared->Prop}{s:Shared}{K:Frag}
def ledger (h:Heap) (L d:Addr):List (Addr×Obj):=(List.range h.objs.size).filterMap λa=>if a=L\/a=d then none else (h.get? a).map λo=>(a,o)
end
end Att
namespace L2
open PySem PySem.Spec PyProof.Rows
theorem Xje:∀{vs:List Value} {ns:List Int},IntsAre vs ns->Vals (ns.map V.int) vs
 | _,_,.nil=>.nil
 | _,_,.cons n t h=>.cons ⟨t,rfl⟩ (Xje h)
def Only (H:Hp):Prop:=∀b,H b=none \/ ∃o xs,H b=some (.frz o (.lst xs))
abbrev KOf {K:PySem.W.Frag} {h:Heap} (_:K.In h):PySem.W.Frag:=K
def Xy5 (s:Stmt) (j:Nat):Stmt:=match s with
 | .ClassDef _ _ _ body _ _ _ _ _ _ _=>body.getD j (.Pass ⟨0,0,0,0⟩)
 | _=>.Pass ⟨0,0,0,0⟩
def Xdf (s:Stmt):Arguments:=match s with
 | .FunctionDef _ a _ _ _ _ _ _ _ _=>a
 | _=>{posonlyargs:=[],args:=[],vararg:=none,kwonlyargs:=[],kw_defaults:=[],kwarg:=none,defaults:=[]}
def Xcc (s:Stmt):List Stmt:=match s with
 | .FunctionDef _ _ b _ _ _ _ _ _ _=>b
 | _=>[]
def defScope (s:Stmt):Scope:=match s with
 | .FunctionDef _ _ _ _ _ _ sc _ _ _=>sc
 | _=>{kind:=.function,names:=[],isGenerator:=false,isCoroutine:=false}
abbrev CX0:CXT:=λ_ _ _ _ _ _=>False
abbrev E0:XK:=λ_ _ _=>False
theorem pass0{X:Cx}:Passes CX0 X E0:=λ_ _ _ _ _ _ _ h=>h.elim
structure Fun (K:PySem.W.Frag) (x qual:Str) (st:Stmt) (f:Addr) (fd:FuncData):Prop where
 ex:∃(oc:Value) (od:Option Addr) (kV doc pm:Value) (an:Option Addr) (cdv ct:Value) (osl:Array (Option Value)),
  fd=PySem.W.fnOf x qual (Xdf st) (Xcc st) (defScope st) .none kV doc pm an cdv ct/\K.lookup f=some ⟨oc,od,.func fd,osl⟩/\PySem.W.codeIn K cdv qual=true
 kp:PySem.W.keepIn K (.ref f)=true
section
variable {P:Program}{w:World}{K:PySem.W.Frag}{mg:Str->Option Value}{base:Heap}
theorem Fun.ok{x qual:Str}{st:Stmt}{f:Addr}{fd:FuncData}{N ps:List Str}{k:Nat}{sp:Sp}(F:Fun K x qual st f fd)(S:FnScope N ps (defScope st))(len:∀vs H Q E,sp vs H Q E->vs.length=ps.length)
  (hbody:∀(cdv:Value) (A:Around) (outer:List Env) (s:Shared) (H:Hp) (vs:List V) (Q:VK) (E:XK),Room k (A.deeper (envOfC qual (defScope st) s.heap.objs.size f cdv))->sp vs H Q E ->
   ∃t,PSs (cxOf CX0 P w K mg base N qual (defScope st) f cdv A outer s H E).nox (Xcc st) t/\t {nx:=λ_ H'=>Q .non H',rt:=Q} (start N vs) H):FnOk P w K mg base CX0 (k+1) f fd ps sp:=by
 obtain⟨oc,od,kV,doc,pm,an,cdv,ct,osl,rfl,lk,hcd⟩:=F.ex
 refine Xui lk hcd S len λA outer s H vs Q E hr hsp=>?_
 obtain⟨t,h,q⟩:=hbody cdv A outer s H vs Q E hr hsp
 exact⟨t,h.nox,q⟩
theorem Fun.binds{x qual:Str}{st:Stmt}{f:Addr}{fd:FuncData}{ps:List Str}(F:Fun K x qual st f fd)
  (h:∀(kV doc pm:Value) (an:Option Addr) (cdv ct:Value) (us:List Value),us.length=ps.length->bindArgs (PySem.W.fnOf x qual (Xdf st) (Xcc st) (defScope st) .none kV doc pm an cdv ct) ⟨us,[]⟩=pure (ps.zip us)):Binds K fd ps []:=by
 obtain⟨oc,od,kV,doc,pm,an,cdv,ct,osl,rfl,lk,hcd⟩:=F.ex
 exact .all (h kV doc pm an cdv ct)
theorem Xtr{x qual:Str}{st:Stmt}{f:Addr}{oc:Value}{od an:Option Addr}{osl:Array (Option Value)}{kV doc pm cdv ct:Value}(l:K.lookup f=some ⟨oc,od,.func (PySem.W.fnOf x qual (Xdf st) (Xcc st) (defScope st) .none kV doc pm an cdv ct),osl⟩)
  (c:PySem.W.codeIn K cdv qual=true) (k:PySem.W.keepIn K (.ref f)=true):Fun K x qual st f (PySem.W.fnOf x qual (Xdf st) (Xcc st) (defScope st) .none kV doc pm an cdv ct):=⟨⟨oc,od,kV,doc,pm,an,cdv,ct,osl,rfl,l,c⟩,k⟩
end
theorem Xep{A:Around}{k:Nat}(hr:Room k A):A.units+1<cLine:=X20 (Nat.add_le_add_left (by decide:1<=64) _) hr.units
section
variable {X:Cx}
theorem pv(i:Nat){x:Str}{pos:Pos}(hN:X.N[i]? = some x:=by rfl)(hv:Vis X.env.scope x:=by first | exact Or.inl rfl | exact Or.inr (Or.inl rfl) | exact Or.inr (Or.inr rfl))(hd:(x==("__debug__" : Str))=false:=by decide)
  (hcd:(x==("__classdict__" : Str))=false:=by decide):PE X (.Name x pos) (tVar i):=Xwk hN hv hd hcd
end
theorem iteF{A B:Prop}(h:B):if false=true then A else B:=by
 rw[X3h Xz0]
 exact h
theorem iteT{A B:Prop}(h:A):if true=true then A else B:=by
 rw[X3i rfl]
 exact h
theorem Xy6{c A B:Prop}[Decidable c](hc:c)(h:B):if (!decide c)=true then A else B:=by
 rw[X3j hc]
 exact iteF h
def Same (H H':Hp):Prop:=∀b o,H b=some o->H' b=some o
theorem Same.refl(H:Hp):Same H H:=λ_ _ h=>h
theorem Same.trans{H H1 H2:Hp}(a:Same H H1)(b:Same H1 H2):Same H H2:=λc o h=>b c o (a c o h)
theorem Same.free{H H':Hp}(e:Same H H'){l:Addr}(h:H' l=Option.none):H l=Option.none:=by
 cases q:H l with
 | none=>rfl
 | some o=>
  rw[e l o q] at h
  cases h
theorem Same.seq{K:PySem.W.Frag}{H H':Hp}{a:Addr}{xs:List V}(e:Same H H')(h:SqL K H a xs):SqL K H' a xs:=by
 rcases h with (h | ⟨o,h⟩) | h
 ·exact .inl (.inl (e _ _ h))
 ·exact .inl (.inr ⟨o,e _ _ h⟩)
 ·exact .inr h
section
variable {X:Cx}
end
section
variable {κ : Type} [DecidableEq κ]
theorem Xrx{kvs:List (κ × V)}{k : κ}(h:valV kvs k=none):¬k∈kvs.map (·.1):=by
 intro m
 obtain⟨p,hp,e⟩:=Xz4.mp m
 have q:(kvs.any λkv=>decide (kv.1=k))=true:=X1g.mpr ⟨p,hp,X3j e⟩
 rw[Xcz,h] at q
 exact absurd q (by simp)
theorem Xfa{kvs:List (κ × V)}{k : κ}{v:V}(h:valV kvs k=some v):k∈kvs.map (·.1):=by
 have q:(kvs.any λkv=>decide (kv.1=k))=true:=by
  rw[Xcz,h]
  all_goals rfl
 obtain⟨p,hp,e⟩:=X1g.mp q
 exact Xz4.mpr ⟨p,hp,X3l e⟩
theorem nd_snoc:∀{l:List κ} {k : κ},l.Nodup->¬k∈l->(l++[k]).Nodup
 | [],k,_,_=>by simp
 | a::r,k,h,hk=>by
  obtain⟨h1,h2⟩:=X02.mp h
  show (a::(r++[k])).Nodup
  refine X02.mpr ⟨λm=>?_,nd_snoc h2 λm=>hk (Xzw.mpr (Or.inr m))⟩
  rcases Xzv.mp m with q | q
  ·exact h1 q
  ·exact hk (Xzw.mpr (Or.inl (Xzr.mp q).symm))
theorem Xuu{kvs:List (κ × V)}{k : κ}(v:V)(hn:(kvs.map (·.1)).Nodup)(h:valV kvs k=none):((putK kvs k v).map (·.1)).Nodup:=by
 rw[Xen v h,Xzq]
 exact nd_snoc hn (Xrx h)
end
def Xec (env:Env):List (Str×NameKind)->List (Str×Addr)->List (Str×Addr)
 | [],cs=>cs
 | (n,k)::r,cs=>if k == .free then Xec env r ((n,(env.cells.lookup n).getD 0)::cs) else Xec env r cs
theorem Xh6{env:Env}:∀(names:List (Str×NameKind)) (cs:List (Str×Addr)),(∀x∈names,x.2 = .free->∃c,env.cells.lookup x.1=some c) ->
  (forIn names cs fun (x : Str × NameKind) r => (if (x.2 == .free) = true then do let c <- cellOf env x.1; pure (ForInStep.yield ((x.1, c) :: r)) else pure (ForInStep.yield r) : Sem (ForInStep (List (Str × Addr))))) = pure (Xec env names cs)
 | [],cs,_=>rfl
 | (n,k)::r,cs,h=>by
  rw[List.forIn_cons]
  cases hk:(k==NameKind.free) with
  | true=>
   have hk':k = .free:=by simpa using hk
   obtain⟨c,hc⟩:=h (n,k) Xzp hk'
   have e1:cellOf env n=pure c:=by unfold cellOf;rw[hc]
   simp only[hk,if_true,e1,pure_bind]
   rw[Xh6 r _ λx hx=>h x (Xzo _ hx)]
   show _=pure (if (k==NameKind.free)=true then _ else _)
   rw[hk,X3i rfl,hc]
   rfl
  | false=>
   simp only[hk,X0t,if_false,pure_bind]
   rw[Xh6 r _ λx hx=>h x (Xzo _ hx)]
   show _=pure (if (k==NameKind.free)=true then _ else _)
   rw[hk,X3h Xz0]
theorem Xmc{scope:Scope}{env:Env}(h:∀x∈scope.names,x.2 = .free->∃c,env.cells.lookup x.1=some c):closureFor scope env=pure (Xec env scope.names []):=by
 have e:=Xh6 scope.names [] h
 have q : closureFor scope env = (forIn scope.names [] fun (x : Str × NameKind) r => (if (x.2 == .free) = true then do let c <- cellOf env x.1; pure (ForInStep.yield ((x.1, c) :: r)) else pure (ForInStep.yield r) : Sem (ForInStep (List (Str × Addr))))) >>= fun cs => pure cs := rfl
 rw[q,e]
 rfl
theorem Xh7{env:Env}{x:Str}{c:Addr}:∀(names:List (Str×NameKind)) (cs:List (Str×Addr)),(∀x∈names,x.2 = .free->∃c,env.cells.lookup x.1=some c) ->
  (Xec env names cs).lookup x=some c->cs.lookup x=some c\/env.cells.lookup x=some c
 | [],cs,_,h=>.inl h
 | (n,k)::r,cs,hf,h=>by
  unfold Xec at h
  split at h
  ·rename_i hk
   rcases Xh7 r _ (λx hx=>hf x (Xzo _ hx)) h with q | q
   ·rw[X0p] at q
    split at q
    ·rename_i e
     have e':x=n:=by simpa using e
     subst e'
     obtain⟨c',hc⟩:=hf (x,k) Xzp (by simpa using hk)
     have hc':env.cells.lookup x=some c':=hc
     rw[hc'] at q ⊢
     exact .inr q
    ·exact .inl q
   ·exact .inr q
  ·exact Xh7 r _ (λx hx=>hf x (Xzo _ hx)) h
theorem Xfb{env:Env}{x:Str}:∀(names:List (Str×NameKind)) (cs:List (Str×Addr)),((cs.lookup x).isSome=true\/(x,NameKind.free)∈names)->((Xec env names cs).lookup x).isSome=true
 | [],cs,h=>by
  rcases h with h | h
  ·exact h
  ·cases h
 | (n,k)::r,cs,h=>by
  unfold Xec
  split
  ·refine Xfb r _ ?_
   rw[X0p]
   rcases h with h | h
   ·left
    split
    ·rfl
    ·exact h
   ·rcases Xzw.mp h with e | h
    ·left
     cases e
     simp
    ·exact .inr h
  ·rename_i hk
   refine Xfb r _ ?_
   rcases h with h | h
   ·exact .inl h
   ·rcases Xzw.mp h with e | h
    ·cases e
     exact absurd rfl hk
    ·exact .inr h
theorem Xd7{env:Env}{x:Str}{k':NameKind}:∀{names:List (Str×NameKind)},
  (names.map λ(n,k)=>if (k==NameKind.free&&env.scope.kind == .function&&env.kindOf n==some .cell) then (n,NameKind.cell) else (n,k)).lookup x=some k'->∃k,names.lookup x=some k/\(k'=k\/k = .free)
 | [],h=>by simp at h
 | (n,k)::r,h=>by
  have ih := @Xd7 env x k' r
  have h':List.lookup x ((if (k==NameKind.free&&env.scope.kind == .function&&env.kindOf n==some .cell)=true then (n,NameKind.cell) else (n,k))::_)=_:=h
  rw[X0p]
  by_cases hc:(k==NameKind.free&&env.scope.kind == .function&&env.kindOf n==some .cell)=true
  ·rw[X3i hc,X0p] at h'
   cases hx:x==n with
   | true=>
    have hk:k = .free:=by
     simp only[Xz3,beq_iff_eq] at hc
     exact hc.1.1
    exact⟨k,rfl,.inr hk⟩
   | false=>
    rw[hx] at h'
    exact ih h'
  ·rw[X3h hc,X0p] at h'
   cases hx:x==n with
   | true=>
    rw[hx] at h'
    exact⟨k,rfl,.inl (Xzx h').symm⟩
   | false=>
    rw[hx] at h'
    exact ih h'
theorem Xfc:∀(names:List (Str×NameKind)) (h:Heap) (acc:List (Str×Addr)) (x:Str) (c:Addr),(cellsFrom h.objs.size names acc).lookup x=some c ->
  (h.objs.size<=c/\(x,NameKind.cell)∈names/\(pushCells h names).IsCell c none)\/acc.lookup x=some c
 | [],_,_,_,_,e=>.inr e
 | (name,kind)::r,h,acc,x,c,e=>by
  unfold cellsFrom at e
  unfold pushCells
  by_cases hk:(kind==NameKind.cell)=true
  ·rw[X3i hk] at e ⊢
   have hk':kind = .cell:=by simpa using hk
   have sz:(h.push {cls:=.type "cell",data:=.cell none}).objs.size=h.objs.size+1:=Heap.size_push ..
   rw[<-sz] at e
   rcases Xfc r _ _ x c e with ⟨a1,a2,a3⟩ | a
   ·exact .inl ⟨by omega,Xzo _ a2,a3⟩
   ·rw[X0p] at a
    cases hx:x==name with
    | true=>
     rw[hx] at a
     cases a
     have:x=name:=by simpa using hx
     subst this
     refine .inl ⟨Xzn _,by rw[hk'];exact Xzp,?_⟩
     exact⟨_,pushCells_keeps r _ _ _ (Heap.get?_push_size _ rfl),rfl⟩
    | false=>rw[hx] at a;exact .inr a
  ·rw[X3h hk] at e ⊢
   rcases Xfc r h acc x c e with ⟨a1,a2,a3⟩ | a
   ·exact .inl ⟨a1,Xzo _ a2,a3⟩
   ·exact .inr a
theorem Xgn:∀(names:List (Str×NameKind)) (n:Nat) (acc:List (Str×Addr)),(∀x y c,acc.lookup x=some c->acc.lookup y=some c->x=y)->(∀x c,acc.lookup x=some c->c<n) ->
  ∀x y c,(cellsFrom n names acc).lookup x=some c->(cellsFrom n names acc).lookup y=some c->x=y
 | [],_,_,h,_=>h
 | (name,kind)::r,n,acc,h,hb=>by
  unfold cellsFrom
  by_cases hk:(kind==NameKind.cell)=true
  ·rw[X3i hk]
   refine Xgn r (n+1) _ (λx y c e1 e2=>?_) (λx c e=>?_)
   ·rw[X0p] at e1 e2
    cases hx:x==name with
    | true=>
     cases hy:y==name with
     | true=>rw[beq_iff_eq.mp hx,beq_iff_eq.mp hy]
     | false=>
      rw[hx] at e1;rw[hy] at e2
      cases e1
      exact absurd (hb y _ e2) (X0n _)
    | false=>
     cases hy:y==name with
     | true=>
      rw[hx] at e1;rw[hy] at e2
      cases e2
      exact absurd (hb x _ e1) (X0n _)
     | false=>rw[hx] at e1;rw[hy] at e2;exact h x y c e1 e2
   ·rw[X0p] at e
    cases hx:x==name with
    | true=>rw[hx] at e;cases e;exact Nat.lt_succ_self _
    | false=>rw[hx] at e;exact X03 (hb x c e)
  ·rw[X3h hk]
   exact Xgn r n acc h hb
theorem Xgo{env:Env}{x:Str}{c:Addr}:∀(names:List (Str×NameKind)) (cs:List (Str×Addr)),(Xec env names cs).lookup x=some c->cs.lookup x=some c\/(x,NameKind.free)∈names
 | [],cs,h=>.inl h
 | (n,k)::r,cs,h=>by
  unfold Xec at h
  split at h
  ·rename_i hk
   have hk':k = .free:=by simpa using hk
   rcases Xgo r _ h with q | q
   ·rw[X0p] at q
    cases hx:x==n with
    | true=>
     have:x=n:=by simpa using hx
     subst this
     exact .inr (by rw[hk'];exact Xzp)
    | false=>rw[hx] at q;exact .inl q
   ·exact .inr (Xzo _ q)
  ·rcases Xgo r _ h with q | q
   ·exact .inl q
   ·exact .inr (Xzo _ q)
theorem Xno{M:Model}{A:Around}{E:Value->Shared->Prop}{s:Shared}{scope:Scope}{globals:Addr}{closure:List (Str×Addr)}{qual:Str}{outer:Env}{Q:Env->Shared->Prop}
  (h:Q (newEnv scope s.heap.objs.size globals (cellsFrom (s.heap.objs.size+1) scope.names closure) qual none .none (some outer) builtinsNs) {s with heap:=pushCells (s.heap.push {cls:=.type "dict",data:=.dict #[]}) scope.names}):
  wpAny M A (newFunctionEnv scope globals closure [] qual none .none (some outer)) Q E s:=by
 simp only[newFunctionEnv,X2z,if_true]
 refine X3e (wpAny_alloc ?_)
 refine X3e (wpAny_layCells _ (λname kind cells=>by cases hkc:kind==NameKind.cell<;>simp[hkc]) _ _ _ _ ?_)
 rw[show ({s with heap:=s.heap.push {cls:=.type "dict",data:=.dict #[]} }:Shared).heap.objs.size=s.heap.objs.size+1 from Heap.size_push ..]
 refine X3e ?_
 rw[List.forIn_nil]
 exact X3f (X3f h)
def Xjf (X:Cx) (scope:Scope) (s0:Shared):List (Str×Addr):=cellsFrom (s0.heap.objs.size+1) scope.names (Xec X.env scope.names [])
def Cx.comp (X:Cx) (N:List Str) (scope:Scope) (s0:Shared) (H0:Hp) (ex:List Addr):Cx where
 prog:=X.prog
 w:=X.w
 K:=X.K
 mg:=X.mg
 base:=X.base
 A:=X.A
 N:=N
 s₀:=s0
 H₀:=H0
 env:=compEnvC scope (Xjf X scope s0) s0.heap.objs.size X.env
 outer:=X.stack
 stack:=X.stack
 ex:=ex
 fn:=λx=>decide (scope.names.lookup x=some .cell)
 calm:=X.calm
 pn:=[]
 xe:=λ_ _=>False
def capS (cap:List (Option Nat)) (σ:St):St:=cap.map λo=>o.bind λj=>(σ[j]?).join
structure CompScope (X:Cx) (N:List Str) (cap:List (Option Nat)) (scope:Scope):Prop where
 kind:scope.kind = .function
 uniq:∀y∈scope.names,scope.names.lookup y.1=some y.2
 free:∀y∈scope.names,y.2 = .free->X.env.kindOf y.1=some .cell\/X.env.kindOf y.1=some .free
 len:cap.length=N.length
 cap:∀(i:Nat) (x:Str) (j:Nat),N[i]? = some x->cap[i]? = some (some j)->X.N[j]? = some x/\scope.names.lookup x=some .free
def PIfs (X:Cx) (ifs:List Expr) (t:TT):Prop:=
 ∀(pins:List (Addr×Obj)) (s:Shared) (σ:St) (H:Hp) (Q:Bool->Hp->Prop),Inv X pins σ H s->t σ H Q ->
  wpAny (model X.prog X.w) X.A (forIn ifs true fun c r => if r = true then do let ok <- isTrue c X.env (eval c X.env); pure (ForInStep.yield ok) else pure (ForInStep.yield r)) (TP X pins σ Q) X.xe s
def tYes:TT:=λ_ H Q=>Q true H
theorem Xbg{X:Cx}:PIfs X [] tYes:=λ_ _ _ H _ I h=>wpAny_tests_nil ⟨H,I,h⟩
theorem Xbz{X:Cx}{c:Expr}{t:TT}(h:PT X c t):PIfs X [c] t:=λpins s σ H Q I hw=>wpAny_tests_one (h pins s σ H Q I hw)
def tBlk (cap:List (Option Nat)) (g:TG) (tt:TT) (te:TE) (J:It) (σ:St) (H1:Hp) (F:Addr->Hp->Prop):Prop:=
 ∀D,H1 D=none->∃W:Nat->Nat->St->Hp->Prop,(∃m,W 0 m (capS cap σ) (upd H1 D (.lst [])))/\∀i m σ1 H2,W i m σ1 H2 ->
  (J.stop i H2/\F D H2)\/(J.go i H2/\∀x H3,J.yld i H2 x H3->g x σ1 H3 fun σ2 H4=>tt σ2 H4 λb H5=>
   if b=true then te σ2 H5 λy H6=>∃ys,H6 D=some (.lst ys)/\ys.length<sizeLine/\∃m',m'<m/\W (i+1) m' σ2 (upd H6 D (.lst (ys++[y])))
   else ∃m',m'<m/\W (i+1) m' σ2 H5)
theorem Xfv{env:Env}{x:Str}:∀{names:List (Str×NameKind)} {k:NameKind},names.lookup x=some k ->
  (names.map λ(n,k)=>if (k==NameKind.free&&env.scope.kind == .function&&env.kindOf n==some .cell) then (n,NameKind.cell) else (n,k)).lookup x=some (if (k==NameKind.free&&env.scope.kind == .function&&env.kindOf x==some .cell) then NameKind.cell else k)
 | [],_,h=>by simp at h
 | (n,q)::r,k,h=>by
  have ih := @Xfv env x r k
  show List.lookup x ((if (q==NameKind.free&&env.scope.kind == .function&&env.kindOf n==some .cell)=true then (n,NameKind.cell) else (n,q))::_)=_
  rw[X0p] at h
  cases hx:x==n with
  | true=>
   rw[hx] at h
   cases h
   have:x=n:=by simpa using hx
   subst this
   by_cases hc:(q==NameKind.free&&env.scope.kind == .function&&env.kindOf x==some .cell)=true
   ·rw[X3i hc,X3i hc,X0p,hx]
   ·rw[X3h hc,X3h hc,X0p,hx]
  | false=>
   rw[hx] at h
   by_cases hc:(q==NameKind.free&&env.scope.kind == .function&&env.kindOf n==some .cell)=true
   ·rw[X3i hc,X0p,hx];exact ih h
   ·rw[X3h hc,X0p,hx];exact ih h
section
variable {X:Cx}{N:List Str}{cap:List (Option Nat)}{scope:Scope}{pins:List (Addr×Obj)}{σ:St}{H H':Hp}{s s':Shared}{fp:List Addr}
theorem Xfd(C:CompScope X N cap scope)(ok:X.Ok):∀x∈scope.names,x.2 = .free->∃c,X.env.cells.lookup x.1=some c:=λx hx hf=>ok.has x.1 (C.free x hx hf)
theorem Xf1(C:CompScope X N cap scope)(ok:X.Ok){x:Str}{c:Addr}(h:(Xec X.env scope.names []).lookup x=some c):X.env.cells.lookup x=some c:=by
 rcases Xh7 scope.names [] (Xfd C ok) h with q | q
 ·simp at q
 ·exact q
theorem Xmd(C:CompScope X N cap scope)(ok:X.Ok){x:Str}(h:scope.names.lookup x=some .free):∃c,(Xec X.env scope.names []).lookup x=some c:=
 X1f.mp (Xfb scope.names [] (.inr (PySem.mem_of_lookup h)))
theorem Xjg(C:CompScope X N cap scope)(ok:X.Ok){h:Heap}(hz:h.objs.size=s.heap.objs.size+1){x:Str}{c:Addr}(e:(Xjf X scope s).lookup x=some c):
  (s.heap.objs.size<c/\scope.names.lookup x=some .cell/\(pushCells h scope.names).IsCell c none)\/(scope.names.lookup x=some .free/\X.env.cells.lookup x=some c):=by
 unfold Xjf at e
 rw[<-hz] at e
 rcases Xfc scope.names h _ x c e with ⟨a1,a2,a3⟩ | a
 ·exact .inl ⟨by omega,C.uniq _ a2,a3⟩
 ·refine .inr ⟨?_,Xf1 C ok a⟩
  rcases Xgo scope.names [] a with q | q
  ·simp at q
  ·exact C.uniq _ q
theorem Xry(C:CompScope X N cap scope)(I:Inv X pins σ H s)(hf:∀b∈fp,FpOk X pins H b)(hfl:∀b∈fp,b<s.heap.objs.size){tk:Nat}:
  Inv (X.comp N scope s H fp) [] (capS cap σ) H {s with heap:=pushCells (s.heap.push {cls:=.type "dict",data:=.dict #[]}) scope.names,toks:=tk}:=by
 have hC:H s.heap.objs.size=none:=I.hok.fresh (Xzn _)
 have hz:(s.heap.push {cls:=.type "dict",data:=.dict #[]}).objs.size=s.heap.objs.size+1:=Heap.size_push ..
 have hns:(pushCells (s.heap.push {cls:=.type "dict",data:=.dict #[]}) scope.names).Ns s.heap.objs.size λ_=>none:=(Heap.Ns.new s.heap (.type "dict")).keeps (pushCells_keeps _ _)
 have hk:∀b o,s.heap.get? b=some o->(pushCells (s.heap.push {cls:=.type "dict",data:=.dict #[]}) scope.names).get? b=some o:=λb o e=>pushCells_keeps _ _ b o (X3o _ e)
 have look:∀{x c},(X.comp N scope s H fp).env.cells.lookup x=some c->_:=λ{x c} h=>Xjg (s:=s) C I.ok hz h
 have clt:∀x c,X.env.cells.lookup x=some c->c<s.heap.objs.size:=λx c h=>by
  obtain⟨v,q⟩:=I.cell x c h
  exact q.lt
 have kind:∀x k,(relabel scope X.env).names.lookup x=some k->k = .cell\/k = .free->scope.names.lookup x=some .cell\/scope.names.lookup x=some .free:=λx k e hk=>by
  obtain⟨k0,e0,z⟩:=Xd7 e
  rcases z with z | z
  ·rw[<-z] at e0
   rcases hk with q | q
   ·rw[q] at e0;exact .inl e0
   ·rw[q] at e0;exact .inr e0
  ·rw[z] at e0;exact .inr e0
 refine⟨⟨I.ok.mod,C.kind,I.ok.glob,I.ok.blt,Xzn _,?inj,λx hx=>?has,λx c h e=>?cab,I.ok.hd,I.ok.frames,.inl rfl,λb hb=>⟨Xzs (hfl b hb),λx c h=>?exf⟩,
   I.bs,X0c I.ok.bsz I.sz,λb o e hb=>?noex,λb hb hs=>?exfs,I.stack,I.stkFree⟩,
  rfl,I.bare,Un.kept hk,⟨_,hns,λi x v h1' h2 h3=>?loc⟩,λx c h=>?cell,hC,λx c h=>?freeC,λp hp=>absurd (show p∈([]:List (Addr×Obj)) from hp) (by simp),I.hok.kept hk,?len⟩
 case inj=>
  refine Xgn scope.names _ _ (λx y c e1 e2=>I.ok.inj x y c (Xf1 C I.ok e1) (Xf1 C I.ok e2)) λx c e=>X03 (clt x c (Xf1 C I.ok e))
 case has=>
  have hx':(relabel scope X.env).names.lookup x=some .cell\/(relabel scope X.env).names.lookup x=some .free:=hx
  refine X1f.mp (PySem.W.cellsFrom_some scope.names _ _ ?_)
  rcases (hx'.elim (λq=>kind x _ q (.inl rfl)) λq=>kind x _ q (.inr rfl)) with q | q
  ·exact .inl q
  ·obtain⟨c,hc⟩:=Xmd C I.ok q
   exact .inr (by rw[hc];rfl)
 case cab=>
  have h:scope.names.lookup x=some .cell:=X3l h
  rcases look e with ⟨a,_⟩ | ⟨a,_⟩
  ·exact X2e a
  ·rw[h] at a;cases a
 case exf=>
  rcases look h with ⟨a,_⟩ | ⟨_,a⟩
  ·exact λz=>X0n _ (X1i a (by rw[z];exact hfl b hb))
  ·exact(hf b hb).2.2.2.2.1 x c a
 case noex=>
  obtain⟨_,_,_,z,_⟩:=hf b hb
  rcases z with z | z
  ·exact I.ok.noex b o e z
  ·exact absurd (Xz5 (X3n e) (X0c I.ok.bsz z)) (X0n _)
 case exfs=>
  obtain⟨_,f1,f2,_⟩:=hf b hb
  rcases Xzw.mp (I.stkSub b hs) with e | e
  ·exact f1 e
  ·exact f2 e
 case loc=>
  have h2':(cap.map λo=>o.bind λj=>(σ[j]?).join)[i]? = some (some v):=h2
  rw[Xz1] at h2'
  cases hc:cap[i]? with
  | none=>rw[hc] at h2';cases h2'
  | some o=>
   rw[hc] at h2'
   cases o with
   | none=>cases h2'
   | some j=>
    have h2'':(σ[j]?).join=some v:=Xzx h2'
    have hσ : σ[j]? = some (some v):=by
     cases hj : σ[j]? with
     | none=>rw[hj] at h2'';cases h2''
     | some o=>rw[hj] at h2'';exact congrArg some h2''
    obtain⟨hN,hfr⟩:=C.cap i x j h1' hc
    obtain⟨m,hn,hl⟩:=I.loc
    have hkind:X.env.kindOf x=some .cell\/X.env.kindOf x=some .free:=C.free (x,.free) (PySem.mem_of_lookup hfr) rfl
    obtain⟨u,r,l⟩:=hl j x v hN hσ (by rcases hkind with q | q;exact .inr (.inl q);exact .inr (.inr q))
    refine⟨u,r,.inr ⟨?_,?_⟩⟩
    ·show (relabel scope X.env).names.lookup x=some .cell\/(relabel scope X.env).names.lookup x=some .free
     have:=Xfv (env:=X.env) hfr
     have e:(relabel scope X.env).names.lookup x=_:=this
     rw[e]
     split
     ·exact .inl rfl
     ·exact .inr rfl
    ·obtain⟨c,hcl⟩:=Xmd C I.ok hfr
     obtain⟨c2,hc2⟩:=X1f.mp (PySem.W.cellsFrom_some scope.names (s.heap.objs.size+1) (Xec X.env scope.names []) (x:=x) (.inr (by rw[hcl];rfl)))
     rcases look (x:=x) (c:=c2) hc2 with ⟨_,a,_⟩ | ⟨_,a⟩
     ·rw[hfr] at a;cases a
     ·rcases l with ⟨k,_⟩ | ⟨_,c',e,z⟩
      ·rcases hkind with q | q
       ·rw[k] at q;cases q
       ·rw[k] at q;cases q
      ·rw[a] at e
       cases e
       obtain⟨o,ho,hd⟩:=z
       exact⟨c2,hc2,o,hk c2 o ho,hd⟩
 case cell=>
  rcases look h with ⟨_,_,a⟩ | ⟨_,a⟩
  ·exact⟨none,a⟩
  ·obtain⟨v,o,ho,hd⟩:=I.cell x c a
   exact⟨v,o,hk c o ho,hd⟩
 case freeC=>
  rcases look h with ⟨a,_⟩ | ⟨_,a⟩
  ·exact I.hok.fresh (X2e a)
  ·exact I.freeC x c a
 case len=>
  show (cap.map _).length=N.length
  rw[Xzk,C.len]
end
def Xy7 (cap:List (Option Nat)) (wi:TI) (g:TG) (tt:TT) (te:TE):TE:=fun σ H Q=>wi σ H λJ H1=>tBlk cap g tt te J σ H1 λD H2=>Q (.ref D) H2
def Xw5 (i:Nat) (cap:List (Option Nat)) (wi:TI) (g:TG) (tt:TT) (te:TE):TS:=λD σ H=>wi σ H λJ H1=>tBlk cap g tt te J σ H1 λl H2=>D.nx (σ.set i (some (.ref l))) H2
theorem Xbm.there{P:Program}{w:World}{H:Hp}{h:Heap}{a:Addr}{o:HO}(x:Xbm P w H h a o):∃u,h.get? a=some u:=by
 cases o with
 | lst xs=>obtain⟨_,_,_,_,e⟩:=x;exact⟨_,e⟩
 | tup xs=>obtain⟨_,_,_,o,e,_⟩:=x;exact⟨_,e⟩
 | dK kvs=>obtain⟨_,_,_,_,o,_,_,e,_⟩:=x;exact⟨_,e⟩
 | dT kvs=>obtain⟨_,_,_,_,o,_,_,e,_⟩:=x;exact⟨_,e⟩
 | set S n=>obtain⟨o,_,_,_,e,_⟩:=x;exact⟨_,e⟩
 | ins C dx fs=>obtain⟨_,_,_,e,_⟩:=x;exact⟨_,e⟩
 | own y=>exact x
 | xd fs=>obtain⟨_,⟨_,_,_,e,_⟩,_⟩:=x;exact⟨_,e⟩
 | rng lo hi=>obtain⟨_,_,_,e⟩:=x;exact⟨_,e⟩
 | frz ob u=>obtain⟨e,_⟩:=x;exact⟨_,e⟩
 | tbl ps=>exact⟨_,(show h.get? a=some _ from x)⟩
 | met f y=>exact⟨_,(show h.get? a=some _ from x)⟩
 | ext φ=>obtain⟨_,e,_⟩:=x;exact e
structure Flown (P:Program) (w:World) (outer:List Env) (H:Hp) (hc:Heap) (H':Hp) (ex C:Addr) (B:Heap) (a0:Value) (h:Heap):Prop where
 un:Un (frs outer) [] H H' hc h
 hok:HOk P w H' h
 fly:Heap.FlyingW B outer ex (.ref C) a0 h
 inB:∀b o,h.get? b=some o->b∉frs outer->((∃o',hc.get? b=some o')\/H' b≠none)->B.get? b=some o
 frf:∀b∈frs outer,H' b=none
theorem Flown.move{P:Program}{w:World}{outer:List Env}{H H':Hp}{hc B h h':Heap}{ex C:Addr}{a0:Value}(F:Flown P w outer H hc H' ex C B a0 h)(st:B.StaysIn h')(up:h.UpToSlots h'):
  Un (frs outer) [] H H' hc h'/\HOk P w H' h'/\∀b o,h'.get? b=some o->b∉frs outer->((∃o',hc.get? b=some o')\/H' b≠none)->B.get? b=some o:=by
 have nf:∀b∈frs outer,∀o,h.get? b=some o->∀vs,o.data ≠ .fields vs:=λb hb o e=>by
  obtain⟨_,o',e',d⟩:=F.fly.2.2.1.mem hb
  rw[e] at e';cases e'
  exact d
 have tr:∀b o,H' b=some o->b∉frs outer:=λb o e hb=>by rw[F.frf b hb] at e;cases e
 have old:∀b,(∃o',hc.get? b=some o')\/H' b≠none->∃o,h.get? b=some o:=λb hb=>by
  rcases hb with ⟨o',e⟩ | hb
  ·obtain⟨o,e'⟩:=F.un.there b o' e (by simp)
   exact⟨o,e'⟩
  ·cases q:H' b with
   | none=>exact absurd q hb
   | some u=>exact(F.hok b u q).there
 refine⟨⟨λb o e n hb hx=>?_,λb o e n hb hx=>?_,F.un.free,λb o e hx=>?_,F.un.tups,F.un.frzs,F.un.tbls⟩,λa o e=>?_,λb o e hb hw=>?_⟩
 ·exact st b o (F.inB b o (F.un.keep b o e n hb hx) hb (.inl ⟨o,e⟩))
 ·obtain⟨sl,e1⟩:=F.un.slot b o e n hb hx
  obtain⟨sl',e2⟩:=up b _ e1 (nf b hb _ e1)
  exact⟨sl',e2⟩
 ·obtain⟨o1,e1⟩:=F.un.there b o e hx
  by_cases hb:b∈frs outer
  ·obtain⟨sl',e2⟩:=up b _ e1 (nf b hb _ e1)
   exact⟨_,e2⟩
  ·exact⟨o1,st b o1 (F.inB b o1 e1 hb (.inl ⟨o,e⟩))⟩
 ·refine(F.hok a o e).stay (λb u hb q=>?_) (λ_ q=>q) λ_ _ q=>q
  have hn:H' b≠none:=by
   rcases hb with z | z
   ·rw[z,e];simp
   ·rw[z];simp
  have hb':b∉frs outer:=λz=>hn (F.frf b z)
  exact st b u (F.inB b u q hb' (.inr hn))
 ·obtain⟨o1,e1⟩:=old b hw
  have e2:=F.inB b o1 e1 hb hw
  have e3:=st b o1 e2
  rw[e] at e3;cases e3
  exact e2
def CX1 (P:Program) (w:World):CXT:=λouter H s E e s'=>
 ∃ex C H' B a0,e = .ref ex/\s'.os=s.os/\AllBare s'.gens/\Flown P w outer H s.heap H' ex C B a0 s'.heap/\E (.ref C) none H'
section
variable {P:Program}{w:World}{K:PySem.W.Frag}{mg:Str->Option Value}{base:Heap}{N:List Str}{qual:Str}{scope:Scope}{f:Addr}{cd:Value}{A:Around}{outer:List Env}{s:Shared}{H:Hp}{E:XK}
def Leaves (X:Cx) (E:XK):Prop:=∀(pins:List (Addr×Obj)) (σ:St) (H:Hp) (s:Shared) (h':Heap) (ex C:Addr) (args:List Value),
 Inv X pins σ H s->Heap.MadeExcOf s.heap h' ex (.ref C) args->E (.ref C) none H->X.xe (.ref ex) {s with heap:=h'}
theorem leaves1:Leaves (cxOf (CX1 P w) P w K mg base N qual scope f cd A outer s H E) E:=by
 intro pins σ H1 s1 h' ex C args I hm hE
 show wpAny (model P w) (A.deeper (envOfC qual scope s.heap.objs.size f cd)) (leaving (envOfC qual scope s.heap.objs.size f cd) (.ref ex)) _ _ {s1 with heap:=h'}
 have hst:(cxOf (CX1 P w) P w K mg base N qual scope f cd A outer s H E).stack=envOfC qual scope s.heap.objs.size f cd::outer:=rfl
 have hin:∀env∈(envOfC qual scope s.heap.objs.size f cd::outer),∀b,env.frame=some b->b∈frs (envOfC qual scope s.heap.objs.size f cd::outer):=λenv he b hb=>X2y.mpr ⟨env,he,hb⟩
 have hFun:s1.heap.FunFrames base (envOfC qual scope s.heap.objs.size f cd::outer):=I.stack
 have hB:(PySem.W.hideAll s1.heap (frs (envOfC qual scope s.heap.objs.size f cd::outer))).StaysIn s1.heap:=λb o q=>PySem.W.of_hideAll _ q
 have getB:∀b o,s1.heap.get? b=some o->b∉frs (envOfC qual scope s.heap.objs.size f cd::outer)->(PySem.W.hideAll s1.heap (frs (envOfC qual scope s.heap.objs.size f cd::outer))).get? b=some o:=λb o e n=>PySem.W.hideAll_get _ e n
 have sub:∀b,b∈frs (envOfC qual scope s.heap.objs.size f cd::outer)->b=s.heap.objs.size\/b∈frs outer:=λb hb=>Xzw.mp (I.stkSub b hb)
 have sup:∀b,b∈frs outer->b∈frs (envOfC qual scope s.heap.objs.size f cd::outer):=λb hb=>by
  unfold frs at hb ⊢
  rw[X07]
  split
  ·exact hb
  ·exact Xzo _ hb
 have frFree:∀b,b∈frs (envOfC qual scope s.heap.objs.size f cd::outer)->H1 b=none:=λb hb=>I.stkFree b hb
 refine wpAny_leaves_madeW (A:=A.deeper (envOfC qual scope s.heap.objs.size f cd)) (L:=s.heap.objs.size) I.ok.frames rfl hB (PySem.W.funFrames_hide hFun hin) hm λh'' t f1 _ _ up=>?_
 have old:∀b o,s.heap.get? b=some o->b∉frs outer->b∉frs (envOfC qual scope s.heap.objs.size f cd::outer):=λb o e nb hb=>by
  rcases sub b hb with z | z
  ·exact absurd (X3n e) (by rw[z];exact X0n _)
  ·exact nb z
 have nf:∀b∈frs (envOfC qual scope s.heap.objs.size f cd::outer),∀o,s1.heap.get? b=some o->∀vs,o.data ≠ .fields vs:=λb hb o e=>by
  obtain⟨_,o',e',d⟩:=hFun.mem hb
  rw[e] at e';cases e'
  exact d
 refine⟨ex,C,H1,_,_,rfl,I.os,I.bare,⟨⟨λb o e n hb hx=>?_,λb o e n hb hx=>?_,I.base.free,λb o e hx=>?_,I.base.tups,I.base.frzs,I.base.tbls⟩,λa o e=>?_,f1,λb o e hb hw=>?_,λb hb=>frFree b (sup b hb)⟩,hE⟩
 ·exact f1.1 b o (getB b o (I.base.keep b o e n hb hx) (old b o e hb))
 ·obtain⟨sl,e1⟩:=I.base.slot b o e n hb hx
  obtain⟨sl',e2⟩:=up b _ (hm.keeps _ _ e1) (nf b (sup b hb) _ e1)
  exact⟨sl',e2⟩
 ·obtain⟨o1,e1⟩:=I.base.there b o e hx
  by_cases hb:b∈frs (envOfC qual scope s.heap.objs.size f cd::outer)
  ·obtain⟨sl',e2⟩:=up b _ (hm.keeps _ _ e1) (nf b hb _ e1)
   exact⟨_,e2⟩
  ·exact⟨o1,f1.1 b o1 (getB b o1 e1 hb)⟩
 ·refine(I.hok a o e).stay (λb u hb q=>?_) (λ_ q=>q) λ_ _ q=>q
  have hn:H1 b≠none:=by
   rcases hb with z | z
   ·rw[z,e];simp
   ·rw[z];simp
  exact f1.1 b u (getB b u q λz=>hn (frFree b z))
 ·have:∃o1,s1.heap.get? b=some o1/\b∉frs (envOfC qual scope s.heap.objs.size f cd::outer):=by
   rcases hw with ⟨o',e'⟩ | hw
   ·obtain⟨o1,e1⟩:=I.base.there b o' e' (λz=>absurd (show b∈([]:List Addr) from z) (by simp))
    exact⟨o1,e1,old b o' e' hb⟩
   ·cases q:H1 b with
    | none=>exact absurd q hw
    | some u=>
     obtain⟨o1,e1⟩:=(I.hok b u q).there
     exact⟨o1,e1,λz=>hw (frFree b z)⟩
  obtain⟨o1,e1,nb⟩:=this
  have e2:=getB b o1 e1 nb
  have e3:=f1.1 b o1 e2
  rw[e] at e3;cases e3
  exact e2
theorem pass1:Passes (CX1 P w) (cxOf (CX1 P w) P w K mg base N qual scope f cd A outer s H E) E:=by
 intro pins σ H1 s1 e s' I h
 obtain⟨ex,C,H',B,a0,rfl,hos,hbare,F,hE⟩:=h
 show wpAny (model P w) (A.deeper (envOfC qual scope s.heap.objs.size f cd)) (leaving (envOfC qual scope s.heap.objs.size f cd) (.ref ex)) _ _ s'
 have sub:∀b,b∈frs (envOfC qual scope s.heap.objs.size f cd::outer)->b=s.heap.objs.size\/b∈frs outer:=λb hb=>Xzw.mp (I.stkSub b hb)
 have sup:∀b,b∈frs outer->b∈frs (envOfC qual scope s.heap.objs.size f cd::outer):=λb hb=>by
  unfold frs at hb ⊢
  rw[X07]
  split
  ·exact hb
  ·exact Xzo _ hb
 have old:∀b o,s.heap.get? b=some o->b∉frs outer->b∉frs (envOfC qual scope s.heap.objs.size f cd::outer):=λb o e nb hb=>by
  rcases sub b hb with z | z
  ·exact absurd (X3n e) (by rw[z];exact X0n _)
  ·exact nb z
 have F':Flown P w (envOfC qual scope s.heap.objs.size f cd::outer) H1 s1.heap H' ex C B a0 s'.heap:=F
 refine wpAny_leaves_onW (A:=A.deeper (envOfC qual scope s.heap.objs.size f cd)) (L:=s.heap.objs.size) I.ok.frames rfl F'.fly λh'' f1 up=>?_
 obtain⟨un,hok,inB⟩:=F'.move f1.1 up
 refine⟨ex,C,H',B,a0,rfl,hos.trans I.os,hbare,⟨?_,hok,f1,λb o e hb hw=>?_,λb hb=>F'.frf b (sup b hb)⟩,hE⟩
 ·have un0:Un (frs outer) [] H H1 s.heap s1.heap:=I.base
  refine⟨λb o e n hb hx=>?_,λb o e n hb hx=>?_,λb o e n hx=>?_,λb o e hx=>?_,λb xs e=>un.tups b xs (un0.tups b xs e),λb ob u e=>un.frzs b ob u (un0.frzs b ob u e),λb ps e=>?_⟩
  ·exact un.keep b o (un0.keep b o e n hb hx) (un0.free b o e n hx) (old b o e hb) hx
  ·obtain⟨sl,e1⟩:=un0.slot b o e n hb hx
   obtain⟨sl',e2⟩:=un.slot b _ e1 (un0.free b o e n hx) (sup b hb) hx
   exact⟨sl',e2⟩
  ·obtain⟨o1,e1⟩:=un0.there b o e hx
   exact un.free b o1 e1 (un0.free b o e n hx) hx
  ·obtain⟨o1,e1⟩:=un0.there b o e hx
   exact un.there b o1 e1 hx
  ·obtain⟨m1,e1⟩:=un0.tbls b ps e
   obtain⟨m2,e2⟩:=un.tbls b _ e1
   exact⟨m1++m2,by rw[e2,Array.append_assoc]⟩
 ·refine inB b o e ?_ ?_
  ·rcases hw with ⟨o',e'⟩ | hw
   ·exact old b o' e' hb
   ·intro z
    exact hw (F'.frf b z)
  ·rcases hw with ⟨o',e'⟩ | hw
   ·obtain⟨o1,e1⟩:=(show Un (frs outer) [] H H1 s.heap s1.heap from I.base).there b o' e' (by simp)
    exact .inl ⟨o1,e1⟩
   ·exact .inr hw
end
abbrev bmV:List Value:=[.type "ValueError",.type "Exception",.type "BaseException",.type "object"]
theorem Xo7{K:PySem.W.Frag}{h:Heap}{C:Addr}{bmB:List Value}{newId:String}(X:K.In h)(q:PySem.W.excIn K C bmB newId=true):
  ∃bm N nm q bs hdct sn sub ab col dd k0 k1 k2 k3 k5 mN,h.get? C=some (excClassObj nm q C N bs bm hdct sn sub ab col dd k0 k1 k2 k3 k5 newId)/\h.Ns N mN/\mN "__init__" = none/\OwnTail h bmB bm:=by
 unfold PySem.W.excIn at q
 split at q
 ·rename_i dd cd sl ho
  split at q
  ·rename_i C' bm k0 k1 k2 k3 n k5 hm hs
   simp only[Xz3,beq_iff_eq,X26] at q
   obtain⟨⟨⟨⟨⟨rfl,rfl⟩,hdel⟩,ht⟩,hok⟩,hni⟩:=q
   obtain⟨nm,bs,mro,ns,qn,hd,sn,sub,ab,col,del⟩:=cd
   dsimp only at hm hdel hok hni
   subst hm hdel
   have hsl:sl = #[k0,k1,k2,k3,some (.builtin n),k5]:=by
    obtain⟨l⟩:=sl
    simp only at hs
    rw[hs]
   subst hsl
   exact⟨bm,ns,nm,qn,bs,hd,sn,sub,ab,col,dd,k0,k1,k2,k3,k5,_,X _ _ ho,.of_isNs (PySem.W.isNs_of_in X hok),PySem.W.nsMap_none_of_in X hok hni,PySem.W.tail_of_in X ht⟩
  ·cases q
 ·cases q
def Xw6 (C:Addr) (E:XK) (t:TA):TS:=λ_ σ H=>t σ H λvs H1=>vs.length<=sizeLine/\E (.ref C) none H1
theorem Xh8{X:Cx}{C:Addr}{E:XK}{x:Str}{np cpos pos:Pos}{e:Expr}{es:List Expr}{t:TA}(hc:PySem.W.excIn X.K C bmV "ValueError.__new__" = true)(hcalm:X.calm=true)(hx:Leaves X E)(hg:Gl X x)(hm:X.mg x=some (.ref C))
  (ha:PA X (e::es) t) (hdb:(x==("__debug__" : Str))=false:=by decide) (he:starEach (e::es) X.env=(false,eval e X.env)::starEach es X.env:=by rfl) (hpl:(backTo cpos (starEach es X.env)).any (·.1)=false:=by rfl):
  PS X (.Raise (some (.Call (.Name x np) (e::es) [] cpos)) none pos) (Xw6 C E t):=by
 intro pins s σ H D I h
 obtain⟨tl,N,nm,q,bs,hdct,sn,sub,ab,col,dd,k0,k1,k2,k3,k5,mN,hC,hN,hni,T⟩:=Xo7 I.mod.kin hc
 refine wpAny_Raise_call_subT (C:=C) (nm:=nm) (q:=q) (N:=N) (bs:=bs) (bm:=tl) (hdct:=hdct) (sn:=sn) (sub:=sub) (ab:=ab) (col:=col) (dd:=dd) (k0:=k0) (k1:=k1) (k2:=k2) (k3:=k3) (k5:=k5)
  PySem.F.excBase_ValueError (mN:=mN) (T.hasType PySem.F.excBase_ValueError.hasBase) (I.ok.hd hcalm) (by rw[he];show (false||(backTo cpos (starEach es X.env)).any (·.1))=false;rw[hpl];rfl) hni (Xgg I hg hm ⟨rfl,?_⟩ hdb)
 have hh:=thn (ha cpos pins s σ H _ I h) (Q':=λvs s₂=>vs.length<=sizeLine/\(∀b o,X.base.get? b=some o->s₂.heap.get? b=some o)/\∀h' e,Heap.MadeExcOf s₂.heap h' e (.ref C) vs->X.xe (.ref e) {s₂ with heap:=h'})
  (λus s2 ⟨vs,H2,I2,r2,hl,hE⟩=>⟨by rw[<-r2.length];exact hl,I2.bk,λh' ex hmk=>hx pins σ H2 s2 h' ex C us I2 hmk hE⟩)
 rw[he] at hh ⊢
 exact Calls.evalArgs_plain (wpAny_mono hh (λvs s₂ h₂=>⟨rfl,h₂.1,h₂.2.1 _ _ hC,hN.keeps h₂.2.1,T.keeps h₂.2.1,h₂.2.2⟩) λ_ _ y=>y)
theorem Fun.ok1{P:Program}{w:World}{K:PySem.W.Frag}{mg:Str->Option Value}{base:Heap}{x qual:Str}{st:Stmt}{f:Addr}{fd:FuncData}{N ps:List Str}{k:Nat}{sp:Sp}(F:Fun K x qual st f fd)(S:FnScope N ps (defScope st))(len:∀vs H Q E,sp vs H Q E->vs.length=ps.length)
  (hbody:∀(cdv:Value) (A:Around) (outer:List Env) (s:Shared) (H:Hp) (vs:List V) (Q:VK) (E:XK),Room k (A.deeper (envOfC qual (defScope st) s.heap.objs.size f cdv))->sp vs H Q E ->
   ∃t,PSs (cxOf (CX1 P w) P w K mg base N qual (defScope st) f cdv A outer s H E) (Xcc st) t/\t {nx:=λ_ H'=>Q .non H',rt:=Q} (start N vs) H):FnOk P w K mg base (CX1 P w) (k+1) f fd ps sp:=by
 obtain⟨oc,od,kV,doc,pm,an,cdv,ct,osl,rfl,lk,hcd⟩:=F.ex
 exact Xui lk hcd S len λA outer s H vs Q E hr hsp=>hbody cdv A outer s H vs Q E hr hsp
abbrev Cx.re (X:Cx) (pn:List (Addr×Obj)) (A:Around) (c:Bool) (E:Value->Shared->Prop):Cx:={X with pn:=pn,A:=A,calm:=c,xe:=E}
section
variable {X:Cx}{pins pins' pn:List (Addr×Obj)}{σ:St}{H:Hp}{s:Shared}{A:Around}{c:Bool}{E:Value->Shared->Prop}
theorem Inv.as(I:Inv X pins σ H s)(hd:c=true->A.handled=none)(hf:A.frames=some X.stack)(hp:∀p∈pn++pins',p∈X.pn++pins):Inv (X.re pn A c E) pins' σ H s:=
 ⟨⟨I.ok.mod,I.ok.kind,I.ok.glob,I.ok.blt,I.ok.above,I.ok.inj,I.ok.has,I.ok.cab,hd,hf,I.ok.stk,I.ok.exf,I.ok.bs,I.ok.bsz,I.ok.noex,I.ok.exfs,I.ok.funs,I.ok.frf⟩,
  I.os,I.bare,I.base,I.loc,I.cell,I.free,I.freeC,λp hp'=>I.pin p (hp p hp'),I.hok,I.len⟩
theorem Inv.back(I:Inv (X.re pn A c E) pins' σ H s)(ok:X.Ok)(hp:∀p∈X.pn++pins,p∈pn++pins'):Inv X pins σ H s:=
 ⟨ok,I.os,I.bare,I.base,I.loc,I.cell,I.free,I.freeC,λp hp'=>I.pin p (hp p hp'),I.hok,I.len⟩
theorem Inv.unbind{i:Nat}{n:Str}{m:Str->Option Value}{v:Option Value}{h':Heap}{tk:Nat}(I:Inv X pins σ H s)(hN:X.N.Nodup)(hi:X.N[i]? = some n)(hl:X.env.scope.names.lookup n=some .local)
  (hm:∀(j:Nat) (x:Str) (v:V),X.N[j]? = some x -> σ[j]? = some (some v)->Vis X.env.scope x->∃u,RelV v u/\Look X.env s.heap m x u)
  (hn:h'.Ns X.env.locals (λx=>if x=n then v else m x)) (hs:Heap.SameBut X.env.locals s.heap h'):Inv X pins (σ.set i none) H {s with heap:=h',toks:=tk}:=by
 have hiσ:i < σ.length:=by rw[I.len];exact(Xz2.mp hi).1
 have cne:=I.cne
 refine⟨I.ok,I.os,I.bare,⟨λb o e n hb hx=>?_,λb o e n hb hx=>?_,I.base.free,λb o e hx=>?_,I.base.tups,I.base.frzs,I.base.tbls⟩,⟨_,hn,λj y v' e1 e2 e3=>?_⟩,λy c e=>?_,I.free,I.freeC,λp hp=>?_,λb ob e=>?_,by simpa using I.len⟩
 ·exact(hs.2 b (Xzs (Xz5 (X3n e) I.ok.above))).trans (I.base.keep b o e n hb hx)
 ·obtain⟨sl,e1⟩:=I.base.slot b o e n hb hx
  exact⟨sl,(hs.2 b (Xzs (Xz5 (X3n e) I.ok.above))).trans e1⟩
 ·obtain⟨o',e1⟩:=I.base.there b o e hx
  exact⟨o',(hs.2 b (Xzs (Xz5 (X3n e) I.ok.above))).trans e1⟩
 ·have hj:j≠i:=by
   intro z
   subst z
   rw[X2h hiσ] at e2
   cases e2
  rw[X2p (Ne.symm hj)] at e2
  obtain⟨u,r,l⟩:=hm j y v' e1 e2 e3
  refine⟨u,r,?_⟩
  rcases l with ⟨k,e⟩ | ⟨k,c,e,z⟩
  ·refine .inl ⟨k,?_⟩
   have:y≠n:=λe=>hj (Xh1 hN e1 (e ▸ hi))
   simp[this,e]
  ·exact .inr ⟨k,c,e,z.sameBut hs (cne y c e)⟩
 ·obtain⟨w',z⟩:=I.cell y c e
  exact⟨w',z.sameBut hs (cne y c e)⟩
 ·obtain⟨e,n,ne,nf,d⟩:=I.pin p hp
  exact⟨(hs.2 p.1 ne).trans e,n,ne,nf,d⟩
 ·refine(I.hok b ob e).stay (λc' w' hc q=>(hs.2 c' ?_).trans q) (λ_ q=>q) λ_ _ q=>q
  rintro rfl
  rcases hc with z | z
  ·rw[<-z,I.free] at e;cases e
  ·rw[I.free] at z;cases z
theorem Inv.track{a:Addr}{φ : Heap->Prop}(I:Inv X pins σ H s)(hn:H a=none)(h0:X.s₀.heap.get? a=none)(hL:a≠X.env.locals)(hc:∀x c,X.env.cells.lookup x=some c->c≠a)(hp:∀p∈X.pn++pins,p.1≠a)
  (h1 : φ s.heap) (h2:∃o,s.heap.get? a=some o) (h3:∀h1 h2:Heap, φ h1->(∀o,h1.get? a=some o->h2.get? a=some o) -> φ h2):Inv X pins σ (upd H a (.ext φ)) s:=by
 refine⟨I.ok,I.os,I.bare,⟨I.base.keep,I.base.slot,λb o e n hx=>?_,I.base.there,λb xs e=>?_,λb o u e=>?_,λb ps e=>?_⟩,I.loc,I.cell,?_,λx c e=>?_,λp hp'=>?_,λb ob e=>?_,I.len⟩
 ·rw[Xae (λz=>by rw[z,h0] at e;cases e)]
  exact I.base.free b o e n hx
 ·have q:=I.base.tups b xs e
  rw[Xae (Xaf q hn)]
  exact q
 ·have q:=I.base.frzs b o u e
  rw[Xae (Xaf q hn)]
  exact q
 ·obtain⟨more,q⟩:=I.base.tbls b ps e
  exact⟨more,by rw[Xae (Xaf q hn)];exact q⟩
 ·rw[Xae (Ne.symm hL)]
  exact I.free
 ·rw[Xae (hc x c e)]
  exact I.freeC x c e
 ·obtain⟨e,n,r⟩:=I.pin p hp'
  exact⟨e,by rw[Xae (hp p hp')];exact n,r⟩
 ·by_cases hb:b=a
  ·subst hb
   rw[Xab] at e
   cases e
   exact⟨h1,h2,h3⟩
  ·rw[Xae hb] at e
   exact(I.hok b ob e).stay (λ_ _ _ q=>q) (λc q=>by rw[Xae (Xaf q hn)];exact q) λc xs q=>by rw[Xae (Xaf q hn)];exact q
end
def excP (ex C:Addr) (h:Heap):Prop:=∃o vs,h.get? ex=some o/\o.cls = .ref C/\o.data = .fields vs
def ExcO (ex C:Addr):HO:=.ext (excP ex C)
def Cx.tryC (X:Cx) (pn:List (Addr×Obj)) (R:Addr->St->Hp->Prop):Cx:=X.re pn X.A X.calm λe s1=>
 ∃σ Hc sc,Inv (X.re pn X.A X.calm λ_ _=>True) [] σ Hc sc/\CX1 X.prog X.w X.stack Hc sc (λc _ H1=>∃C,c = .ref C/\R C σ H1) e s1
def Cx.suite (X:Cx) (pn:List (Addr×Obj)) (ex:Addr):Cx:=X.re pn (X.A.mark (some (.ref ex))) false λ_ _=>False
section
variable {X:Cx}{pn:List (Addr×Obj)}{R:Addr->St->Hp->Prop}{k:Nat}{f:Addr}{fd:FuncData}{ps:List Str}{sp:Sp}{dvs:List V}{ds:List Value}{x:Str}{p pos:Pos}{e:Expr}{es:List Expr}{t:TA}
def Xw7 (sp:Sp) (dvs:List V) (R:Addr->St->Hp->Prop) (t:TA):TE:=fun σ H Q=>t σ H λvs H1=>sp (vs++dvs) H1 Q λc _ H'=>∃C,c = .ref C/\R C σ H'
theorem Xrz(F:FnOk X.prog X.w X.K X.mg X.base (CX1 X.prog X.w) k f fd ps sp)(hr:Room k X.A)(hg:Gl X x)(hm:X.mg x=some (.ref f))(hk:PySem.W.keepIn X.K (.ref f)=true)(hb:Binds X.K fd ps ds)(hd:Vals dvs ds)
  (ha:PA (X.tryC pn R) (e::es) t) (hdb:(x==("__debug__" : Str))=false:=by decide) (he:starEach (e::es) X.env=(false,eval e X.env)::starEach es X.env:=by rfl) (hpl:(backTo pos (starEach es X.env)).any (·.1)=false:=by rfl):
  PE (X.tryC pn R) (.Call (.Name x p) (e::es) [] pos) (Xw7 sp dvs R t):=by
 intro pins s σ H Q I h
 refine wpAny_Call_Name_kw (Xgg I (show Gl (X.tryC pn R) x from hg) hm ?_ hdb)
 refine PySem.W.callWith_K (h₀:=X.base) I.ok.mod.kin hk (thn (ha pos pins s σ H _ I h) λus s1 ⟨vs,H1,I1,r,q⟩=>⟨I1.kIn,?_⟩) he hpl
 have r2:Vals (vs++dvs) (us++ds):=r.append hd
 have hl:(us++ds).length=ps.length:=by rw[<-r2.length];exact F.len _ _ _ _ q
 refine wpAny_call (codeAny_mono (F.run X.A X.stack s1 H1 ⟨us,[]⟩ (us++ds) (vs++dvs) Q _ hr I1.env0 (hb s1 us I1.kIn hl) r2 q) λr s' hq=>?_)
 cases r with
 | error e=>exact⟨σ,H1,s1,(Inv.back (X:=X.re pn X.A X.calm λ_ _=>True) (pins:=[]) I1 (I1.as (X:=X.tryC pn R) (pins':=[]) (pn:=pn) (A:=X.A) (c:=X.calm) (E:=λ_ _=>True) I1.ok.hd I1.ok.frames (λp hp=>Xzv.mpr (.inl (show p∈pn from by simpa using hp)))).ok (λp hp=>Xzv.mpr (.inl (show p∈pn from by simpa using hp)))),hq⟩
 | ok fl=>
  cases fl with
  | ret u=>exact I1.after hq
  | next=>exact False.elim hq
  | brk=>exact False.elim hq
  | cont=>exact False.elim hq
end
section
variable {X:Cx}{pos np hpos:Pos}{body:List Stmt}{b0:Stmt}{suite:List Stmt}{n x:Str}{i:Nat}{Cc:Addr}{tb:(Addr->St->Hp->Prop)->TS}{th:TS}
def tTry (K:PySem.W.Frag) (i:Nat) (Cc:Addr) (tb:(Addr->St->Hp->Prop)->TS) (th:TS):TS:=λD σ H=>∃R:Addr->St->Hp->Prop,tb R D σ H/\∀C σ1 H1,R C σ1 H1->PySem.W.exmOne K (.ref C) (.ref Cc)=some true /\
 ∀ex,H1 ex=none->th {nx:=fun σ2 H2=>D.nx (σ2.set i none) H2,rt:=D.rt,bk:=fun σ2 H2=>D.bk (σ2.set i none) H2,ct:=fun σ2 H2=>D.ct (σ2.set i none) H2} (σ1.set i (some (.ref ex))) (upd H1 ex (ExcO ex C))
theorem Xw8(hex:X.ex=[])(hst:X.stack=X.env::X.outer)(hfr:X.env.frame=some X.env.locals)(hN:X.N.Nodup)(hi:X.N[i]? = some n)(hl:X.env.scope.names.lookup n=some .local)(hg:Gl X x)(hm:X.mg x=some (.ref Cc))
  (hb:∀pn R,PSs (X.tryC pn R) body (tb R)) (hh:∀pn ex,PSs (X.suite pn ex) (b0::suite) th) (hdb:(x==("__debug__" : Str))=false:=by decide):
  PS X (.Try body [.ExceptHandler (some (.Name x np)) (some n) (b0::suite) hpos] [] [] pos) (tTry X.K i Cc tb th):=by
 intro pins s σ H D I h
 obtain⟨R,hbd,hcx⟩:=h
 have hsubs:∀p∈X.pn++pins++[],p∈X.pn++pins:=λp hp=>by simpa using hp
 have hsubs':∀p∈X.pn++pins,p∈X.pn++pins++[]:=λp hp=>by simpa using hp
 have I0:Inv (X.tryC (X.pn++pins) R) [] σ H s:=I.as I.ok.hd I.ok.frames hsubs
 refine wpAny_Try_except (wpAny_mono (hb (X.pn++pins) R [] s σ H D I0 hbd) (λfl s1 q=>?_) λe s1 q=>?_)
 ·have toX:∀{σ':St} {H':Hp},Inv (X.tryC (X.pn++pins) R) [] σ' H' s1->Inv X pins σ' H' s1:=λJ=>J.back I.ok hsubs'
  cases fl with
  | next=>
   obtain⟨σ',H',J,q⟩:=q
   exact wpAny_execs_nil ⟨σ',H',toX J,q⟩
  | brk=>
   obtain⟨σ',H',J,q⟩:=q
   exact⟨σ',H',toX J,q⟩
  | cont=>
   obtain⟨σ',H',J,q⟩:=q
   exact⟨σ',H',toX J,q⟩
  | ret u=>
   obtain⟨v, σ',H',J,r,q⟩:=q
   exact⟨v, σ',H',toX J,r,q⟩
 ·-- it flies here
  obtain⟨σ1,Hc,sc,Ic,ex,c,H1,B,a0,rfl,hos,hbare,F,C,hC,hR⟩:=q
  cases hC
  obtain⟨hx,hth⟩:=hcx c σ1 H1 hR
  have F':Flown X.prog X.w (X.env::X.outer) Hc sc.heap H1 ex c B a0 s1.heap:=by rw[<-hst];exact F
  have hfrm:X.A.frames=some (X.env::X.outer):=by rw[<-hst];exact I.ok.frames
  have step:∀(h5:Heap) (tk:Nat),B.StaysIn h5->s1.heap.UpToSlots h5->Inv (X.re (X.pn++pins) X.A X.calm λ_ _=>True) [] σ1 H1 {s1 with heap:=h5,toks:=tk}:=λh5 tk st up=>by
   obtain⟨un,hok,_⟩:=F'.move st up
   refine Ic.call' (ch:=[]) hos ?_ hok hbare (λb z=>absurd z (by simp))
   show Un (frs X.stack) [] Hc H1 sc.heap h5
   rw[hst]
   exact un
  refine wpAny_looks_onW (L:=X.env.locals) hfrm hfr F'.fly λh4 held up4=>?_
  refine wpAny_landsW held λh5 fl5 up5=>?_
  have I5:=step h5 s1.toks fl5.1 (up4.trans up5)
  have I5S:Inv (X.suite (X.pn++pins) ex) [] σ1 H1 {s1 with heap:=h5}:=Inv.as (X:=X.re (X.pn++pins) X.A X.calm λ_ _=>True) I5 (λz=>absurd z (by decide)) I.ok.frames (λp hp=>hp)
  have LT:PySem.W.Looks (model X.prog X.w) h5 (typeOf (.ref ex)) (.ref c):=by
   obtain⟨ob,hob,hobc⟩:=fl5.there
   rw[<-hobc]
   exact(PySem.W.Looks.ld hob).andThen .now
  refine wpAny_handleBy_cons (codeAny_handlers_test ?_) (by intro q;cases q)
  refine Xgg (X:=X.suite (X.pn++pins) ex) I5S (show Gl (X.suite (X.pn++pins) ex) x from hg) hm ?_ hdb
  refine(PySem.W.exm_one (I5S.kIn) LT hx).here ?_
  refine codeAny_handlers_suite_as (lands_againW fl5 λh6 fl6 up6=>?_)
  have up16:=(up4.trans up5).trans up6
  have I6:=step h6 s1.toks fl6.1 up16
  have I6S:Inv (X.suite (X.pn++pins) ex) [] σ1 H1 {s1 with heap:=h6}:=Inv.as (X:=X.re (X.pn++pins) X.A X.calm λ_ _=>True) I6 (λz=>absurd z (by decide)) I.ok.frames (λp hp=>hp)
  refine Xgf (X:=X.suite (X.pn++pins) ex) I6S hN hi (.inl hl) (show RelV (.ref ex) (.ref ex) from rfl) (λs7 I7 ⟨a7,sb7,ha7⟩=>?_) (.inr hl)
  have I7':Inv (X.suite (X.pn++pins) ex) [] (σ1.set i (some (.ref ex))) H1 s7:=I7
  obtain⟨f1,f2,f3,oe,vs,T,oT,ts,he,hce,hde,_⟩:=id fl6
  have notFr:ex∉frs (X.env::X.outer):=λz=>by
   obtain⟨_,o',e',d⟩:=f3.mem z
   rw[he] at e';cases e'
   exact d vs hde
  have inB6:=(F'.move fl6.1 up16).2.2
  have hexH:H1 ex=none:=by
   cases q:H1 ex with
   | none=>rfl
   | some u=>
    have z:=inB6 ex oe he notFr (.inr (by rw[q];simp))
    rw[f2] at z;cases z
  have hexc:sc.heap.get? ex=none:=by
   cases q:sc.heap.get? ex with
   | none=>rfl
   | some u=>
    have z:=inB6 ex oe he notFr (.inl ⟨u,q⟩)
    rw[f2] at z;cases z
  have hex0:X.s₀.heap.get? ex=none:=by
   cases q:X.s₀.heap.get? ex with
   | none=>rfl
   | some u=>
    obtain⟨o1,e1⟩:=Ic.base.there ex u q (λz=>by
     have z':ex∈X.ex:=z
     rw[hex] at z'
     cases z')
    rw[hexc] at e1;cases e1
  have hexL:ex≠X.env.locals:=λz=>notFr (by
   unfold frs
   rw[X07,hfr,z]
   exact Xzp)
  have cellNe:∀y cc,X.env.cells.lookup y=some cc->cc≠ex:=λy cc e z=>by
   obtain⟨v,o,ho,hd⟩:=I6.cell y cc e
   have ho':h6.get? cc=some o:=ho
   rw[z,he] at ho';cases ho'
   rw[hde] at hd;cases hd
  have pinNe:∀p∈(X.pn++pins)++[],p.1≠ex:=λp hp z=>by
   have:=(Ic.pin p hp).1
   rw[z,hexc] at this;cases this
  have ne7:ex≠a7:=by
   rcases ha7 with z | z
   ·rw[z];exact hexL
   ·exact λq=>cellNe n a7 z q.symm
  have he7:s7.heap.get? ex=some oe:=(sb7.2 ex ne7).trans he
  have I8:=I7'.track (a:=ex) (φ:=excP ex c) hexH hex0 hexL cellNe pinNe ⟨oe,vs,he7,hce.1,hde⟩ ⟨oe,he7⟩ (λg1 g2 ⟨o,ws,q1,q2,q3⟩ k=>⟨o,ws,k o q1,q2,q3⟩)
  have hgo:=hh (X.pn++pins) ex [] s7 _ _ _ I8 (hth ex hexH)
  refine wpAny_mono hgo (λfl s9 q9=>?_) λ_ _ z=>z.elim
  have goes:∀{σ':St} {H':Hp} {Q:Unit->Shared->Prop},Inv (X.suite (X.pn++pins) ex) [] σ' H' s9->(∀s10,Inv X pins (σ'.set i none) H' s10->Q () s10) ->
    wpAny (model X.prog X.w) X.A (do bindName X.env n .none;unbindBehindTheSuite X.env n hpos) Q X.xe s9:=λ{σ' H' Q} J k=>by
   have JX:Inv X pins σ' H' s9:=J.back I.ok hsubs'
   obtain⟨m,hns,hlk⟩:=JX.loc
   refine wpAny_nameGoes_keeps hl hns (by rw[I.ok.kind];rfl) λh' v hn' hs'=>?_
   exact k _ (JX.unbind hN hi hl hlk hn' hs')
  cases fl with
  | next=>
   obtain⟨σ',H',J,q⟩:=q9
   exact goes J λs10 I10=>⟨_,H',I10,q⟩
  | brk=>
   obtain⟨σ',H',J,q⟩:=q9
   exact goes J λs10 I10=>⟨_,H',I10,q⟩
  | cont=>
   obtain⟨σ',H',J,q⟩:=q9
   exact goes J λs10 I10=>⟨_,H',I10,q⟩
  | ret u=>
   obtain⟨v, σ',H',J,r,q⟩:=q9
   exact goes J λs10 I10=>⟨v,_,H',I10,r,q⟩
end
section
variable {X:Cx}{pos p2:Pos}{e:Expr}{te:TE}
def tRev (K:PySem.W.Frag) (te:TE):TE:=fun σ H Q=>te σ H λx H1=>∃a xs,x = .ref a/\SqL K H1 a xs/\∀p,H1 p=none->Q (.ref p) (upd H1 p (.lst xs.reverse))
theorem Xo8{k:Nat}{p3 p4:Pos}(he:PE X e te):PE X (.Subscript e (.Slice none none (some (.UnaryOp .USub (.Constant (.int 1) k p3) p4)) p2) pos) (tRev X.K te):=by
 intro pins s σ H Q I h
 refine Subscript_ (thn (he pins s σ H _ I h) λv s1 ⟨x,H1,I1,r1,q1⟩=>?_)
 have hstep:PE X (.UnaryOp .USub (.Constant (.int 1) k p3) p4) (tUn (rU λi=>.int (-i)) (tC (.int 1))):=Xwp Xto Xah
 refine wpAny_Slice ?_
 rw[evalPart_none]
 refine X3f (X3f ?_)
 rw[evalPart_some]
 refine thn (hstep pins s1 σ H1 (λy H2=>y = .int (-1)/\H2=H1) I1 ⟨1,rfl,rfl,rfl⟩) λu s2 ⟨y,H2,I2,r2,ey,eH⟩=>?_
 subst ey eH
 obtain⟨t,rfl⟩:=r2
 obtain⟨a,xs,ex,hx,q⟩:=q1
 subst ex
 cases r1
 obtain⟨its,r,ht,hz⟩:=I2.list hx
 have I4:Inv X pins σ H2 {s2 with heap:=s2.heap.push {cls:=.type "slice",data:=.fields #[.none,.none,.int (-1) t]} }:=I2.kept (t':=s2.toks) λb ob q=>X3o _ q
 obtain⟨its4,r4,ht4,hz4⟩:=I4.list hx
 have hlen:=r4.length
 refine tail_any (ops:=[.ref a,.ref s2.heap.objs.size]) ht4.isList.typeIs slot_list_getitem.lookup (wpAny_getItem_list_slice ht4.isList (Heap.IsSliceOf.new ..) .none .none (.int (-1) t) (by simp) ?_ (by rw[Xzm]<;>omega)) (by with_unfolding_all rfl)
 rw[PySem.W.krv_pick]
 refine⟨.ref _,_,I4.laid (t':=s2.toks) (o:=.lst xs.reverse) (λb ob q=>X3o _ q) (Xzn _) ?_,rfl,q _ (I4.hok.fresh (Xzn _))⟩
 exact⟨by rw[X08];exact hz4,_,0,Vals.reverse r4,Heap.get?_push_size _ rfl⟩
def eqVL (xs ys:List V):Bool:=(xs.length==ys.length)&&(List.range xs.length).all λj=>eqV (xs.getD j .non) (ys.getD j .non)
theorem Xh9:∀(xs ys:List Str),eqVL (xs.map V.str) (ys.map V.str)=decide (xs=ys):=by
 intro xs ys
 unfold eqVL
 rw[Xzk,Xzk]
 by_cases e:xs=ys
 ·subst e
  simp only[beq_self_eq_true,X06,decide_true]
  rw[Xz8]
  intro j hj
  have hj':j<xs.length:=X0v.mp hj
  simp[List.getD,hj',eqV]
 ·rw[X3k e]
  by_cases hl:xs.length=ys.length
  ·cases hb:((xs.length==ys.length)&&(List.range xs.length).all λj=>eqV ((xs.map V.str).getD j .non) ((ys.map V.str).getD j .non)) with
   | false=>rfl
   | true=>
    exfalso
    refine e (X2c hl λj h1 h2=>?_)
    rw[Xz3,Xz8] at hb
    have q:=hb.2 j (X0v.mpr h1)
    simp[List.getD,h1,h2,eqV] at q
    exact q
  ·have:(xs.length==ys.length)=false:=by simpa using hl
   rw[this,X0w]
def rEqL (K:PySem.W.Frag) (g:Bool->Bool):R2:=λx y H Q=>∃a b xs ys,x = .ref a/\y = .ref b/\SqL K H a xs/\SqL K H b ys/\(∀v∈xs,Xdd v=true)/\(∀v∈ys,Xdd v=true)/\Q (.bl (g (eqVL xs ys))) H
theorem Xhn{A:Around}{s:Shared}{xs ys:List V}{us vs:List Value}(rx:Vals xs us)(ry:Vals ys vs)(fx:∀v∈xs,Xdd v=true)(fy:∀v∈ys,Xdd v=true)(j:Nat)(h1:j<us.toArray.size)(h2:j<vs.toArray.size):
  SeqAt.EqAt A s us.toArray[j] vs.toArray[j] (eqV (xs.getD j .non) (ys.getD j .non)):=by
 have l1:=rx.length
 have l2:=ry.length
 rw[Xzm] at h1 h2
 have g1:xs[j]? = some (xs[j]'(by omega)):=Xzl (by omega)
 have g2:ys[j]? = some (ys[j]'(by omega)):=Xzl (by omega)
 obtain⟨u,hu,ru⟩:=rx.get g1
 obtain⟨v,hv,rv⟩:=ry.get g2
 have e1:us.toArray[j]=u:=by
  rw[X2q]
  rw[Xzl h1] at hu
  exact Xzx hu
 have e2:vs.toArray[j]=v:=by
  rw[X2q]
  rw[Xzl h2] at hv
  exact Xzx hv
 rw[e1,e2]
 have d1:xs.getD j .non=xs[j]'(by omega):=by simp[List.getD,g1]
 have d2:ys.getD j .non=ys[j]'(by omega):=by simp[List.getD,g2]
 rw[d1,d2]
 exact Xtp ru rv (fx _ (X0b _)) (fy _ (X0b _))
theorem Xts(hu:X.A.units<cLine):OpR X (compareOp .Eq) (rEqL X.K id):=by
 intro pins s σ H x y v u Q I rx ry h
 obtain⟨a,b,xs,ys,rfl,rfl,hx,hy,fx,fy,q⟩:=h
 cases rx
 cases ry
 obtain⟨us,r1,p1,z1⟩:=I.list hx
 obtain⟨vs,r2,p2,z2⟩:=I.list hy
 have l1:=r1.length
 have l2:=r2.length
 by_cases hl:xs.length=ys.length
 ·refine SeqAt.eq_listAt (e:=λj=>eqV (xs.getD j .non) (ys.getD j .non)) p1.isList p2.isList (by rw[Xzm,Xzm];omega) hu (λj h1 h2=>Xhn r1 r2 fx fy j h1 h2) ?_
  refine⟨.bl (eqVL xs ys),H,I,?_,q⟩
  show Value.bool _=Value.bool (eqVL xs ys)
  unfold eqVL
  rw[Xzm,<-l1,hl,beq_self_eq_true,X06]
 ·refine SeqAt.eq_list_lengthsAt p1.isList p2.isList (by rw[Xzm,Xzm];simpa using (by omega:us.length≠vs.length)) hu ?_
  refine⟨.bl (eqVL xs ys),H,I,?_,q⟩
  show Value.bool _=Value.bool (eqVL xs ys)
  unfold eqVL
  have:(xs.length==ys.length)=false:=by simpa using hl
  rw[this,X0w]
theorem Xtt(hu:X.A.units<cLine):OpR X (compareOp .NotEq) (rEqL X.K not):=by
 intro pins s σ H x y v u Q I rx ry h
 obtain⟨a,b,xs,ys,rfl,rfl,hx,hy,fx,fy,q⟩:=h
 cases rx
 cases ry
 obtain⟨us,r1,p1,z1⟩:=I.list hx
 obtain⟨vs,r2,p2,z2⟩:=I.list hy
 have l1:=r1.length
 have l2:=r2.length
 by_cases hl:xs.length=ys.length
 ·refine SeqAt.RcNeAt.lists (e:=λj=>eqV (xs.getD j .non) (ys.getD j .non)) p1.isList p2.isList (by rw[Xzm,Xzm];omega) hu (λj h1 h2=>Xhn r1 r2 fx fy j h1 h2) _ _ _ _ ?_
  refine⟨.bl (!eqVL xs ys),H,I,?_,q⟩
  show Value.bool _=Value.bool (!eqVL xs ys)
  unfold eqVL
  rw[Xzm,<-l1,hl,beq_self_eq_true,X06]
 ·refine SeqAt.RcNeAt.lists_lengths p1.isList p2.isList (by rw[Xzm,Xzm];simpa using (by omega:us.length≠vs.length)) hu _ _ _ _ ?_
  refine⟨.bl (!eqVL xs ys),H,I,?_,q⟩
  show Value.bool _=Value.bool (!eqVL xs ys)
  unfold eqVL
  have:(xs.length==ys.length)=false:=by simpa using hl
  rw[this,X0w,Bool.not_false]
def Xy8 (K:PySem.W.Frag) (n:Nat) (t:TGs):TG:=λv σ H Q=>∃a xs,v = .ref a/\SqL K H a xs/\xs.length=n/\t xs σ H Q
theorem Xuv{es:List Expr}{k:Nat}{t:TGs}{n:Nat}(hc:X.calm=true)(h:PGs X es t)
  (hn:(assignEach es X.env).length=n:=by rfl) (hst:(assignEach es X.env).findIdx? (·.1)=none:=by rfl):PG X (.Tuple es k pos) (Xy8 X.K n t):=by
 intro pins s σ H v u Q I r hw
 obtain⟨a,xs,e1,hq,hl,hw⟩:=hw
 subst e1
 cases r
 obtain⟨its,rv,ht,hz⟩:=I.list hq
 rw[assign_Tuple]
 refine X3e (wpAny_standAt ?_)
 unfold unpack
 have hlen:(assignEach es X.env).length=its.toArray.size:=by rw[hn,<-hl,Xzm];exact rv.length
 rw[hlen,hst]
 refine X3e (wpAny_holding (PySem.W.kun_itemsOf (I.ok.hd hc) ht.isList λh' hx=>?_))
 have I1:Inv X pins σ H {s with heap:=h'}:=I.kept (t':=s.toks) λb o e=>hx b o (Xzs (X3n e)) e
 exact h pins _ σ H xs _ Q I1 (by simpa using rv) hw
def repS (z:Str) (n:Nat):Str:=⟨(List.replicate n z.cps).foldl (· ++ ·) #[]⟩
theorem Xr0(z:Str):repS z 1=z:=by
 obtain⟨c⟩:=z
 show (⟨(#[]:Array Nat)++c⟩:Str)=⟨c⟩
 rw[Array.empty_append]
theorem Xjh(z:Array Nat):∀(n:Nat) (a:Array Nat),((List.replicate n z).foldl (· ++ ·) a).size=a.size+n * z.size
 | 0,a=>by simp
 | n+1,a=>by
  rw[X1k,List.foldl_cons,Xjh z n,Array.size_append,Nat.succ_mul]
  omega
theorem Xia(z:Str)(n:Nat):(repS z n).length=n * z.length:=by
 have e:=Xjh z.cps n #[]
 show ((List.replicate n z.cps).foldl (· ++ ·) #[]).size=n * z.cps.size
 simpa using e
theorem Xr1{z:Str}(h:z.length=0)(n:Nat):repS z n=z:=by
 have e:=Xia z n
 rw[h,Nat.mul_zero] at e
 generalize repS z n=y at e
 obtain⟨c⟩:=z
 obtain⟨d⟩:=y
 have h':c.size=0:=h
 have e':d.size=0:=e
 rw[Array.size_eq_zero_iff] at h' e'
 rw[h',e']
theorem Xnp:OpR X (binaryOp .Mult) (λx y H Q=>∃z n,x = .str z/\y = .int n/\0<=n/\n<=1000/\z.length<=1000/\Q (.str (repS z n.toNat)) H):=by
 intro pins s σ H x y v u Q I rx ry h
 obtain⟨z,n,rfl,rfl,h0,h1,hz,q⟩:=h
 obtain⟨t,rfl⟩:=rx
 obtain⟨t',rfl⟩:=ry
 have hle:z.length * n.toNat<=1000 * 1000:=Nat.mul_le_mul hz (by omega)
 refine PySem.P.mul_str ?_ (λhn hz1=>?_) (λhn hz1=>?_) ?_
 ·have h2:¬n < -(2 ^ 63:Int):=by omega
  have h3:¬n ≥ 2 ^ 63:=by omega
  rw[X3k h2,X3k h3]
  rfl
 ·have h4:(1000:Int)<=(2 ^ 63 - 1) / n:=by
   refine(Int.le_ediv_iff_mul_le (by omega)).mpr ?_
   have:(1000:Int) * n<=1000 * 1000:=by omega
   omega
  omega
 ·show Builtin.Str.tooLong _=false
  unfold Builtin.Str.tooLong
  first
   | (refine X3k ?_;have:=hle;rw[X3g];omega)
   | (simp;omega)
 ·by_cases hn:n<1
  ·rw[X3i hn]
   have:n=0:=by omega
   subst this
   exact⟨by decide,.str Str.empty,H,I.tok _,⟨_,rfl⟩,q⟩
  ·rw[X3h hn]
   by_cases hc:(n==1||z.length==0)=true
   ·rw[X3i hc]
    have e:repS z n.toNat=z:=by
     rcases X2t.mp hc with e | e
     ·have e':n=1:=by simpa using e
      subst e'
      exact Xr0 z
     ·exact Xr1 (by simpa using e) _
    rw[e] at q
    exact⟨.str z,H,I,⟨_,rfl⟩,q⟩
   ·rw[X3h hc]
    refine⟨?_,.str (repS z n.toNat),H,I.tok _,⟨_,rfl⟩,q⟩
    show (repS z n.toNat).length<=sizeLine
    rw[Xia,Nat.mul_comm,X3g]
    omega
theorem Xf2:X.calm=true->Xcx X (.builtin "all") (λxs H Q=>∃(a:Addr) (bs:List Bool),xs=[.ref a]/\H a=some (.lst (bs.map V.bl))/\Q (.bl (bs.all id)) H):=by
 intro hc pins s σ H xs us Q I r h
 obtain⟨a,bs,rfl,ha,q⟩:=h
 obtain⟨u,rfl,ru⟩:=vals1 r
 cases ru
 obtain⟨its,rv,p,hz⟩:=I.list (SqL.of ha)
 have hl:=rv.length
 rw[Xzk] at hl
 refine call_all_walk (wpAny_pyIter_list p.isList ?_)
 have hlt:a≠s.heap.objs.size:=by
  obtain⟨o,ho,_⟩:=p.isList
  exact Xzs (X3n ho)
 refine⟨s.heap.objs.size,_,_,_,_,_,λj=>bs.getD j false,rfl,Walks.list (A:=X.A.in1) (show X.A.in1.handled=none from I.ok.hd hc) s.heap.objs.size a hlt its.toArray,⟨⟨_,Heap.get?_push_size _ rfl,rfl,rfl⟩,p.isList.push _⟩,λi v s' Q' E' hP hQ=>?_,λh' tk k=>?_⟩
 ·have hv:its[i]? = some v:=by simpa using hP
  have hi:i<its.length:=(Xz2.mp hv).1
  have g:(bs.map V.bl)[i]? = some (.bl (bs[i]'(by omega))):=by
   rw[Xz1,Xzl (by omega)]
   rfl
  obtain⟨u,hu,ru⟩:=rv.get g
  rw[hv] at hu
  cases hu
  cases ru
  have e:bs.getD i false=bs[i]'(by omega):=by simp[List.getD,(by omega:i<bs.length)]
  have hQ':Q' (bs.getD i false) s':=hQ
  rw[e] at hQ'
  exact wpAny_truthy_bool hQ'
 ·refine⟨.bl (bs.all id),H,I.kept (t':=tk) λb o e=>k b o (λz=>?_) (X3o _ e),?_,q⟩
  ·have z':b=s.heap.objs.size:=by simpa using z
   exact absurd (X3n e) (by rw[z'];exact X0n _)
  ·show Value.bool _=Value.bool _
   congr 1
   rw[Xzm,<-hl]
   rw[X01,Xz8,Xz8]
   constructor
   ·intro hx b hb
    obtain⟨j,hj,rfl⟩:=X0r.mp hb
    have:=hx j (X0v.mpr hj)
    simpa [List.getD,hj] using this
   ·intro hx j hj
    have hj':=X0v.mp hj
    have:=hx _ (X0b hj')
    simpa [List.getD,hj'] using this
end
def Itd (d:Addr) (o:Obj) (kvs:List (Key×V)):It:=
 ⟨λi H=>H d=some (.frz o (.dK kvs))/\i<kvs.length,λi H x H'=>H'=H/\∃p,kvs[i]? = some p/\x=kV p.1,λi H=>H d=some (.frz o (.dK kvs))/\kvs.length<=i⟩
theorem Xuw{P:Program}{w:World}{k:Key}{u:Value}(h:(Xas P w).is k u=true):RelV (kV k) u:=by
 rcases Xa8 (show Xh0 k u=true from h) with ⟨i,t,rfl,rfl⟩ | ⟨x,t,rfl,rfl⟩
 ·exact⟨t,rfl⟩
 ·exact⟨t,rfl⟩
theorem Xw9:∀{kvs:List (Key×V)} {vs:List (Key×Value)} {i:Nat} {p:Key×V},KV kvs vs->kvs[i]? = some p->∃u,vs[i]? = some (p.1,u)
 | _,_,_,_,.nil,e=>by simp at e
 | _,_,0,p,.cons (b:=b) r _,e=>by
  simp at e;subst e
  obtain⟨k,u⟩:=b
  obtain⟨r1,r2⟩:=r
  exact⟨u,by simp only[List.getElem?_cons_zero,Option.some.injEq,Prod.mk.injEq];exact⟨r1.symm,trivial⟩⟩
 | _,_,i+1,p,.cons _ t,e=>by
  obtain⟨u,h⟩:=Xw9 (i:=i) t (by simpa using e)
  exact⟨u,by simpa using h⟩
theorem Xgp{P:Program}{w:World}{K:PySem.W.Frag}{tg:Expr}(d it:Addr)(o:Obj)(es:Array DictEntry)(ep:Nat)(hd:o.data = .dict es ep)(kvs:List (Key×V))(hne:d≠it):
  Turn P w K tg (Itd d o kvs) [it] it (λi h=>h.IsKeyIter it d i kvs.length ep) where
 mem:=by simp
 obj:=λi h st b hb=>by
  have e:b=it:=by simpa using hb
  subst e
  obtain⟨o,e,c,d⟩:=st
  exact⟨o,e,λv z=>by rw[d] at z;cases z⟩
 keep:=λi h h' st k=>by
  obtain⟨o,e,r⟩:=st
  exact⟨o,k it (by simp) o e,r⟩
 item:=by
  intro X hP hw hK hc i pins s σ H E I hf st hg
  subst hP hw hK
  obtain⟨hH,hi⟩:=hg
  obtain⟨ho,hz,hm,vs,rv,o',es',ep',ho',hex,hd',r'⟩:=I.hok d _ hH
  rw[ho] at ho';cases ho'
  rw[hd] at hd'
  cases hd'
  have hlen:kvs.length=vs.length:=Paired.length rv
  obtain⟨f0,f1,f2,f3,f4,f5⟩:=hf it (by simp)
  have hp:kvs[i]? = some (kvs[i]'hi):=Xzl hi
  obtain⟨u,hu⟩:=Xw9 rv hp
  rw[hlen] at st
  refine wpAny_pyNext_dict_item (knd:=Xas X.prog X.w) st ⟨o,es,ho,hex,hd,r'⟩ hu λkey h' hk st' sb=>?_
  have I1:Inv X pins σ H {s with heap:=h'}:=I.turned (t':=s.toks) (λb o hb e=>(sb.2 b hb).trans e) f0 f1 f3 f4 f5
  obtain⟨o2,e2,c2,d2⟩:=id st'
  refine⟨key,rfl,Xrp (s:={s with heap:=h'}) e2 c2 d2 (by decide) ⟨_,H,I1,Xuw hk,⟨rfl,_,hp,rfl⟩,?_,λb hb=>(hf b hb).1⟩⟩
  rw[hlen]
  exact st'
 done:=by
  intro X hP hw hK hc i pins s σ H E I hf st hg
  subst hP hw hK
  obtain⟨hH,hi⟩:=hg
  obtain⟨ho,hz,hm,vs,rv,o',es',ep',ho',hex,hd',r'⟩:=I.hok d _ hH
  rw[ho] at ho';cases ho'
  rw[hd] at hd'
  cases hd'
  have hlen:kvs.length=vs.length:=Paired.length rv
  obtain⟨f0,f1,f2,f3,f4,f5⟩:=hf it (by simp)
  rw[hlen] at st
  exact wpAny_pyNext_dict_end (knd:=Xas X.prog X.w) (I.ok.hd hc) st ⟨o,es,ho,hex,hd,r'⟩ (X14 (by omega)) λh' eb=>⟨rfl,I.turned (t':=s.toks) (λb o hb e=>eb b o hb e) f0 f1 f3 f4 f5⟩
 self:=λA i s Q E st h=>by
  refine wpAny_pyIter_slot st.typeIs PySem.F.slot_dict_keyiterator_iter (wpAny_call_entry PySem.F.slot_dict_keyiterator_iter st.typeIs PySem.F.entry_dict_keyiterator_iter ?_ (PySem.F.args_dict_keyiterator_iter_1 _))
  show wpAny _ _ (ret (.ref it)) _ _ s
  exact X3f ⟨_,rfl, "dict_keyiterator",_,st.typeIs,PySem.F.slot_dict_keyiterator_next.lookup,h⟩
section
variable {X:Cx}{tg:Expr}
theorem Inv.freeze{pins:List (Addr×Obj)}{σ:St}{H:Hp}{s:Shared}{d:Addr}{kvs:List (Key×V)}{o:Obj}(I:Inv X pins σ H s)(hH:H d=some (.dK kvs))(ho:s.heap.get? d=some o):Inv X pins σ (upd H d (.frz o (.dK kvs))) s:=by
 have ne:∀{b:Addr} {u:HO},H b=some u->(HO.dK kvs≠u)->b≠d:=λ{b u} e n=>Xwj e hH (λz=>n z.symm)
 refine⟨I.ok,I.os,I.bare,⟨I.base.keep,I.base.slot,λb ob e n hx=>?_,I.base.there,λb xs e=>?_,λb ob u e=>?_,λb ps e=>?_⟩,I.loc,I.cell,?_,λx c e=>?_,λp hp'=>?_,λb ob e=>?_,I.len⟩
 ·have q:=I.base.free b ob e n hx
  rw[Xae (λz=>by rw[z,hH] at q;cases q)]
  exact q
 ·have q:=I.base.tups b xs e
  rw[Xae (ne q (by simp))]
  exact q
 ·have q:=I.base.frzs b ob u e
  rw[Xae (ne q (by simp))]
  exact q
 ·obtain⟨more,q⟩:=I.base.tbls b ps e
  exact⟨more,by rw[Xae (ne q (by simp))];exact q⟩
 ·rw[Xae (λz=>by have:=I.free;rw[z,hH] at this;cases this)]
  exact I.free
 ·have q:=I.freeC x c e
  rw[Xae (λz=>by rw[z,hH] at q;cases q)]
  exact q
 ·obtain⟨e,n,r⟩:=I.pin p hp'
  exact⟨e,by rw[Xae (λz=>by rw[z,hH] at n;cases n)];exact n,r⟩
 ·by_cases hb:b=d
  ·subst hb
   rw[Xab] at e
   cases e
   exact⟨ho,(I.hok b _ hH).stay (λ_ _ _ q=>q) (λc q=>by rw[Xae (ne q (by simp))];exact q) λc xs q=>by rw[Xae (ne q (by simp))];exact q⟩
  ·rw[Xae hb] at e
   exact(I.hok b ob e).stay (λ_ _ _ q=>q) (λc q=>by rw[Xae (ne q (by simp))];exact q) λc xs q=>by rw[Xae (ne q (by simp))];exact q
def Xy9 (tl:TE):TI:=fun σ H R=>tl σ H λx H1=>∃d kvs,x = .ref d/\H1 d=some (.dK kvs)/\∀o,R (Itd d o kvs) (upd H1 d (.frz o (.dK kvs)))
theorem Xux{l:Expr}{tl:TE}(hl:PE X l tl):PI X tg l (Xy9 tl):=by
 intro pins s σ H R I h
 refine thn (hl pins s σ H _ I h) λv s1 ⟨x,H1,I1,r1,q1⟩=>?_
 obtain⟨d,kvs,e,hH,q⟩:=q1
 subst e
 cases r1
 obtain⟨hz,hm,vs,rv,o,es,ep,ho,hex,hd,r⟩:=I1.hok d _ hH
 have hlen:kvs.length=vs.length:=Paired.length rv
 refine wpAny_pyIter_dict (knd:=Xas X.prog X.w) hm ⟨o,es,ho,hex,hd,r⟩ ?_
 have I2:=I1.freeze hH ho
 refine⟨s1.heap.objs.size,[s1.heap.objs.size],_,_,_,rfl,I2.kept (t':=s1.toks) λb o e=>X3o _ e,Xgp d _ o es ep hd kvs (Xzs (X3n ho)),⟨_,Heap.get?_push_size _ rfl,rfl,by rw[hlen];rfl⟩,λb hb=>?_,q o⟩
 have e:b=s1.heap.objs.size:=by simpa using hb
 subst e
 exact I2.fpOk (Xzn _) (I2.hok.fresh (Xzn _))
end
def PJ (X:Cx) (es:List Expr) (t:St->Hp->(Hp->Prop)->Prop):Prop:=
 ∀(out:Str) (pins:List (Addr×Obj)) (s:Shared) (σ:St) (H:Hp) (Q:Hp->Prop),Inv X pins σ H s->t σ H Q->out.length+5000 * es.length<=sizeLine ->
  wpAny (model X.prog X.w) X.A (joinParts out (evalEach es X.env)) (λu s'=>∃z tk H',u = .str z tk/\Inv X pins σ H' s'/\Q H') X.xe s
def Xxa:St->Hp->(Hp->Prop)->Prop:=λ_ H Q=>Q H
def Xxb (t:St->Hp->(Hp->Prop)->Prop):St->Hp->(Hp->Prop)->Prop:=t
section
variable {X:Cx}{es:List Expr}{t:St->Hp->(Hp->Prop)->Prop}{e:Expr}{te:TE}{pos:Pos}
theorem Xo9:PJ X [] Xxa:=λout pins s σ H Q I h hz=>joinParts_nil ⟨out,_,H,rfl,I.tok _,h⟩ (by simpa using hz)
theorem Xct(a b:Str):(a++b).length=a.length+b.length:=strLen_append a b
theorem Xji{z:Str}{k:Nat}{p:Pos}(hz:z.length<=5000)(h:PJ X es t)(he:evalEach (.Constant (.str z) k p::es) X.env=eval (.Constant (.str z) k p) X.env::evalEach es X.env:=by rfl):PJ X (.Constant (.str z) k p::es) (Xxb t):=by
 intro out pins s σ H Q I hw hl
 rw[he]
 rw[X0a] at hl
 refine joinParts_cons (Calls.Constant_str ⟨by rw[Xct];omega,?_⟩)
 exact h (out++z) pins _ σ H Q (I.tok _) hw (by rw[Xct];omega)
def Xxc (t:St->Hp->(Hp->Prop)->Prop):TE:=fun σ H Q=>t σ H λH1=>∀z,Q (.str z) H1
theorem Xk3{a b:Expr}(h:PJ X (a::b::es) t)(hz:5000 * (a::b::es).length<=sizeLine:=by decide)(he:evalEach (a::b::es) X.env=eval a X.env::eval b X.env::evalEach es X.env:=by rfl):PE X (.JoinedStr (a::b::es) pos) (Xxc t):=by
 intro pins s σ H Q I hw
 refine JoinedStr_many ?_
 rw[<-he]
 refine thn (h Str.empty pins s σ H _ I hw (by rw[show Str.empty.length=0 from rfl];omega)) λu s' ⟨z,tk,H',e,I',q⟩=>?_
 subst e
 exact⟨.str z,H',I',⟨tk,rfl⟩,q z⟩
end
end L2
namespace L2
open PySem PySem.Spec PyProof.Rows PySem.Calls Builtin Builtin.ObjectAttr Builtin.Getset_descriptor
structure ExcF (K:PySem.W.Frag) (C:Addr):Prop where
 ga:PySem.W.findIn K (.ref C) "__getattribute__" = some (some (.builtin "BaseException.__getattribute__"))
 gn:PySem.W.findIn K (.ref C) "__getattr__" = some none
 cl:PySem.W.findIn K (.ref C) "__class__" = some (some (.builtin "object.__class__"))
 sb:PySem.W.subIn K (.ref C) (.type "BaseException")=some true
 so:PySem.W.subIn K (.ref C) (.type "object")=some true
 ic:(PySem.W.clsIn K C).isSome=true
section
variable {prog:Program}{w:World}{A:Around}{E:Value->Shared->Prop}{K:PySem.W.Frag}{C a:Addr}{h:Heap}{g:Array GenState}{d:Drawn}{t:Nat}{os:OsState}
open PySem.W in
theorem Xjj{M:Model}(p:excP a C h):Looks M h (typeOf (.ref a)) (.ref C):=by
 obtain⟨o,vs,h1,h2,h3⟩:=p
 exact h2 ▸ (Looks.ld h1).andThen .now
open PySem.W in
theorem Xuy{R:Result->Shared->Prop}(X:K.In h)(F:ExcF K C)(p:excP a C h)(hq:R (.ok (.ret (.ref C))) ⟨h,g,d,t,os⟩):
  codeAny (model prog w) A (.call (.builtin "getset_descriptor.__get__") ⟨[.builtin "object.__class__",.ref a,.ref C],[]⟩) R ⟨h,g,d,t,os⟩:=by
 have L0:=Xjj (M:=model prog w) p
 have L1:Looks (model prog w) h (isSubtype (.ref C) (.type "object")) true:=looks_subIn X F.so
 refine codeAny_call_builtin KF.slot_gs.plain KF.entry_gs (KF.slot_gs.check _ _ _ _ _ _ _ _ KF.type_class (KF.args_gs _ _ _) ?_)
 unfold Builtin.«getset_descriptor.__get__» descrGet
 rw[dga_obj]
 refine X3e (X3f ?_)
 unfold descrGetter descrCheckInstance descrNameAndClass isInstance
 simp only[KF.owner_class]
 repeat lk
 refine⟨Code.quiet_builtin _ (by decide +kernel),codeAny_builtin KF.entry_class ?_⟩
 unfold Builtin.«object.__class__» shownTypeOf
 repeat lk
 exact hq
open PySem.W in
theorem Xpa{tk:Tok}{Q:Fin->Shared->Prop}(X:K.In h)(F:ExcF K C)(p:excP a C h)(hq:Q (.done (.ret (.ref C))) ⟨h,g,d,t,os⟩):
  wpAny (model prog w) A (Builtin.«object.__getattribute__» ⟨[.ref a,.str "__class__" tk],[]⟩) Q E ⟨h,g,d,t,os⟩:=by
 have L0:=Xjj (M:=model prog w) p
 have L1:=looks_findIn (M:=model prog w) X F.cl
 have hT5:(⟨h,g,d,t,os⟩:Shared).TypeIs (.builtin "object.__class__") "getset_descriptor" := PySem.F.typeOf_object_class
 have f5:=PySem.F.typeOf_object_class
 have f6:=PySem.F.slot_gs_get.lookup
 have f7:=PySem.F.slot_gs_set.lookup
 repeat (any_goals (first | assumption | (refine X3e (L0.at ?_)) | (refine X3e (L1.at ?_)) | wp_step))
 refine Xuy X F p ?_
 repeat (any_goals (first | assumption | wp_step))
open PySem.W in
theorem Xpb{M:Model}{nameV:Value}{Q:Unit->Shared->Prop}(X:K.In h)(F:ExcF K C)(p:excP a C h)(hq:Q () ⟨h,g,d,t,os⟩):wpAny M A (checkBuiltinCall "BaseException.__getattribute__" ⟨[.ref a,nameV],[]⟩) Q E ⟨h,g,d,t,os⟩:=by
 have hk:builtinKind "BaseException.__getattribute__" = some .slot:=by decide +kernel
 have hsplit:splitId "BaseException.__getattribute__" = some ("BaseException", "__getattribute__"):=by decide +kernel
 have L0:=Xjj (M:=M) p
 have L1:Looks M h (isSubtype (.ref C) (.type "BaseException")) true:=looks_subIn X F.sb
 have LI:Looks M h (isInstance (.ref a) (.type "BaseException")) true:=L0.andThen L1
 have ha:=PySem.F.args_bexc_ga (.ref a) nameV
 simp only[checkBuiltinCall,hk,hsplit]
 refine X3e (LI.at ?_)
 repeat (first | assumption | wp_step)
open PySem.W in
theorem Xr2{tk:Tok}{R:Result->Shared->Prop}(X:K.In h)(F:ExcF K C)(p:excP a C h)(hq:R (.ok (.ret (.ref C))) ⟨h,g,d,t,os⟩):
  codeAny (model prog w) A (.call (.builtin "BaseException.__getattribute__") ⟨[.ref a,.str "__class__" tk],[]⟩) R ⟨h,g,d,t,os⟩:=
 codeAny_call_builtin (by decide +kernel) PySem.F.entry_bexc_ga (Xpb X F p (Xpa X F p hq))
open PySem.W in
theorem Xxd{tk:Tok}{Q:Value->Shared->Prop}(X:K.In h)(F:ExcF K C)(p:excP a C h)(hq:Q (.ref C) ⟨h,g,d,t,os⟩):
  wpAny (model prog w) A (getAttrBy (.ref a) (.str "__class__" tk) false) Q E ⟨h,g,d,t,os⟩:=by
 have L0:=Xjj (M:=model prog w) p
 have L1:=looks_findIn (M:=model prog w) X F.ga
 have L2:=looks_findIn (M:=model prog w) X F.gn
 have f3:bindSpecial (.builtin "BaseException.__getattribute__") (.ref a)=pure (.builtin "BaseException.__getattribute__",[.ref a]):=PySem.F.excAttr_ValueError.ga.bind (.ref a)
 have hx2:(Value.builtin "BaseException.__getattribute__" == Value.builtin "object.__getattribute__")=false:=by decide +kernel
 have hx1:(onTheHeap (Value.ref C)&&Value.builtin "BaseException.__getattribute__" == Value.builtin "object.__getattribute__")=false:=by rw[hx2];rfl
 repeat (any_goals (first | assumption | (refine X3e (L0.at ?_)) | (refine X3e (L1.at ?_)) | (refine X3e (L2.at ?_)) | wp_step))
 refine Xr2 X F p ?_
 repeat (any_goals (first | assumption | wp_step))
open PySem.W in
theorem Xr3{Q:Option Value->Shared->Prop}(X:K.In h)(F:ExcF K C)(p:excP a C h)(hq:Q (some (.ref C)) ⟨h,g,d,t+1,os⟩):wpAny (model prog w) A (getAttr? (.ref a) "__class__") Q E ⟨h,g,d,t,os⟩:=by
 unfold getAttr? getAttrBy?
 repeat (any_goals (first | assumption | with_reducible apply Xxd X F p | wp_step))
end
end L2
namespace L2
open PySem PySem.Spec PyProof.Rows
theorem Xr4{K:PySem.W.Frag}{C a:Addr}(F:ExcF K C):PySem.W.KitX K (.ref a) (.ref C) (excP a C) where
 ty:=λM h X p=>Xjj p
 it:=λM h X p=>by
  have z:=F.ic
  unfold PySem.W.clsIn at z
  split at z
  ·rename_i c' d' cd' sl' ho
   intro A' Q' E' s' k q
   unfold isType loadHead
   exact X3e (wpAny_loadPart (k _ _ (X _ _ ho)) (X3f q))
  ·cases z
 ne:=λh tp dd its n sl X htp=>by
  refine X1s.mpr λq=>?_
  have e:C=tp:=Value.ref.inj (beq_iff_eq.mp q)
  subst e
  have z:=F.ic
  unfold PySem.W.clsIn at z
  split at z
  ·rename_i c' d' cd' sl' ho
   have z:=(X _ _ ho).symm.trans htp
   cases z
  ·cases z
 ca:=λ{prog w A E Q s} X p k=>by
  obtain⟨h,g,d,t,os⟩:=s
  exact Xr3 X F p k
def clsV:V->Option Value
 | .ty n=>some (.type n)
 | .ref a=>some (.ref a)
 | _=>none
theorem Xme{c:V}{u v:Value}(r:RelV c u)(h:clsV c=some v):u=v:=by
 cases c with
 | ty n=>cases r;exact Xzx h
 | ref a=>cases r;exact Xzx h
 | _=>cases h
section
variable {X:Cx}
theorem Xgq:Xcx X (.builtin "isinstance") (λxs H Q=>∃x c t cv b,xs=[x,c]/\TyOf X.K H x t/\clsV c=some cv/\PySem.W.kitOne X.K t cv=some b/\Q (.bl b) H):=by
 intro pins s σ H xs us Q I r h
 obtain⟨x,c,t,cv,b,rfl,ty,hc,e,q⟩:=h
 obtain⟨u,v,rfl,ru,rv⟩:=r.two
 have:=Xme rv hc
 subst this
 exact Xoy I ru ty e λtk=>⟨.bl b,H,I.tok _,rfl,q⟩
theorem Xnq:Xcx X (.builtin "isinstance") (λxs H Q=>∃a C c cv b,xs=[.ref a,c]/\H a=some (ExcO a C)/\ExcF X.K C/\clsV c=some cv/\PySem.W.kitOne X.K (.ref C) cv=some b/\Q (.bl b) H):=by
 intro pins s σ H xs us Q I r h
 obtain⟨a,C,c,cv,b,rfl,ha,F,hc,e,q⟩:=h
 obtain⟨u,v,rfl,ru,rv⟩:=r.two
 have:=Xme rv hc
 subst this
 cases ru
 obtain⟨p,_⟩:=(show Xbm X.prog X.w H s.heap a (.ext (excP a C)) from I.hok a _ ha)
 exact PySem.W.kia_one (Xr4 F) I.kIn p e (λz=>nomatch z) λtk=>⟨.bl b,H,I.tok _,rfl,q⟩
end
def wN (n:Nat) (Pv:Nat->St->Hp->Prop):Nat->Nat->St->Hp->Prop:=λi m σ H=>m=n - i/\i<=n/\Pv i σ H
theorem wput{n i:Nat}{Pv:Nat->St->Hp->Prop}{σ:St}{H:Hp}{D:Addr}{y:V}{ys:List V}(hi:i<n)(hD:H D=some (.lst ys))(hl:ys.length<sizeLine)(p:Pv (i+1) σ (upd H D (.lst (ys++[y])))):
  ∃ys,H D=some (.lst ys)/\ys.length<sizeLine/\∃m',m'<n - i/\wN n Pv (i+1) m' σ (upd H D (.lst (ys++[y]))):=⟨ys,hD,hl,n - (i+1),by omega,rfl,hi,p⟩
theorem wskip{n i:Nat}{Pv:Nat->St->Hp->Prop}{σ:St}{H:Hp}(hi:i<n)(p:Pv (i+1) σ H):∃m',m'<n - i/\wN n Pv (i+1) m' σ H:=⟨n - (i+1),by omega,rfl,hi,p⟩
theorem Xk4{cap:List (Option Nat)}{g:TG}{tt:TT}{te:TE}{J:It}{σ:St}{H1:Hp}{F:Addr->Hp->Prop}(n:Nat)(vs:Nat->V)(Pv:Addr->Nat->St->Hp->Prop)
  (h0:∀D,H1 D=none->Pv D 0 (capS cap σ) (upd H1 D (.lst [])))
  (hgo:∀D i σ2 H2,H1 D=none->i<n->Pv D i σ2 H2->J.go i H2/\∀x H3,J.yld i H2 x H3->H3=H2/\x=vs i)
  (hst:∀D σ2 H2,H1 D=none->Pv D n σ2 H2->J.stop n H2)
  (step:∀D i σ1 H2,H1 D=none->i<n->Pv D i σ1 H2->g (vs i) σ1 H2 fun σ2 H4=>tt σ2 H4 λb H5=>
   if b=true then te σ2 H5 λy H6=>∃ys,H6 D=some (.lst ys)/\ys.length<sizeLine/\∃m',m'<n - i/\wN n (Pv D) (i+1) m' σ2 (upd H6 D (.lst (ys++[y])))
   else ∃m',m'<n - i/\wN n (Pv D) (i+1) m' σ2 H5)
  (hd:∀D σ2 H2,H1 D=none->Pv D n σ2 H2->F D H2):tBlk cap g tt te J σ H1 F:=by
 intro D hD
 refine⟨wN n (Pv D),⟨n,by simp,X0k _,h0 D hD⟩,?_⟩
 rintro i m σ1 H2 ⟨rfl,hi,p⟩
 by_cases hlt:i<n
 ·obtain⟨h1,h2⟩:=hgo D i σ1 H2 hD hlt p
  refine .inr ⟨h1,λx H3 y=>?_⟩
  obtain⟨e1,e2⟩:=h2 x H3 y
  subst e1 e2
  exact step D i σ1 _ hD hlt p
 ·have e:i=n:=by omega
  subst e
  exact .inl ⟨hst D σ1 H2 hD p,hd D σ1 H2 hD p⟩
theorem Xcd{K:PySem.W.Frag}{a:Addr}{xs:List V}{H:Hp}{i:Nat}(h:SqL K H a xs)(hi:i<xs.length):(Itl K a).go i H/\∀x H3,(Itl K a).yld i H x H3->H3=H/\x=xs.getD i .non:=
 ⟨⟨xs,xs[i],h,by simp[hi]⟩,λx H3 ⟨e,y⟩=>⟨e,by have:=y xs h;simp[List.getD,this]⟩⟩
theorem Xce{K:PySem.W.Frag}{a:Addr}{xs:List V}{H:Hp}(h:SqL K H a xs):(Itl K a).stop xs.length H:=⟨xs,h,Xzn _⟩
theorem Xmf{K:PySem.W.Frag}{a:Addr}{xs:List V}{H:Hp}{i:Nat}(h:SqT K H a xs)(hi:i<xs.length):(Itt K a).go i H/\∀x H3,(Itt K a).yld i H x H3->H3=H/\x=xs.getD i .non:=
 ⟨⟨xs,xs[i],h,by simp[hi]⟩,λx H3 ⟨e,y⟩=>⟨e,by have:=y xs h;simp[List.getD,this]⟩⟩
theorem Xmg{K:PySem.W.Frag}{a:Addr}{xs:List V}{H:Hp}(h:SqT K H a xs):(Itt K a).stop xs.length H:=⟨xs,h,Xzn _⟩
theorem Xfe{d:Addr}{o:Obj}{kvs:List (Key×V)}{H:Hp}{i:Nat}(h:H d=some (.frz o (.dK kvs)))(hi:i<kvs.length):(Itd d o kvs).go i H/\∀x H3,(Itd d o kvs).yld i H x H3->H3=H/\x=(kvs.map λp=>kV p.1).getD i .non:=
 ⟨⟨h,hi⟩,λx H3 ⟨e,p,hp,y⟩=>⟨e,by rw[y];simp[List.getD,hp]⟩⟩
theorem Xff{d:Addr}{o:Obj}{kvs:List (Key×V)}{H:Hp}(h:H d=some (.frz o (.dK kvs))):(Itd d o kvs).stop kvs.length H:=⟨h,Xzn _⟩
end L2
namespace L2
open PySem PySem.Spec PyProof.Rows PySem.Calls
theorem Xk5(t:SetTable)(n:Nat):(t.orStandIn n).led=t.led:=by
 unfold SetTable.orStandIn
 split
 ·rfl
 ·rfl
theorem Xnr(t:SetTable)(es:Array (Int×Value))(k:Int)(x:Value):(layNew t es k x).2.1.led=t.led:=by
 unfold layNew
 split
 ·exact Xk5 _ _
 ·rfl
theorem Xns{mask finger moves:Nat}{led plain:Bool}{hs:Array Int}{t:SetTable}{o:Array Nat}(h:SetTable.laid mask finger moves led plain hs=some (t,o)):t.led=led/\t.plain=plain:=by
 unfold SetTable.laid at h
 cases q:SetTable.layClean mask hs with
 | none=>rw[q] at h;cases h
 | some ow=>
  rw[q] at h
  cases h
  exact⟨rfl,rfl⟩
theorem Xk6(t:SetTable)(es:Array (Int×Value))(n:Nat)(hp:t.plain=false):(relayAll t es n).2.1.led=t.led/\(relayAll t es n).2.1.plain=false:=by
 unfold relayAll
 split
 ·rename_i t' o e
  obtain⟨e1,e2⟩:=Xns e
  dsimp only
  split
  ·exact⟨e1,e2.trans hp⟩
  ·exact⟨rfl,rfl⟩
 ·exact⟨rfl,rfl⟩
def Xd5 (w:World):Bool:=w.params.followText "set-order"
def SSet (P:Program) (w:World) (h:Heap) (a:Addr) (ks:List Str):Prop:=
 ∃o es ep t ls,h.get? a=some o/\o.ExactSet/\o.data = .set es ep t/\ElemsOf (PySem.strKind P w) es.toList/\StrsAre (es.toList.map (·.2)) ls/\ls.Perm ks/\es.size<scanBound/\t.fits es.size=true/\t.led = !Xd5 w/\(t.plain=true->es.size=0)
theorem Xjk{l1 l2:List (Int×Value)}{ls:List Str}(p:l1.Perm l2)(h:StrsAre (l2.map (·.2)) ls):∃ls',StrsAre (l1.map (·.2)) ls'/\ls'.Perm ls:=by
 refine⟨(l1.map (·.2)).map strOf,strsAre_map _ (λv hv=>?_),?_⟩
 ·exact h.all v ((p.map (·.2)).mem_iff.mp hv)
 ·rw[<-h.strs]
  exact(p.map (·.2)).map strOf
theorem Xpc{vs:List Value}{ls:List Str}{x:Str}{t:Tok}(h:StrsAre vs ls):StrsAre (vs++[.str x t]) (ls++[x]):=by
 induction h with
 | nil=>exact .cons x t .nil
 | cons y u _ ih=>exact .cons y u ih
section
variable {P:Program}{w:World}{A:Around}{E:Value->Shared->Prop}{s:Shared}{a:Addr}{ks:List Str}
theorem SSet.stay{h h':Heap}(S:SSet P w h a ks)(k:∀o,h.get? a=some o->h'.get? a=some o):SSet P w h' a ks:=by
 obtain⟨o,es,ep,t,ls,ho,r⟩:=S
 exact⟨o,es,ep,t,ls,k o ho,r⟩
theorem Xr5{vs:List (Int×Value)}{ls:List Str}(h:StrsAre (vs.map (·.2)) ls){x:Str}:x∈ls ↔ ∃e∈vs,(PySem.strKind P w).is x e.2=true:=by
 rw[<-h.strs]
 constructor
 ·intro hx
  obtain⟨v,hv,rfl⟩:=Xz4.mp hx
  obtain⟨e,he,rfl⟩:=Xz4.mp hv
  obtain⟨y,t,q⟩:=h.all e.2 hv
  refine⟨e,he,?_⟩
  rw[q]
  exact strKind_is P w y t
 ·rintro ⟨e,he,q⟩
  obtain⟨t,e2⟩:=Value.isStrOf_shape q
  exact Xz4.mpr ⟨e.2,Xz4.mpr ⟨e,he,rfl⟩,by rw[e2];rfl⟩
theorem Xmh{o:Obj}{es:Array (Int×Value)}{ep:Nat}{t:SetTable}{h:Heap}(ho:h.get? a=some o)(hex:o.ExactSet)(hd:o.data = .set es ep t){es':Array (Int×Value)}{t':SetTable}{ls:List Str}
  (hel:ElemsOf (PySem.strKind P w) es'.toList) (hs:StrsAre (es'.toList.map (·.2)) ls) (hp:ls.Perm ks) (hb:es'.size<scanBound) (hf:t'.fits es'.size=true) (hl:t'.led = !Xd5 w) (hpl:t'.plain=false):
  (h.update a (Obj.putSet es' t')).get? a=some {o with data:=.set es' (ep+1) t'}/\SSet P w (h.update a (Obj.putSet es' t')) a ks:=by
 have g:=Heap.get?_update_self (Obj.putSet es' t') ho (by rw[putSet_of es' t' hd];rfl)
 rw[putSet_of es' t' hd] at g
 exact⟨g,_,es',ep+1,t',ls,g,hex,rfl,hel,hs,hp,hb,hf,hl,λz=>by rw[hpl] at z;cases z⟩
theorem Xjl{g:Bool->Sem Unit}(hg:∀(b:Bool) (s1:Shared) (Q':Unit->Shared->Prop),Q' () s1->wpAny (model P w) A (g b) Q' E s1)
    {o:Obj} {es:Array (Int×Value)} {ep:Nat} {t:SetTable} (ho:s.heap.get? a=some o) (hex:o.ExactSet) (hd:o.data = .set es ep t) {es1:Array (Int×Value)} {t2:SetTable} {ls:List Str}
    (hel:ElemsOf (PySem.strKind P w) es1.toList) (hs:StrsAre (es1.toList.map (·.2)) ls) (hp:ls.Perm ks) (hb:es1.size<scanBound) (hf:t2.fits es1.size=true) (hl:t2.led = !Xd5 w) (hpl:t2.plain=false) {wd:Bool} {R:Option Bool->Shared->Prop}
    (h:∀h',Heap.SameBut a s.heap h'->SSet P w h' a ks->R (some true) {s with heap:=h'}):
    wpAny (model P w) A (do
        storeSet a es1 t2
        if (!wd && t2.tooFull) = true then do g (relayAll t2 es1 (SetTable.grown es1.size)).2.2
                                              storeSet a (relayAll t2 es1 (SetTable.grown es1.size)).1 (relayAll t2 es1 (SetTable.grown es1.size)).2.1
                                              pure (some true)
        else pure (some true)) R E s:=by
  refine X3e (wpAny_storeSet_of ho hd ?_ (fits_of_scanBound hb))
  obtain⟨g1,S1⟩:=Xmh (P:=P) (w:=w) ho hex hd hel hs hp hb hf hl hpl
  have sb:=X3p s.heap a (Obj.putSet es1 t2)
  split
  . have pp:=relayAll_perm t2 es1 (SetTable.grown es1.size)
    have ff:=relayAll_fits t2 es1 (SetTable.grown es1.size)
    obtain⟨fl1,fl2⟩:=Xk6 t2 es1 (SetTable.grown es1.size) hpl
    generalize relayAll t2 es1 (SetTable.grown es1.size)=R3 at pp ff fl1 fl2 ⊢
    obtain⟨es3,t3,gv⟩:=R3
    dsimp only at pp ff fl1 fl2 ⊢
    obtain⟨ls3,s3,p3⟩:=Xjk pp hs
    have z:es3.size=es1.size:=by rw[<-Xzz,pp.length_eq,Xzz]
    refine X3e (hg _ _ _ ?_)
    refine X3e (wpAny_storeSet_of g1 rfl ?_ (fits_of_scanBound (by rw[z];exact hb)))
    obtain⟨_,S3⟩:=Xmh (P:=P) (w:=w) (ks:=ks) g1 hex rfl (hel.perm pp) s3 (p3.trans hp) (by rw[z];exact hb) ff (fl1.trans hl) fl2
    exact X3f (h _ (sb.trans (X3p _ a _)) S3)
  . exact X3f (h _ sb S1)
theorem Xmi{x:Str}{tk:Tok}{Q:Bool->Shared->Prop}(S:SSet P w s.heap a ks)(hr:ks.length+1<scanBound)
  (h:∀b h',Heap.SameBut a s.heap h'->SSet P w h' a (if x∈ks then ks else ks++[x])->Q b {s with heap:=h'}):
  wpAny (model P w) A (setAddHashed a (.str x tk) ((PySem.strKind P w).hash x)) Q E s:=by
 obtain⟨o,es,ep,t,ls,ho,hex,hd,hel,hs,hp,hb,hf,hl,hpl⟩:=S
 have hlen:es.size=ks.length:=by
  have:=hs.length
  rw[Xzk,Xzz] at this
  rw[this,hp.length_eq]
 have hkey:(PySem.strKind P w).is x (.str x tk)=true:=strKind_is P w x tk
 have hin:x∈ks ↔ ∃e∈es.toList,(PySem.strKind P w).is x e.2=true:=hp.mem_iff.symm.trans (Xr5 hs)
 unfold setAddHashed setAddHashedIn
 refine wpAny_holding (X3e (wpAny_setState_of ho hd hf ?_))
 dsimp only
 rw[byScan_of (knd:=PySem.strKind P w) rfl hb hel]
 simp only[↓reduceIte]
 unfold setAddByScan
 refine X3e (X3e (wpAny_rule (X3e (wpAny_setScan_of hkey ho hd hf hel ?_))))
 cases hf1:List.findIdx? (λe=>(PySem.strKind P w).is x e.2) es.toList with
 | some j=>
  dsimp only
  obtain⟨hj,hpj,_⟩:=List.findIdx?_eq_some_iff_getElem.mp hf1
  have hx:x∈ks:=hin.mpr ⟨es.toList[j],X0b hj,hpj⟩
  refine X3f (X3f ?_)
  have:=h false s.heap (Heap.SameBut.refl a s.heap) (by rw[X3i hx];exact⟨o,es,ep,t,ls,ho,hex,hd,hel,hs,hp,hb,hf,hl,hpl⟩)
  exact this
 | none=>
  dsimp only
  have hx:x∉ks:=λz=>by
   obtain⟨e,he,q⟩:=hin.mp z
   have:=List.findIdx?_eq_none_iff.mp hf1 e he
   rw[q] at this
   cases this
  have gw:∀(b:Bool) (s1:Shared) (Q':Unit->Shared->Prop),Q' () s1->wpAny (model P w) A (match b with | true=>rule "set.scan.the-table-gave-way" | false=>pure ()) Q' E s1:=λb s1 Q' q=>by
   cases b with
   | true=>exact wpAny_rule q
   | false=>exact X3f q
  have pp:=layNew_perm t es ((PySem.strKind P w).hash x) (.str x tk)
  have ff:=layNew_fits t es ((PySem.strKind P w).hash x) (.str x tk)
  have fl:=Xnr t es ((PySem.strKind P w).hash x) (.str x tk)
  generalize layNew t es ((PySem.strKind P w).hash x) (.str x tk)=R at pp ff fl ⊢
  obtain⟨es1,t1,wd,gv⟩:=R
  dsimp only at pp ff fl ⊢
  rw[Array.toList_push] at pp
  have el1:=(hel.push hkey rfl).perm pp
  have st0:StrsAre ((es.toList++[((PySem.strKind P w).hash x,Value.str x tk)]).map (·.2)) (ls++[x]):=by
   rw[Xzq]
   exact Xpc hs
  obtain⟨ls1,st1,p1⟩:=Xjk pp st0
  have z1:es1.size=ks.length+1:=by
   rw[<-Xzz,pp.length_eq,Xzt,Xzz,hlen]
   rfl
  have p2:ls1.Perm (ks++[x]):=p1.trans (hp.append_right _)
  rw[X3h hx] at h
  refine X3e (gw _ _ _ ?_)
  split
  ·refine X3e ?_
   rw[hashByValue_scannable 8 (x:=Value.str x tk) rfl]
   refine X3f ?_
   refine Xjl (ks:=ks++[x]) gw ho hex hd el1 st1 p2 (by rw[z1];exact hr) (SetTable.fits_plain_off ff) (fl.trans hl) rfl (λh' sb S'=>?_)
   dsimp only
   exact X3f (h true h' sb S')
  ·rename_i np
   refine X3e (X3f ?_)
   simp only[↓reduceIte]
   refine Xjl (ks:=ks++[x]) gw ho hex hd el1 st1 p2 (by rw[z1];exact hr) ff (fl.trans hl) (by cases q:t1.plain with | false=>rfl | true=>exact absurd q np) (λh' sb S'=>?_)
   dsimp only
   exact X3f (h true h' sb S')
end
def dd1 (acc:List Str) (x:Str):List Str:=if x∈acc then acc else acc++[x]
def ddup (ss:List Str):List Str:=ss.foldl dd1 []
theorem Xgr(ss:List Str)(x:Str):ddup (ss++[x])=dd1 (ddup ss) x:=by
 unfold ddup
 rw[List.foldl_append]
 rfl
theorem Xib{p:List Str->List Str->Prop}(h0:p [] [])(h1:∀ss x,p ss (ddup ss)->p (ss++[x]) (dd1 (ddup ss) x))(ss:List Str):p ss (ddup ss):=by
 have go:∀n ss,ss.length=n->p ss (ddup ss):=by
  intro n
  induction n with
  | zero=>
   intro ss e
   rw[X0g.mp e]
   exact h0
  | succ n ih=>
   intro ss e
   have hne:ss≠[]:=λz=>by rw[z] at e;cases e
   have e2:=X1z hne
   rw[<-e2,Xgr]
   exact h1 _ _ (ih _ (by rw[List.length_dropLast,e];rfl))
 exact go _ ss rfl
theorem Xeq(ss:List Str):∀x,x∈ddup ss↔x∈ss:=by
 refine Xib (p:=λss d=>∀x,x∈d↔x∈ss) (λx=>Iff.rfl) (λss y ih x=>?_) ss
 unfold dd1
 split
 ·rename_i hy
  rw[ih,Xzv,Xzr]
  constructor
  ·exact .inl
  ·rintro (z | z)
   ·exact z
   ·rw[z];exact(ih y).mp hy
 ·rw[Xzv,Xzv,ih]
theorem Xgs(ss:List Str):(ddup ss).Nodup:=by
 refine Xib (p:=λ_ d=>d.Nodup) List.nodup_nil (λss y ih=>?_) ss
 unfold dd1
 split
 ·exact ih
 ·rename_i hy
  exact X04.mpr ⟨ih,by simp,λa ha b hb=>by rw[Xzr.mp hb];exact λz=>hy (z ▸ ha)⟩
theorem Xd3(ss:List Str):(ddup ss).length<=ss.length:=by
 refine Xib (p:=λss d=>d.length<=ss.length) (Xzn _) (λss y ih=>?_) ss
 unfold dd1
 rw[Xzt,X0o]
 split
 ·omega
 ·rw[Xzt,X0o];omega
section
variable {P:Program}{w:World}{A:Around}{E:Value->Shared->Prop}{s:Shared}
theorem Xjm{R:Result->Shared->Prop}{I:Addr}{fp wr:List Addr}{G:Array GenState->Array GenState->Prop}{Pv:Nat->Value->Prop}{St:Nat->Shared->Prop}(ss:List Str)(W:WalksS P w A.in1 I fp wr G ss.length Pv St)(S:Addr)(nS:S∉fp)
  (hval:∀i v,Pv i v->∃t,v = .str (ss.getD i "") t) (hb:ss.length+1<scanBound):
  ∀(k i:Nat) (s:Shared),ss.length - i=k->i<=ss.length->St i s->SSet P w s.heap S (ddup (ss.take i))->(∀s',Moved (S::wr) G s s'->SSet P w s'.heap S (ddup ss)->R (.ok (.ret .none)) s') ->
   codeAny (model P w) A (.builtin "set.update.loop" ⟨[.ref S,.ref I],[]⟩) R s:=by
 have nw:S∉wr:=λz=>nS (W.sub _ z)
 have up:∀b∈wr,b∈S::wr:=λb z=>Xzo _ z
 intro k
 induction k with
 | zero=>
  intro i s e hi st hS hR
  have:i=ss.length:=by omega
  subst this
  rw[X0j] at hS
  refine codeAny_builtin F.entry_set_update_loop ?_
  rw[Around.under_plainId F.plain_set_update_loop _]
  show wpAny _ A.in1 (pyNext (.ref I) >>= λ_=>_) _ _ s
  refine X3e (W.done s _ _ st λs' mv=>?_)
  show wpAny _ A.in1 (ret Value.none) _ _ s'
  exact X3f (hR s' (mv.mono up) (hS.stay λo z=>mv.heap S o nw z))
 | succ k ih=>
  intro i s e hi st hS hR
  have lt:i<ss.length:=by omega
  refine codeAny_builtin F.entry_set_update_loop ?_
  rw[Around.under_plainId F.plain_set_update_loop _]
  show wpAny _ A.in1 (pyNext (.ref I) >>= λ_=>_) _ _ s
  refine X3e (W.item i s _ _ lt st λv s' hP st' mv=>?_)
  obtain⟨t,rfl⟩:=hval i v hP
  have hS':=hS.stay λo z=>mv.heap S o nw z
  show wpAny _ A.in1 (holding [Value.str (ss.getD i "") t] (setAdd S (.str (ss.getD i "") t)) >>= λ_=>_) _ _ s'
  refine X3e (wpAny_holding ?_)
  unfold setAdd
  refine wpAny_holding (X3e ((PySem.strKind P w).pyHash (k:=ss.getD i "") (strKind_is P w _ t) ?_))
  have hl1:(ddup (ss.take i)).length<=i:=X0c (Xd3 _) (by rw[Xz6];omega)
  refine Xmi (s:={s' with toks:=s'.toks+1}) hS' (by omega) λb h' sb S2=>?_
  have e3:ddup (ss.take (i+1))=dd1 (ddup (ss.take i)) (ss.getD i ""):=by
   rw[Xzy lt,Xgr]
   congr 1
   simp[List.getD,lt]
  have S3:SSet P w h' S (ddup (ss.take (i+1))):=by rw[e3];exact S2
  refine X3f ⟨plainId_quiet F.plain_set_update_loop _,ih (i+1) _ (by omega) lt (W.frame _ s' _ _ st' (X00 _) λb hb o q=>?_) S3 λs'' mv2 S4=>?_⟩
  ·rw[sb.2 b (λz=>nS (z ▸ hb))]
   exact q
  ·refine hR s'' (Moved.trans W.gtrans ((mv.mono up).then_heap (X00 _) λb o hb q=>?_) mv2) S4
   rw[sb.2 b (λz=>hb (z ▸ Xzp))]
   exact q
inductive Src (h:Heap) (l:Addr) (items:Array Value):Prop
 | lst:h.IsList l items->Src h l items
 | tup:h.IsTuple l items->Src h l items
theorem Xr6(a:Value){Q:Value->Shared->Prop}(h:Q (.ref s.heap.objs.size) {s with heap:=s.heap.push {cls:=.type "set",dict:=none,data:=.set #[] 0 (.fresh 0 0 (!Xd5 w))} }):
    codeAny (model P w) A (.call (.builtin "set.__new__") ⟨[.type "set",a],[]⟩) (wants Q E) s:=by
  refine codeAny_of_tree ?_
  show wpAny _ A.in1 (do checkBuiltinCall "set.__new__" ⟨[.type "set",a],[]⟩
                         again (.builtin "set.__new__" ⟨[.type "set",a],[]⟩)) _ _ s
  refine X3e (wpAny_of_eq (PySem.F.newCall_set_1 a) (X3f ⟨plainId_quiet PySem.F.plain_set_new _,codeAny_builtin PySem.F.entry_set_new ?_⟩))
  rw[Around.under_plainId PySem.F.plain_set_new _]
  unfold Builtin.«set.__new__» Builtin.Frozenset.newClass
  have q:=sub_set_self
  obtain⟨hp,g,d,tk,os⟩:=s
  dsimp only
  wp_walk
  refine wpAny_askSetting (X3f ?_)
  dsimp only
  simp only[newObj]
  exact X3e (wpAny_alloc (X3f (X3f h)))
end
end L2
set_option maxHeartbeats 3200000
namespace L2
open PySem PySem.Spec PyProof.Rows PySem.Calls
section
variable {P:Program}{w:World}{A:Around}{E:Value->Shared->Prop}{s:Shared}
abbrev Xhf (w:World):Obj:={cls:=.type "set",dict:=none,data:=.set #[] 0 (.fresh 0 0 (!Xd5 w))}
theorem Xmj{h:Heap}{a:Addr}(g:h.get? a=some (Xhf w)):SSet P w h a []:=
 ⟨_, #[],0,_,[],g,⟨rfl,rfl,rfl⟩,rfl,λe he=>by simp at he,.nil,.nil,by decide,rfl,rfl,λ_=>rfl⟩
theorem Xr7{l S:Addr}{items:Array Value}{ss:List Str}{R:Unit->Shared->Prop}(hh:A.handled=none)(src:Src s.heap l items)(hs:StrsAre items.toList ss)(hb:ss.length+1<scanBound)(hS:SSet P w s.heap S [])(hlS:l≠S)
  (hTS:∀(Q:Bool->Shared->Prop),Q false s->wpAny (model P w) A (Builtin.Frozenset.isAnySet (.ref l)) Q E s)
  (h:∀(h':Heap) (tk:Nat),SSet P w h' S (ddup ss)->(∀b o,b≠S->s.heap.get? b=some o->h'.get? b=some o)->R () {s with heap:=h',toks:=tk}):
  wpAny (model P w) A (Builtin.Frozenset.updateFrom "set.__init__" S (.ref l)) R E s:=by
 have hlen:items.size=ss.length:=by
  have:=hs.length
  rwa [Xzz] at this
 have hval:∀(i:Nat) (v:Value),items[i]? = some v->∃t,v = .str (ss.getD i "") t:=λi v q=>by
  have q':items.toList[i]? = some v:=by rw[X2l];exact q
  obtain⟨x,t,rfl⟩:=hs.all v (X19 q')
  refine⟨t,?_⟩
  congr 1
  rw[<-hs.strs]
  simp[List.getD,Xz1,q,strOf]
 obtain⟨oS,_,_,_,_,gS,_⟩:=id hS
 have ltS:=X3n gS
 unfold Builtin.Frozenset.updateFrom
 refine X3e (hTS _ ?_)
 simp only[X0t,if_false]
 cases src with
 | lst hl=>
  have hll:l<s.heap.objs.size:=by obtain⟨o,g,_⟩:=hl;exact X3n g
  refine X3e (wpAny_typeOf (T := "list") hl.typeIs ?_)
  have ne:(Value.type "list" == Value.type "dict")=false:=by decide
  simp only[ne,X0t,if_false]
  refine X3e (wpAny_pyIter_list hl ?_)
  refine X3e (wpAny_runValue ?_)
  have nI:S∉[s.heap.objs.size,l]:=by simp only[Xzw,X2o,or_false,not_or];exact⟨Xzs ltS,hlS.symm⟩
  have W:=(Walks.list (prog:=P) (w:=w) (A:=A.in1) (by simp[hh]) s.heap.objs.size l (Xzs hll) items).toS
  rw[hlen] at W
  refine Xjm ss W S nI hval hb _ 0 _ rfl (X0k _) ⟨⟨_,Heap.get?_push_size _ rfl,rfl,rfl⟩,hl.push _⟩ (hS.stay λo q=>X3o _ q) λs' mv S'=>?_
  rw[Moved.eq_with mv]
  refine X3f (h s'.heap s'.toks S' λb o nb q=>mv.heap b o (λz=>?_) (X3o _ q))
  rcases Xzw.mp z with z | z
  ·exact nb z
  ·exact absurd (X3n q) (by rw[Xzr.mp z];exact X0n _)
 | tup hl=>
  have hll:l<s.heap.objs.size:=by obtain⟨o,g,_⟩:=hl;exact X3n g
  refine X3e (wpAny_typeOf (T := "tuple") hl.typeIs ?_)
  have ne:(Value.type "tuple" == Value.type "dict")=false:=by decide
  simp only[ne,X0t,if_false]
  refine X3e (wpAny_pyIter_tuple hl ?_)
  refine X3e (wpAny_runValue ?_)
  have nI:S∉[s.heap.objs.size,l]:=by simp only[Xzw,X2o,or_false,not_or];exact⟨Xzs ltS,hlS.symm⟩
  have W:=(Walks.tuple (prog:=P) (w:=w) (A:=A.in1) (by simp[hh]) s.heap.objs.size l (Xzs hll) items).toS
  rw[hlen] at W
  refine Xjm ss W S nI hval hb _ 0 _ rfl (X0k _) ⟨⟨_,Heap.get?_push_size _ rfl,rfl,rfl⟩,hl.push _⟩ (hS.stay λo q=>X3o _ q) λs' mv S'=>?_
  rw[Moved.eq_with mv]
  refine X3f (h s'.heap s'.toks S' λb o nb q=>mv.heap b o (λz=>?_) (X3o _ q))
  rcases Xzw.mp z with z | z
  ·exact nb z
  ·exact absurd (X3n q) (by rw[Xzr.mp z];exact X0n _)
theorem Src.push{h:Heap}{l:Addr}{items:Array Value}(x:Src h l items)(o:Obj):Src (h.push o) l items:=by
 cases x with
 | lst y=>exact .lst (y.push o)
 | tup y=>exact .tup (y.push o)
theorem Src.any{l:Addr}{items:Array Value}(x:Src s.heap l items){Q:Bool->Shared->Prop}(q:Q false s):wpAny (model P w) A (Builtin.Frozenset.isAnySet (.ref l)) Q E s:=by
 cases x with
 | lst y=>
  obtain⟨o,g,c,n,d⟩:=y
  obtain⟨oc,od,odt,os⟩:=o
  simp only at c d
  subst c d
  have h1:=PySem.F.sub_list_set
  have h2:=PySem.F.sub_list_frozenset
  unfold Builtin.Frozenset.isAnySet
  wp_walk
  exact q
 | tup y=>
  obtain⟨o,g,c,n,d⟩:=y
  obtain⟨oc,od,odt,os⟩:=o
  simp only at c d
  subst c d
  have h1:isSubtype (.type "tuple") (.type "set")=pure false:=by rw[isSubtype_type];kernel_rfl
  have h2:isSubtype (.type "tuple") (.type "frozenset")=pure false:=by rw[isSubtype_type];kernel_rfl
  unfold Builtin.Frozenset.isAnySet
  wp_walk
  exact q
theorem Src.lt{h:Heap}{l:Addr}{items:Array Value}(x:Src h l items):l<h.objs.size:=by
 cases x with
 | lst y=>obtain⟨o,g,_⟩:=y;exact X3n g
 | tup y=>obtain⟨o,g,_⟩:=y;exact X3n g
theorem Xpd{l:Addr}{items:Array Value}{ss:List Str}{Q:Value->Shared->Prop}(hh:A.handled=none)(src:Src s.heap l items)(hs:StrsAre items.toList ss)(hb:ss.length+1<scanBound)
  (h:∀(h':Heap) (tk:Nat),SSet P w h' s.heap.objs.size (ddup ss)->(∀b o,s.heap.get? b=some o->h'.get? b=some o)->Q (.ref s.heap.objs.size) {s with heap:=h',toks:=tk}):
  wpAny (model P w) A (call (.type "set") [.ref l]) Q E s:=by
 obtain⟨c,tl,hmro⟩:=PySem.F.called_set.mro
 have hmade:=PySem.F.called_set.made
 have hsub:=PySem.F.called_set.sub
 refine wpAny_call (codeAny_of_tree ?_)
 show wpAny _ _ (callAny (.type "set") _) _ _ s
 refine X3f ⟨Code.quiet_builtin _ (by decide +kernel),codeAny_builtin PySem.F.entry_type_call ?_⟩
 rw[Around.under_plain (weight_type_call_type "set" [.ref l] []) rfl]
 have f1:=PySem.F.called_set.notType
 have f2:=PySem.F.called_set.canCreate
 have f3:=PySem.F.typeCall_set_1 (.ref l)
 repeat (any_goals (first | assumption | wp_step))
 refine codeAny_mono (Xr6 (.ref l) (E:=E) (Q:=λobj s1=>obj = .ref s.heap.objs.size/\s1 = {s with heap:=s.heap.push (Xhf w)}) ⟨rfl,rfl⟩) λr s1 hr=>?_
 cases r with
 | error e=>exact hr
 | ok fl=>
  cases fl with
  | ret obj=>
   obtain⟨rfl,rfl⟩:=hr
   have gS:(s.heap.push (Xhf w)).get? s.heap.objs.size=some (Xhf w):=Heap.get?_push_size _ rfl
   have hT:Shared.TypeIs {s with heap:=s.heap.push (Xhf w)} (.ref s.heap.objs.size) "set" := ⟨_,gS,rfl⟩
   have f4:=PySem.F.called_set.init.lookup
   have f5:=PySem.F.called_set.init.bind (.ref s.heap.objs.size)
   repeat (any_goals (first | assumption | wp_step))
   refine codeAny_mono (codeAny_call_builtin (R:=wants (λr s2=>r = .none/\∃h' tk,s2 = {s with heap:=h',toks:=tk}/\SSet P w h' s.heap.objs.size (ddup ss)/\∀b o,s.heap.get? b=some o->h'.get? b=some o) E)
    PySem.F.called_set.init.plain PySem.F.entry_set_init (check_set_init_1 hT ?_)) λr2 s2 hr2=>?_
   ·have src':=src.push (Xhf w)
    have lt:=src.lt
    unfold Builtin.«set.__init__» noKeywords
    generalize hU:Builtin.Frozenset.updateFrom=U
    wp_walk
    subst hU
    refine Xr7 (s:={s with heap:=s.heap.push (Xhf w)}) (by simp[hh]) src' hs hb (Xmj gS) (Xzs lt) (λQ q=>Src.any (s:={s with heap:=s.heap.push (Xhf w)}) src' q) λh' tk S' kk=>?_
    exact X3f ⟨rfl,h',tk,rfl,S',λb o q=>kk b o (Xzs (X3n q)) (X3o _ q)⟩
   ·cases r2 with
    | error e=>exact hr2
    | ok fl2=>
     cases fl2 with
     | ret r=>
      obtain⟨rfl,h',tk,rfl,S',kk⟩:=hr2
      repeat (any_goals (first | assumption | wp_step))
      exact h _ _ S' kk
     | _=>exact hr2.elim
  | _=>exact hr.elim
end
namespace SF
theorem sIter:Slot "set" "__iter__" "set.__iter__" := PySem.F.slot_set_iter
theorem eIter:entryFor table "set.__iter__" = some Builtin.«frozenset.__iter__»:=entryFor_alias (id' := "frozenset.__iter__") (by kernel_rfl) rfl (by decide +kernel) (by kernel_rfl)
theorem sNext:Slot "set_iterator" "__next__" "set_iterator.__next__" := .of (owner := "set_iterator") (n := "__next__") (by rw[typeLookup_type,builtinLookup_eq_fast];kernel_rfl) (by decide +kernel) (by decide +kernel) (by decide +kernel) (by first | exact .inl (by decide +kernel) | exact .inr (by decide +kernel)) (by rw[isSubtype_type];kernel_rfl)
theorem eNext:entryFor table "set_iterator.__next__" = some Builtin.«set_iterator.__next__»:=entryFor_of_tree (by kernel_rfl)
theorem aNext(a:Value):argsOk "set_iterator.__next__" ⟨[a],[]⟩:=by unfold argsOk;kernel_rfl
end SF
theorem Xfg{α : Type}:∀(xs:List α) (i:Nat) (hi:i<xs.length),(xs[i]::xs.eraseIdx i).Perm xs
 | x::xs,0,_=>X2b _
 | x::xs,i+1,hi=>by
  have ih:=Xfg xs i (by simpa using hi)
  rw[List.eraseIdx_cons_succ,List.getElem_cons_succ]
  exact(List.Perm.swap x _ _).trans (ih.cons x)
theorem Xuz{α : Type}(next:Nat->Nat):∀(n k:Nat) (left:List α) (out:Array α),left.length=n->(pickOrder.go next n k left out).toList.Perm (out.toList++left):=by
 intro n
 induction n with
 | zero=>
  intro k left out e
  rw[X0g.mp e,X0m]
  exact X2b _
 | succ n ih=>
  intro k left out e
  have hlt:next k % left.length<left.length:=Nat.mod_lt _ (by omega)
  unfold pickOrder.go
  rw[Xzl hlt]
  dsimp only
  refine(ih _ _ _ (by rw[List.length_eraseIdx_of_lt hlt,e];rfl)).trans ?_
  rw[Array.toList_push,X18]
  exact(Xfg left _ hlt).append_left _
theorem Xpe{α : Type}(next:Nat->Nat)(xs:Array α):(pickOrder next xs).toList.Perm xs.toList:=by
 have:=Xuz next xs.size 0 xs.toList #[] (by simp)
 simpa [pickOrder] using this
section
variable {P:Program}{w:World}{A:Around}{E:Value->Shared->Prop}{s:Shared}
theorem Xpf{src:Source}{n:Nat}{Q:Nat->Shared->Prop}(hn:n≠0)(h:∀i d,i<n->Q i {s with drawn:=d}):wpAny (model P w) A (choose src n) Q E s:=by
 intro Γ p hΓ
 exact⟨hn,h _ _ (Nat.mod_lt _ (Nat.pos_of_ne_zero hn))⟩
theorem Xjn{α : Type}:∀(n:Nat) (xs:List α) (s:Shared) (Q:List α->Shared->Prop),xs.length=n->(∀os d,os.Perm xs->Q os {s with drawn:=d})->wpAny (model P w) A (drawOrder n xs) Q E s:=by
 intro n
 induction n with
 | zero=>
  intro xs s Q e h
  rw[X0g.mp e] at h ⊢
  unfold drawOrder
  exact X3f (h [] s.drawn (X2b _))
 | succ n ih=>
  intro xs s Q e h
  cases xs with
  | nil=>cases e
  | cons y ys=>
   unfold drawOrder
   refine X3e (Xpf (by simp) λi d hi=>?_)
   rw[Xzl hi]
   dsimp only
   refine X3e (ih _ _ _ (by rw[List.length_eraseIdx_of_lt hi,e];rfl) λos d' hp=>?_)
   exact X3f (h _ d' ((hp.cons _).trans (Xfg _ i hi)))
def SAt (h:Heap) (a:Addr) (es:Array (Int×Value)) (ep:Nat) (t:SetTable):Prop:=∃o,h.get? a=some o/\o.ExactSet/\o.data = .set es ep t/\t.fits es.size=true
theorem Xk7{a:Addr}{es:Array (Int×Value)}{ep:Nat}{t:SetTable}{Q:Bool->Shared->Prop}(hs:SAt s.heap a es ep t)(h:Q (!Xd5 w&&(!t.plain&&decide (es.size > 1))) s):wpAny (model P w) A (setDrawn a) Q E s:=by
 obtain⟨o,ho,hex,hd,hf⟩:=hs
 unfold setDrawn setsByText
 refine X3e (wpAny_setState_of ho hd hf ?_)
 dsimp only
 refine X3e (X3e (wpAny_askSetting (X3f ?_)))
 exact X3f h
abbrev itO (f0:Value) (i:Nat) (a:Addr) (n ep:Nat):Obj:={cls:=.type "set_iterator",data:=.fields #[f0,.int i 0,.ref a,.int n 0,.int ep 0]}
inductive Ord (w:World) (h:Heap) (a:Addr) (es:Array (Int×Value)) (ep:Nat) (t:SetTable) (f0:Value) (i:Nat):List Value->Prop
 | txt:Xd5 w=true->f0 = .int 0 0->Ord w h a es ep t f0 i ((pickOrder (w.params.setOrder a ep) es).toList.map (·.2))
 | drw (p:Addr) (os:List Nat):Xd5 w=false->os.Perm (List.range es.size)->f0 = .ref p->(∃n,h.get? p=some ⟨.type "tuple",none,.seq (os.map λj=>Value.int (j:Nat) 0).toArray n, #[]⟩)->Ord w h a es ep t f0 i (os.map λj=>((es[j]?).map (·.2)).getD .none)
 | one (sl:Nat):Xd5 w=false->t.led=true->es.size<=1->f0 = .int sl 0->(i=0->sl=0)->(∀j,i=1->t.place[0]? = some j->sl=j+1)->Ord w h a es ep t f0 i (es.toList.map (·.2))
theorem Xr8{a:Addr}{es:Array (Int×Value)}{ep:Nat}{t:SetTable}{Q:Value->Shared->Prop}(hs:SAt s.heap a es ep t)(hb:es.size<scanBound)(hl:t.led = !Xd5 w)(hp:t.plain=true->es.size=0)
    (h:∀(f0:Value) (vs:List Value) (h1:Heap) (d:Drawn),(∀b o,s.heap.get? b=some o->h1.get? b=some o)->h1.objs.size<=s.heap.objs.size+1->s.heap.objs.size<=h1.objs.size->(∀p,f0 = .ref p->p<h1.objs.size)->Ord w (h1.push (itO f0 0 a es.size ep)) a es ep t f0 0 vs ->
      vs.Perm (es.toList.map (·.2))->Q (.ref h1.objs.size) {s with heap:=h1.push (itO f0 0 a es.size ep),drawn:=d}):
    wpAny (model P w) A (pyIter (.ref a)) Q E s:=by
  obtain⟨o,ho,hex,hd,hf⟩:=id hs
  have hT:s.TypeIs (.ref a) "set" := ⟨o,ho,hex.1⟩
  refine wpAny_pyIter_slot hT SF.sIter (wpAny_call_entry SF.sIter hT SF.eIter ?_ (PySem.F.args_set_iter_1 _))
  unfold Builtin.«frozenset.__iter__» Builtin.Frozenset.slot0 slotArgs
  simp only[List.isEmpty_nil,Bool.not_true,X0t, ↓reduceIte,bind_assoc,X1d,bne_self_eq_false]
  unfold Builtin.Frozenset.addrOf Builtin.Frozenset.sizeOf
  refine X3e (X3f ?_)
  dsimp only
  refine X3e (X3f ?_)
  refine X3e (X3e (wpAny_setEntries_of ho hd hf (X3f ?_)))
  refine X3e (Xk7 hs ?_)
  have fin:∀(f0:Value) (vs:List Value) (h1:Heap) (d:Drawn),(∀b o,s.heap.get? b=some o->h1.get? b=some o)->h1.objs.size<=s.heap.objs.size+1->s.heap.objs.size<=h1.objs.size->(∀p,f0 = .ref p->p<h1.objs.size)->Ord w (h1.push (itO f0 0 a es.size ep)) a es ep t f0 0 vs->vs.Perm (es.toList.map (·.2)) ->
      wpAny (model P w) A.in1 (do let r <-newFields "set_iterator" [f0,rawInt 0,.ref a,rawInt es.size,rawInt ep]
                                  ret r) (λfin s'=>∃r,fin = .done (.ret r)/\∃T v,s'.TypeIs r T/\typeLookup (.type T) (Str.ofString "__next__")=pure (some v)/\Q r s') E {s with heap:=h1,drawn:=d}:=λf0 vs h1 d k1 k2 k3 k4 k5 k6=>
    X3e (wpAny_newObj_type (X3f ⟨_,rfl, "set_iterator",_,⟨_,Heap.get?_push_size _ rfl,rfl⟩,SF.sNext.lookup,h f0 vs h1 d k1 k2 k3 k4 k5 k6⟩))
  by_cases hc:(!Xd5 w&&(!t.plain&&decide (es.size > 1)))=true
  . rw[X3i hc]
    simp only[Xz3,X26,decide_eq_true_eq] at hc
    obtain⟨c1,c2,c3⟩:=hc
    refine X3e (Xjn _ _ _ _ X0s λos d po=>?_)
    have hol:os.length=es.size:=by rw[po.length_eq,X0s]
    refine X3e (wpAny_newTuple ?_ (by rw[Xzk,hol];exact fits_of_scanBound hb))
    refine X3e (wpAny_setEpoch_of (X3o _ ho) hd hf ?_)
    refine fin _ _ _ d (λb o q=>X3o _ q) (by rw[size_push'];exact Xzn _) (by rw[size_push'];exact X00 _) (λp e=>by cases e;rw[size_push'];exact Nat.lt_succ_self _) (.drw s.heap.objs.size os c1 po rfl ⟨0,X3o _ (Heap.get?_push_size _ rfl)⟩) ?_
    have e:(os.map λj=>((es[j]?).map (·.2)).getD Value.none).Perm ((List.range es.size).map λj=>((es[j]?).map (·.2)).getD Value.none):=po.map _
    refine e.trans ?_
    have e2:((List.range es.size).map λj=>((es[j]?).map (·.2)).getD Value.none)=es.toList.map (·.2):=by
      apply List.ext_getElem?
      intro i
      have q:es.toList[i]? = es[i]?:=X2l
      rw[Xz1,Xz1,q]
      by_cases hi:i<es.size
      . rw[List.getElem?_range hi,X1l,getElem?_pos es i hi]
        rfl
      . rw[X14 (by simpa using hi),getElem?_neg es i hi]
        rfl
    rw[e2]
  . rw[X3h hc]
    refine X3e (X3f ?_)
    refine X3e (wpAny_setEpoch_of ho hd hf ?_)
    cases hw:Xd5 w with
    | true=>exact fin _ _ _ s.drawn (λb o q=>q) (X00 _) (Xzn _) (λp e=>by cases e) (.txt hw rfl) ((Xpe _ es).map _)
    | false=>
      have h1:es.size<=1:=by
        cases hpl:t.plain with
        | true=>rw[hp hpl];exact X0k _
        | false=>
          simp only[hw,hpl,Bool.not_false,X06,decide_eq_true_eq] at hc
          omega
      exact fin _ _ _ s.drawn (λb o q=>q) (X00 _) (Xzn _) (λp e=>by cases e) (.one 0 hw (by rw[hl,hw];rfl) h1 rfl (λ_=>rfl) (λj e=>by cases e)) (X2b _)
end
end L2
namespace L2
open PySem PySem.Spec PyProof.Rows PySem.Calls
section
variable {P:Program}{w:World}{A:Around}{E:Value->Shared->Prop}{s:Shared}{I a:Addr}{es:Array (Int×Value)}{ep:Nat}{t:SetTable}
def ItS (w:World) (I a:Addr) (es:Array (Int×Value)) (ep:Nat) (t:SetTable) (vs:List Value) (fp:Option Addr) (i:Nat) (h:Heap):Prop:=
 ∃f0,h.get? I=some (itO f0 i a es.size ep)/\Ord w h a es ep t f0 i vs/\SAt h a es ep t/\(∀p,f0 = .ref p->fp=some p)
theorem Xjo{i:Nat}{f0:Value}{Q:Fin->Shared->Prop}(hI:s.heap.get? I=some (itO f0 i a es.size ep))(hS:SAt s.heap a es ep t)
  (h1:∀sl,f0 = .int sl 0->wpAny (model P w) A (do
   match <-setNext a sl.toNat i ep with
   | some (x,next)=>setField (.ref I) 0 (rawInt next);setField (.ref I) 1 (rawInt ((i:Int)+1));ret x
   | none=>setField (.ref I) 2 .none;raiseNew (<-newExc (.type "StopIteration") [])) Q E s)
  (h2:∀p,f0 = .ref p->wpAny (model P w) A (do
   let some places <-seqItems? (.ref p) | unsupported "internal:set_iterator"
   match places[i]? with
   | some (.int place _)=>let x <-setNextDrawn a place.toNat ep;setField (.ref I) 1 (rawInt ((i:Int)+1));ret x
   | some _=>unsupported "internal:set_iterator"
   | none=>setField (.ref I) 0 (rawInt 0);setField (.ref I) 2 .none;raiseNew (<-newExc (.type "StopIteration") [])) Q E s)
  (hf:(∃sl,f0 = .int sl 0) \/ ∃p,f0 = .ref p):wpAny (model P w) A (Builtin.«set_iterator.__next__» ⟨[.ref I],[]⟩) Q E s:=by
 obtain⟨o,ho,hex,hd,hft⟩:=id hS
 unfold Builtin.«set_iterator.__next__» slotArgs
 simp only[List.isEmpty_nil,Bool.not_true,X0t, ↓reduceIte,bind_assoc,X1d,bne_self_eq_false]
 refine X3e (X3f ?_)
 dsimp only
 refine X3e (wpAny_fieldsOf hI rfl ?_)
 dsimp only
 refine X3e (wpAny_setEntries_of ho hd hft ?_)
 rw[X3h (by simp)]
 rcases hf with ⟨sl,rfl⟩ | ⟨p,rfl⟩
 ·exact h1 sl rfl
 ·exact h2 p rfl
theorem Xmk{h:Heap}{f0 x:Value}{i j n:Nat}(hI:h.get? I=some (itO f0 i a n ep))(k:Nat)(v:Value):
  (h.update I (Obj.mapFields (·.setIfInBounds k v))).get? I=some {cls:=.type "set_iterator",data:=.fields ((#[f0,.int i 0,.ref a,.int n 0,.int ep 0]:Array Value).setIfInBounds k v)}:=
 Heap.get?_update_self _ hI rfl
theorem SAt.at{h h':Heap}(x:SAt h a es ep t)(k:∀o,h.get? a=some o->h'.get? a=some o):SAt h' a es ep t:=by
 obtain⟨o,ho,r⟩:=x
 exact⟨o,k o ho,r⟩
theorem Xd8{sl i:Nat}{Q:Option (Value×Nat)->Shared->Prop}(hw:Xd5 w=true)(hS:SAt s.heap a es ep t)(h:Q (((pickOrder (w.params.setOrder a ep) es)[i]?).map λe=>(e.2,sl)) s):wpAny (model P w) A (setNext a sl i ep) Q E s:=by
 obtain⟨o,ho,hex,hd,hf⟩:=id hS
 unfold setNext setsByText
 refine X3e (wpAny_setState_of ho hd hf ?_)
 dsimp only
 refine X3e (X3e (wpAny_askSetting (X3f ?_)))
 rw[X3i (show (model P w).w.params.followText "set-order" = true from hw),X3h (by simp)]
 unfold setWalk setsByText
 refine X3e (X3e (wpAny_setState_of ho hd hf ?_))
 dsimp only
 refine X3e (X3e (wpAny_askSetting (X3f ?_)))
 rw[X3i (show (model P w).w.params.followText "set-order" = true from hw)]
 exact X3e (wpAny_askSetting (X3f (X3f h)))
theorem Xd9{sl i:Nat}{Q:Option (Value×Nat)->Shared->Prop}(hw:Xd5 w=false)(hl:t.led=true)(h1:es.size<=1)(hS:SAt s.heap a es ep t)
  (h:Q (match es[SetTable.below t.place sl]?,t.place[SetTable.below t.place sl]? with | some (_,x),some j=>some (x,j+1) | _,_=>none) s):wpAny (model P w) A (setNext a sl i ep) Q E s:=by
 obtain⟨o,ho,hex,hd,hf⟩:=id hS
 unfold setNext setsByText
 refine X3e (wpAny_setState_of ho hd hf ?_)
 dsimp only
 refine X3e (X3e (wpAny_askSetting (X3f ?_)))
 rw[X3h (show ¬(model P w).w.params.followText "set-order" = true from by show ¬Xd5 w=true;rw[hw];decide)]
 have d1:(!t.plain&&decide (es.size > 1))=false:=by rw[X3k (by omega),X24]
 refine wpAny_ite_split (λz=>?_) (λ_=>?_)
 ·have z':(!t.plain&&decide (es.size > 1))=true:=z
  rw[d1] at z'
  cases z'
 refine X3e ?_
 have m1:(!t.led && !es.isEmpty)=false:=by rw[hl];rfl
 refine wpAny_ite_split (λz=>?_) (λ_=>X3f (X3f h))
 have z':(!t.led && !es.isEmpty)=true:=z
 rw[m1] at z'
 cases z'
theorem Xnt{t:SetTable}(h:t.place.size<=1):SetTable.below t.place 0=0:=by
 generalize t.place=pl at *
 obtain⟨l⟩:=pl
 match l,h with
 | [],_=>rfl
 | [x],_=>simp[SetTable.below,SetTable.below.go]
theorem Xpg{t:SetTable}{j:Nat}(h:t.place.size<=1)(hj:t.place[0]? = some j):SetTable.below t.place (j+1)=1:=by
 generalize t.place=pl at *
 obtain⟨l⟩:=pl
 match l,h,hj with
 | [x],_,hj=>
  have:x=j:=by simpa using hj
  subst this
  simp[SetTable.below,SetTable.below.go]
theorem Xjp{n:Nat}(h:t.fits n=true):t.place.size=n:=by
 unfold SetTable.fits at h
 simp only[Xz3,beq_iff_eq] at h
 exact h.1
end
section
variable {P:Program}{w:World}{A:Around}{E:Value->Shared->Prop}{s:Shared}{I a:Addr}{es:Array (Int×Value)}{ep:Nat}{t:SetTable}{vs:List Value}{fp:Option Addr}
theorem Ord.cases0{h:Heap}{f0:Value}{i:Nat}(x:Ord w h a es ep t f0 i vs):(∃sl:Int,f0 = .int sl 0) \/ ∃p,f0 = .ref p:=by
 cases x with
 | txt _ e=>exact .inl ⟨0,e⟩
 | drw p os _ _ e _=>exact .inr ⟨p,e⟩
 | one sl _ _ _ e _ _=>exact .inl ⟨sl,e⟩
theorem Xph{i:Nat}{Q:Option Value->Shared->Prop}(st:ItS w I a es ep t vs fp i s.heap)(hi:i<vs.length)(hl:vs.length=es.size)(nIa:a≠I)(nIp:∀p,fp=some p->p≠I)
  (hQ:∀h',ItS w I a es ep t vs fp (i+1) h'->Heap.SameBut I s.heap h'->Q (some vs[i]) {s with heap:=h'}):wpAny (model P w) A (pyNext (.ref I)) Q E s:=by
 obtain⟨f0,hI,hO,hS,hp⟩:=st
 have hT:s.TypeIs (.ref I) "set_iterator" := ⟨_,hI,rfl⟩
 unfold pyNext
 refine X3e (wpAny_attempt (wpAny_callSpecial?_slot (name:=Str.ofString "__next__") hT SF.sNext (wpAny_call_entry SF.sNext hT SF.eNext ?_ (SF.aNext _))))
 have e1:((i:Int)+1)=((i+1:Nat):Int):=by omega
 have fin:∀(E':Value->Shared->Prop) (nx:Nat),Ord w ((s.heap.update I (Obj.mapFields (·.setIfInBounds 0 (rawInt nx)))).update I (Obj.mapFields (·.setIfInBounds 1 (rawInt ((i:Int)+1))))) a es ep t (.int nx 0) (i+1) vs ->
   wpAny (model P w) A.in1 (do
    setField (.ref I) 0 (rawInt nx)
    setField (.ref I) 1 (rawInt ((i:Int)+1))
    ret vs[i]) (λfin s'=>∃r,fin = .done (.ret r)/\wpAny (model P w) A (pure (some r)) Q E s') E' s:=λE' nx O=>by
  refine X3e (wpAny_setField hI rfl (by simp) ?_)
  refine X3e (wpAny_setField (Xmk (x:=.none) (j:=0) hI 0 (rawInt nx)) rfl (by simp) ?_)
  have g:=Heap.get?_update_self (Obj.mapFields (·.setIfInBounds 1 (rawInt ((i:Int)+1)))) (Xmk (x:=.none) (j:=0) hI 0 (rawInt nx)) rfl
  refine X3f ⟨_,rfl,X3f (hQ _ ⟨_,g.trans ?_,O,hS.at λo q=>?_,λp z=>by cases z⟩ ((X3p ..).trans (X3p ..)))⟩
  ·rw[e1]
   rfl
  ·rw[((X3p s.heap I _).trans (X3p _ I _)).2 a nIa]
   exact q
 refine Xjo hI hS (λsl e=>?_) (λp e=>?_) hO.cases0
 ·subst e
  cases hO with
  | txt hw e=>
   cases e
   have hi2:i<(pickOrder (w.params.setOrder a ep) es).size:=by simpa using hi
   refine X3e (Xd8 hw hS ?_)
   rw[getElem?_pos _ i hi2]
   have ev:((pickOrder (w.params.setOrder a ep) es).toList.map (·.2))[i]=((pickOrder (w.params.setOrder a ep) es)[i]).2:=by simp
   have f:=λE'=>fin E' 0 (.txt hw rfl)
   rw[ev] at f
   exact f _
  | drw p os _ _ e _=>cases e
  | one sl' hw hld h1 e hz ho=>
   cases e
   obtain⟨_,_,_,_,hft⟩:=id hS
   have hps:=Xjp hft
   have i0:i=0:=by
    have:i<es.size:=by rw[<-hl];exact hi
    omega
   subst i0
   have z0:=hz rfl
   subst z0
   have he:0<es.size:=by rw[<-hl];exact hi
   have hpl:0<t.place.size:=by rw[hps];exact he
   refine X3e (Xd9 hw hld h1 hS ?_)
   have b0:SetTable.below t.place ((0:Nat):Int).toNat=0:=Xnt (by rw[hps];exact h1)
   rw[b0,getElem?_pos es 0 he,getElem?_pos t.place 0 hpl]
   have ev:(es.toList.map (·.2))[0]=(es[0]).2:=by simp
   have f:=λE'=>fin E' (t.place[0]+1) (.one (t.place[0]+1) hw hld h1 rfl (λz=>by cases z) (λj _ q=>by rw[getElem?_pos t.place 0 hpl] at q;cases q;rfl))
   rw[ev] at f
   exact f _
 ·subst e
  cases hO with
  | txt hw e=>cases e
  | one sl' hw hld h1 e hz ho=>cases e
  | drw p' os hw hp2 e htp=>
   cases e
   obtain⟨n,htp⟩:=htp
   have hil:i<os.length:=by simpa using hi
   have hos:os[i]<es.size:=X0v.mp (hp2.mem_iff.mp (X0b hil))
   refine X3e (wpAny_seqItems htp rfl ?_)
   have g:((os.map λj=>Value.int (j:Nat) 0).toArray)[i]? = some (.int ((os[i]:Nat):Int) 0):=by simp[hil]
   dsimp only
   rw[g]
   dsimp only
   obtain⟨o,ho,hex,hd,hft⟩:=id hS
   unfold setNextDrawn
   refine X3e (X3e (wpAny_setState_of ho hd hft ?_))
   dsimp only
   rw[X3h (by simp),show ((os[i]:Nat):Int).toNat=os[i] from X17 _,getElem?_pos es _ hos]
   refine X3f ?_
   refine X3e (wpAny_setField hI rfl (by simp) ?_)
   have ev:(os.map λj=>((es[j]?).map (·.2)).getD Value.none)[i]=(es[os[i]]).2:=by simp[hos]
   have g2:=Xmk (x:=.none) (j:=0) hI 1 (rawInt ((i:Int)+1))
   have nI2:p≠I:=nIp p (hp p rfl)
   have q:=hQ (s.heap.update I (Obj.mapFields (·.setIfInBounds 1 (rawInt ((i:Int)+1))))) ⟨_,g2.trans (by rw[e1];rfl),.drw p os hw hp2 rfl ⟨n,?_⟩,hS.at λo q=>?_,λp' z=>hp p' z⟩ (X3p ..)
   ·rw[ev] at q
    exact X3f ⟨_,rfl,X3f q⟩
   ·rw[(X3p s.heap I _).2 p nI2]
    exact htp
   ·rw[(X3p s.heap I _).2 a nIa]
    exact q
end
section
variable {P:Program}{w:World}{A:Around}{E:Value->Shared->Prop}{s:Shared}{I a:Addr}{es:Array (Int×Value)}{ep:Nat}{t:SetTable}{vs:List Value}{fp:Option Addr}
theorem Xjq{α : Type}{h0:Heap}{Q : α->Shared->Prop}{E':Value->Shared->Prop}(hh:A.handled=none)
  (k:∀e h',(∀b o,s.heap.get? b=some o->h'.get? b=some o)->Shared.TypeIs {s with heap:=h'} e "StopIteration" -> E' e {s with heap:=h'}):
  wpAny (model P w) A (do raiseNew (<-newExc (.type "StopIteration") []):Sem α) Q E' s:=by
 refine X3e ?_
 simp only[newExc,newTuple]
 refine X3e (wpAny_newObj_type ?_ (by size_fits))
 refine X3e (m:=firstArgMember _ _) (wpAny_of_eq (a:=Value.none) (by first | rfl | (simp only[firstArgMember];rfl)) ?_)
 refine wpAny_newObj_type ?_ (by size_fits)
 simp only[raiseNew]
 refine X3e (wpAny_handled ?_)
 rw[hh]
 refine X3e (X3f (wpAny_throw ?_))
 exact k _ _ (λb o q=>X3o _ (X3o _ q)) ⟨_,Heap.get?_push_size _ rfl,rfl⟩
theorem Xr9{Q:Option Value->Shared->Prop}(hh:A.handled=none)(st:ItS w I a es ep t vs fp vs.length s.heap)(hl:vs.length=es.size)
    (hQ:∀h',(∀b o,b≠I->s.heap.get? b=some o->h'.get? b=some o)->Q none {s with heap:=h'}):wpAny (model P w) A (pyNext (.ref I)) Q E s:=by
  obtain⟨f0,hI,hO,hS,hp⟩:=st
  have hT:s.TypeIs (.ref I) "set_iterator" := ⟨_,hI,rfl⟩
  unfold pyNext
  refine X3e (wpAny_attempt (wpAny_callSpecial?_slot (name:=Str.ofString "__next__") hT SF.sNext (wpAny_call_entry SF.sNext hT SF.eNext ?_ (SF.aNext _))))
  have hh1:A.in1.handled=none:=hh
  have stp:∀(e:Value) (h':Heap),(∀b o,b≠I->s.heap.get? b=some o->h'.get? b=some o)->Shared.TypeIs {s with heap:=h'} e "StopIteration" ->
      wpAny (model P w) A (do if <-isInstance e (.type "StopIteration") then pure none else throw e) Q E {s with heap:=h'}:=λe h' k ty=>
    X3e (wpAny_isInstance (T := "StopIteration") (b:=true) ty isSubtype_stop (X3f (hQ h' k)))
  have keep1:∀(f:Obj->Obj) b o,b≠I->s.heap.get? b=some o->(s.heap.update I f).get? b=some o:=λf b o nb q=>by
    rw[(X3p s.heap I f).2 b nb]
    exact q
  have fin:∀(Q':PySem.Fin->Shared->Prop),wpAny (model P w) A.in1 (do
        setField (.ref I) 2 .none
        raiseNew (<-newExc (.type "StopIteration") [])) Q' (λe s'=>wpAny (model P w) A (do if <-isInstance e (.type "StopIteration") then pure none else throw e) Q E s') s:=λQ'=>by
    refine X3e (wpAny_setField hI rfl (by simp) ?_)
    refine Xjq (h0:=s.heap) (s:={s with heap:=s.heap.update I (Obj.mapFields (·.setIfInBounds 2 Value.none))}) hh1 λe h' k ty=>?_
    exact stp e h' (λb o nb q=>k b o (keep1 _ b o nb q)) ty
  refine Xjo hI hS (λsl e=>?_) (λp e=>?_) hO.cases0
  . subst e
    cases hO with
    | txt hw e=>
      cases e
      refine X3e (Xd8 hw hS ?_)
      rw[getElem?_neg _ _ (by simp)]
      exact fin _
    | drw p os _ _ e _=>cases e
    | one sl' hw hld h1 e hz ho=>
      cases e
      obtain⟨_,_,_,_,hft⟩:=id hS
      have hps:=Xjp hft
      refine X3e (Xd9 hw hld h1 hS ?_)
      have hn:es[SetTable.below t.place ((sl':Nat):Int).toNat]? = none:=by
        rw[X17]
        by_cases h0:es.size=0
        . exact getElem?_neg _ _ (by omega)
        . have e1:es.size=1:=by omega
          have hpl:0<t.place.size:=by rw[hps,e1];decide
          have:=ho t.place[0] (by rw[hl,e1]) (getElem?_pos t.place 0 hpl)
          rw[this,Xpg (by rw[hps];exact h1) (getElem?_pos t.place 0 hpl)]
          exact getElem?_neg _ _ (by omega)
      rw[hn]
      exact fin _
  . subst e
    cases hO with
    | txt hw e=>cases e
    | one sl' hw hld h1 e hz ho=>cases e
    | drw p' os hw hp2 e htp=>
      cases e
      obtain⟨n,htp⟩:=htp
      refine X3e (wpAny_seqItems htp rfl ?_)
      dsimp only
      rw[getElem?_neg _ _ (by simp)]
      dsimp only
      refine X3e (wpAny_setField hI rfl (by simp) ?_)
      refine X3e (wpAny_setField (Xmk (x:=.none) (j:=0) hI 0 (rawInt 0)) rfl (by simp) ?_)
      refine Xjq (h0:=s.heap) (s:={s with heap:=(s.heap.update I (Obj.mapFields (·.setIfInBounds 0 (rawInt 0)))).update I (Obj.mapFields (·.setIfInBounds 2 Value.none))}) hh1 λe h' k ty=>?_
      refine stp e h' (λb o nb q=>k b o ?_) ty
      show ((s.heap.update I _).update I _).get? b=some o
      rw[(X3p _ I _).2 b nb]
      exact keep1 _ b o nb q
end
namespace SF
theorem sSelf:Slot "set_iterator" "__iter__" "set_iterator.__iter__" := .of (owner := "set_iterator") (n := "__iter__") (by rw[typeLookup_type,builtinLookup_eq_fast];kernel_rfl) (by decide +kernel) (by decide +kernel) (by decide +kernel) (by first | exact .inl (by decide +kernel) | exact .inr (by decide +kernel)) (by rw[isSubtype_type];kernel_rfl)
theorem eSelf:entryFor table "set_iterator.__iter__" = some Builtin.«dict_keyiterator.__iter__»:=entryFor_alias (id' := "dict_keyiterator.__iter__") (by kernel_rfl) rfl (by decide +kernel) (by kernel_rfl)
theorem aSelf(a:Value):argsOk "set_iterator.__iter__" ⟨[a],[]⟩:=by unfold argsOk;kernel_rfl
end SF
section
variable {P:Program}{w:World}{A:Around}{E:Value->Shared->Prop}{s:Shared}{I a:Addr}{es:Array (Int×Value)}{ep:Nat}{t:SetTable}{vs:List Value}{fp:Option Addr}{ks:List Str}
theorem ItS.at{i:Nat}{h h':Heap}(x:ItS w I a es ep t vs fp i h)(k:∀b∈I::a::fp.toList,∀o,h.get? b=some o->h'.get? b=some o):ItS w I a es ep t vs fp i h':=by
 obtain⟨f0,h1,h2,h3,h4⟩:=x
 refine⟨f0,k I (by simp) _ h1,?_,h3.at λo q=>k a (by simp) o q,h4⟩
 cases h2 with
 | txt e1 e2=>exact .txt e1 e2
 | drw p os e1 e2 e3 e4=>
  obtain⟨n,e4⟩:=e4
  exact .drw p os e1 e2 e3 ⟨n,k p (by rw[h4 p e3];simp) _ e4⟩
 | one sl e1 e2 e3 e4 e5 e6=>exact .one sl e1 e2 e3 e4 e5 e6
theorem Xpi(hh:A.handled=none)(hl:vs.length=es.size)(nIa:a≠I)(nIp:∀p,fp=some p->p≠I):Walks P w A I (I::a::fp.toList) [I] vs.length (λi v=>vs[i]? = some v) (ItS w I a es ep t vs fp) where
 sub:=λb hb=>by simp at hb;simp[hb]
 frame:=λ_ _ _ st hk=>st.at hk
 item:=λi s Q E hi st hQ=>by
  refine Xph st hi hl nIa nIp λh' st' sb=>?_
  exact hQ vs[i] h' s.toks (by simp[hi]) st' λb o hb e=>by rw[sb.2 b (λz=>hb (by simp[z]))];exact e
 done:=λs Q E st hQ=>Xr9 hh st hl λh' k=>hQ h' s.toks λb o hb e=>k b o (λz=>hb (by simp[z])) e
 self:=λi s Q E st hQ=>by
  obtain⟨f0,h1,_⟩:=st
  have hT:s.TypeIs (.ref I) "set_iterator" := ⟨_,h1,rfl⟩
  refine wpAny_pyIter_slot hT SF.sSelf (wpAny_call_entry SF.sSelf hT SF.eSelf ?_ (SF.aSelf _))
  show wpAny _ _ (ret (.ref I)) _ _ s
  exact X3f ⟨_,rfl, "set_iterator",_,hT,SF.sNext.lookup,hQ⟩
theorem Xsa{r:Addr}{Q:Bool->Shared->Prop}(hT:s.TypeIs (.ref r) "set")(h:Q false s):wpAny (model P w) A (Builtin.List.listLengthHint (.ref r)) Q E s:=by
 unfold Builtin.List.listLengthHint
 refine X3e (wpAny_specialOf hT PySem.F.slot_set_len.lookup ?_)
 generalize hid:("set.__len__" : String)=id0
 wp_delta
 rw[show splitId id0=some ("set", "__len__") from by subst hid;decide +kernel]
 subst hid
 refine X3e (wpAny_isInstance (T := "set") (b:=true) hT (by rw[isSubtype_type];kernel_rfl) ?_)
 refine wpAny_ite_split (λz=>absurd z (by decide)) (λ_=>?_)
 refine wpAny_ite_split (λ_=>?_) (λz=>absurd (by decide +kernel) z)
 exact X3e (wpAny_typeOf hT (X3f h))
end
end L2
namespace L2
open PySem PySem.Spec PyProof.Rows PySem.Calls
section
variable {P:Program}{w:World}{A:Around}{E:Value->Shared->Prop}{s:Shared}{a:Addr}{ks:List Str}
theorem Xnu{R:Result->Shared->Prop}{S:Addr}{res:Value}{c0:Nat}(hh:A.handled=none)(hs:SSet P w s.heap a ks)(nS:S≠a)(gS:s.heap.get? S=some {cls:=.type "list",data:=.seq #[] c0})
  (hR:∀s' acc c vs ls,(∀b o,b≠S->s.heap.get? b=some o->s'.heap.get? b=some o)->s'.os=s.os->s'.gens=s.gens->s'.heap.get? S=some {cls:=.type "list",dict:=none,data:=.seq acc c,slots := #[]}->acc.toList=vs->StrsAre vs ls->ls.Perm ks->R (.ok (.ret res)) s'):
  wpAny (model P w) A.in1 (Builtin.List.listExtendWith (.ref S) (.ref a) res)
   (λfin s'=>match fin with | .done f=>R (.ok f) s' | .again c'=>c'.quiet=true/\codeAny (model P w) A c' R s') (λe s'=>R (.error e) s') s:=by
 obtain⟨o,es,ep,t,ls0,ho,hex,hd,hel,hst,hpm,hb,hf,hl,hpl⟩:=id hs
 have hT:s.TypeIs (.ref a) "set" := ⟨o,ho,hex.1⟩
 have la:=X3n ho
 have lS:=X3n gS
 unfold Builtin.List.listExtendWith
 refine X3e (wpAny_typeOf (T := "set") hT ?_)
 have n1:Builtin.List.listSameRef (.ref S) (.ref a)=false:=by simp[Builtin.List.listSameRef,nS]
 have n2:(Value.type "set" == Value.type "list")=false:=by decide
 have n3:(Value.type "set" == Value.type "tuple")=false:=by decide
 simp only[n1,n2,n3,X27,X0t,if_false]
 refine X3e (Xr8 ⟨o,ho,hex,hd,hf⟩ hb hl hpl λf0 vs h1 d k1 z1 z2 kp O pv=>?_)
 have hvl:vs.length=es.size:=by rw[pv.length_eq,Xzk,Xzz]
 have nI:∀b,b<h1.objs.size->b≠h1.objs.size:=λb q=>Xzs q
 have kI:∀b o,s.heap.get? b=some o->(h1.push (itO f0 0 a es.size ep)).get? b=some o:=λb o q=>X3o _ (k1 b o q)
 obtain⟨fp,hfp⟩:∃fp:Option Addr,(∀p,f0 = .ref p->fp=some p)/\∀p,fp=some p->p≠h1.objs.size/\p≠S:=by
  cases f0 with
  | ref p=>
   refine⟨some p,⟨λq e=>(by cases e;rfl),λq e=>?_⟩⟩
   cases e
   refine⟨Xzs (kp p rfl),λz=>?_⟩
   subst z
   cases O with
   | drw p' os _ _ e ht=>
    cases e
    obtain⟨n,ht⟩:=ht
    rw[kI _ _ gS] at ht
    have hc:=congrArg Obj.cls (Xzx ht)
    exact absurd hc (by simp)
   | txt _ e=>cases e
   | one _ _ _ _ e _ _=>cases e
  | _=>exact⟨none,⟨λq e=>(by cases e),λq e=>(by cases e)⟩⟩
 have st0:ItS w h1.objs.size a es ep t vs fp 0 (h1.push (itO f0 0 a es.size ep)):=⟨f0,Heap.get?_push_size _ rfl,O,⟨o,kI _ _ ho,hex,hd,hf⟩,hfp.1⟩
 have W:=Xpi (P:=P) (w:=w) (A:=A.in1) (I:=h1.objs.size) (a:=a) (es:=es) (ep:=ep) (t:=t) (vs:=vs) (fp:=fp) hh hvl (Xzs (Xz5 la z2)) (λp e=>(hfp.2 p e).1)
 have nSf:S∉h1.objs.size::a::fp.toList:=by
  simp only[Xzw,not_or]
  refine⟨Xzs (Xz5 lS z2),nS,λz=>?_⟩
  cases hfq:fp with
  | none=>rw[hfq] at z;simp at z
  | some p=>
   rw[hfq] at z
   have:S=p:=by simpa using z
   exact(hfp.2 p hfq).2 this.symm
 have key:∀(h:Heap) (c1:Nat),ItS w h1.objs.size a es ep t vs fp 0 h->(∀b o,b≠S->s.heap.get? b=some o->h.get? b=some o)->h.get? S=some {cls:=.type "list",data:=.seq #[] c1} ->
   codeAny (model P w) A (.builtin "list.extend.loop" ⟨[.ref S,.ref h1.objs.size,res],[]⟩) R {s with heap:=h,drawn:=d}:=by
  intro h c1 hst1 hk gS1
  refine codeAny_extend_loopS W.toS (by rw[hvl];exact fits_of_scanBound hb) S nSf res vs.length 0 _ #[] c1 rfl (X0k _) hst1 gS1 (ItemsOf.nil _) λs' acc c hm gS' hacc=>?_
  have hav:acc.toList=vs:=by
   apply List.ext_getElem?
   intro i
   by_cases hi:i<vs.length
   ·have hi2:i<acc.size:=by rw[hacc.1];exact hi
    have:=hacc.2 i acc[i] (getElem?_pos acc i hi2)
    rw[this]
    simp[hi2]
   ·rw[X14 (by rw[Xzz,hacc.1];omega),X14 (by omega)]
  have hls:StrsAre vs (vs.map strOf):=strsAre_map vs λv hv=>hst.all v (pv.mem_iff.mp hv)
  refine hR s' acc c vs (vs.map strOf) (λb o nb q=>hm.heap b o (λz=>?_) (hk b o nb q)) hm.os hm.gens gS' hav hls ?_
  ·rcases Xzw.mp z with z | z
   ·exact nb z
   ·exact absurd (Xz5 (X3n q) z2) (by rw[Xzr.mp z];exact X0n _)
  ·have:=pv.map strOf
   rw[hst.strs] at this
   exact this.trans hpm
 have gS1:=kI _ _ gS
 have hT1:Shared.TypeIs {s with heap:=h1.push (itO f0 0 a es.size ep),drawn:=d} (.ref a) "set" := ⟨o,kI _ _ ho,hex.1⟩
 refine X3e (wpAny_holding (Xsa hT1 ?_))
 refine wpAny_ite_split (λ_=>?_) (λ_=>X3f ⟨plainId_quiet PySem.F.plain_extend_loop _,key _ c0 st0 (λb o _ q=>kI b o q) gS1⟩)
 refine X3e (wpAny_rule (X3e ?_))
 show wpAny _ _ (updateSeq S (·.push .none) >>= λ_=>updateSeq S (·.pop)) _ _ _
 refine X3e (wpAny_updateSeq gS1 rfl ?_)
 have gS2:=Heap.get?_update_self (Obj.mapSeq (·.push Value.none)) gS1 rfl
 refine wpAny_updateSeq (hz:=by seq_fits) gS2 rfl ?_
 have gS3:=Heap.get?_update_self (Obj.mapSeq (·.pop)) gS2 rfl
 have other:∀b,b≠S->(((h1.push (itO f0 0 a es.size ep)).update S (Obj.mapSeq (·.push Value.none))).update S (Obj.mapSeq (·.pop))).get? b=(h1.push (itO f0 0 a es.size ep)).get? b:=λb nb=>
  (Heap.get?_update_other _ _ (Ne.symm nb)).trans (Heap.get?_update_other _ _ (Ne.symm nb))
 refine X3f ⟨plainId_quiet PySem.F.plain_extend_loop _,key _ _ (st0.at λb hb2 o q=>?_) (λb o nb q=>?_) gS3⟩
 ·rw[other b (λz=>nSf (z ▸ hb2))]
  exact q
 ·rw[other b nb]
  exact kI b o q
theorem Xk8{R:List Value->Shared->Prop}(hh:A.handled=none)(hs:SSet P w s.heap a ks)
    (h:∀s' vs ls,(∀b o,s.heap.get? b=some o->s'.heap.get? b=some o)->s'.os=s.os->s'.gens=s.gens->StrsAre vs ls->ls.Perm ks->R vs s'):wpAny (model P w) A (collect (.ref a)) R E s:=by
  have la:a<s.heap.objs.size:=by obtain⟨o,_,_,_,_,g,_⟩:=hs;exact X3n g
  unfold collect
  refine X3e (wpAny_runValue (codeAny_builtin entry_proto_collect' ?_))
  rw[Around.under_plainId PySem.F.plain_proto_collect _]
  show wpAny _ A.in1 (newList [] >>= λl=>again (.builtin "list.__iadd__" ⟨[l,Value.ref a],[]⟩)) _ _ s
  refine X3e (wpAny_newObj_type ?_)
  refine X3f ⟨plainId_quiet PySem.F.plain_list_iadd _,codeAny_builtin entry_list_iadd' ?_⟩
  rw[Around.under_plainId PySem.F.plain_list_iadd _]
  have gS:(s.heap.push {cls:=.type "list",data:=.seq ([]:List Value).toArray}).get? s.heap.objs.size=some {cls:=.type "list",data:=.seq #[] 0}:=Heap.get?_push_size _ rfl
  show wpAny _ A.in1 (Builtin.List.listExtendWith (.ref s.heap.objs.size) (.ref a) (.ref s.heap.objs.size)) _ _ _
  have key:=Xnu (A:=A) (s:={s with heap:=s.heap.push {cls:=.type "list",data:=.seq ([]:List Value).toArray} }) (S:=s.heap.objs.size) (res:=.ref s.heap.objs.size)
    (R:=λq s'=>∃acc c vs ls,q = .ok (.ret (.ref s.heap.objs.size))/\(∀b o,s.heap.get? b=some o->s'.heap.get? b=some o)/\s'.os=s.os/\s'.gens=s.gens/\s'.heap.get? s.heap.objs.size=some {cls:=.type "list",dict:=none,data:=.seq acc c,slots := #[]}/\acc.toList=vs/\StrsAre vs ls/\ls.Perm ks)
    hh (hs.stay λo q=>X3o _ q) (X3b la) gS (λs' acc c vs ls k e1 e2 g e3 e4 e5=>⟨acc,c,vs,ls,rfl,λb o q=>k b o (Xzs (X3n q)) (X3o _ q),e1,e2,g,e3,e4,e5⟩)
  have done:∀(q:Result) (s':Shared),(∃acc c vs ls,q = .ok (.ret (.ref s.heap.objs.size))/\(∀b o,s.heap.get? b=some o->s'.heap.get? b=some o)/\s'.os=s.os/\s'.gens=s.gens/\s'.heap.get? s.heap.objs.size=some {cls:=.type "list",dict:=none,data:=.seq acc c,slots := #[]}/\acc.toList=vs/\StrsAre vs ls/\ls.Perm ks) ->
      wants (λv s2=>wpAny (model P w) A (match v with
        | .ref l=>(do match (<-load l).data with
                        | .seq xs _=>pure xs.toList
                        | _=>unsupported "internal:collect")
        | _=>unsupported "internal:collect") R E s2) E q s':=λq s' ⟨acc,c,vs,ls,e0,k,e1,e2,g,e3,e4,e5⟩=>by
    subst e0
    show wpAny _ A (load s.heap.objs.size >>= _) _ _ s'
    refine X3e (wpAny_load g ?_)
    refine X3f ?_
    rw[e3]
    exact h s' vs ls k e1 e2 e4 e5
  refine wpAny_mono key (λfin s' x=>?_) λe s' x=>?_
  . cases fin with
    | done f=>exact done _ _ x
    | again c1=>exact⟨x.1,codeAny_mono x.2 λq s2 y=>done q s2 y⟩
  . obtain⟨_,_,_,_,e',_⟩:=x
    cases e'
end
section
variable {X:Cx}{pins:List (Addr×Obj)}{σ:St}{H:Hp}{s s':Shared}
theorem Inv.moved(I:Inv X pins σ H s)(k:∀b u,s.heap.get? b=some u->s'.heap.get? b=some u)(ho:s'.os=s.os)(hg:s'.gens=s.gens):Inv X pins σ H s':=by
 have J:=I.kept (h':=s'.heap) (t':=s'.toks) k
 exact⟨J.ok,ho.trans I.os,by rw[hg];exact I.bare,J.base,J.loc,J.cell,J.free,J.freeC,J.pin,J.hok,J.len⟩
theorem Inv.laidM{a:Addr}{o:HO}(I:Inv X pins σ H s)(k:∀b u,s.heap.get? b=some u->s'.heap.get? b=some u)(ho:s'.os=s.os)(hg:s'.gens=s.gens)(hp:s.heap.objs.size<=a)(new:Xbm X.prog X.w (upd H a o) s'.heap a o):Inv X pins σ (upd H a o) s':=by
 have J:=I.laid (h':=s'.heap) (t':=s'.toks) k hp new
 exact⟨J.ok,ho.trans I.os,by rw[hg];exact I.bare,J.base,J.loc,J.cell,J.free,J.freeC,J.pin,J.hok,J.len⟩
end
section
variable {P:Program}{w:World}{A:Around}{E:Value->Shared->Prop}{s:Shared}{ks:List Str}
theorem Xdr{r:Addr}{Q:Value->Shared->Prop}(h64:ks.length<64)
  (hc:∀(R:List Value->Shared->Prop),(∀s' vs ls,(∀b o,s.heap.get? b=some o->s'.heap.get? b=some o)->s'.os=s.os->s'.gens=s.gens->StrsAre vs ls->ls.Perm ks->R vs s')->wpAny (model P w) A.in1 (collect (.ref r)) R E s)
  (h:∀(s1 s':Shared) (vs:List Value) (ls:List Str) (e:Nat),(∀b o,s.heap.get? b=some o->s1.heap.get? b=some o)->s1.os=s.os->s1.gens=s.gens->(∀b o,s1.heap.get? b=some o->s'.heap.get? b=some o)->s'.os=s1.os->s'.gens=s1.gens->s'.heap.get? s1.heap.objs.size=some (seqObj "list" vs.toArray e)->StrsAre vs ls->ls.Perm ks->sortedS ls=true->Q (.ref s1.heap.objs.size) s'):
  wpAny (model P w) A (call (.builtin "sorted") [.ref r]) Q E s:=by
 refine Calls.call_function_entry kind_sorted plain_sorted entry_sorted (args_sorted1 _) ?_
 unfold Builtin.«sorted»
 refine X3e (m:=checkCount "sorted" 1 1 _) (X3f ?_)
 refine X3e (hc _ λs1 vs ls k1 o1 g1 st p=>?_)
 have hl:vs.length<64:=by rw[st.length,p.length_eq];exact h64
 refine X3e (wpAny_newList ?_ (by rw[X3g];omega))
 have gL:(s1.heap.push (seqObj "list" vs.toArray 0)).get? s1.heap.objs.size=some (seqObj "list" vs.toArray 0):=Heap.get?_push_size _ rfl
 refine X3e (wpAny_holding (wpAny_call_entry (s:={s1 with heap:=s1.heap.push (seqObj "list" vs.toArray 0)}) slot_list_sort ⟨_,gL,rfl⟩ entry_list_sort (list_sort_treeK strKind_oneLt gL st.keysOf (λa b rest e=>keyKind_strs (by rw[<-e];exact st)) hl λst' pp so=>⟨_,rfl,?_⟩) (args_list_sort _)))
 obtain⟨ls',a1,a2,a3⟩:=sorted_out_str st pp so
 obtain⟨e,he⟩:=sortedHeap_at (out:=(arrOf st').map (·.2)) gL
 refine X3f ⟨_,rfl,h s1 _ ((arrOf st').map (·.2)).toList ls' e k1 o1 g1 (λb o q=>?_) rfl rfl he a1 (a2.trans p) a3⟩
 have lt:=X3n q
 show (sortedHeap (s1.heap.push (seqObj "list" vs.toArray 0)) s1.heap.objs.size vs ((arrOf st').map (·.2))).get? b=some o
 rw[sortedHeap_old (Xzs lt) (by rw[size_push'];exact X03 lt)]
 exact X3o _ q
end
def SetO (P:Program) (w:World) (a:Addr) (ks:List Str):HO:=.ext λh=>SSet P w h a ks
theorem Xjr{ss:List Str}{vs:List Value}(h:StrsAre vs ss):Vals (ss.map V.str) vs:=by
 induction h with
 | nil=>exact .nil
 | cons x t _ ih=>exact .cons ⟨t,rfl⟩ ih
theorem Xc5:∀{ss:List Str} {vs:List Value},Vals (ss.map V.str) vs->StrsAre vs ss
 | [],_,r=>by cases r;exact .nil
 | x::ss,_,r=>by
  cases r with
  | cons r1 r2=>
   obtain⟨t,rfl⟩:=r1
   exact .cons x t (Xc5 r2)
section
variable {X:Cx}
theorem Xic:X.calm=true->Xcx X (.type "set") (λxs H Q=>∃p ss,xs=[.ref p]/\(SqL X.K H p (ss.map V.str)\/SqT X.K H p (ss.map V.str))/\ss.length+1<scanBound/\∀a,H a=none->Q (.ref a) (upd H a (SetO X.prog X.w a (ddup ss)))):=by
 intro hcalm pins s σ H xs us Q I r h
 obtain⟨p,ss,rfl,hq,hb,q⟩:=h
 obtain⟨u,rfl,rx⟩:=vals1 r
 cases rx
 obtain⟨its,r',src⟩:∃its:List Value,Vals (ss.map V.str) its/\Src s.heap p its.toArray:=by
  rcases hq with hq | hq
  ·obtain⟨its,r',pl,_⟩:=I.list hq
   exact⟨its,r',.lst pl.isList⟩
  ·obtain⟨its,r',pl,_⟩:=I.tuple hq
   exact⟨its,r',.tup pl⟩
 refine Xpd (I.ok.hd hcalm) src (Xc5 r') hb λh' tk S k=>?_
 refine⟨.ref s.heap.objs.size,_,I.laidM (s':={s with heap:=h',toks:=tk}) k rfl rfl (Xzn _) ?_,rfl,q _ (I.hok.fresh (Xzn _))⟩
 exact⟨S,by obtain⟨o,_,_,_,_,g,_⟩:=S;exact⟨o,g⟩,λh1 h2 S1 kk=>S1.stay kk⟩
theorem Xfh{pins:List (Addr×Obj)}{σ:St}{H:Hp}{s s1 s':Shared}{Q:VK}{vs:List Value}{ls ks:List Str}{e:Nat}(I:Inv X pins σ H s)(h64:ks.length<64)(k1:∀b o,s.heap.get? b=some o->s1.heap.get? b=some o)(o1:s1.os=s.os)(g1:s1.gens=s.gens)
  (k2:∀b o,s1.heap.get? b=some o->s'.heap.get? b=some o) (o2:s'.os=s1.os) (g2:s'.gens=s1.gens) (he:s'.heap.get? s1.heap.objs.size=some (seqObj "list" vs.toArray e)) (st:StrsAre vs ls) (p:ls.Perm ks)
  (q:∀l,H l=none->Q (.ref l) (upd H l (.lst (ls.map V.str)))):EP X pins σ Q (.ref s1.heap.objs.size) s':=by
 have I1:=I.moved k1 o1 g1
 refine⟨.ref s1.heap.objs.size,_,I1.laidM k2 o2 g2 (Xzn _) (show Xbm X.prog X.w _ s'.heap _ (.lst (ls.map V.str)) from ⟨?_,vs,e,Xjr st,he⟩),rfl,q _ (I1.hok.fresh (Xzn _))⟩
 rw[Xzk,p.length_eq,X3g]
 omega
theorem Xc0:X.calm=true->Xcx X (.builtin "sorted") (λxs H Q=>∃a ks,xs=[.ref a]/\H a=some (SetO X.prog X.w a ks)/\ks.length<64/\∀l ls,H l=none->ls.Perm ks->sortedS ls=true->Q (.ref l) (upd H l (.lst (ls.map V.str)))):=by
 intro hcalm pins s σ H xs us Q I r h
 obtain⟨a,ks,rfl,ha,h64,q⟩:=h
 obtain⟨u,rfl,rx⟩:=vals1 r
 cases rx
 obtain⟨S,_⟩:=(show Xbm X.prog X.w H s.heap a (.ext λh=>SSet X.prog X.w h a ks) from I.hok a _ ha)
 refine Xdr h64 (λR k=>Xk8 (by show X.A.in1.handled=none;simp[I.ok.hd hcalm]) S k) λs1 s' vs ls e k1 o1 g1 k2 o2 g2 he st p so=>?_
 exact Xfh I h64 k1 o1 g1 k2 o2 g2 he st p λl hl=>q l ls hl p so
end
theorem Inv.turned2{X:Cx}{pins:List (Addr×Obj)}{σ:St}{H:Hp}{s:Shared}{h':Heap}{t':Nat}{e1 e2:Addr}(I:Inv X pins σ H s)(k:∀b o,b≠e1->b≠e2->s.heap.get? b=some o->h'.get? b=some o)(f1:FpOk X pins H e1)(f2:FpOk X pins H e2):Inv X pins σ H {s with heap:=h',toks:=t'}:=by
 have no:∀b u,H b=some u->b≠e1/\b≠e2:=λb u q=>⟨λz=>(by rw[z,f1.1] at q;cases q),λz=>(by rw[z,f2.1] at q;cases q)⟩
 have nn:∀b,b∉[e1,e2]->b≠e1/\b≠e2:=λb hb=>by simpa using hb
 refine I.step (g':=s.gens) (d':=s.drawn) (ch:=[e1,e2]) (λb hb=>?_) (λb o _ _ hc q _=>k b o (nn b hc).1 (nn b hc).2 q) (λb o _ _ hc q _=>⟨o.slots,k b o (nn b hc).1 (nn b hc).2 q⟩) (λ_ _ _ _ n=>n) (λb o hc q=>⟨o,k b o (nn b hc).1 (nn b hc).2 q⟩) (λ_ _ q=>q) (λ_ _ _ q=>q) (λb ps q=>⟨#[],by rw[q];simp⟩) (λm hm=>?_) (λb u q=>?_) I.bare
 ·have hb':b=e1\/b=e2:=by simpa using hb
  rcases hb' with z | z
  ·subst z;exact⟨f1.2.2.2.1,f1.2.1,f1.2.2.2.2.1,f1.2.2.2.2.2⟩
  ·subst z;exact⟨f2.2.2.2.1,f2.2.1,f2.2.2.2.2.1,f2.2.2.2.2.2⟩
 ·obtain⟨o,es,ep,ho,r⟩:=hm
  exact⟨o,es,ep,k _ o (Ne.symm f1.2.1) (Ne.symm f2.2.1) ho,r⟩
 ·refine(I.hok b u q).stay (λc v hc z=>k c v ?_ ?_ z) (λ_ z=>z) λ_ _ z=>z
  ·rcases hc with y | y
   ·rw[y];exact(no b u q).1
   ·exact(no c _ y).1
  ·rcases hc with y | y
   ·rw[y];exact(no b u q).2
   ·exact(no c _ y).2
def Ite (K:PySem.W.Frag) (a:Addr):It:=
 ⟨λi H=>∃xs x,SqL K H a xs/\xs[i]? = some x,λi H x H'=>∃tp,x = .ref tp/\H tp=none/\∀xs,SqL K H a xs->∃y,xs[i]? = some y/\H'=upd H tp (.tup [.int i,y]),λi H=>∃xs,SqL K H a xs/\xs.length<=i⟩
theorem Xpj{P:Program}{w:World}{K:PySem.W.Frag}{es:List Expr}{k:Nat}{p:Pos}(a e it:Addr)(ne:e≠it):Turn P w K (.Tuple es k p) (Ite K a) [e,it] e (λi h=>(∃old,IsEnum h e it i old)/\h.IsListIter it a i) where
 mem:=by simp
 obj:=λi h st b hb=>by
  have hb':b=e\/b=it:=by simpa using hb
  rcases hb' with z | z
  ·subst z
   obtain⟨⟨old,q⟩,_⟩:=st
   exact⟨_,q,λv z=>by
    have z':Data.fields _=Data.cell v:=z
    cases z'⟩
  ·subst z
   obtain⟨o,q,c,d⟩:=st.2
   exact⟨o,q,λv z=>by rw[d] at z;cases z⟩
 keep:=λi h h' st k=>by
  obtain⟨⟨old,q⟩,l⟩:=st
  exact⟨⟨old,k e (by simp) _ q⟩,l.at λo z=>k it (by simp) o z⟩
 item:=by
  intro X hP hw hK hc i pins s σ H E I hf st hg
  subst hP hw hK
  obtain⟨xs,x,hq,hx⟩:=hg
  obtain⟨its,rv,pl,hz⟩:=I.list hq
  obtain⟨u,hu,ru⟩:=rv.get hx
  have f1:=hf e (by simp)
  have f2:=hf it (by simp)
  obtain⟨⟨old,q⟩,l⟩:=st
  refine wpAny_pyNext_enum_item q l pl.isList (x:=u) (by simpa using hu) ne λh' qo l' tp sz kk=>?_
  have I1:Inv X pins σ H {s with heap:=h',toks:=s.toks+1}:=I.turned2 kk f1 f2
  refine⟨_,rfl,?_⟩
  have le:e<s.heap.objs.size:=X3n q
  obtain⟨ol,hol,_⟩:=id l
  have lit:it<s.heap.objs.size:=X3n hol
  unfold letOwnedTupleGo
  refine X3e (wpAny_load qo ?_)
  dsimp only
  rw[X3i (by simp[rawInt])]
  refine X3e (wpAny_rule ?_)
  show wpAny _ _ (setField (.ref e) 0 .none) _ _ _
  refine wpAny_setField qo rfl (by simp) ?_
  have g:=Heap.get?_update_self (Obj.mapFields (·.setIfInBounds 0 Value.none)) qo rfl
  have sb:=X3p h' e (Obj.mapFields (·.setIfInBounds 0 Value.none))
  have I2:Inv X pins σ (upd H s.heap.objs.size (.tup [.int i,x])) {s with heap:=h'.update e (Obj.mapFields (·.setIfInBounds 0 Value.none)),toks:=s.toks+1}:=by
   have J:=I.laid (a:=s.heap.objs.size) (o:=.tup [.int i,x]) (h':=s.heap.push {cls:=.type "tuple",data:=.seq #[.int i s.toks,u]}) (t':=s.toks+1) (λb o z=>X3o _ z) (Xzn _) (show Xbm X.prog X.w _ _ _ (.tup [.int i,x]) from ⟨by show 2<=sizeLine;decide,[.int i s.toks,u],.cons ⟨_,rfl⟩ (.cons ru .nil),IsTup.new _ _⟩)
   have g1:FpOk X pins (upd H s.heap.objs.size (.tup [.int i,x])) e:=⟨by rw[Xae (Xzs le)];exact f1.1,f1.2⟩
   have g2:FpOk X pins (upd H s.heap.objs.size (.tup [.int i,x])) it:=⟨by rw[Xae (Xzs lit)];exact f2.1,f2.2⟩
   refine J.turned2 (λb o n1 n2 z=>?_) g1 g2
   show (h'.update e _).get? b=some o
   rw[sb.2 b n1]
   by_cases hb:b=s.heap.objs.size
   ·subst hb
    have z':(s.heap.push {cls:=.type "tuple",data:=.seq #[.int i s.toks,u]}).get? s.heap.objs.size=some o:=z
    rw[Heap.get?_push_size _ rfl] at z'
    cases z'
    exact tp
   ·have z':(s.heap.push {cls:=.type "tuple",data:=.seq #[.int i s.toks,u]}).get? b=some o:=z
    rw[Heap.get?_push_ne _ _ _ hb] at z'
    exact kk b o n1 n2 z'
  refine⟨.ref s.heap.objs.size,_,I2,rfl,⟨_,rfl,I.hok.fresh (Xzn _),λys hy=>⟨x,by rw[I.list_inj hy hq];exact hx,rfl⟩⟩,⟨⟨u,g.trans ?_⟩,l'.at λo z=>?_⟩,λb hb=>?_⟩
  ·rfl
  ·rw[sb.2 it (Ne.symm ne)]
   exact z
  ·have hb':b=e\/b=it:=by simpa using hb
   rcases hb' with z | z
   ·subst z;rw[Xae (Xzs le)];exact f1.1
   ·subst z;rw[Xae (Xzs lit)];exact f2.1
 done:=by
  intro X hP hw hK hc i pins s σ H E I hf st hg
  subst hP hw hK
  obtain⟨xs,hq,hx⟩:=hg
  obtain⟨its,rv,pl,hz⟩:=I.list hq
  have hl:=rv.length
  have f2:=hf it (by simp)
  obtain⟨⟨old,q⟩,l⟩:=st
  exact wpAny_pyNext_enum_end (I.ok.hd hc) q l pl.isList (by simp;omega) λh' eb=>⟨rfl,I.turned (t':=s.toks) (λb o hb z=>eb b o hb z) f2.1 f2.2.1 f2.2.2.2.1 f2.2.2.2.2.1 f2.2.2.2.2.2⟩
 self:=λ_ _ _ _ _ st h=>by
  obtain⟨⟨old,q⟩,_⟩:=st
  exact wpAny_pyIter_enum q h
def Xza (K:PySem.W.Frag) (ta:TA):TI:=fun σ H R=>ta σ H λvs H1=>∃a,vs=[.ref a]/\(∃xs,SqL K H1 a xs)/\R (Ite K a) H1
theorem Xu0{X:Cx}{es:List Expr}{k:Nat}{p2:Pos}{l:Expr}{ta:TA}{p pos:Pos}(hg:Gl X "enumerate")(hm:X.mg "enumerate" = none)(ha:PA X [l] ta)(hs:starEach [l] X.env=[(false,eval l X.env)]:=by rfl):PI X (.Tuple es k p2) (.Call (.Name "enumerate" p) [l] [] pos) (Xza X.K ta):=by
 intro pins s σ H R I h
 refine Call_ (Xhi I hg hm (show bootBuiltins "enumerate" = some (.type "enumerate") by decide +kernel) (PyProof.Rows.callWith_type1 (thn (ha pos pins s σ H _ I h) λus s1 ⟨vs,H1,I1,r1,q1⟩=>?_) hs rfl))
 obtain⟨a,e,⟨xs,hq⟩,q⟩:=q1
 subst e
 cases r1 with
 | cons r rr=>
  cases rr
  cases r
  obtain⟨its,rv,pl,hz⟩:=I1.list hq
  refine call_enumerate_list pl.isList λh' qe ql sz kk=>?_
  refine wpAny_pyIter_enum qe ?_
  have I2:Inv X pins σ H1 {s1 with heap:=h'}:=I1.kept (t':=s1.toks) kk
  refine⟨_,[s1.heap.objs.size+1,s1.heap.objs.size],_,_,H1,rfl,I2,Xpj a _ _ (Nat.succ_ne_self _),⟨⟨_,qe⟩,ql⟩,λb hb=>?_,q⟩
  have hb':b=s1.heap.objs.size+1\/b=s1.heap.objs.size:=by simpa using hb
  rcases hb' with z | z
  ·subst z;exact I1.fpOk (X00 _) (I1.hok.fresh (X00 _))
  ·subst z;exact I1.fpOk (Xzn _) (I1.hok.fresh (Xzn _))
section
variable {X:Cx}{es:List Expr}{t:St->Hp->(Hp->Prop)->Prop}{e:Expr}{te:TE}{pos:Pos}
def Xzb (te:TE) (t:St->Hp->(Hp->Prop)->Prop):St->Hp->(Hp->Prop)->Prop:=fun σ H Q=>te σ H λx H1=>∃z,x = .str z/\z.length<=400/\(∀c∈z.cps.toList,c<16 ^ 8)/\t σ H1 Q
theorem Xu1{p:Pos}(ha:PE X e te)(h:PJ X es t)(he:evalEach (.FormattedValue e 114 none p::es) X.env=eval (.FormattedValue e 114 none p) X.env::evalEach es X.env:=by rfl):PJ X (.FormattedValue e 114 none p::es) (Xzb te t):=by
 intro out pins s σ H Q I hw hl
 rw[he]
 rw[X0a] at hl
 refine joinParts_cons (wpAny_FormattedValue_repr (thn (ha pins s σ H _ I hw) λv s1 ⟨x,H1,I1,r1,q1⟩=>?_))
 obtain⟨z,ez,h1,h2,q⟩:=q1
 subst ez
 obtain⟨tk,rfl⟩:=r1
 have hz:=StrLaws.reprText_len z h2
 have hz2:(reprText z).length<=sizeLine:=by rw[X3g];omega
 refine wpAny_pyReprObj_str ?_ hz2
 refine formatField_str (λt' k=>⟨by rw[Xct];omega,?_⟩) hz2
 exact h _ pins _ σ H1 Q ((I1.tok _).tok _) q (by rw[Xct];omega)
theorem Xjs:∀(ss:List Str) (l:List Value),l.length=ss.length->(∀i (hi:i<ss.length),∃t,l[i]? = some (.str ss[i] t))->StrsAre l ss
 | [],l,e,_=>by rw[X0g.mp e];exact .nil
 | y::ys,[],e,_=>by cases e
 | y::ys,v::vs,e,each=>by
  obtain⟨t,q⟩:=each 0 (by simp)
  have:v = .str y t:=by simpa using q
  subst this
  refine .cons y t (Xjs ys vs (by simpa using e) λi hi=>?_)
  obtain⟨t',e'⟩:=each (i+1) (by simpa using hi)
  exact⟨t',by simpa using e'⟩
theorem Xfw:X.calm=true->Xcx X (.builtin "sorted") (λxs H Q=>∃d kvs ss,xs=[.ref d]/\Rd H d (.dK kvs)/\kvs.map (·.1)=ss.map (λx=>(Sum.inr x:Key))/\ss.length<64/\∀l ls,H l=none->ls.Perm ss->sortedS ls=true->Q (.ref l) (upd H l (.lst (ls.map V.str)))):=by
 intro hcalm pins s σ H xs us Q I r h
 obtain⟨d,kvs,ss,rfl,hd,hk,h64,q⟩:=h
 obtain⟨u,rfl,rx⟩:=vals1 r
 cases rx
 obtain⟨hz,hm,vs,rv,o,es,ep,ho,hex,hdd,hr⟩:=Xk1 I.hok hd
 have hkl:kvs.length=ss.length:=by have:=congrArg List.length hk;simpa using this
 have hvl:vs.length=ss.length:=by rw[<-hkl];exact(Paired.length rv).symm
 have hvk:vs.map (·.1)=ss.map (λx=>(Sum.inr x:Key)):=by rw[<-hk];exact rv.keys.symm
 have each:∀acc:Array Value,ItemsOf (λi v=>∃k x,vs[i]? = some (k,x)/\(Xas X.prog X.w).is k v=true) acc vs.length->StrsAre acc.toList ss:=λacc hacc=>by
  refine Xjs ss _ (by rw[Xzz,hacc.1,hvl]) λi hi=>?_
  have hi2:i<acc.size:=by rw[hacc.1,hvl];exact hi
  obtain⟨k',x,hx,his⟩:=hacc.2 i acc[i] (getElem?_pos acc i hi2)
  have hk':k'=Sum.inr ss[i]:=by
   have:=congrArg (λl=>l[i]?) hvk
   simp only[Xz1,hx,X1l,Xzl hi] at this
   exact Xzx this
  subst hk'
  obtain⟨t,e⟩:=Value.isStrOf_shape his
  exact⟨t,by rw[X2l,getElem?_pos acc i hi2,e]⟩
 refine Xdr h64 (λR kR=>PySem.W.kdu_collect (PySem.W.kdl_dict (knd:=Xas X.prog X.w) (kvs:=vs) (ep:=ep) hm) (by show X.A.in1.handled=none;simp[I.ok.hd hcalm]) ⟨o,es,ho,hex,hdd,hr⟩ (by rw[hvl,X3g];omega) (λh' tk acc kk hacc=>kR {s with heap:=h',toks:=tk} acc.toList ss kk rfl rfl (each acc hacc) (X2b _)))
  λs1 s' vs ls e k1 o1 g1 k2 o2 g2 he st p so=>Xfh I h64 k1 o1 g1 k2 o2 g2 he st p λl hl=>q l ls hl p so
def rSlS:V->Option Int->Option Int->Hp->VK->Prop:=λx lo hi H Q=>∃z,x = .str z/\lo=none/\(∃j,hi=some j)/\z.length<=1000/\Q (.str (Txt.slice z lo hi)) H
theorem Xxe:SlR X rSlS:=by
 intro pins s σ H x v vl vu lo hi sl Q I rx hs pl pu h
 obtain⟨z,rfl,rfl,⟨j,rfl⟩,hz,q⟩:=h
 obtain⟨tz,rfl⟩:=rx
 cases pl
 cases pu
 rename_i tu
 refine⟨"str",_,PySem.F.slot_str_getitem.lookup,typeIs_str _ _ _,wpAny_getItem_str_slice (l:=none) (u:=some (j,tu)) (st:=none) hs rfl (post_val_or_str ⟨?_,λt' k=>?_⟩)⟩
 ·exact X0c (Txt.slice_le z none (some j)) (by rw[X3g];omega)
 ·exact⟨.str (Txt.slice z none (some j)),H,I.tok _,⟨t',rfl⟩,q⟩
end
end L2
set_option maxHeartbeats 4000000
namespace L2
open PySem PySem.Spec PyProof.Rows
def leS (x y:Str):Prop:=x.cps.toList<=y.cps.toList
theorem Xxf{x y:Str}(h:x.cps.toList=y.cps.toList):x=y:=by
 obtain⟨⟨a⟩⟩:=x
 obtain⟨⟨b⟩⟩:=y
 have:a=b:=h
 rw[this]
theorem Xml{x y:Str}(h:leS x y)(g:leS y x):x=y:=Xxf (List.le_antisymm h g)
theorem Xjt{x y z:Str}(h:leS x y)(g:leS y z):leS x z:=List.le_trans h g
theorem Xgt(x y:Str):leS x y\/leS y x:=List.le_total _ _
def ltS (x y:Str):Prop:=x.cps.toList<y.cps.toList
instance (x y:Str):Decidable (ltS x y):=inferInstanceAs (Decidable (x.cps.toList<y.cps.toList))
instance (x y:Str):Decidable (leS x y):=inferInstanceAs (Decidable (x.cps.toList<=y.cps.toList))
theorem Xc6(x:Str):¬ltS x x:=List.lt_irrefl _
theorem Xds{x y z:Str}(h:ltS x y)(g:ltS y z):ltS x z:=List.lt_trans h g
theorem Xk9{x y:Str}:¬ltS x y↔leS y x:=List.not_lt
theorem ltS_of{x y:Str}(h:leS x y)(n:x≠y):ltS x y:=by
 by_cases q:ltS x y
 ·exact q
 ·exact absurd (Xml h (Xk9.mp q)) n
theorem Xxg{x y:Str}(h:ltS x y):leS x y:=List.le_of_lt h
theorem Xju{x y:Str}(h:ltS x y):x≠y:=λe=>Xc6 y (e ▸ h)
theorem Xjv:∀(l:List Str) (p:Str),risingS p l=true->(p::l).Pairwise leS
 | [],p,_=>by simp
 | x::r,p,h=>by
  have h':(!ltCps x.cps.toList p.cps.toList&&risingS x r)=true:=h
  rw[Xz3,ltCps_eq] at h'
  have ih:=Xjv r x h'.2
  have hpx:leS p x:=by
   have:=h'.1
   simp only[X26,decide_eq_false_iff_not] at this
   exact this
  refine X1q.mpr ⟨λy hy=>?_,ih⟩
  rcases Xzw.mp hy with e | e
  ·rw[e];exact hpx
  ·exact Xjt hpx ((X1q.mp ih).1 y e)
theorem Xjw:∀(l:List Str),sortedS l=true->l.Pairwise leS
 | [],_=>by simp
 | x::r,h=>Xjv r x h
theorem Xjx:∀{a b:List Str},a.Perm b->a.Pairwise leS->b.Pairwise leS->a=b
 | [],b,p,_,_=>by rw[List.nil_perm.mp p]
 | x::a,[],p,_,_=>by have:=p.length_eq;simp at this
 | x::a,y::b,p,ha,hb=>by
  obtain⟨a1,a2⟩:=X1q.mp ha
  obtain⟨b1,b2⟩:=X1q.mp hb
  have e:x=y:=by
   have hx:x∈y::b:=p.mem_iff.mp Xzp
   have hy:y∈x::a:=p.mem_iff.mpr Xzp
   rcases Xzw.mp hx with e | hx
   ·exact e
   ·rcases Xzw.mp hy with e | hy
    ·exact e.symm
    ·exact Xml (a1 y hy) (b1 x hx)
  subst e
  rw[Xjx (List.Perm.cons_inv p) a2 b2]
def srt (l:List Str):List Str:=l.mergeSort λx y=>decide (leS x y)
theorem Xbh(l:List Str):(srt l).Perm l:=List.mergeSort_perm ..
theorem Xer(l:List Str):(srt l).Pairwise leS:=by
 have h:=List.pairwise_mergeSort (le:=λx y=>decide (leS x y)) (λa b c h1 h2=>X3j (Xjt (X3l h1) (X3l h2)))
  (λa b=>by rcases Xgt a b with h | h<;>simp[h]) l
 exact h.imp λh=>X3l h
theorem Xho{ls ks:List Str}(p:ls.Perm ks)(h:sortedS ls=true):ls=srt ks:=Xjx (p.trans (Xbh ks).symm) (Xjw _ h) (Xer _)
theorem Xpk{a b:List Str}(p:a.Perm b):srt a=srt b:=Xjx ((Xbh a).trans (p.trans (Xbh b).symm)) (Xer _) (Xer _)
theorem Xfi{l:List Str}{x:Str}:x∈srt l↔x∈l:=(Xbh l).mem_iff
def dit (row:List Str):List Str:=srt (ddup row)
theorem Xai{row:List Str}{x:Str}:x∈dit row↔x∈row:=Xfi.trans (Xeq row x)
theorem Xgu(row:List Str):(dit row).Nodup:=(Xbh _).nodup_iff.mpr (Xgs row)
theorem Xdt(row:List Str):(dit row).Pairwise ltS:=by
 have h1:=Xer (ddup row)
 have h2:(dit row).Pairwise (· ≠ ·):=Xgu row
 exact(h1.and h2).imp λh=>ltS_of h.1 h.2
theorem Xcu(row:List Str):(dit row).length<=row.length:=by
 have:=(Xbh (ddup row)).length_eq
 have h:=Xd3 row
 unfold dit
 omega
theorem Xfj{a b:List Str}(ha:a.Nodup)(hb:b.Nodup)(h:∀x,x∈a↔x∈b):a.Perm b:=(List.perm_ext_iff_of_nodup ha hb).mpr h
theorem Xtu{ls row ks:List Str}(p:ls.Perm ks)(h:sortedS ls=true)(nd:ks.Nodup)(m:∀x,x∈ks↔x∈row):ls=dit row:=
 Xjx (p.trans ((Xfj nd (Xgs row) λx=>(m x).trans (Xeq row x).symm).trans (Xbh _).symm)) (Xjw _ h) (Xer _)
structure Fn (P:Program) (w:World) (K:PySem.W.Frag) (mg:Str->Option Value) (base:Heap) (CX:CXT) (k:Nat) (x:Str) (ps:List Str) (sp:Sp):Prop where
 ex:∃f fd,mg x=some (.ref f)/\PySem.W.keepIn K (.ref f)=true/\Binds K fd ps []/\FnOk P w K mg base CX k f fd ps sp
section
variable {X:Cx}{CX:CXT}{k:Nat}{ps:List Str}{sp:Sp}{E:XK}{x:Str}{p pos:Pos}{e:Expr}{es:List Expr}{t:TA}
theorem Xao(F:Fn X.prog X.w X.K X.mg X.base CX k x ps sp)(hr:Room k X.A)(hg:Gl X x)(hx:Passes CX X E)
  (ha:PA X (e::es) t) (hdb:(x==("__debug__" : Str))=false:=by decide) (he:starEach (e::es) X.env=(false,eval e X.env)::starEach es X.env:=by rfl) (hpl:(backTo pos (starEach es X.env)).any (·.1)=false:=by rfl):
  PE X (.Call (.Name x p) (e::es) [] pos) (Xuf sp [] E t):=by
 obtain⟨f,fd,hm,hk,hb,hF⟩:=F.ex
 exact Xug hF hr hg hm hk hb .nil hx ha hdb he hpl
theorem Xnv{st:Stmt}{rest:List Stmt}{D:Ends}{σ:St}{H:Hp}(P:St->Hp->Prop)(h2:∃u,PSs X rest u/\∀σ' H',P σ' H'->u D σ' H')
  (h1:∀nx,(∀σ' H',P σ' H'->nx σ' H')->∃t,PS X st t/\t {D with nx:=nx} σ H):∃t,PSs X (st::rest) t/\t D σ H:=by
 obtain⟨u,hu,ru⟩:=h2
 obtain⟨t,ht,rt⟩:=h1 (u D) ru
 exact⟨tSeq t u,Xad ht hu,rt⟩
end
theorem ite2b{c:Bool}{A B:Prop}(h1:c=true->A)(h2:c=false->B):if c=true then A else B:=by
 cases c with
 | true=>exact iteT (h1 rfl)
 | false=>exact iteF (h2 rfl)
theorem Same.upd{H H':Hp}{a:Addr}{o:HO}(s:Same H H')(h:H a=none):Same H (upd H' a o):=λb u e=>by
 rw[Xae (Xaf e h)]
 exact s b u e
theorem Same.upd0{H:Hp}{a:Addr}{o:HO}(h:H a=none):Same H (L2.upd H a o):=(Same.refl H).upd h
theorem ku{H:Hp}{b p:Addr}{o u:HO}(h:H b=some o)(hp:H p=none):upd H p u b=some o:=by
 rw[Xae (Xaf h hp)]
 exact h
theorem Same.step{H H1:Hp}{p:Addr}{o:HO}(s:Same H H1)(hp:H1 p=none):Same H (L2.upd H1 p o):=s.upd (s.free hp)
theorem Same.go{H H1:Hp}{p q:Addr}{o:HO}(s:Same H H1)(hp:H1 p=none)(hq:L2.upd H1 p o q=none):Same H (L2.upd H1 p o):=s.step hp
theorem Xdu{α : Type}(f : α->V)(xs:List α)(b:Nat)(hb:b<=xs.length):cutV (xs.map f) none (some (b:Int))=(xs.take b).map f:=by
 unfold cutV
 rw[HT.sIx_none,X25,HT.sIx_nat,Xzk,X29,Nat.sub_zero,X15 hb]
theorem Xdv{α : Type}(f : α->V)(xs:List α)(a:Nat)(ha:a<=xs.length):cutV (xs.map f) (some (a:Int)) none=(xs.drop a).map f:=by
 unfold cutV
 rw[HT.sIx_none,HT.sIx_nat,Xzk,X15 ha,X3a]
 exact X1y (by rw[X05,Xzk];omega)
theorem Xxh{α : Type}(f : α->V)(xs:List α)(a b:Nat)(hab:a<=b)(hb:b<=xs.length):cutV (xs.map f) (some (a:Int)) (some (b:Int))=((xs.drop a).take (b - a)).map f:=by
 unfold cutV
 rw[HT.sIx_nat,HT.sIx_nat,Xzk,X15 hb,X15 (X0c hab hb),X29,X3a]
def chkC (fsc:Scope) (fN N:List Str) (cap:List (Option Nat)) (scope:Scope):Bool:=
 (scope.names.all λy=>decide (scope.names.lookup y.1=some y.2)) &&
 (scope.names.all λy=>decide (y.2 ≠ .free)||decide (fsc.names.lookup y.1=some .cell)||decide (fsc.names.lookup y.1=some .free))&&decide (cap.length=N.length) &&
 ((List.range N.length).all λi=>match cap[i]?,N[i]? with
  | some (some j),some x=>decide (fN[j]? = some x)&&decide (scope.names.lookup x=some .free)
  | _,_=>true)
theorem CompScope.of{X:Cx}{N:List Str}{cap:List (Option Nat)}{scope:Scope}(fsc:Scope)(fN:List Str)(h1:X.env.scope=fsc)(h2:X.N=fN)(hk:scope.kind = .function)(h:chkC fsc fN N cap scope=true):CompScope X N cap scope:=by
 unfold chkC at h
 simp only[Xz3,Xz8,X16,decide_eq_true_eq] at h
 obtain⟨⟨⟨a1,a3⟩,a4⟩,a5⟩:=h
 refine⟨hk,a1,λy hy e=>?_,a4,λi x j hN hc=>?_⟩
 ·show X.env.scope.names.lookup y.1=some .cell\/X.env.scope.names.lookup y.1=some .free
  rw[h1]
  rcases a3 y hy with (z | z) | z
  ·exact absurd e z
  ·exact .inl z
  ·exact .inr z
 ·have hi:i<N.length:=(Xz2.mp hN).1
  have q:=a5 i (X0v.mpr hi)
  rw[hc,hN] at q
  simp only[Xz3,decide_eq_true_eq] at q
  rw[h2]
  exact q
section
variable {X:Cx}
theorem Xjy(K:PySem.W.Frag)(h:X.K=K):Xcx X (.builtin "isinstance") (λxs H Q=>∃x c t cv b,xs=[x,c]/\TyOf K H x t/\clsV c=some cv/\PySem.W.kitOne K t cv=some b/\Q (.bl b) H):=by subst h;exact Xgq
theorem Xxi{cap:List (Option Nat)}{te:TE}{J:It}{σ:St}{H1:Hp}{F:Addr->Hp->Prop}{j:Nat}(n:Nat)(vs:Nat->V)(Pv:Addr->Nat->St->Hp->Prop)
  (h0:∀D,H1 D=none->Pv D 0 (capS cap σ) (upd H1 D (.lst [])))
  (hgo:∀D i σ2 H2,H1 D=none->i<n->Pv D i σ2 H2->J.go i H2/\∀x H3,J.yld i H2 x H3->H3=H2/\x=vs i)
  (hst:∀D σ2 H2,H1 D=none->Pv D n σ2 H2->J.stop n H2)
  (step:∀D i σ1 H2,H1 D=none->i<n->Pv D i σ1 H2->te (σ1.set j (some (vs i))) H2 λy H6=>∃ys,H6 D=some (.lst ys)/\ys.length<sizeLine/\∃m',m'<n - i/\wN n (Pv D) (i+1) m' (σ1.set j (some (vs i))) (upd H6 D (.lst (ys++[y]))))
  (hd:∀D σ2 H2,H1 D=none->Pv D n σ2 H2->F D H2):tBlk cap (Xbv j) tYes te J σ H1 F:=
 Xk4 n vs Pv h0 hgo hst (λD i σ1 H2 a b c=>by
  show if true=true then te (σ1.set j (some (vs i))) H2 (λy H6=>∃ys,H6 D=some (.lst ys)/\ys.length<sizeLine/\∃m',m'<n - i/\wN n (Pv D) (i+1) m' (σ1.set j (some (vs i))) (upd H6 D (.lst (ys++[y])))) else ∃m',m'<n - i/\wN n (Pv D) (i+1) m' (σ1.set j (some (vs i))) H2
  rw[X3i rfl]
  exact step D i σ1 H2 a b c) hd
theorem Xsb(K:PySem.W.Frag)(h:X.K=K):IxR X (rIxL K):=by subst h;exact Xay
theorem Xcf(K:PySem.W.Frag)(h:X.K=K):IxR X (rIxT K):=by subst h;exact Xl8
theorem Xpl(K:PySem.W.Frag)(h:X.K=K):Xcx X (.builtin "len") (λxs H Q=>∃p ys,xs=[.ref p]/\(SqL K H p ys\/SqT K H p ys)/\Q (.int ys.length) H):=by subst h;exact Xap
theorem Xcr(K:PySem.W.Frag)(h:X.K=K):OpR X (compareOp .In) (rIn K false):=by subst h;exact Xel
end
theorem Xed{X:Cx}(K:PySem.W.Frag)(h:X.K=K):Xcx X (.builtin "isinstance") (λxs H Q=>∃a C c cv b,xs=[.ref a,c]/\H a=some (ExcO a C)/\ExcF K C/\clsV c=some cv/\PySem.W.kitOne K (.ref C) cv=some b/\Q (.bl b) H):=by subst h;exact Xnq
theorem Xc1{cap:List (Option Nat)}{tt:TT}{te:TE}{J:It}{σ:St}{H1:Hp}{F:Addr->Hp->Prop}{j:Nat}(n:Nat)(hn:n<sizeLine)(vs:Nat->V)(ok:Nat->Bool)(ys:Nat->V)
  (hgo:∀i H2,i<n->Same H1 H2->J.go i H2/\∀x H3,J.yld i H2 x H3->H3=H2/\x=vs i)
  (hst:∀H2,Same H1 H2->J.stop n H2)
  (tst:∀i H2 Q,i<n->Same H1 H2->(∀H',Same H2 H'->Q (ok i) H')->tt ((capS cap σ).set j (some (vs i))) H2 Q)
  (step:∀i H2 Q,i<n->ok i=true->Same H1 H2->(∀H',Same H2 H'->Q (ys i) H')->te ((capS cap σ).set j (some (vs i))) H2 Q)
  (hd:∀D H2,H1 D=none->Same H1 H2->H2 D=some (.lst (((List.range n).filter ok).map ys))->F D H2):tBlk cap (Xbv j) tt te J σ H1 F:=by
 refine Xk4 n vs (λD i σ2 H2=>(∀v, σ2.set j v=(capS cap σ).set j v)/\Same H1 H2/\H2 D=some (.lst (((List.range i).filter ok).map ys))) ?_ ?_ ?_ ?_ ?_
 ·intro D hD
  exact⟨λ_=>rfl,(Same.refl H1).step hD,Xab⟩
 ·rintro D i σ2 H2 hD hi ⟨_,s2,_⟩
  exact hgo i H2 hi s2
 ·rintro D σ2 H2 hD ⟨_,s2,_⟩
  exact hst H2 s2
 ·rintro D i σ2 H2 hD hi ⟨e,s2,hb⟩
  show tt (σ2.set j (some (vs i))) H2 _
  rw[e]
  refine tst i H2 _ hi s2 λH3 s3=>?_
  have s13:=s2.trans s3
  have hb3:=s3 _ _ hb
  have hss:∀v,((capS cap σ).set j (some (vs i))).set j v=(capS cap σ).set j v:=λv=>by rw[X2m]
  have hl:(((List.range i).filter ok).map ys).length<=i:=by
   rw[Xzk]
   exact X0c (X0i ..) (by rw[X0s];omega)
  refine ite2b (λhk=>?_) (λhk=>?_)
  ·refine step i H3 _ hi hk s13 λH4 s4=>?_
   refine wput hi (s4 _ _ hb3) (by omega) ⟨hss,λb u e'=>?_,?_⟩
   ·rw[Xae (Xaf e' hD)]
    exact s4 _ _ (s13 b u e')
   ·rw[Xab,X0q,Xz7,Xzq]
    simp[hk]
  ·refine wskip hi ⟨hss,s13,?_⟩
   rw[hb3,X0q,Xz7,Xzq]
   simp[hk]
 ·rintro D σ2 H2 hD ⟨_,s2,hb⟩
  exact hd D H2 hD s2 hb
theorem Xla{cap:List (Option Nat)}{te:TE}{J:It}{σ:St}{H1:Hp}{F:Addr->Hp->Prop}{j:Nat}(n:Nat)(hn:n<sizeLine)(vs:Nat->V)(ys:Nat->V)
  (hgo:∀i H2,i<n->Same H1 H2->J.go i H2/\∀x H3,J.yld i H2 x H3->H3=H2/\x=vs i)
  (hst:∀H2,Same H1 H2->J.stop n H2)
  (step:∀i H2 Q,i<n->Same H1 H2->(∀H',Same H2 H'->Q (ys i) H')->te ((capS cap σ).set j (some (vs i))) H2 Q)
  (hd:∀D H2,H1 D=none->Same H1 H2->H2 D=some (.lst ((List.range n).map ys))->F D H2):tBlk cap (Xbv j) tYes te J σ H1 F:=
 Xc1 n hn vs (λ_=>true) ys hgo hst (λi H2 Q _ _ k=>k H2 (Same.refl _)) (λi H2 Q hi _ s k=>step i H2 Q hi s k) λD H2 hD s e=>hd D H2 hD s (by rw[e,X0d.mpr (λ_ _=>rfl)])
theorem Xsc{X:Cx}:Passes (CX1 X.prog X.w) X E0:=λ_ _ _ _ _ _ _ h=>by
 obtain⟨_,_,_,_,_,_,_,_,_,h⟩:=h
 exact h.elim
structure DefAt (K:PySem.W.Frag) (x:Str) (st:Stmt):Prop where
 ex:∃f fd,PySem.W.nsIn K mainGlobals x=some (some (.ref f))/\PySem.W.keepIn K (.ref f)=true/\Fun K x x st f fd
theorem DefAt.of{K:PySem.W.Frag}{x:Str}{st:Stmt}{f:Addr}{oc:Value}{od an:Option Addr}{osl:Array (Option Value)}{kV doc pm cdv ct:Value}(a:PySem.W.nsIn K mainGlobals x=some (some (.ref f)))
  (l:K.lookup f=some ⟨oc,od,.func (PySem.W.fnOf x x (Xdf st) (Xcc st) (defScope st) .none kV doc pm an cdv ct),osl⟩) (c:PySem.W.codeIn K cdv x=true) (k:PySem.W.keepIn K (.ref f)=true):DefAt K x st:=
 ⟨⟨f,_,a,k,Xtr l c k⟩⟩
theorem Fn.of{P:Program}{w:World}{K:PySem.W.Frag}{h:Heap}{mg:Str->Option Value}{base:Heap}{CX:CXT}{k:Nat}{x:Str}{st:Stmt}{ps:List Str}{sp:Sp}(X:K.In h)(G:h.Ns mainGlobals mg)(D:DefAt K x st)
  (hb:∀(kV doc pm:Value) (an:Option Addr) (cdv ct:Value) (us:List Value),us.length=ps.length->bindArgs (PySem.W.fnOf x x (Xdf st) (Xcc st) (defScope st) .none kV doc pm an cdv ct) ⟨us,[]⟩=pure (ps.zip us))
  (ok:∀f fd,Fun K x x st f fd->FnOk P w K mg base CX k f fd ps sp):Fn P w K mg base CX k x ps sp:=by
 obtain⟨f,fd,a,hk,F⟩:=D.ex
 exact⟨⟨f,fd,PySem.W.mg_of X G a,hk,F.binds hb,ok f fd F⟩⟩
structure ExcAt (K:PySem.W.Frag) (x:Str) (C:Addr):Prop where
 a:PySem.W.nsIn K mainGlobals x=some (some (.ref C))
 e:PySem.W.excIn K C bmV "ValueError.__new__" = true
 ga:PySem.W.findIn K (.ref C) "__getattribute__" = some (some (.builtin "BaseException.__getattribute__"))
 gn:PySem.W.findIn K (.ref C) "__getattr__" = some none
 cl:PySem.W.findIn K (.ref C) "__class__" = some (some (.builtin "object.__class__"))
 sb:PySem.W.subIn K (.ref C) (.type "BaseException")=some true
 so:PySem.W.subIn K (.ref C) (.type "object")=some true
 sv:PySem.W.subIn K (.ref C) (.type "ValueError")=some true
 ss:PySem.W.subIn K (.ref C) (.ref C)=some true
 ic:PySem.W.isClsIn K C=true
 ty:PySem.W.typeIn K (.ref C)=some (.type "type")
section
variable {K:PySem.W.Frag}{x:Str}{C:Addr}
theorem ExcAt.f(E:ExcAt K x C):ExcF K C:=⟨E.ga,E.gn,E.cl,E.sb,E.so,E.ic⟩
theorem Xjz{t:Value}{S:Addr}{b:Bool}(ic:PySem.W.isClsIn K S=true)(ty:PySem.W.typeIn K (.ref S)=some (.type "type"))(h:PySem.W.subIn K t (.ref S)=some b):PySem.W.kitCls K t (.ref S)=some b:=by
 unfold PySem.W.kitCls
 have ic':(PySem.W.clsIn K S).isSome=true:=ic
 simp only[ic',ty]
 exact h
theorem Xtv{S:Addr}{b:Bool}(ne:C≠S)(ic:PySem.W.isClsIn K S=true)(ty:PySem.W.typeIn K (.ref S)=some (.type "type"))(h:PySem.W.subIn K (.ref C) (.ref S)=some b):PySem.W.kitOne K (.ref C) (.ref S)=some b:=by
 unfold PySem.W.kitOne
 rw[X3h (λz=>ne (Value.ref.inj (beq_iff_eq.mp z)))]
 exact Xjz ic ty h
theorem ExcAt.val(E:ExcAt K x C):PySem.W.kitOne K (.ref C) (.type "ValueError")=some true:=by
 unfold PySem.W.kitOne
 rw[X3h (λz=>by cases (beq_iff_eq.mp z))]
 show (if PySem.W.kitMeta "ValueError" = true then PySem.W.subIn K (.ref C) (.type "ValueError") else none)=some true
 rw[X3i (by decide +kernel)]
 exact E.sv
end
structure ClsAt (K:PySem.W.Frag) (x:Str) (C:Addr):Prop where
 a:PySem.W.nsIn K mainGlobals x=some (some (.ref C))
 ic:PySem.W.isClsIn K C=true
 ty:PySem.W.typeIn K (.ref C)=some (.type "type")
theorem Xcg(x:Str)(row:List Str):inV (.str x) (row.map V.str)=decide (x∈row):=by
 unfold inV
 rw[X01,X1g,decide_eq_true_eq]
 constructor
 ·rintro ⟨y,hy,e⟩
  obtain⟨z,hz,rfl⟩:=Xz4.mp hy
  have:z=x:=by simpa [eqV] using e
  rw[<-this];exact hz
 ·intro hx
  exact⟨.str x,Xz4.mpr ⟨x,hx,rfl⟩,by simp[eqV]⟩
theorem Xbr(row:List Str):(row.map V.str).all Xdd=true:=by
 rw[Xz8]
 intro v h
 obtain⟨x,_,rfl⟩:=Xz4.mp h
 rfl
theorem Xsd{K:PySem.W.Frag}{cap:List (Option Nat)}{tt:TT}{te:TE}{a:Addr}{xs:List V}{σ:St}{H1:Hp}{F:Addr->Hp->Prop}{p q:Nat}(hpq:p≠q)(hS:SqL K H1 a xs)(hn:xs.length<sizeLine)(ok:Nat->Bool)(ys:Nat->V)
  (tst:∀(i:Nat) x H2 Q,xs[i]? = some x->Same H1 H2->(∀H',Same H2 H'->Q (ok i) H')->tt (((capS cap σ).set p (some (.int i))).set q (some x)) H2 Q)
  (step:∀(i:Nat) x H2 Q,xs[i]? = some x->ok i=true->Same H1 H2->(∀H',Same H2 H'->Q (ys i) H')->te (((capS cap σ).set p (some (.int i))).set q (some x)) H2 Q)
  (hd:∀D H2,H1 D=none->Same H1 H2->H2 D=some (.lst (((List.range xs.length).filter ok).map ys))->F D H2):tBlk cap (gTup K 2 (Xuc (Xbv p) (Xuc (Xbv q) gNil))) tt te (Ite K a) σ H1 F:=by
 intro D hD
 refine⟨wN xs.length λi σ2 H2=>(∀u v,(σ2.set p u).set q v=((capS cap σ).set p u).set q v)/\Same H1 H2/\H2 D=some (.lst (((List.range i).filter ok).map ys)),⟨xs.length,by simp,X0k _,λ_ _=>rfl,(Same.refl H1).step hD,Xab⟩,?_⟩
 rintro i m σ1 H2 ⟨rfl,hi,e,s2,hb⟩
 have hS2:SqL K H2 a xs:=s2.seq hS
 by_cases hlt:i<xs.length
 ·have hx:xs[i]? = some xs[i]:=Xzl hlt
  refine .inr ⟨⟨xs,xs[i],hS2,hx⟩,?_⟩
  rintro x H3 ⟨tp,rfl,ht,hy⟩
  obtain⟨y,hy1,rfl⟩:=hy xs hS2
  rw[hx] at hy1
  cases hy1
  refine⟨tp,_,rfl,SqT.of Xab,rfl,_,_,rfl,_,_,rfl,rfl,?_⟩
  have s3:Same H1 (upd H2 tp (.tup [.int i,xs[i]])):=s2.step ht
  have hb3:upd H2 tp (.tup [.int i,xs[i]]) D=some (.lst (((List.range i).filter ok).map ys)):=ku hb ht
  rw[e]
  refine tst i _ _ _ hx s3 λH4 s4=>?_
  have s14:=s3.trans s4
  have hb4:=s4 _ _ hb3
  have hss:∀u v,(((((capS cap σ).set p (some (.int i))).set q (some xs[i])).set p u).set q v)=((capS cap σ).set p u).set q v:=λu v=>by
   rw[List.set_comm _ _ (Ne.symm hpq),X2m,X2m]
  have hl:(((List.range i).filter ok).map ys).length<=i:=by
   rw[Xzk]
   exact X0c (X0i ..) (by rw[X0s];omega)
  refine ite2b (λhk=>?_) (λhk=>?_)
  ·refine step i _ H4 _ hx hk s14 λH5 s5=>?_
   refine wput hlt (s5 _ _ hb4) (by omega) ⟨hss,λb u e'=>?_,?_⟩
   ·rw[Xae (Xaf e' hD)]
    exact s5 _ _ (s14 b u e')
   ·rw[Xab,X0q,Xz7,Xzq]
    simp[hk]
  ·refine wskip hlt ⟨hss,s14,?_⟩
   rw[hb4,X0q,Xz7,Xzq]
   simp[hk]
 ·have ei:i=xs.length:=by omega
  subst ei
  exact .inl ⟨⟨xs,hS2,Xzn _⟩,hd D H2 hD s2 hb⟩
theorem Xid{X:Cx}{pos:Pos}{es:List Expr}{k:Nat}{t:TGs}(K:PySem.W.Frag)(n:Nat)(hK:X.K=K)(hc:X.calm=true)(h:PGs X es t)
  (hn:(assignEach es X.env).length=n:=by rfl) (hst:(assignEach es X.env).findIdx? (·.1)=none:=by rfl):PG X (.Tuple es k pos) (gTup K n t):=by
 subst hK
 exact Xol hc h hn hst
theorem Xa0{α : Type}(d : α)(p : α->Bool):∀(xs:List α),((List.range xs.length).filter λi=>p (xs.getD i d)).map (λi=>xs.getD i d)=xs.filter p:=by
 intro xs
 have go:∀n,n<=xs.length->((List.range n).filter λi=>p (xs.getD i d)).map (λi=>xs.getD i d)=(xs.take n).filter p:=by
  intro n
  induction n with
  | zero=>intro _;rfl
  | succ n ih=>
   intro h
   have hn:n<xs.length:=by omega
   have e:xs.getD n d=xs[n]:=by simp[List.getD,hn]
   rw[X0q,Xz7,Xzq,ih (by omega),Xzy hn,Xz7,X0l,X0l,e]
   split
   ·simp[hn]
   ·simp
 rw[go _ (Xzn _),X0j]
abbrev TM:=St->Hp->(St->Hp->Prop)->Prop
def PM (X:Cx) (m:Sem Unit) (t:TM):Prop:=∀(pins:List (Addr×Obj)) (s:Shared) (σ:St) (H:Hp) (Q:St->Hp->Prop),Inv X pins σ H s->t σ H Q ->
 wpAny (model X.prog X.w) X.A m (λ_ s'=>∃σ' H',Inv X pins σ' H' s'/\Q σ' H') X.xe s
def Xes (e:Expr) (d:Nat) (tg iter:Expr) (ifs:List Expr) (act:Sem Unit) (it acc:Value) (env:Env):Sem Fin:=do
 standAt iter.pos
 match <-pyNext it with
 | none=>pure (.done .next)
 | some v=>
  letOwnedTupleGo tg it v
  assign tg env v
  let mut ok:=true
  for c in ifs do
   if ok then ok <-isTrue c env (eval c env)
  if ok then act
  again (.compLoop e d it acc env)
structure Cm (e:Expr):Prop where
 den1 : ∀ (P : Program) (w : World) (d : Nat) (it acc : Value) (env : Env), (model P w).den (.compLoop e d it acc env) = (compTurn e d it acc env).onRaise (fun x => do noteFrame x env; theTreesLotGoes x)
 den2 : ∀ (P : Program) (w : World) (d : Nat) (it acc : Value) (env : Env), (model P w).den (.compStart e d it acc env) = (compStart e d it acc env).onRaise (fun x => do noteFrame x env; standAt theWindowsPlace)
 und1:∀(A:Around) (d:Nat) (it acc:Value) (env:Env),A.under (.compLoop e d it acc env)=A
 und2:∀(A:Around) (d:Nat) (it acc:Value) (env:Env),A.under (.compStart e d it acc env)=A
theorem Xgv{elt:Expr}{gs:List Comprehension}{sc:Scope}{p:Pos}:Cm (.ListComp elt gs sc p):=⟨λ_ _ _ _ _ _=>rfl,λ_ _ _ _ _ _=>rfl,λ_ _ _ _ _=>rfl,λ_ _ _ _ _=>rfl⟩
theorem Xu2{k v:Expr}{gs:List Comprehension}{sc:Scope}{p:Pos}:Cm (.DictComp k v gs sc p):=⟨λ_ _ _ _ _ _=>rfl,λ_ _ _ _ _ _=>rfl,λ_ _ _ _ _=>rfl,λ_ _ _ _ _=>rfl⟩
def tLp (g:TG) (tt:TT) (tm:TM) (J:It) (σ:St) (H1:Hp) (F:St->Hp->Prop):Prop:=
 ∃W:Nat->Nat->St->Hp->Prop,(∃m,W 0 m σ H1)/\∀i m σ1 H2,W i m σ1 H2 ->
  (J.stop i H2/\F σ1 H2)\/(J.go i H2/\∀x H3,J.yld i H2 x H3->g x σ1 H3 fun σ2 H4=>tt σ2 H4 λb H5=>
   if b=true then tm σ2 H5 fun σ3 H6=>∃m',m'<m/\W (i+1) m' σ3 H6 else ∃m',m'<m/\W (i+1) m' σ2 H5)
section
variable {Y:Cx}{e tg iter:Expr}{d:Nat}{ifs:List Expr}{act:Sem Unit}{acc:Value}{g:TG}{tt:TT}{tm:TM}{pins:List (Addr×Obj)}{σ:St}{H:Hp}{s:Shared}{J:It}{fp:List Addr}{it:Addr}{tn:Nat->Heap->Prop}{F:St->Hp->Prop}{R:Result->Shared->Prop}
theorem Xpm(cm:Cm e)(hx:Y.xe=λ_ _=>False)(hc:Y.calm=true)(eq:compTurn e d (.ref it) acc Y.env=Xes e d tg iter ifs act (.ref it) acc Y.env)(hg:PG Y tg g)(ht:PIfs Y ifs tt)(hm:PM Y act tm)
  (I:Inv Y pins σ H s) (T:Turn Y.prog Y.w Y.K tg J fp it tn) (h0:tn 0 s.heap) (hf:∀b∈fp,FpOk Y pins H b) (hb:tLp g tt tm J σ H F) (fin:∀σ' H' s',Inv Y pins σ' H' s'->F σ' H'->R (.ok .next) s'):
  codeAny (model Y.prog Y.w) Y.A (.compLoop e d (.ref it) acc Y.env) R s:=by
 obtain⟨W,⟨m0,w0⟩,turn⟩:=hb
 have stat:∀{H':Hp},(∀b∈fp,H' b=none)->∀b∈fp,FpOk Y pins H' b:=λhn b hb=>⟨hn b hb,(hf b hb).2⟩
 refine codeAny_loop rfl (λn s'=>∃i σ1 H2,Inv Y pins σ1 H2 s'/\tn i s'.heap/\(∀b∈fp,H2 b=none)/\W i n σ1 H2) (λn s' hI=>?_) m0 ⟨0, σ,H,I,h0,λb hb=>(hf b hb).1,w0⟩
 obtain⟨i, σ1,H2,I',st',fr',w'⟩:=hI
 rw[cm.den1,cm.und1]
 refine wpAny_noted ?_
 rw[eq]
 have no:∀{α : Type} {t:Sem α} {Q : α->Shared->Prop} {E':Value->Shared->Prop} {s₁ : Shared},wpAny (model Y.prog Y.w) Y.A t Q Y.xe s₁->wpAny (model Y.prog Y.w) Y.A t Q E' s₁:=λh=>wpAny_mono h (λ_ _ q=>q) λ_ _ z=>by rw[hx] at z;exact z.elim
 unfold Xes
 rcases turn i n σ1 H2 w' with ⟨stop,q⟩ | ⟨go,step⟩
 ·refine X3e (wpAny_standAt (X3e (thn (T.done Y rfl rfl rfl hc i pins s' σ1 H2 _ I' (stat fr') st' stop) λr s1 ⟨hr,I1⟩=>?_)))
  subst hr
  exact X3f (fin σ1 H2 s1 I1 q)
 ·refine X3e (wpAny_standAt (X3e (thn (T.item Y rfl rfl rfl hc i pins s' σ1 H2 _ I' (stat fr') st' go) λr s1 ⟨u,hr,h4⟩=>?_)))
  subst hr
  refine X3e (thn h4 λ_ s5 ⟨x,H5,I5,r5,y5,st5,fr5⟩=>?_)
  have I5':=I5.pinned (stat fr5) (T.obj _ _ st5)
  refine X3e (thn (no (hg _ s5 σ1 H5 x u _ I5' r5 (step x H5 y5))) λ_ s6 ⟨σ6,H6,I6,q6⟩=>?_)
  refine X3e (thn (no (ht _ s6 σ6 H6 _ I6 q6)) λb s7 ⟨H7,I7,q7⟩=>?_)
  have again:∀{s8:Shared} {σ8:St} {H8:Hp},Inv Y (pins++Xi0 fp s5.heap) σ8 H8 s8->(∃m',m'<n/\W (i+1) m' σ8 H8)->∃m,m<n/\∃i σ1 H2,Inv Y pins σ1 H2 s8/\tn i s8.heap/\(∀b∈fp,H2 b=none)/\W i m σ1 H2:=λ{s8 σ8 H8} I8 ⟨m',hm,w8⟩=>by
   refine⟨m',hm,i+1, σ8,H8,I8.unpinned,T.keep _ _ _ st5 λb hb o e=>(I8.pin (b,o) (X0e _ (X0e _ (Xd0 hb e)))).1,λb hb=>?_,w8⟩
   obtain⟨o,e,d⟩:=T.obj _ _ st5 b hb
   exact(I8.pin (b,o) (X0e _ (X0e _ (Xd0 hb e)))).2.1
  cases b with
  | false=>
   rw[X3h Xz0] at q7
   exact X3f ⟨rfl,again I7 q7⟩
  | true=>
   rw[X3i rfl] at q7
   exact X3e (thn (no (hm _ s7 σ6 H7 _ I7 q7)) λ_ s8 ⟨σ8,H8,I8,q8⟩=>X3f ⟨rfl,again I8 q8⟩)
theorem Xmm{prog:Program}{w:World}{A:Around}{env:Env}{itv:Value}{cl:Comprehension}(cm:Cm e)(hcl:(clausesOf e)[d]? = some cl)(has:cl.is_async=0)
  (h0:codeAny (model prog w) A (.compLoop e d itv acc env) R s)
  (h:wpAny (model prog w) A (pyIter itv) (λit' s'=>codeAny (model prog w) A (.compLoop e d it' acc env) R s') (notedBy (model prog w) A env λx s'=>R (.error x) s') s):
  codeAny (model prog w) A (.compStart e d itv acc env) R s:=by
 refine codeAny_of_tree ?_
 rw[cm.den2,cm.und2]
 refine wpAny_notedAt ?_
 unfold compStart
 rw[hcl]
 have e1:(Option.elim (some cl) false λx=>x.is_async != 0)=false:=by
  show (cl.is_async != 0)=false
  rw[has]
  rfl
 rw[e1,X3h Xz0]
 show wpAny _ A (ask >>= _) _ _ s
 refine X3e (wpAny_askSetting (wpAny_ite ?_))
 split
 ·first
   | exact X3e (X3f (X3f (And.intro rfl h0)))
   | exact X3f (And.intro rfl h0)
 ·first
   | exact X3e (wpAny_rule (X3e (wpAny_standAt (X3e (wpAny_mono h (λit' s' h'=>X3f (And.intro rfl h')) λ_ _ x=>x)))))
   | (refine X3e (wpAny_rule ?_);show wpAny _ _ (standAt cl.iter.pos >>= _) _ _ s;exact X3e (wpAny_standAt (X3e (wpAny_mono h (λit' s' h'=>X3f (And.intro rfl h')) λ_ _ x=>x))))
end
def Xpn (te:TE) (D:Addr):TM:=fun σ H Q=>te σ H λy H6=>∃ys,H6 D=some (.lst ys)/\ys.length<sizeLine/\Q σ (upd H6 D (.lst (ys++[y])))
theorem Xie{Y:Cx}{elt:Expr}{te:TE}{D:Addr}(he:PE Y elt te):PM Y (do let _ <-call (.builtin "list.append") [.ref D,<-eval elt Y.env]) (Xpn te D):=by
 intro pins s σ H Q I h
 refine X3e (thn (he pins s σ H _ I h) λyv s8 ⟨y,H8,I8,r8,ys,hD,hlt,q8⟩=>?_)
 exact X3e (thn (Xem (X:=Y) _ s8 σ H8 (.ref D) [y] (.ref D) [yv] (λ_ H9=>Q σ H9) I8 rfl (.cons r8 .nil) ⟨_,ys,y,rfl,rfl,hD,hlt,q8⟩) λ_ s9 ⟨_,H9,I9,_,q9⟩=>X3f ⟨σ,H9,I9,q9⟩)
def Xxj (tk tv:TE) (D:Addr):TM:=fun σ H Q=>tk σ H λk H1=>tv σ H1 λv H2=>∃kvs ky,k=kV ky/\H2 D=some (.dK kvs)/\kvs.length<sizeLine/\Q σ (upd H2 D (.dK (putK kvs ky v)))
theorem Xu3{Y:Cx}{kx vx:Expr}{tk tv:TE}{D:Addr}(hk:PE Y kx tk)(hv:PE Y vx tv):PM Y (do
  let kv <-eval kx Y.env
  let vv <-holding [kv] (eval vx Y.env)
  standAt {kx.pos with endLine:=vx.pos.endLine,endCol:=vx.pos.endCol}
  holding [kv,vv] (dictSet D kv vv)) (Xxj tk tv D):=by
 intro pins s σ H Q I h
 refine X3e (thn (hk pins s σ H _ I h) λkv s1 ⟨k,H1,I1,rk,q1⟩=>X3e (wpAny_holding (thn (hv pins s1 σ H1 _ I1 q1) λvv s2 ⟨v,H2,I2,rv,kvs,ky,ek,hD,hl,q⟩=>X3e (wpAny_standAt (wpAny_holding ?_)))))
 subst ek
 obtain⟨z,hd,vs,rel,dd⟩:=Xun I2.hok hD
 have hz:vs.length<=sizeLine:=by rw[<-rel.length];exact z
 have hl':(putK kvs ky v).length<=sizeLine:=by have:=Xcb kvs ky v;omega
 refine wpAny_dictSet_pairs (knd:=Xas Y.prog Y.w) (hsz:=hz) (Xjb rk) dd λh' dd' hs=>⟨σ,_,?_,q⟩
 have he:∃q,h'.get? D=some q:=let ⟨q,_,_,hq,_⟩:=dd'; ⟨q,hq⟩
 exact Xgl I2 (by rw[hD];exact True.intro) hs he (Xo1 hl' hd (rel.put ky rv) dd')
def mFor (wi:TI) (g:TG) (tt:TT) (tm:TM):TM:=fun σ H Q=>wi σ H λJ H1=>tLp g tt tm J σ H1 Q
theorem Xxk{Y:Cx}{e tg iter:Expr}{ifs:List Expr}{d:Nat}{D:Addr}{wi:TI}{g:TG}{tt:TT}{tm:TM}{act:Sem Unit}(cm:Cm e)(hx:Y.xe=λ_ _=>False)(hc:Y.calm=true)(hcl:(clausesOf e)[d]? = some ⟨tg,iter,ifs,0⟩)
  (eq:∀it,compTurn e d it (.ref D) Y.env=Xes e d tg iter ifs act it (.ref D) Y.env) (hi:PI Y tg iter wi) (hg:PG Y tg g) (ht:PIfs Y ifs tt) (hm:PM Y act tm)
  (hs:∀x,foldedSetIterable iter Y.env x=pure x:=by intro _;rfl):PM Y (do
   let x <-eval iter Y.env
   standAt iter.pos
   let x <-foldedSetIterable iter Y.env x
   let _ <-runOwn (.compStart e d (<-holding [x] (pyIter x)) (.ref D) Y.env) Y.env) (mFor wi g tt tm):=by
 intro pins s σ H Q I h
 refine X3e (thn (hi pins s σ H _ I h) λv s1 h1=>X3e (wpAny_standAt (X3e (wpAny_of_eq (hs v) (X3e (wpAny_holding (thn h1 λitv s2 h2=>?_)))))))
 obtain⟨it,fp,tn,J,H2,ei,I2,T,st2,f2,lp⟩:=h2
 subst ei
 refine X3e (wpAny_runOwn ?_)
 have go:∀s3,s3=s2->codeAny (model Y.prog Y.w) Y.A (.compLoop e d (.ref it) (.ref D) Y.env) (λr s'=>match r with | .ok _=>∃σ' H',Inv Y pins σ' H' s'/\Q σ' H' | .error e=>False) s3:=by
  rintro s3 rfl
  exact Xpm cm hx hc (eq _) hg ht hm I2 T st2 f2 lp fun σ' H' s' I' q=>⟨σ',H',I',q⟩
 have st:=Xmm (s:=s2) (R:=λr s'=>match r with | .ok _=>∃σ' H',Inv Y pins σ' H' s'/\Q σ' H' | .error e=>False) cm hcl rfl (go s2 rfl) (T.self Y.A 0 s2 _ _ st2 (go s2 rfl))
 refine codeAny_mono st λr s' hr=>?_
 cases r with
 | ok f=>exact X3f hr
 | error e=>exact hr.elim
def Xu4 (cap:List (Option Nat)) (o0:Addr->HO) (g:TG) (tt:TT) (tm:Addr->TM) (J:It) (σ:St) (H1:Hp) (F:Addr->Hp->Prop):Prop:=
 ∀D,H1 D=none->tLp g tt (tm D) J (capS cap σ) (upd H1 D (o0 D)) λ_ H2=>F D H2
def Xxl (cap:List (Option Nat)) (o0:HO) (g:TG) (tt:TT) (tm:Addr->TM) (J:It) (σ:St) (H1:Hp) (F:Addr->Hp->Prop):Prop:=
 ∀D,H1 D=none->tLp g tt (tm D) J (capS cap σ) (upd H1 D o0) λ_ H2=>F D H2
section
variable {X:Cx}{N:List Str}{cap:List (Option Nat)}{scope:Scope}{e tg iter:Expr}{ifs:List Expr}{g:TG}{tt:TT}{tm:Addr->TM}{E:Value->Shared->Prop}{newAcc:Sem Value}{ob:Obj}{o0:HO}{o1:Addr->HO}{act:Addr->Env->Sem Unit}
theorem Xgw(C:CompScope X N cap scope)(hcalm:X.calm=true)(cm:Cm e)(hcl:(clausesOf e)[0]? = some ⟨tg,iter,ifs,0⟩)
  (hnew:∀(s:Shared) (Q:Value->Shared->Prop) (E':Value->Shared->Prop),Q (.ref s.heap.objs.size) {s with heap:=s.heap.push ob}->wpAny (model X.prog X.w) X.A newAcc Q E' s)
  (hlay:∀pins σ H s,Inv X pins σ H s->Inv X pins σ (upd H s.heap.objs.size (o1 s.heap.objs.size)) {s with heap:=s.heap.push ob})
  (heq:∀it D env,compTurn e 0 it (.ref D) env=Xes e 0 tg iter ifs (act D env) it (.ref D) env)
  (hg:∀s0 H0 ex,PG (X.comp N scope s0 H0 ex) tg g) (ht:∀s0 H0 ex,PIfs (X.comp N scope s0 H0 ex) ifs tt) (hm:∀D s0 H0 ex,PM (X.comp N scope s0 H0 ex) (act D (X.comp N scope s0 H0 ex).env) (tm D))
  {pins:List (Addr×Obj)} {σ:St} {H:Hp} {s:Shared} {J:It} {fp:List Addr} {it:Addr} {tn:Nat->Heap->Prop} {F:Addr->Hp->Prop} {RR:Value->Addr->Result->Shared->Prop}
  (I:Inv X pins σ H s) (T:Turn X.prog X.w X.K tg J fp it tn) (h0:tn 0 s.heap) (hf:∀b∈fp,FpOk X pins H b) (hb:Xu4 cap o1 g tt tm J σ H F)
  (fin:∀D L H' s' m,Inv X pins σ H' s'->FpOk X pins H' L->s'.heap.Ns L m->F D H'->RR (.ref D) L (.ok .next) s'):
  wpAny (model X.prog X.w) X.A newAcc (λacc s₃=>wpAny (model X.prog X.w) X.A (newFunctionEnv scope X.env.globals (Xec X.env scope.names []) [] X.env.qual none .none (some X.env)) (λcenv s₄=>
   codeAny (model X.prog X.w) X.A (.compStart e 0 (.ref it) acc {cenv with scope:=relabel scope X.env}) (RR acc cenv.locals) s₄) E s₃) E s:=by
 have hDn:H s.heap.objs.size=none:=I.hok.fresh (Xzn _)
 have lp:=hb s.heap.objs.size hDn
 have flt:∀b∈fp,b<s.heap.objs.size:=λb hb=>by
  obtain⟨o,e,_⟩:=T.obj _ _ h0 b hb
  exact X3n e
 refine hnew s _ _ (Xno ?_)
 have I3:Inv X pins σ (upd H s.heap.objs.size (o1 s.heap.objs.size)) {s with heap:=s.heap.push ob}:=hlay pins σ H s I
 generalize e3:({s with heap:=s.heap.push ob}:Shared)=s3 at I3
 have es3:s3.heap=s.heap.push ob:=by rw[<-e3]
 have hsz:s3.heap.objs.size=s.heap.objs.size+1:=by rw[es3,Heap.size_push]
 have hf3:∀b∈fp,FpOk X pins (upd H s.heap.objs.size (o1 s.heap.objs.size)) b:=λb hb=>by
  obtain⟨f0,f⟩:=hf b hb
  exact⟨by rw[Xae (Xzs (flt b hb))];exact f0,f⟩
 have flt3:∀b∈fp,b<s3.heap.objs.size:=λb hb=>by rw[hsz];exact X03 (flt b hb)
 have hk:∀b o,s3.heap.get? b=some o->(pushCells (s3.heap.push {cls:=.type "dict",data:=.dict #[]}) scope.names).get? b=some o:=λb o e=>pushCells_keeps _ _ b o (X3o _ e)
 have IY:=Xry (tk:=s3.toks) C I3 hf3 flt3
 generalize eY:X.comp N scope s3 (upd H s.heap.objs.size (o1 s.heap.objs.size)) fp=Y at IY
 have hz3:(s3.heap.push {cls:=.type "dict",data:=.dict #[]}).objs.size=s3.heap.objs.size+1:=Heap.size_push ..
 have hst1:tn 0 (pushCells (s3.heap.push {cls:=.type "dict",data:=.dict #[]}) scope.names):=T.keep _ _ _ h0 λb hb o e=>hk b o (by rw[es3];exact X3o _ e)
 have fY:∀{H':Hp},(∀b∈fp,H' b=none)->∀b∈fp,FpOk Y [] H' b:=λ{H'} hn b hb=>by
  subst eY
  obtain⟨_,f1,f2,_,f4,_⟩:=hf3 b hb
  refine⟨hn b hb,Xzs (flt3 b hb),λz=>?_,.inl hb,λx c h=>?_,λp hp=>absurd (show p∈([]:List (Addr×Obj)) from hp) (by simp)⟩
  ·rcases Xzw.mp (I3.stkSub b z) with e | e
   ·exact f1 e
   ·exact f2 e
  ·rcases Xjg (s:=s3) C I3.ok hz3 h with ⟨a,_⟩ | ⟨_,a⟩
   ·exact λz=>X0n _ (X1i a (by rw[z];exact flt3 b hb))
   ·exact f4 x c a
 have loop:∀s4:Shared,s4 = {s3 with heap:=pushCells (s3.heap.push {cls:=.type "dict",data:=.dict #[]}) scope.names} ->
   codeAny (model X.prog X.w) X.A (.compLoop e 0 (.ref it) (.ref s.heap.objs.size) (compEnvC scope (Xjf X scope s3) s3.heap.objs.size X.env))
    (RR (.ref s.heap.objs.size) s3.heap.objs.size) s4:=by
  rintro s4 rfl
  have pP:Y.prog=X.prog:=by subst eY;rfl
  have pW:Y.w=X.w:=by subst eY;rfl
  have pK:Y.K=X.K:=by subst eY;rfl
  have pC:Y.calm=true:=by subst eY;exact hcalm
  have pA:Y.A=X.A:=by subst eY;rfl
  have pE:Y.env=compEnvC scope (Xjf X scope s3) s3.heap.objs.size X.env:=by subst eY;rfl
  have pX:Y.xe=λ_ _=>False:=by subst eY;rfl
  have T':Turn Y.prog Y.w Y.K tg J fp it tn:=by rw[pP,pW,pK];exact T
  have go:=Xpm (Y:=Y) (acc:=.ref s.heap.objs.size) (pins:=[]) (R:=RR (.ref s.heap.objs.size) s3.heap.objs.size) cm pX pC (heq _ _ _) (by subst eY;exact hg _ _ _) (by subst eY;exact ht _ _ _) (show PM Y (act s.heap.objs.size Y.env) (tm s.heap.objs.size) by subst eY;exact hm _ _ _ _)
   IY T' hst1 (fY λb hb=>(hf3 b hb).1) lp ?_
  ·rw[pP,pW,pA,pE] at go
   exact go
  ·intro σ' H2 s1 I1 q
   have IX:Inv X pins σ H2 s1:=by
    subst eY
    refine I3.call' (ch:=fp) I1.os I1.base I1.hok I1.bare λb hb=>?_
    obtain⟨_,f1,_,f3,f4,f5⟩:=hf3 b hb
    exact⟨f3,f1,f4,f5⟩
   have hL:H2 s3.heap.objs.size=none:=by
    have z:=I1.free
    rw[pE] at z
    exact z
   obtain⟨m,hm,_⟩:=I1.loc
   rw[pE] at hm
   exact fin s.heap.objs.size s3.heap.objs.size H2 s1 m IX (I3.fpOk (Xzn _) hL) hm q
 have lp:=loop _ rfl
 have T1:=T.self
 subst e3
 exact Xmm cm hcl rfl lp (T1 X.A 0 _ _ _ hst1 lp)
structure AccA (X:Cx) (newAcc:Sem Value) (ob:Obj) (o1:Addr->HO):Prop where
 new:∀(s:Shared) (Q:Value->Shared->Prop) (E':Value->Shared->Prop),Q (.ref s.heap.objs.size) {s with heap:=s.heap.push ob}->wpAny (model X.prog X.w) X.A newAcc Q E' s
 lay:∀pins σ H s,Inv X pins σ H s->Inv X pins σ (upd H s.heap.objs.size (o1 s.heap.objs.size)) {s with heap:=s.heap.push ob}
structure Acc (X:Cx) (newAcc:Sem Value) (ob:Obj) (o0:HO):Prop where
 new:∀(s:Shared) (Q:Value->Shared->Prop) (E':Value->Shared->Prop),Q (.ref s.heap.objs.size) {s with heap:=s.heap.push ob}->wpAny (model X.prog X.w) X.A newAcc Q E' s
 lay:∀pins σ H s,Inv X pins σ H s->Inv X pins σ (upd H s.heap.objs.size o0) {s with heap:=s.heap.push ob}
theorem Xf3:Acc X (newList []) {cls:=.type "list",data:=.seq ([]:List Value).toArray} (.lst []):=⟨λs Q E' h=>wpAny_newObj_type h,λpins σ H s I=>I.lnew (t':=s.toks) .nil (X0k _)⟩
theorem Xse:Acc X newDict {cls:=.type "dict",data:=.dict #[]} (.dK []):=⟨λs Q E' h=>wpAny_newObj_type h,λpins σ H s I=>I.laid (a:=s.heap.objs.size) (o:=.dK []) (t':=s.toks) (λ_ _ q=>X3o _ q) (Xzn _) (Xh4 s.heap I.big)⟩
def Xpo (cap:List (Option Nat)) (o0:Addr->HO) (wi:TI) (g:TG) (tt:TT) (tm:Addr->TM):TE:=fun σ H Q=>wi σ H λJ H1=>Xu4 cap o0 g tt tm J σ H1 λD H2=>Q (.ref D) H2
theorem Xmn{wi:TI}{pos:Pos}{gens:List Comprehension}(ac:AccA X newAcc ob o1)(he:eval e X.env=comprehension e scope X.env pos newAcc false (eval iter X.env))(hcls:clausesOf e=⟨tg,iter,ifs,0⟩::gens)
  (C:CompScope X N cap scope) (hcalm:X.calm=true) (cm:Cm e) (hi:PI X tg iter wi)
  (heq:∀it D env,compTurn e 0 it (.ref D) env=Xes e 0 tg iter ifs (act D env) it (.ref D) env)
  (hg:∀s0 H0 ex,PG (X.comp N scope s0 H0 ex) tg g) (ht:∀s0 H0 ex,PIfs (X.comp N scope s0 H0 ex) ifs tt) (hm:∀D s0 H0 ex,PM (X.comp N scope s0 H0 ex) (act D (X.comp N scope s0 H0 ex).env) (tm D))
  (hs:∀x,foldedSetIterable iter X.env x=pure x):PE X e (Xpo cap o1 wi g tt tm):=by
 intro pins s σ H Q I h
 rw[he]
 refine wpAny_comprehension_free (use:=none) hcls hs (Xmc (Xfd C I.ok)) C.kind (λx hx hl=>by rw[C.uniq x hx,hl]) (thn (hi pins s σ H _ I h) λv s1 h1=>thn h1 λitv s2 h2=>?_)
 obtain⟨it,fp,tn,J,H2,ei,I2,T,st2,f2,R⟩:=h2
 subst ei
 refine Xgw (RR:=λacc L=>compPost (model X.prog X.w) X.A X.xe none (EP X pins σ Q) acc L) C hcalm cm (by rw[hcls];rfl) ac.new ac.lay heq hg ht hm I2 T st2 f2 R ?_
 intro D L H' s' m I' fL hm q
 refine⟨m,hm,λh' hs'=>?_⟩
 obtain⟨f0,f1,_,f3,f4,f5⟩:=fL
 exact⟨.ref D,H',I'.turned (t':=s'.toks) (λb o hb e=>(hs'.2 b hb).trans e) f0 f1 f3 f4 f5,rfl,q⟩
def Xpp (cap:List (Option Nat)) (o0:HO) (wi:TI) (g:TG) (tt:TT) (tm:Addr->TM):TE:=fun σ H Q=>wi σ H λJ H1=>Xxl cap o0 g tt tm J σ H1 λD H2=>Q (.ref D) H2
theorem Xif{wi:TI}{pos:Pos}{gens:List Comprehension}(ac:Acc X newAcc ob o0)(he:eval e X.env=comprehension e scope X.env pos newAcc false (eval iter X.env))(hcls:clausesOf e=⟨tg,iter,ifs,0⟩::gens)
  (C:CompScope X N cap scope) (hcalm:X.calm=true) (cm:Cm e) (hi:PI X tg iter wi)
  (heq:∀it D env,compTurn e 0 it (.ref D) env=Xes e 0 tg iter ifs (act D env) it (.ref D) env)
  (hg:∀s0 H0 ex,PG (X.comp N scope s0 H0 ex) tg g) (ht:∀s0 H0 ex,PIfs (X.comp N scope s0 H0 ex) ifs tt) (hm:∀D s0 H0 ex,PM (X.comp N scope s0 H0 ex) (act D (X.comp N scope s0 H0 ex).env) (tm D))
  (hs:∀x,foldedSetIterable iter X.env x=pure x):PE X e (Xpp cap o0 wi g tt tm):=
 Xmn (o1:=λ_=>o0) ⟨ac.new,ac.lay⟩ he hcls C hcalm cm hi heq hg ht hm hs
def Xpq (i:Nat) (cap:List (Option Nat)) (o0:HO) (wi:TI) (g:TG) (tt:TT) (tm:Addr->TM):TS:=λD σ H=>wi σ H λJ H1=>Xxl cap o0 g tt tm J σ H1 λl H2=>D.nx (σ.set i (some (.ref l))) H2
theorem Xmo{wi:TI}{i:Nat}{y:Str}{py spos cpos:Pos}{gens:List Comprehension}(ac:Acc X newAcc ob o0)(he:∀use,evalThenUse e X.env use=(do let _ <-comprehension e scope X.env cpos newAcc false (eval iter X.env) (some use)))(hcls:clausesOf e=⟨tg,iter,ifs,0⟩::gens)
  (C:CompScope X N cap scope) (hcalm:X.calm=true) (cm:Cm e) (hN:X.N.Nodup) (hiN:X.N[i]? = some y) (hy:X.env.scope.names.lookup y=some .local) (hi:PI X tg iter wi)
  (heq:∀it D env,compTurn e 0 it (.ref D) env=Xes e 0 tg iter ifs (act D env) it (.ref D) env)
  (hg:∀s0 H0 ex,PG (X.comp N scope s0 H0 ex) tg g) (ht:∀s0 H0 ex,PIfs (X.comp N scope s0 H0 ex) ifs tt) (hm:∀D s0 H0 ex,PM (X.comp N scope s0 H0 ex) (act D (X.comp N scope s0 H0 ex).env) (tm D))
  (hsw:swapsWith e (some (.Name y py)) spos.line X.env=pure true) (hs:∀x,foldedSetIterable iter X.env x=pure x):PS X (.Assign [.Name y py] e spos) (Xpq i cap o0 wi g tt tm):=by
 intro pins s σ H D I h
 rw[exec_Assign_Name_used _ _ _ _ hsw]
 refine X3e (wpAny_standAt (X3e ?_))
 rw[he]
 refine X3e (thn (wpAny_comprehension_free (use:=some (assign (.Name y py) X.env)) (Q:=λ_ s'=>SP X pins D .next s') hcls hs (Xmc (Xfd C I.ok)) C.kind (λx hx hl=>by rw[C.uniq x hx,hl])
  (thn (hi pins s σ H _ I h) λv s1 h1=>thn h1 λitv s2 h2=>?_)) (λ_ s' hq=>X3f (X3f hq)))
 obtain⟨it,fp,tn,J,H2,ei,I2,T,st2,f2,R⟩:=h2
 subst ei
 refine Xgw (o1:=λ_=>o0) (RR:=λacc L=>compPost (model X.prog X.w) X.A X.xe (some (assign (.Name y py) X.env)) (λ_ s'=>SP X pins D .next s') acc L) C hcalm cm (by rw[hcls];rfl) ac.new ac.lay heq hg ht hm I2 T st2 f2 R ?_
 intro l L H' s' m I' fL hm q
 obtain⟨f0,f1,_,f3,f4,f5⟩:=fL
 show wpAny _ X.A (assign (.Name y py) X.env (.ref l)) _ _ s'
 refine wpAny_assign_Name (Xgf I' hN hiN (.inl hy) (show RelV (.ref l) (.ref l) from rfl) (λs3 I3 ⟨a,sb,ha⟩=>?_) (.inr hy))
 have hLa:L≠a:=by
  rcases ha with rfl | ha
  ·exact f1
  ·exact λz=>f4 y a ha z.symm
 refine⟨m,hm.sameBut sb hLa,λh' hs'=>?_⟩
 exact⟨_,H',I3.turned (t':=s3.toks) (λb o hb e=>(hs'.2 b hb).trans e) f0 f1 f3 f4 f5,q⟩
end
def act2 (elt tg iter tg2 iter2:Expr) (ifs ifs2:List Expr) (scope:Scope) (pos:Pos) (D:Addr) (env:Env):Sem Unit:=do
      let x <-eval iter2 env
      standAt iter2.pos
      let x <-foldedSetIterable iter2 env x
      let _ <-runOwn (.compStart (.ListComp elt [⟨tg,iter,ifs,0⟩,⟨tg2,iter2,ifs2,0⟩] scope pos) 1 (<-holding [x] (pyIter x)) (.ref D) env) env
theorem Xj0(elt tg iter tg2 iter2:Expr)(ifs ifs2:List Expr)(scope:Scope)(pos:Pos)(it:Value)(D:Addr)(env:Env):
  compTurn (.ListComp elt [⟨tg,iter,ifs,0⟩,⟨tg2,iter2,ifs2,0⟩] scope pos) 0 it (.ref D) env=Xes (.ListComp elt [⟨tg,iter,ifs,0⟩,⟨tg2,iter2,ifs2,0⟩] scope pos) 0 tg iter ifs (act2 elt tg iter tg2 iter2 ifs ifs2 scope pos D env) it (.ref D) env:=by
 unfold compTurn Xes act2
 dsimp only
 simp only[List.getElem?_cons_zero,List.getElem?_cons_succ,bind_assoc,pure_bind]
 simp
 rfl
section
variable {X:Cx}{N:List Str}{cap:List (Option Nat)}{scope:Scope}{tg iter tg2 iter2 elt kx vx:Expr}{ifs ifs2:List Expr}{g g2:TG}{tt tt2:TT}{te tk tv:TE}{wi wi2:TI}{pos:Pos}
theorem Xcv(C:CompScope X N cap scope)(hcalm:X.calm=true)(hi:PI X tg iter wi)
  (hg:∀s0 H0 ex,PG (X.comp N scope s0 H0 ex) tg g) (ht:∀s0 H0 ex,PIfs (X.comp N scope s0 H0 ex) ifs tt) (he:∀s0 H0 ex,PE (X.comp N scope s0 H0 ex) elt te)
  (hs:∀x,foldedSetIterable iter X.env x=pure x:=by intro _;rfl):PE X (.ListComp elt [⟨tg,iter,ifs,0⟩] scope pos) (Xy7 cap wi g tt te):=
 Xif (act := fun D env => do let _ <- call (.builtin "list.append") [.ref D, <- eval elt env]) Xf3 rfl rfl C hcalm Xgv hi (fun it D env => rfl) hg ht (fun D s0 H0 ex => Xie (he s0 H0 ex)) hs
theorem Xfk{i:Nat}{y:Str}{py spos:Pos}(C:CompScope X N cap scope)(hcalm:X.calm=true)(hN:X.N.Nodup)(hiN:X.N[i]? = some y)(hy:X.env.scope.names.lookup y=some .local)(hi:PI X tg iter wi)
  (hg:∀s0 H0 ex,PG (X.comp N scope s0 H0 ex) tg g) (ht:∀s0 H0 ex,PIfs (X.comp N scope s0 H0 ex) ifs tt) (he:∀s0 H0 ex,PE (X.comp N scope s0 H0 ex) elt te)
  (hsw:swapsWith (.ListComp elt [⟨tg,iter,ifs,0⟩] scope pos) (some (.Name y py)) spos.line X.env=pure true:=by rfl)
  (hs:∀x,foldedSetIterable iter X.env x=pure x:=by intro _;rfl):PS X (.Assign [.Name y py] (.ListComp elt [⟨tg,iter,ifs,0⟩] scope pos) spos) (Xw5 i cap wi g tt te):=
 Xmo (act := fun D env => do let _ <- call (.builtin "list.append") [.ref D, <- eval elt env]) Xf3 (fun use => rfl) rfl C hcalm Xgv hN hiN hy hi (fun it D env => rfl) hg ht (fun D s0 H0 ex => Xie (he s0 H0 ex)) hsw hs
theorem Xig(C:CompScope X N cap scope)(hcalm:X.calm=true)(hi:PI X tg iter wi)
  (hg:∀s0 H0 ex,PG (X.comp N scope s0 H0 ex) tg g) (ht:∀s0 H0 ex,PIfs (X.comp N scope s0 H0 ex) ifs tt) (hk:∀s0 H0 ex,PE (X.comp N scope s0 H0 ex) kx tk) (hv:∀s0 H0 ex,PE (X.comp N scope s0 H0 ex) vx tv)
  (hs:∀x,foldedSetIterable iter X.env x=pure x:=by intro _;rfl):PE X (.DictComp kx vx [⟨tg,iter,ifs,0⟩] scope pos) (Xpp cap (.dK []) wi g tt (Xxj tk tv)):=
 Xif Xse rfl rfl C hcalm Xu2 hi (λit D env=>compTurn_dict kx vx tg iter ifs scope pos it D env) hg ht (λD s0 H0 ex=>Xu3 (hk s0 H0 ex) (hv s0 H0 ex)) hs
theorem Xmp(C:CompScope X N cap scope)(hcalm:X.calm=true)(hi:PI X tg iter wi)
  (hg:∀s0 H0 ex,PG (X.comp N scope s0 H0 ex) tg g) (ht:∀s0 H0 ex,PIfs (X.comp N scope s0 H0 ex) ifs tt)
  (hi2:∀s0 H0 ex,PI (X.comp N scope s0 H0 ex) tg2 iter2 wi2) (hg2:∀s0 H0 ex,PG (X.comp N scope s0 H0 ex) tg2 g2) (ht2:∀s0 H0 ex,PIfs (X.comp N scope s0 H0 ex) ifs2 tt2) (he:∀s0 H0 ex,PE (X.comp N scope s0 H0 ex) elt te)
  (hs:∀x,foldedSetIterable iter X.env x=pure x:=by intro _;rfl) (hs2:∀s0 H0 ex x,foldedSetIterable iter2 (X.comp N scope s0 H0 ex).env x=pure x:=by intro _ _ _ _;rfl):
  PE X (.ListComp elt [⟨tg,iter,ifs,0⟩,⟨tg2,iter2,ifs2,0⟩] scope pos) (Xpp cap (.lst []) wi g tt λD=>mFor wi2 g2 tt2 (Xpn te D)):=
 Xif (act:=λD env=>act2 elt tg iter tg2 iter2 ifs ifs2 scope pos D env) Xf3 rfl rfl C hcalm Xgv hi (λit D env=>Xj0 ..) hg ht (λD s0 H0 ex=>Xxk (Y:=X.comp N scope s0 H0 ex) (e:=.ListComp elt [⟨tg,iter,ifs,0⟩,⟨tg2,iter2,ifs2,0⟩] scope pos) (d:=1) Xgv rfl hcalm rfl (λit=>rfl) (hi2 s0 H0 ex) (hg2 s0 H0 ex) (ht2 s0 H0 ex) (Xie (he s0 H0 ex)) (hs2 s0 H0 ex)) hs
end
mutual
def DAt (H:Hp):PyData->V->Prop
 | .none,v=>v = .non
 | .bool b,v=>v = .bl b
 | .int i,v=>v = .int i
 | .str x,v=>v = .str x
 | .list ds,v=>∃p xs,v = .ref p/\H p=some (.lst xs)/\DAll H ds xs
 | .tuple ds,v=>∃p xs,v = .ref p/\H p=some (.tup xs)/\DAll H ds xs
 | .dict _,_=>False
def DAll (H:Hp):List PyData->List V->Prop
 | [],vs=>vs=[]
 | d::ds,vs=>∃v r,vs=v::r/\DAt H d v/\DAll H ds r
end
mutual
theorem DAt.same{H H':Hp}(s:Same H H'):∀(d:PyData) (v:V),DAt H d v->DAt H' d v
 | .none,v,h=>by unfold DAt at h ⊢; exact h
 | .bool b,v,h=>by unfold DAt at h ⊢; exact h
 | .int i,v,h=>by unfold DAt at h ⊢; exact h
 | .str x,v,h=>by unfold DAt at h ⊢; exact h
 | .list ds,v,h=>by
  unfold DAt at h ⊢
  obtain⟨p,xs,h1,h2,h3⟩:=h
  exact⟨p,xs,h1,s _ _ h2,DAll.same s ds xs h3⟩
 | .tuple ds,v,h=>by
  unfold DAt at h ⊢
  obtain⟨p,xs,h1,h2,h3⟩:=h
  exact⟨p,xs,h1,s _ _ h2,DAll.same s ds xs h3⟩
 | .dict _,v,h=>by unfold DAt at h;exact h.elim
theorem DAll.same{H H':Hp}(s:Same H H'):∀(ds:List PyData) (vs:List V),DAll H ds vs->DAll H' ds vs
 | [],vs,h=>by unfold DAll at h ⊢; exact h
 | d::ds,vs,h=>by
  unfold DAll at h ⊢
  obtain⟨v,r,h1,h2,h3⟩:=h
  exact⟨v,r,h1,DAt.same s d v h2,DAll.same s ds r h3⟩
end
theorem Xcj{H:Hp}:DAll H [] []:=by unfold DAll;rfl
theorem Xdw{H:Hp}{d:PyData}{ds:List PyData}{v:V}{vs:List V}(h:DAt H d v)(hs:DAll H ds vs):DAll H (d::ds) (v::vs):=by unfold DAll;exact⟨v,vs,rfl,h,hs⟩
theorem Xet{H:Hp}{d:PyData}{v:V}:∀{ds:List PyData} {vs:List V},DAll H ds vs->DAt H d v->DAll H (ds++[d]) (vs++[v])
 | [],vs,h,hd=>by
  unfold DAll at h
  subst h
  exact Xdw hd Xcj
 | e::ds,vs,h,hd=>by
  unfold DAll at h
  obtain⟨u,r,rfl,h2,h3⟩:=h
  exact Xdw h2 (Xet h3 hd)
theorem Xd4{H:Hp}:∀{ds:List PyData} {vs:List V},DAll H ds vs->vs.length=ds.length
 | [],vs,h=>by unfold DAll at h;subst h;rfl
 | e::ds,vs,h=>by
  unfold DAll at h
  obtain⟨u,r,rfl,h2,h3⟩:=h
  rw[X0a,X0a,Xd4 h3]
theorem Xih{H:Hp}:∀{ds:List PyData} {vs:List V} {i:Nat} {d:PyData},DAll H ds vs->ds[i]? = some d->∃v,vs[i]? = some v/\DAt H d v
 | [],vs,i,d,h,e=>by simp at e
 | c::ds,vs,0,d,h,e=>by
  unfold DAll at h
  obtain⟨u,r,rfl,h2,h3⟩:=h
  simp at e
  subst e
  exact⟨u,rfl,h2⟩
 | c::ds,vs,i+1,d,h,e=>by
  unfold DAll at h
  obtain⟨u,r,rfl,h2,h3⟩:=h
  simpa using Xih h3 (by simpa using e)
theorem Xdx{H:Hp}(row:List Str):DAll H (row.map PyData.str) (row.map V.str):=by
 induction row with
 | nil=>exact Xcj
 | cons x r ih=>exact Xdw (by unfold DAt;rfl) ih
theorem Xpr{H:Hp}(row:List Int):DAll H (row.map PyData.int) (row.map V.int):=by
 induction row with
 | nil=>exact Xcj
 | cons x r ih=>exact Xdw (by unfold DAt;rfl) ih
theorem Xlb{H:Hp}{ds:List PyData}{p:Addr}{xs:List V}(h:H p=some (.tup xs))(hs:DAll H ds xs):DAt H (.tuple ds) (.ref p):=by unfold DAt;exact⟨p,xs,rfl,h,hs⟩
theorem Xfl{H:Hp}{ds:List PyData}{p:Addr}{xs:List V}(h:H p=some (.lst xs))(hs:DAll H ds xs):DAt H (.list ds) (.ref p):=by unfold DAt;exact⟨p,xs,rfl,h,hs⟩
theorem Xps{H:Hp}{ds:List PyData}{v:V}(h:DAt H (.tuple ds) v):∃p xs,v = .ref p/\H p=some (.tup xs)/\DAll H ds xs:=by unfold DAt at h;exact h
section
variable {X:Cx}{pins:List (Addr×Obj)}{σ:St}{H:Hp}{s:Shared}
mutual
theorem Xdg(I:Inv X pins σ H s):∀(d:PyData) (v:V) (u:Value),DAt H d v->RelV v u->∃as,Reads s.heap u d as
 | .none,v,u,h,r=>by unfold DAt at h;subst h;cases r;exact⟨_,.none⟩
 | .bool b,v,u,h,r=>by unfold DAt at h;subst h;cases r;exact⟨_,.bool b⟩
 | .int i,v,u,h,r=>by unfold DAt at h;subst h;obtain⟨t,rfl⟩:=r;exact⟨_,.int i t⟩
 | .str x,v,u,h,r=>by unfold DAt at h;subst h;obtain⟨t,rfl⟩:=r;exact⟨_,.str x t⟩
 | .list ds,v,u,h,r=>by
  unfold DAt at h
  obtain⟨p,xs,rfl,hp,hs⟩:=h
  cases r
  obtain⟨its,rv,pl,hz⟩:=I.list (SqL.of (K:=X.K) hp)
  obtain⟨as,ra⟩:=Xee I ds xs its hs rv
  obtain⟨o,ho,hc,n,hd⟩:=pl.isList
  exact⟨_,.list ho hc hd (by simpa using ra)⟩
 | .tuple ds,v,u,h,r=>by
  unfold DAt at h
  obtain⟨p,xs,rfl,hp,hs⟩:=h
  cases r
  obtain⟨its,rv,pl,hz⟩:=I.tuple (SqT.of (K:=X.K) hp)
  obtain⟨as,ra⟩:=Xee I ds xs its hs rv
  obtain⟨o,ho,hc,n,hd⟩:=pl
  exact⟨_,.tuple ho hc hd (by simpa using ra)⟩
 | .dict _,v,u,h,r=>by unfold DAt at h;exact h.elim
theorem Xee(I:Inv X pins σ H s):∀(ds:List PyData) (vs:List V) (us:List Value),DAll H ds vs->Vals vs us->∃as,ReadsAll s.heap us ds as
 | [],vs,us,h,r=>by unfold DAll at h;subst h;cases r;exact⟨_,.nil⟩
 | d::ds,vs,us,h,r=>by
  unfold DAll at h
  obtain⟨v,vr,rfl,h1,h2⟩:=h
  cases r with
  | cons r1 r2=>
   obtain⟨a1,q1⟩:=Xdg I d v _ h1 r1
   obtain⟨a2,q2⟩:=Xee I ds vr _ h2 r2
   exact⟨_,.cons q1 q2⟩
end
theorem Xhp(hu:X.A.units+3<cLine):OpR X (compareOp .Eq) (λx y H Q=>∃d d',DAt H d x/\DAt H d' y/\d.canLay0=true/\d'.canLay0=true/\min d.depth d'.depth<=3/\Q (.bl (PyData.eqv d d')) H):=by
 intro pins s σ H x y v u Q I rx ry h
 obtain⟨d,d',h1,h2,c1,c2,hd,q⟩:=h
 obtain⟨as,ra⟩:=Xdg I d x v h1 rx
 obtain⟨bs,rb⟩:=Xdg I d' y u h2 ry
 exact SeqAt.compareEq_reads ra rb c1 c2 (by omega) ⟨.bl _,H,I,rfl,q⟩
theorem Xj1(hu:X.A.units+3<cLine):OpR X (compareOp .NotEq) (λx y H Q=>∃d d',DAt H d x/\DAt H d' y/\d.canLay0=true/\d'.canLay0=true/\min d.depth d'.depth<=3/\Q (.bl (!PyData.eqv d d')) H):=by
 intro pins s σ H x y v u Q I rx ry h
 obtain⟨d,d',h1,h2,c1,c2,hd,q⟩:=h
 obtain⟨as,ra⟩:=Xdg I d x v h1 rx
 obtain⟨bs,rb⟩:=Xdg I d' y u h2 ry
 exact SeqAt.compareNe_reads ra rb c1 c2 (by omega) ⟨.bl _,H,I,rfl,q⟩
end
mutual
def Xcl:PyData->Bool
 | .none | .int _=>true
 | .str x=>PyData.strOk x
 | .list xs | .tuple xs=>Xb0 xs
 | .bool _ | .dict _=>false
def Xb0:List PyData->Bool
 | []=>true
 | x::xs=>Xcl x&&Xb0 xs
end
mutual
theorem Xav:∀d:PyData,Xcl d=true->d.canLay0=true
 | .none,_=>rfl
 | .int _,_=>rfl
 | .str x,h=>h
 | .list xs,h=>Xcm xs h
 | .tuple xs,h=>Xcm xs h
 | .bool _,h=>nomatch h
 | .dict _,h=>nomatch h
theorem Xcm:∀ds:List PyData,Xb0 ds=true->PyData.canLayAll0 ds=true
 | [],_=>rfl
 | d::ds,h=>by
  have h':(Xcl d&&Xb0 ds)=true:=h
  rw[Xz3] at h'
  show (d.canLay0&&PyData.canLayAll0 ds)=true
  rw[Xav d h'.1,Xcm ds h'.2]
  rfl
end
mutual
theorem Xii:∀(d d':PyData),Xcl d=true->Xcl d'=true->(PyData.eqv d d'=true↔d=d')
 | .none,d',_,h=>by cases d'<;>simp[PyData.eqv]
 | .int i,d',_,h=>by cases d'<;>simp_all [PyData.eqv,Xcl]
 | .str x,d',_,h=>by cases d'<;>simp_all [PyData.eqv,Xcl]
 | .list xs,d',g,h=>by
  cases d' with
  | list ys=>
   have:=Xfm xs ys g h
   simp only[PyData.eqv,this,PyData.list.injEq]
  | _=>simp[PyData.eqv]
 | .tuple xs,d',g,h=>by
  cases d' with
  | tuple ys=>
   have:=Xfm xs ys g h
   simp only[PyData.eqv,this,PyData.tuple.injEq]
  | _=>simp[PyData.eqv]
 | .bool _,_,g,_=>nomatch g
 | .dict _,_,g,_=>nomatch g
theorem Xfm:∀(xs ys:List PyData),Xb0 xs=true->Xb0 ys=true->(PyData.eqvAll xs ys=true↔xs=ys)
 | [],[],_,_=>by simp[PyData.eqvAll]
 | [],_::_,_,_=>by simp[PyData.eqvAll]
 | _::_,[],_,_=>by simp[PyData.eqvAll]
 | x::xs,y::ys,g,h=>by
  have g':(Xcl x&&Xb0 xs)=true:=g
  have h':(Xcl y&&Xb0 ys)=true:=h
  rw[Xz3] at g' h'
  have e1:=Xii x y g'.1 h'.1
  have e2:=Xfm xs ys g'.2 h'.2
  simp only[PyData.eqvAll,Xz3,e1,e2,List.cons.injEq]
end
theorem Xpt{α : Type}[DecidableEq α](f : α->PyData)(inj:∀a b,f a=f b->a=b)(a b : α)(ha:Xcl (f a)=true)(hb:Xcl (f b)=true):PyData.eqv (f a) (f b)=decide (a=b):=by
 rw[X01,Xii _ _ ha hb,decide_eq_true_eq]
 exact⟨inj a b,λe=>by rw[e]⟩
theorem plainAll_map{α : Type}(f : α->PyData):∀(xs:List α),(∀x∈xs,Xcl (f x)=true)->Xb0 (xs.map f)=true
 | [],_=>rfl
 | x::xs,h=>by
  show (Xcl (f x)&&Xb0 (xs.map f))=true
  rw[h x Xzp,plainAll_map f xs λy hy=>h y (Xzo _ hy)]
  rfl
section
variable {X:Cx}{tg:Expr}
def Xxm (tl:TE):TI:=fun σ H R=>tl σ H λx H1=>∃d kvs,x = .ref d/\((H1 d=some (.dK kvs)/\∀o,R (Itd d o kvs) (upd H1 d (.frz o (.dK kvs)))) \/ ∃o,H1 d=some (.frz o (.dK kvs))/\R (Itd d o kvs) H1)
theorem Xdh{l:Expr}{tl:TE}(hl:PE X l tl):PI X tg l (Xxm tl):=by
 intro pins s σ H R I h
 refine thn (hl pins s σ H _ I h) λv s1 ⟨x,H1,I1,r1,q1⟩=>?_
 obtain⟨d,kvs,e,q⟩:=q1
 subst e
 cases r1
 rcases q with ⟨hH,q⟩ | ⟨o,hH,q⟩
 ·obtain⟨hz,hm,vs,rv,o,es,ep,ho,hex,hd,r⟩:=I1.hok d _ hH
  have hlen:kvs.length=vs.length:=Paired.length rv
  refine wpAny_pyIter_dict (knd:=Xas X.prog X.w) hm ⟨o,es,ho,hex,hd,r⟩ ?_
  have I2:=I1.freeze hH ho
  refine⟨s1.heap.objs.size,[s1.heap.objs.size],_,_,_,rfl,I2.kept (t':=s1.toks) λb o e=>X3o _ e,Xgp d _ o es ep hd kvs (Xzs (X3n ho)),⟨_,Heap.get?_push_size _ rfl,rfl,by rw[hlen];rfl⟩,λb hb=>?_,q o⟩
  have e:b=s1.heap.objs.size:=by simpa using hb
  subst e
  exact I2.fpOk (Xzn _) (I2.hok.fresh (Xzn _))
 ·obtain⟨ho',hok⟩:=(show Xbm X.prog X.w H1 s1.heap d (.frz o (.dK kvs)) from I1.hok d _ hH)
  obtain⟨hz,hm,vs,rv,o',es,ep,ho,hex,hd,r⟩:=hok
  have eo:o'=o:=by rw[ho'] at ho;exact(Xzx ho).symm
  subst eo
  have hlen:kvs.length=vs.length:=Paired.length rv
  refine wpAny_pyIter_dict (knd:=Xas X.prog X.w) hm ⟨o',es,ho,hex,hd,r⟩ ?_
  refine⟨s1.heap.objs.size,[s1.heap.objs.size],_,_,_,rfl,I1.kept (t':=s1.toks) λb o e=>X3o _ e,Xgp d _ o' es ep hd kvs (Xzs (X3n ho)),⟨_,Heap.get?_push_size _ rfl,rfl,by rw[hlen];rfl⟩,λb hb=>?_,q⟩
  have e:b=s1.heap.objs.size:=by simpa using hb
  subst e
  exact I1.fpOk (Xzn _) (I1.hok.fresh (Xzn _))
end
def hid (D:Addr) (H:Hp):Hp:=λb=>if b=D then none else H b
theorem Xc2(D:Addr)(H:Hp):Same (hid D H) H:=λb o e=>by
 unfold hid at e
 split at e
 ·cases e
 ·exact e
theorem Xpu(D:Addr)(H:Hp)(o:HO):hid D (upd H D o)=hid D H:=by
 funext b
 unfold hid
 split
 ·rfl
 ·rename_i h
  rw[Xae h]
theorem Xeu{D:Addr}{H H':Hp}(s:Same H H'):Same (hid D H) (hid D H'):=λb o e=>by
 unfold hid at e ⊢
 split at e
 ·cases e
 ·rename_i h
  rw[X3h h]
  exact s b o e
theorem Xcw{D b:Addr}{H:Hp}{o:HO}(h:H b=some o)(n:b≠D):hid D H b=some o:=by
 unfold hid
 rw[X3h n]
 exact h
theorem Xpv{D p:Addr}{H:Hp}{o:HO}{ds:List PyData}{xs:List V}(hD:H D=some o)(np:H p=none)(h:DAll (hid D (upd H p (.tup xs))) ds xs):DAt (hid D (upd H p (.tup xs))) (.tuple ds) (.ref p):=
 Xlb (Xcw Xab (Xaf hD np).symm) h
section
variable {tt:TT}{te:TE}{J:It}{σ:St}{H0 H1:Hp}{D:Addr}{F:St->Hp->Prop}{j:Nat}{xs0:List V}
theorem Xlc(n:Nat)(vs:Nat->V)(ok:Nat->Bool)(dat:Nat->PyData)(acc:List PyData)(hH:H0 D=none)(s0:Same H0 H1)(hxs:H1 D=some (.lst xs0))(hall:DAll (hid D H1) acc xs0)(hbd:acc.length+n<sizeLine)
  (hgo:∀i H2,i<n->Same H0 H2->J.go i H2/\∀x H3,J.yld i H2 x H3->H3=H2/\x=vs i)
  (hst:∀H2,Same H0 H2->J.stop n H2)
  (tst:∀(i:Nat) H2 Q,i<n->Same H0 H2->(∀H',Same H2 H'->Q (ok i) H')->tt (σ.set j (some (vs i))) H2 Q)
  (step:∀(i:Nat) xs H2 Q,i<n->ok i=true->Same H0 H2->H2 D=some (.lst xs)->(∀v H',Same H2 H'->DAt (hid D H') (dat i) v->Q v H')->te (σ.set j (some (vs i))) H2 Q)
  (fin:∀σ' H2 xs,(∀v, σ'.set j v = σ.set j v)->Same H0 H2->H2 D=some (.lst xs)->DAll (hid D H2) (acc++((List.range n).filter ok).map dat) xs->F σ' H2):
  tLp (Xbv j) tt (Xpn te D) J σ H1 F:=by
 refine⟨wN n λi σ2 H2=>(∀v, σ2.set j v = σ.set j v)/\Same H0 H2/\∃xs,H2 D=some (.lst xs)/\DAll (hid D H2) (acc++((List.range i).filter ok).map dat) xs,⟨n,by simp,X0k _,λ_=>rfl,s0,xs0,hxs,by simpa using hall⟩,?_⟩
 rintro i m σ1 H2 ⟨rfl,hi,e,s2,xs,hD,hal⟩
 by_cases hlt:i<n
 ·obtain⟨h1,h2⟩:=hgo i H2 hlt s2
  refine .inr ⟨h1,λx H3 y=>?_⟩
  obtain⟨e1,e2⟩:=h2 x H3 y
  subst e1 e2
  show tt (σ1.set j (some (vs i))) H3 _
  rw[e]
  refine tst i H3 _ hlt s2 λH4 s4=>?_
  have s04:=s2.trans s4
  have hD4:=s4 _ _ hD
  have hal4:=DAll.same (Xeu (D:=D) s4) _ _ hal
  have hss:∀v,(σ.set j (some (vs i))).set j v = σ.set j v:=λv=>by rw[X2m]
  have hl:xs.length<=acc.length+i:=by
   rw[Xd4 hal,Xzt,Xzk]
   have:((List.range i).filter ok).length<=i:=X0c (X0i ..) (by rw[X0s];omega)
   omega
  refine ite2b (λhk=>?_) (λhk=>?_)
  ·show te (σ.set j (some (vs i))) H4 _
   refine step i xs H4 _ hlt hk s04 hD4 λv H5 s5 hv=>?_
   refine⟨xs,s5 _ _ hD4,by omega,?_⟩
   refine wskip hlt ⟨hss,λb u e'=>?_,xs++[v],Xab,?_⟩
   ·rw[Xae (Xaf e' hH)]
    exact s5 _ _ (s04 b u e')
   ·rw[Xpu,X0q,Xz7,Xzq,<-X18]
    simp only[X0l,hk,if_true,X2u,Xz9,X3c]
    exact Xet (DAll.same (Xeu (D:=D) s5) _ _ hal4) hv
  ·refine wskip hlt ⟨hss,s04,xs,hD4,?_⟩
   rw[X0q,Xz7]
   simpa [hk] using hal4
 ·have ei:i=n:=by omega
  subst ei
  exact .inl ⟨hst H2 s2,fin σ1 H2 xs e s2 hD hal⟩
theorem Xxn{tm:TM}(n:Nat)(vs:Nat->V)(acc:Nat->List PyData)(hH:H0 D=none)(s0:Same H0 H1)(hxs:H1 D=some (.lst xs0))(hall:DAll (hid D H1) (acc 0) xs0)(Eσ:St->Prop)(hE:Eσ σ)
  (hgo:∀i H2,i<n->Same H0 H2->J.go i H2/\∀x H3,J.yld i H2 x H3->H3=H2/\x=vs i)
  (hst:∀H2,Same H0 H2->J.stop n H2)
  (step:∀(i:Nat) σ1 xs H2 (Q:St->Hp->Prop),i<n->Eσ σ1->Same H0 H2->H2 D=some (.lst xs)->DAll (hid D H2) (acc i) xs->(∀σ' H' xs',Eσ σ'->Same H0 H'->H' D=some (.lst xs')->DAll (hid D H') (acc (i+1)) xs'->Q σ' H')->tm (σ1.set j (some (vs i))) H2 Q)
  (fin:∀σ' H2 xs,Same H0 H2->H2 D=some (.lst xs)->DAll (hid D H2) (acc n) xs->F σ' H2):
  tLp (Xbv j) tYes tm J σ H1 F:=by
 refine⟨wN n λi σ2 H2=>Eσ σ2/\Same H0 H2/\∃xs,H2 D=some (.lst xs)/\DAll (hid D H2) (acc i) xs,⟨n,by simp,X0k _,hE,s0,xs0,hxs,hall⟩,?_⟩
 rintro i m σ1 H2 ⟨rfl,hi,e,s2,xs,hD,hal⟩
 by_cases hlt:i<n
 ·obtain⟨h1,h2⟩:=hgo i H2 hlt s2
  refine .inr ⟨h1,λx H3 y=>?_⟩
  obtain⟨e1,e2⟩:=h2 x H3 y
  subst e1 e2
  unfold Xbv tYes
  dsimp only
  rw[X3i rfl]
  exact step i σ1 xs H3 _ hlt e s2 hD hal fun σ' H' xs' e' s' hD' hal'=>wskip hlt ⟨e',s',xs',hD',hal'⟩
 ·have ei:i=n:=by omega
  subst ei
  exact .inl ⟨hst H2 s2,fin σ1 H2 xs s2 hD hal⟩
theorem Xu5{tm:TM}(n:Nat)(vs:Nat->V)(acc:Nat->List PyData)(G:Hp->Prop)(hH:H0 D=none)(s0:Same H0 H1)(g0:G H1)(hxs:H1 D=some (.lst xs0))(hall:DAll (hid D H1) (acc 0) xs0)(Eσ:St->Prop)(hE:Eσ σ)
  (hgo:∀i H2,i<n->Same H0 H2->J.go i H2/\∀x H3,J.yld i H2 x H3->H3=H2/\x=vs i)
  (hst:∀H2,Same H0 H2->J.stop n H2)
  (step:∀(i:Nat) σ1 xs H2 (Q:St->Hp->Prop),i<n->Eσ σ1->Same H0 H2->G H2->H2 D=some (.lst xs)->DAll (hid D H2) (acc i) xs->(∀σ' H' xs',Eσ σ'->Same H0 H'->G H'->H' D=some (.lst xs')->DAll (hid D H') (acc (i+1)) xs'->Q σ' H')->tm (σ1.set j (some (vs i))) H2 Q)
  (fin:∀σ' H2 xs,Same H0 H2->G H2->H2 D=some (.lst xs)->DAll (hid D H2) (acc n) xs->F σ' H2):
  tLp (Xbv j) tYes tm J σ H1 F:=by
 refine⟨wN n λi σ2 H2=>Eσ σ2/\Same H0 H2/\G H2/\∃xs,H2 D=some (.lst xs)/\DAll (hid D H2) (acc i) xs,⟨n,by simp,X0k _,hE,s0,g0,xs0,hxs,hall⟩,?_⟩
 rintro i m σ1 H2 ⟨rfl,hi,e,s2,g2,xs,hD,hal⟩
 by_cases hlt:i<n
 ·obtain⟨h1,h2⟩:=hgo i H2 hlt s2
  refine .inr ⟨h1,λx H3 y=>?_⟩
  obtain⟨e1,e2⟩:=h2 x H3 y
  subst e1 e2
  unfold Xbv tYes
  dsimp only
  rw[X3i rfl]
  exact step i σ1 xs H3 _ hlt e s2 g2 hD hal fun σ' H' xs' e' s' g' hD' hal'=>wskip hlt ⟨e',s',g',xs',hD',hal'⟩
 ·have ei:i=n:=by omega
  subst ei
  exact .inl ⟨hst H2 s2,fin σ1 H2 xs s2 g2 hD hal⟩
end
section
variable {X:Cx}{pos np hpos:Pos}{body:List Stmt}{b0:Stmt}{suite:List Stmt}{x:Str}{Cc:Addr}{tb:(Addr->St->Hp->Prop)->TS}{th:TS}
end
section
variable {X:Cx}
theorem Xsf:X.calm=true->Xcx X (.builtin "any") (λxs H Q=>∃(a:Addr) (bs:List Bool),xs=[.ref a]/\H a=some (.lst (bs.map V.bl))/\Q (.bl (bs.any id)) H):=by
 intro hc pins s σ H xs us Q I r h
 obtain⟨a,bs,rfl,ha,q⟩:=h
 obtain⟨u,rfl,ru⟩:=vals1 r
 cases ru
 obtain⟨its,rv,p,hz⟩:=I.list (SqL.of ha)
 have hl:=rv.length
 rw[Xzk] at hl
 refine call_any_walk (wpAny_pyIter_list p.isList ?_)
 have hlt:a≠s.heap.objs.size:=by
  obtain⟨o,ho,_⟩:=p.isList
  exact Xzs (X3n ho)
 refine⟨s.heap.objs.size,_,_,_,_,_,λj=>bs.getD j false,rfl,Walks.list (A:=X.A.in1) (show X.A.in1.handled=none from I.ok.hd hc) s.heap.objs.size a hlt its.toArray,⟨⟨_,Heap.get?_push_size _ rfl,rfl,rfl⟩,p.isList.push _⟩,λi v s' Q' E' hP hQ=>?_,λh' tk k=>?_⟩
 ·have hv:its[i]? = some v:=by simpa using hP
  have hi:i<its.length:=(Xz2.mp hv).1
  have g:(bs.map V.bl)[i]? = some (.bl (bs[i]'(by omega))):=by
   rw[Xz1,Xzl (by omega)]
   rfl
  obtain⟨u,hu,ru⟩:=rv.get g
  rw[hv] at hu
  cases hu
  cases ru
  have e:bs.getD i false=bs[i]'(by omega):=by simp[List.getD,(by omega:i<bs.length)]
  have hQ':Q' (bs.getD i false) s':=hQ
  rw[e] at hQ'
  exact wpAny_truthy_bool hQ'
 ·refine⟨.bl (bs.any id),H,I.kept (t':=tk) λb o e=>k b o (λz=>?_) (X3o _ e),?_,q⟩
  ·have z':b=s.heap.objs.size:=by simpa using z
   exact absurd (X3n e) (by rw[z'];exact X0n _)
  ·show Value.bool _=Value.bool _
   congr 1
   rw[Xzm,<-hl]
   rw[X01,X1g,X1g]
   constructor
   ·rintro ⟨j,hj,e⟩
    have hj':=X0v.mp hj
    refine⟨_,X0b hj',?_⟩
    simpa [List.getD,hj'] using e
   ·rintro ⟨b,hb,e⟩
    obtain⟨j,hj,rfl⟩:=X0r.mp hb
    exact⟨j,X0v.mpr hj,by simpa [List.getD,hj] using e⟩
def Xxo:V->List V->Hp->VK->Prop:=λx vs H Q=>∃l xs y,x = .ref l/\vs=[y]/\H l=some (.lst xs)/\Xdd y=true/\xs.all Xdd=true/\Q (.int (xs.countP λz=>eqV z y)) H
theorem Xhq{y:V}:∀{xs:List V} {its:List Value},Vals xs its->xs.all Xdd=true->its.countP (eqU y)=xs.countP λz=>eqV z y
 | _,_,.nil,_=>rfl
 | _,_,.cons (a:=a) (b:=b) r t,f=>by
  rw[X28,Xz3] at f
  rw[X0y,X0y,Xhq t f.2,Xl9 r f.1]
theorem Xmq:MtM X "list.count" Xxo:=by
 intro pins s σ H x vs v us Q I rx rv h
 obtain⟨l,xs,y,rfl,rfl,hH,fy,fs,q⟩:=h
 cases rx
 obtain⟨u,rfl,ru⟩:=rv.one
 obtain⟨z,its,n,r,hl,e⟩:=I.lstM hH
 refine call_meets F.slot_list_count ⟨_,e,rfl⟩ F.entry_list_count (F.args_list_count_2 _ _) (SeqAt.list_countAt l its.toArray n _ _ u (eqU y)) ⟨e,λw hw=>Xde ru fy r fs w (by simpa using hw),?_⟩
 refine⟨.int _,H,I.tok _,⟨_,rfl⟩,?_⟩
 have e2:((its.toArray.toList.countP (eqU y):Nat):Int)=((xs.countP λz=>eqV z y:Nat):Int):=by rw[<-Xhq r fs]
 exact e2 ▸ q
theorem Xj2:Xcx X (.builtin "sorted") (λxs H Q=>∃a ks,xs=[.ref a]/\H a=some (.lst (ks.map V.str))/\ks.length<64/\∀l,H l=none->Q (.ref l) (upd H l (.lst ((srt ks).map V.str)))):=by
 intro pins s σ H xs us Q I r h
 obtain⟨a,ks,rfl,ha,h64,q⟩:=h
 obtain⟨u,rfl,rx⟩:=vals1 r
 cases rx
 obtain⟨its,rv,pl,hz⟩:=I.list (SqL.of ha)
 have hl:=rv.length
 rw[Xzk] at hl
 refine sorted_strs pl.isList (Xc5 rv) (by omega) λout ss' h1 h2 h3=>?_
 obtain⟨e,he⟩:=sortedAll_at s.heap its out
 have es:ss'=srt ks:=Xho h2 h3
 subst es
 have hf:H (s.heap.objs.size+1)=none:=I.hok.fresh (X00 _)
 refine⟨.ref (s.heap.objs.size+1),_,I.laid (t':=s.toks) (h':=sortedAll s.heap its out) (o:=.lst ((srt ks).map V.str)) (λb ob q=>sortedAll_old q) (X00 _) ?_,rfl,q _ hf⟩
 refine⟨by rw[Xzk,h2.length_eq,X3g];omega,out.toList,e,Xjr h1,?_⟩
 rw[he]
def Xpw:R2:=λx y H Q=>∃a b xs ys,x = .ref a/\y = .ref b/\H a=some (.tup xs)/\H b=some (.tup ys)/\xs.length+ys.length<=sizeLine/\∀p H',Same H H'->H' p=some (.tup (xs++ys))->Q (.ref p) H'
theorem Xev:OpR X (binaryOp .Add) Xpw:=by
 intro pins s σ H x y v u Q I rx ry h
 obtain⟨a,b,xs,ys,rfl,rfl,ha,hb,hz,q⟩:=h
 by_cases hx:xs=[]
 ·subst hx
  cases rx
  cases ry
  obtain⟨its,r1,p1,_⟩:=I.tuple (SqT.of (K:=X.K) ha)
  obtain⟨its2,r2,p2,_⟩:=I.tuple (SqT.of (K:=X.K) hb)
  cases r1
  obtain⟨⟨cls,dd,data,sl⟩,ho,hc,n,hd⟩:=id p1
  obtain⟨⟨cls2,dd2,data2,sl2⟩,ho2,hc2,n2,hd2⟩:=id p2
  simp only at hc hd hc2 hd2
  subst hc hd hc2 hd2
  exact concat_meets ⟨_,ho,rfl⟩ ⟨_,ho2,rfl⟩ noFill_tuple_add seq_tuple_add PySem.F.slot_tuple_add PySem.F.entry_tuple_add (PySem.F.args_tuple_add_2 _ _)
   (tuple_addW0 a b _ _ n n2 dd dd2 sl sl2 (by simp)) ⟨ho,ho2,⟨.ref b,H,I,rfl,q b H (Same.refl H) hb⟩⟩
 ·refine Xuk pins s σ H (.ref a) (.ref b) v u Q I rx ry ⟨a,b,xs,ys,rfl,rfl,SqT.of ha,SqT.of hb,hx,hz,λhy=>?_,λhy p np=>?_⟩
  ·subst hy
   exact q a H (Same.refl H) (by rw[X0m];exact ha)
  ·exact q p _ ((Same.refl H).step np) Xab
end
end L2
namespace HT
open PySem PySem.Spec PyProof.Rows PySem.Calls L2
section
variable {prog:Program}{w:World}{A:Around}{E:Value->Shared->Prop}{s:Shared}
theorem getItem_tuple_whole{t sl:Addr}{items:Array Value}{vl vu:Value}{lo hi:Option Int}{Q:Value->Shared->Prop}(ht:IsTup s.heap t items)(hs:s.heap.IsSliceOf sl vl vu .none)(pl:IsPart vl lo)(pu:IsPart vu hi)
  (hw:sIx items.size 0 lo=0/\sIx items.size items.size hi=items.size) (h:Q (.ref t) s):wpAny (model prog w) A (getItem (.ref t) (.ref sl)) Q E s:=by
 obtain⟨os,hos,hcs,hds⟩:=id hs
 have hTs:s.TypeIs (.ref sl) "slice" := ⟨os,hos,hcs⟩
 unfold getItem
 try with_reducible refine wpAny_holding ?_
 first | refine X3e (X3f ?_) | skip
 refine X3e (wpAny_sequenceKey ht.typeIs (by decide) ?_)
 refine X3e (wpAny_callSpecial?_slot (name:=Str.ofString "__getitem__") ht.typeIs PyProof.Rows.slot_tuple_getitem
  (wpAny_call_entry PyProof.Rows.slot_tuple_getitem ht.typeIs entry_tuple_getitem ?_ (args_tuple_getitem _ _)))
 show wpAny _ _ (Builtin.Tuple.tupleItemsOf (.ref t) >>= _) _ _ s
 refine X3e (tupleItemsOf_ ht ?_)
 refine X3e (wpAny_typeOf hTs ?_)
 rw[X3i (by decide)]
 refine X3e (Xdl hs pl pu ?_)
 have hyes:((((sIx items.size 0 lo:Nat):Int)==0&&(1:Int)==1&&(sIx items.size items.size hi - sIx items.size 0 lo)==items.size)=true):=by
  rw[hw.1,hw.2]
  simp
 show wpAny _ _ (if (((sIx items.size 0 lo:Nat):Int)==0&&(1:Int)==1&&(sIx items.size items.size hi - sIx items.size 0 lo)==items.size)=true then _ else _) _ _ s
 rw[X3i hyes]
 have hx:∀{Q':Bool->Shared->Prop},Q' true s->wpAny (model prog w) A.in1 (Builtin.Tuple.tupleIsExact (.ref t)) Q' E s:=λ{Q'} q=>by
  unfold Builtin.Tuple.tupleIsExact
  obtain⟨o,ho,hc,n,hd⟩:=ht
  repeat (first | exact X3f q | refine X3e (wpAny_typeOf ⟨o,ho,hc⟩ ?_) | refine wpAny_typeOf ⟨o,ho,hc⟩ ?_ | wp_step)
 refine X3e (hx ?_)
 rw[X3i rfl]
 exact X3e (wpAny_rule (X3e (X3f (X3f ⟨_,rfl,X3f h⟩))))
theorem Xnw(n:Nat):Builtin.Slice.sliceAdjust none none (-1) (n:Int)=((n:Int) - 1, -1):=by
 unfold Builtin.Slice.sliceAdjust
 simp
theorem Xnx(n:Nat):Builtin.Slice.slicePlaces ((n:Int) - 1) (-1) (-1)=n:=by
 unfold Builtin.Slice.slicePlaces
 rw[X3h (by decide)]
 by_cases h:(n:Int) - 1 > -1
 ·rw[X3i h,show (- -1:Int)=1 from rfl,Int.ediv_one]
  omega
 ·rw[X3h h]
  omega
theorem Xfz{sl:Addr}{n:Nat}{tk:Tok}{Q:Int×Int×Nat->Shared->Prop}(hs:s.heap.IsSliceOf sl .none .none (.int (-1) tk))
  (h:Q ((n:Int) - 1, -1,n) s):wpAny (model prog w) A (Builtin.Slice.sliceApplied (.ref sl) (pure (n:Int))) Q E s:=by
 obtain⟨os,hos,hcs,hds⟩:=id hs
 unfold Builtin.Slice.sliceApplied Builtin.Slice.sliceFields
 refine X3e (X3e (wpAny_field hos hds (x:=.none) rfl (X3e (wpAny_field hos hds (x:=.none) rfl (X3e (wpAny_field hos hds (x:=.int (-1) tk) rfl (X3f ?_)))))))
 refine X3e (slicePart_int ?_)
 show wpAny _ _ (if ((-1:Int)==0)=true then _ else _) _ _ s
 rw[X3h (by decide)]
 refine X3e (slicePart_none (X3e (slicePart_none (X3e (X3f ?_)))))
 show wpAny _ _ (match Builtin.Slice.sliceAdjust none none (-1) (n:Int) with | (lo,hi)=>pure (lo,(-1:Int),Builtin.Slice.slicePlaces lo hi (-1))) _ _ s
 rw[Xnw]
 show wpAny _ _ (pure ((n:Int) - 1,(-1:Int),Builtin.Slice.slicePlaces ((n:Int) - 1) (-1) (-1))) _ _ s
 rw[Xnx]
 exact X3f h
theorem Xsg(xs:Array Value):((List.range xs.size).filterMap λ(m:Nat)=>xs[((xs.size:Int) - 1+(m:Int) * -1).toNat]?).toArray=xs.toList.reverse.toArray:=by
 have e:(List.range xs.size).filterMap (λ(m:Nat)=>xs[((xs.size:Int) - 1+(m:Int) * -1).toNat]?)=((List.range xs.size).map λk=>xs.size - 1 - k).filterMap (xs[·]?):=by
  rw[List.filterMap_map]
  have key:∀(l:List Nat),(∀m∈l,m<xs.size)->l.filterMap (λ(m:Nat)=>xs[((xs.size:Int) - 1+(m:Int) * -1).toNat]?)=l.filterMap ((λx=>xs[x]?) ∘ λk=>xs.size - 1 - k):=by
   intro l
   induction l with
   | nil=>intro _;rfl
   | cons m l ih=>
    intro hm
    have h1:=hm m Xzp
    have e1:((xs.size:Int) - 1+(m:Int) * -1).toNat=xs.size - 1 - m:=by omega
    rw[X07,X07,ih λx hx=>hm x (Xzo _ hx),e1]
    rfl
  exact key _ λm hm=>X0v.mp hm
 rw[e,PySem.W.krv_range,List.filterMap_reverse,PySem.W.krv_all]
theorem getItem_tuple_rev{t sl:Addr}{items:Array Value}{tk:Tok}{Q:Value->Shared->Prop}(ht:IsTup s.heap t items)(hs:s.heap.IsSliceOf sl .none .none (.int (-1) tk))
  (h:Q (.ref s.heap.objs.size) {s with heap:=s.heap.push {cls:=.type "tuple",data:=.seq items.toList.reverse.toArray} })
  (hsz:items.size<=sizeLine):wpAny (model prog w) A (getItem (.ref t) (.ref sl)) Q E s:=by
 have htake:sizeOk (.seq items.toList.reverse.toArray):=by
  show items.toList.reverse.toArray.size<=sizeLine
  rw[Xzm,X08,Xzz]
  exact hsz
 obtain⟨os,hos,hcs,hds⟩:=id hs
 have hTs:s.TypeIs (.ref sl) "slice" := ⟨os,hos,hcs⟩
 unfold getItem
 try with_reducible refine wpAny_holding ?_
 first | refine X3e (X3f ?_) | skip
 refine X3e (wpAny_sequenceKey ht.typeIs (by decide) ?_)
 refine X3e (wpAny_callSpecial?_slot (name:=Str.ofString "__getitem__") ht.typeIs PyProof.Rows.slot_tuple_getitem
  (wpAny_call_entry PyProof.Rows.slot_tuple_getitem ht.typeIs entry_tuple_getitem ?_ (args_tuple_getitem _ _)))
 show wpAny _ _ (Builtin.Tuple.tupleItemsOf (.ref t) >>= _) _ _ s
 refine X3e (tupleItemsOf_ ht ?_)
 refine X3e (wpAny_typeOf hTs ?_)
 rw[X3i (by decide)]
 refine X3e (Xfz hs ?_)
 have hno:¬((((items.size:Int) - 1)==0&&(-1:Int)==1&&items.size==items.size)=true):=by
  intro q
  rw[Xz3,Xz3] at q
  exact absurd (eq_of_beq q.1.2) (by decide)
 show wpAny _ _ (if (((items.size:Int) - 1)==0&&(-1:Int)==1&&items.size==items.size)=true then _ else _) _ _ s
 rw[X3h hno,Xsg]
 first
  | exact X3e (m:=Builtin.Tuple.tupleExact _) (wpAny_newObj_type (X3f ⟨_,rfl,X3f h⟩) htake)
  | exact X3e (m:=Builtin.Tuple.tupleExact _) (wpAny_newObj_type (X3e (X3f (X3f ⟨_,rfl,X3f h⟩))) htake)
  | exact X3e (X3e (m:=Builtin.Tuple.tupleExact _) (wpAny_newObj_type (X3f (X3f ⟨_,rfl,X3f h⟩)) htake))
  | exact X3e (X3e (m:=Builtin.Tuple.tupleExact _) (wpAny_newObj_type (X3f ⟨_,rfl,X3f h⟩) htake))
end
end HT
namespace L2
open PySem PySem.Spec PyProof.Rows
section
variable {X:Cx}{pos p2:Pos}{e:Expr}{te:TE}
def Xu6:V->Option Int->Option Int->Hp->VK->Prop:=λx lo hi H Q=>∃a xs,x = .ref a/\H a=some (.tup xs)/\∀p H',Same H H'->H' p=some (.tup (cutV xs lo hi))->Q (.ref p) H'
theorem Xgx:SlR X Xu6:=by
 intro pins s σ H x v vl vu lo hi sl Q I rx hs pl pu h
 obtain⟨a,xs,rfl,hx,q⟩:=h
 by_cases hw:HT.sIx xs.length 0 lo=0/\HT.sIx xs.length xs.length hi=xs.length
 ·cases rx
  obtain⟨its,r,ht,hz⟩:=I.tuple (SqT.of (K:=X.K) hx)
  have hlen:its.toArray.size=xs.length:=by rw[Xzm];exact r.length.symm
  refine⟨"tuple",_,PyProof.Rows.slot_tuple_getitem.lookup,ht.typeIs,?_⟩
  refine HT.getItem_tuple_whole ht hs pl pu (by rw[hlen];exact hw) ⟨.ref a,H,I,rfl,q a H (Same.refl H) ?_⟩
  unfold cutV
  rw[hw.1,hw.2,X25,Nat.sub_zero,X0j]
  exact hx
 ·exact Xww pins s σ H (.ref a) v vl vu lo hi sl Q I rx hs pl pu ⟨a,xs,rfl,SqT.of hx,hw,λp np=>q p _ ((Same.refl H).step np) Xab⟩
def Xzc (te:TE):TE:=fun σ H Q=>te σ H λx H1=>∃a xs,x = .ref a/\H1 a=some (.tup xs)/\∀p,H1 p=none->Q (.ref p) (upd H1 p (.tup xs.reverse))
theorem Xu7{k:Nat}{p3 p4:Pos}(he:PE X e te):PE X (.Subscript e (.Slice none none (some (.UnaryOp .USub (.Constant (.int 1) k p3) p4)) p2) pos) (Xzc te):=by
 intro pins s σ H Q I h
 refine Subscript_ (thn (he pins s σ H _ I h) λv s1 ⟨x,H1,I1,r1,q1⟩=>?_)
 have hstep:PE X (.UnaryOp .USub (.Constant (.int 1) k p3) p4) (tUn (rU λi=>.int (-i)) (tC (.int 1))):=Xwp Xto Xah
 refine wpAny_Slice ?_
 rw[evalPart_none]
 refine X3f (X3f ?_)
 rw[evalPart_some]
 refine thn (hstep pins s1 σ H1 (λy H2=>y = .int (-1)/\H2=H1) I1 ⟨1,rfl,rfl,rfl⟩) λu s2 ⟨y,H2,I2,r2,ey,eH⟩=>?_
 subst ey eH
 obtain⟨t,rfl⟩:=r2
 obtain⟨a,xs,ex,hx,q⟩:=q1
 subst ex
 cases r1
 have I4:Inv X pins σ H2 {s2 with heap:=s2.heap.push {cls:=.type "slice",data:=.fields #[.none,.none,.int (-1) t]} }:=I2.kept (t':=s2.toks) λb ob q=>X3o _ q
 obtain⟨its4,r4,ht4,hz4⟩:=I4.tuple (SqT.of (K:=X.K) hx)
 have hlen:=r4.length
 refine tail_any (ops:=[.ref a,.ref s2.heap.objs.size]) ht4.typeIs PyProof.Rows.slot_tuple_getitem.lookup (HT.getItem_tuple_rev ht4 (Heap.IsSliceOf.new ..) ?_ (by rw[Xzm];omega)) (by with_unfolding_all rfl)
 refine⟨.ref _,_,I4.laid (t':=s2.toks) (o:=.tup xs.reverse) (λb ob q=>X3o _ q) (Xzn _) ?_,rfl,q _ (I4.hok.fresh (Xzn _))⟩
 exact⟨by rw[X08];exact hz4,_,Vals.reverse r4,IsTup.new _ _⟩
end
section
variable {X:Cx}{es:List Expr}{t:L2.St->Hp->(Hp->Prop)->Prop}{e:Expr}{te:TE}{pos:Pos}
def Xxp (te:TE) (t:L2.St->Hp->(Hp->Prop)->Prop):L2.St->Hp->(Hp->Prop)->Prop:=fun σ H Q=>te σ H λx H1=>∃(a:Addr) (ss:List Str),x = .ref a/\H1 a=some (.tup (ss.map V.str))/\ss.length<=24/\(∀z∈ss,z.length<=20/\∀c∈z.cps.toList,c<16 ^ 8)/\t σ H1 Q
theorem Xmr:∀(ss:List Str),(∀z∈ss,z.length<=20/\∀c∈z.cps.toList,c<16 ^ 8)->piled (ss.map reprText)<=204 * ss.length
 | [],_=>by simp[piled]
 | z::ss,h=>by
  obtain⟨h1,h2⟩:=h z Xzp
  have:=StrLaws.reprText_len z h2
  have ih:=Xmr ss λy hy=>h y (Xzo _ hy)
  rw[Xz9,piled_cons,X0a]
  omega
theorem Xew(ts:List Str):(tupleText ts).length<=piled ts+3:=by
 unfold tupleText
 rw[strLen_append,strLen_append]
 have e1:((("(" : String):Str)).length=1:=rfl
 have e3:(((if ts.length==1 then ",)" else ")" : String):Str)).length<=2:=by split<;>decide
 rw[e1]
 by_cases h:ts=[]
 ·subst h
  have:(Str.join ", " []).length=0:=rfl
  omega
 ·have:=join_length_add ts h
  omega
theorem Xfn{P:Program}{w:World}:∀{ss:List Str} {us:List Value},(∀z∈ss,z.length<=20/\∀c∈z.cps.toList,c<16 ^ 8)->Vals (ss.map V.str) us->ReprAll P w us (ss.map reprText)
 | [],_,_,r=>by cases r;exact .nil
 | z::ss,_,h,r=>by
  cases r with
  | cons r1 r2=>
   obtain⟨tk,rfl⟩:=r1
   obtain⟨h1,h2⟩:=h z Xzp
   have:=StrLaws.reprText_len z h2
   exact .cons (ReprIs.str z tk (by rw[X3g];omega)) (Xfn (λy hy=>h y (Xzo _ hy)) r2)
theorem Xsh{k:Nat}{p:Pos}(hr:Room k X.A)(ha:PE X e te)(h:PJ X es t)(he:evalEach (.FormattedValue e 114 none p::es) X.env=eval (.FormattedValue e 114 none p) X.env::evalEach es X.env:=by rfl):PJ X (.FormattedValue e 114 none p::es) (Xxp te t):=by
 intro out pins s σ H Q I hw hl
 rw[he]
 rw[X0a] at hl
 refine joinParts_cons (wpAny_FormattedValue_repr (thn (ha pins s σ H _ I hw) λv s1 ⟨x,H1,I1,r1,q1⟩=>?_))
 obtain⟨a,ss,ez,hp,h1,h2,q⟩:=q1
 subst ez
 cases r1
 obtain⟨its,rv,pl,hz⟩:=I1.tuple (SqT.of (K:=X.K) hp)
 obtain⟨o,ho,hc,n,hd⟩:=pl
 have hz1:=Xew (ss.map reprText)
 have hz2:=Xmr ss h2
 have hz3:(tupleText (ss.map reprText)).length<=5000:=by omega
 have hz4:(tupleText (ss.map reprText)).length<=sizeLine:=by rw[X3g];omega
 refine wpAny_pyReprObj_tuple (g:=[]) ⟨o,ho,hc⟩ hr.gd (by simp) hr.units0 ho hd (Xfn h2 (by simpa using rv)) (λu tk=>?_) hz4
 refine formatField_str (λt' k=>⟨by rw[Xct];omega,?_⟩) hz4
 exact h _ pins _ σ H1 Q ((I1.tok _).tok _) q (by rw[Xct];omega)
def Xxq:V->List V->Hp->VK->Prop:=λx vs H Q=>∃l xs y j,x = .ref l/\vs=[y]/\H l=some (.lst xs)/\Xdd y=true/\xs.all Xdd=true/\xs.length<=1000/\(∃z,xs[j]? = some z/\eqV z y=true)/\(∀m z,m<j->xs[m]? = some z->eqV z y=false)/\Q (.int (j:Nat)) H
theorem Xsi:MtM X "list.index" Xxq:=by
 intro pins s σ H x vs v us Q I rx rv h
 obtain⟨l,xs,y,j,rfl,rfl,hH,fy,fs,hlen,⟨z,hz,hzy⟩,hno,q⟩:=h
 cases rx
 obtain⟨u,rfl,ru⟩:=rv.one
 obtain⟨zz,its,n,r,hl,e⟩:=I.lstM hH
 have hj:j<xs.length:=(Xz2.mp hz).1
 have hji:j<its.toArray.size:=by rw[Xzm];omega
 have at':∀m (hm:m<its.toArray.size),∃w,xs[m]? = some w/\eqU y its.toArray[m]=eqV w y:=λm hm=>by
  rw[Xzm] at hm
  have g:xs[m]? = some (xs[m]'(by omega)):=Xzl (by omega)
  obtain⟨uu,hu,ruu⟩:=r.get g
  have e1:its.toArray[m]=uu:=by
   rw[X2q]
   rw[Xzl hm] at hu
   exact Xzx hu
  refine⟨_,g,?_⟩
  rw[e1]
  exact Xl9 ruu (Xz8.mp fs _ (X0b _))
 refine call_meets F.slot_list_index ⟨_,e,rfl⟩ F.entry_list_index (F.args_list_index_2 _ _) (SeqAt.list_indexAt l its.toArray n _ _ u (eqU y) j hji (by omega) ?_ ?_) ⟨e,λw hw=>Xde ru fy r fs w (by simpa using hw),?_⟩
 ·obtain⟨w,h1,h2⟩:=at' j hji
  rw[hz] at h1
  cases h1
  rw[h2];exact hzy
 ·intro m hm hmj
  obtain⟨w,h1,h2⟩:=at' m hm
  rw[h2]
  exact hno m w hmj h1
 ·exact⟨.int _,H,I.tok _,⟨_,rfl⟩,q⟩
end
theorem Xtw{K:PySem.W.Frag}{C S:Addr}(sb:PySem.W.subIn K (.ref C) (.type "BaseException")=some true)(sbS:PySem.W.subIn K (.ref S) (.type "BaseException")=some true)(ic:PySem.W.isClsIn K S=true)(ty:PySem.W.typeIn K (.ref S)=some (.type "type"))
  {b:Bool} (h:PySem.W.subIn K (.ref C) (.ref S)=some b):PySem.W.exmOne K (.ref C) (.ref S)=some b:=by
 unfold PySem.W.exmOne
 rw[sbS,X3i (by decide)]
 exact Xjz ic ty h
def codP (c:Addr) (q:Str):Heap->Prop:=λh=>h.CodeRec (.ref c) q
def lamP (f:Addr) (fd:FuncData):Heap->Prop:=λh=>∃o,h.get? f=some o/\o.data = .func fd
theorem Xpx{c:Addr}{q:Str}:∀h1 h2:Heap,codP c q h1->(∀o,h1.get? c=some o->h2.get? c=some o)->codP c q h2:=by
 rintro h1 h2 ⟨c1,o,vs,t,e,ho,r⟩ k
 cases e
 exact⟨c,o,vs,t,rfl,k _ ho,r⟩
theorem Xj3{f:Addr}{fd:FuncData}:∀h1 h2:Heap,lamP f fd h1->(∀o,h1.get? f=some o->h2.get? f=some o)->lamP f fd h2:=by
 rintro h1 h2 ⟨o,ho,r⟩ k
 exact⟨o,k _ ho,r⟩
theorem Xu8{CX:CXT}{P:Program}{w:World}{K:PySem.W.Frag}{mg:Str->Option Value}{base:Heap}{A:Around}{outer:List Env}{s:Shared}{H:Hp}{k:Nat}{f c:Addr}{name qual:Str}{params:Arguments}{body:Expr}{scope:Scope}{pm ctv:Value}
  {N ps:List Str} {us:List Value} {vs:List V} {Q:VK} {E:XK} {t:TE}
  (hf:H f=some (.ext (lamP f (PySem.W.kla_fn name qual params body scope [] pm (.ref c) ctv)))) (hc:H c=some (.ext (codP c qual))) (S:FnScope N ps scope) (hr:Room (k+1) A) (e0:Env0 P w K mg base A outer s H)
  (hl:vs.length=ps.length) (r:Vals vs us) (hb:bindArgs (PySem.W.kla_fn name qual params body scope [] pm (.ref c) ctv) ⟨us,[]⟩=pure (ps.zip us))
  (ht:PE (cxOf CX P w K mg base N qual scope f (.ref c) A outer s H E) body t) (hq:t (start N vs) H Q):
  codeAny (model P w) A (.call (.ref f) ⟨us,[]⟩) (CR CX outer P w H s Q E) s:=by
 obtain⟨⟨of,hof,hod⟩,_⟩:=e0.hok f _ hf
 obtain⟨hcod,_⟩:=e0.hok c _ hc
 have lim:s.heap.NoLimit:=e0.mod.nolimit.keeps λb o e=>(e0.bs b o e).1
 have hkind:∀y∈ps.zip us,scope.names.lookup y.1=some .local\/(scope.names.lookup y.1=some .cell/\((cellsFrom (s.heap.objs.size+1) scope.names []).lookup y.1).isSome=true):=λ⟨n,v⟩ hy=>by
  rcases S.par n (X2s hy).1 with q | q
  ·exact .inl q
  ·exact .inr ⟨q,PySem.W.cellsFrom_some _ _ _ (.inl q)⟩
 refine PySem.W.kla_callFunE hr.depth hof hod S.co S.gen rfl hcod ?_
 rw[hb]
 refine X3f ?_
 refine wpAny_newFunctionEnv_cells S.kind hkind λenv he s1 x=>?_
 subst he
 refine⟨lim.keeps x.toInCall.keep,PySem.W.kla_codeExpr ?_⟩
 have I:Inv (cxOf CX P w K mg base N qual scope f (.ref c) A outer s H E) [] (start N vs) H s1:=Xi7 S hr.hd e0 hl r x
 refine wpAny_mono (ht [] s1 (start N vs) H _ I hq) (λu s' hs=>?_) λe s' hs=>hs
 obtain⟨v,H',J,rv,q⟩:=hs
 exact⟨v,H',J.os,J.bare,J.base,J.hok,rv,q⟩
def BmOk (mg:Str->Option Value) (base:Heap):Prop:=∃bm ob,mg "__builtins__" = some (.ref bm)/\bm≠builtinsNs/\base.get? bm=some ob/\ob.cls = .type "module" /\ ob.dict=some builtinsNs/\ob.data = .plain
def Xa6 (T:Addr) (pos:Pos) (q:Str) (H:Hp):Prop:=H T=some (.tbl #[]) \/ ∃c,H T=some (.tbl #[rawInt pos.line,rawInt pos.col,.ref c])/\H c=some (.ext (codP c q))
def tLam (T:Addr) (q:Str) (params:Arguments) (body:Expr) (scope:Scope) (pos:Pos):TE:=λ_ H Q=>Xa6 T pos q H /\
 ∀(f c:Addr) (pm ctv:Value) (H':Hp),H f=none->H' f=some (.ext (lamP f (PySem.W.kla_fn "<lambda>" q params body scope [] pm (.ref c) ctv)))->H' c=some (.ext (codP c q))->Xa6 T pos q H'->(∀b o,H b=some o->b≠T->H' b=some o)->Q (.ref f) H'
section
variable {X:Cx}{T c0:Addr}{params:Arguments}{body:Expr}{scope:Scope}{pos:Pos}{q:Str}
theorem Xu9{pins:List (Addr×Obj)}{σ:St}{H:Hp}{s:Shared}{h':Heap}{tk:Nat}{fd:FuncData}{o:Obj}(I:Inv X pins σ H s)(k:∀b o,s.heap.get? b=some o->h'.get? b=some o)(hsz:s.heap.objs.size<=h'.objs.size)(ho:o.data = .func fd)(hfr:o.isFreed=false):
  Inv X pins σ (upd H h'.objs.size (.ext (lamP h'.objs.size fd))) {s with heap:=h'.push o,toks:=tk}:=by
 refine I.laid (t':=tk) (h':=h'.push o) (λb ob e=>X3o _ (k b ob e)) hsz ?_
 exact⟨⟨o,Heap.get?_push_size _ hfr,ho⟩,⟨o,Heap.get?_push_size _ hfr⟩,Xj3⟩
theorem Xsj{pins:List (Addr×Obj)}{σ:St}{H:Hp}{s:Shared}{h':Heap}{tk:Nat}{fd:FuncData}{o:Obj}{c:Addr}{ps:Array Value}(I:Inv X pins σ H s)(hT:H T=some (.tbl #[]))(hx:Heap.ExtBut T s.heap h')(hge:s.heap.objs.size<=c)(hlt:c<h'.objs.size)
  (hrec:h'.CodeRec (.ref c) q) (htb:h'.get? T=some (PySem.W.tabObj (#[]++ps))) (ho:o.data = .func fd) (hfr:o.isFreed=false):
  Inv X pins σ (upd (upd (upd H T (.tbl ps)) c (.ext (codP c q))) h'.objs.size (.ext (lamP h'.objs.size fd))) {s with heap:=h'.push o,toks:=tk}:=by
 have htb':h'.get? T=some {cls:=.none,data:=.fields ps}:=by simpa using htb
 have nf:∀b u,s.heap.get? b=some u->b≠c/\b≠h'.objs.size:=λb u e=>by
  have z:=Xz5 (X3n e) hge
  exact⟨Xzs z,Xzs (X1i z hlt)⟩
 have nH:∀b u,H b=some u->b≠c/\b≠h'.objs.size:=λb u e=>by
  have z:=Xz5 (I.hok.lt e) hge
  exact⟨Xzs z,Xzs (X1i z hlt)⟩
 have nT:∀b,H b=none->b≠T:=λb n z=>by rw[z,hT] at n;cases n
 have kp:∀b u,b≠T->s.heap.get? b=some u->(h'.push o).get? b=some u:=λb u n e=>X3o _ (hx b u n e)
 have up:∀b u,H b=some u->b≠T->(upd (upd (upd H T (.tbl ps)) c (.ext (codP c q))) h'.objs.size (.ext (lamP h'.objs.size fd))) b=some u:=λb u e n=>by
  rw[Xae (nH b u e).2,Xae (nH b u e).1,Xae n];exact e
 refine I.step (g':=s.gens) (d':=s.drawn) (t':=tk) (h':=h'.push o) (ch:=[]) (λ_ z=>nomatch z) (λb u _ _ _ e n=>kp b u (nT b n) e) (λb u _ _ _ e n=>⟨u.slots,kp b u (nT b n) e⟩) (λb u _ e n=>?_) (λb u _ e=>?_)
  (λb xs e=>up b _ e λz=>by rw[z,hT] at e;cases e) (λb u v e=>up b _ e λz=>by rw[z,hT] at e;cases e) (λb pz e=>?_) (λm hn=>(hn.extBut hx (nT _ I.free)).push _) ?_ I.bare
 ·rw[Xae (nf b u e).2,Xae (nf b u e).1,Xae (nT b n)];exact n
 ·by_cases z:b=T
  ·exact⟨_,z ▸ X3o _ htb'⟩
  ·exact⟨u,kp b u z e⟩
 ·by_cases z:b=T
  ·subst z
   rw[hT] at e
   cases e
   refine⟨ps,?_⟩
   rw[Xae (nH b _ hT).2,Xae (nH b _ hT).1,Xab]
   simp
  ·exact⟨#[],by rw[up b _ e z];simp⟩
 ·intro b u e
  by_cases z1:b=h'.objs.size
  ·subst z1
   rw[Xab] at e
   cases e
   exact⟨⟨o,Heap.get?_push_size _ hfr,ho⟩,⟨o,Heap.get?_push_size _ hfr⟩,Xj3⟩
  ·rw[Xae z1] at e
   by_cases z2:b=c
   ·subst z2
    rw[Xab] at e
    cases e
    obtain⟨c1,oc,vs,t,e1,hoc,r⟩:=hrec
    cases e1
    exact⟨⟨b,oc,vs,t,rfl,X3o _ hoc,r⟩,⟨oc,X3o _ hoc⟩,Xpx⟩
   ·rw[Xae z2] at e
    by_cases z3:b=T
    ·subst z3
     rw[Xab] at e
     cases e
     exact X3o _ htb'
    ·rw[Xae z3] at e
     refine(I.hok b u e).stay (λd v hd g=>kp d v ?_ g) (λd g=>up d _ g λz=>by rw[z,hT] at g;cases g) λd xs g=>up d _ g λz=>by rw[z,hT] at g;cases g
     rcases hd with rfl | hd
     ·exact z3
     ·intro z
      rw[z,hT] at hd
      cases hd
theorem Xxr(hbm:BmOk X.mg X.base)(hdef:defaultsOf params X.env=([],[]))(hcl:closureFor scope X.env=pure [])(hcode:X.env.code = .ref c0)(hhd:PySem.W.codeHdIn X.K c0 T=true)(hq:X.env.qual ++ "<lambda>" = q):
  PE X (.Lambda params body scope pos) (tLam T q params body scope pos):=by
 intro pins s σ H Q I h
 obtain⟨tab,k⟩:=h
 obtain⟨bm,ob,b1,b2,b3,b4,b5,b6⟩:=hbm
 have hg:s.heap.Ns mainGlobals X.mg:=I.mod.glob.keeps I.bk
 have C:PySem.W.CodeHd s.heap c0 T:=PySem.W.codeHd_of_K I.kIn hhd
 have nb:bm≠T:=λz=>by
  have n:=(I.bs bm ob b3).2
  rw[z] at n
  rcases tab with e | ⟨c,e,_⟩<;>(rw[e] at n;cases n)
 have hbG:bm≠mainGlobals:=λz=>by
  obtain⟨o,es,ep,e,hd,_⟩:=I.mod.glob
  rw[z,e] at b3;cases b3;rw[hd] at b6;cases b6
 have hB:s.heap.BuiltinsAt X.mg T:=⟨bm,ob,b1,b2,hbG,nb,I.bk _ _ b3,b4,b5,b6⟩
 refine PySem.W.kla_eval hdef ?_
 rw[hq]
 rcases tab with e | ⟨c,e,ec⟩
 ·have hP:s.heap.get? T=some (PySem.W.tabObj #[]):=I.hok T _ e
  have hgT:mainGlobals≠T:=λz=>by
   obtain⟨o,es,ep,e2,hd,_⟩:=hg
   rw[z,hP] at e2;cases e2;cases hd
  refine PySem.W.kla_makeFunction (mg:=X.mg) (clos:=[]) hcl I.ok.glob hg hcode C hP trivial rfl hgT hB λc' ctv h' tk hx hge hlt hrec htb=>?_
  have J:=Xsj (tk:=tk) (o:=PySem.W.kla_obj "<lambda>" q params body scope [] ((X.mg "__name__").getD .none) c' ctv) I e hx hge hlt hrec htb rfl rfl
  have ltf:∀b o,H b=some o->b<c':=λb o eb=>Xz5 (I.hok.lt eb) hge
  have ncT:c'≠T:=(Xzs (ltf _ _ e)).symm
  have nfc:c'≠h'.objs.size:=Xzs hlt
  have nTf:T≠h'.objs.size:=Xzs (X1i (ltf _ _ e) hlt)
  refine⟨.ref h'.objs.size,_,J,rfl,k _ c' _ ctv _ (I.hok.fresh (X2e (X20 hge hlt))) Xab (by rw[Xae nfc,Xab]) (.inr ⟨c',by rw[Xae nTf,Xae ncT.symm,Xab],by rw[Xae nfc,Xab]⟩) λb o eb nb=>?_⟩
  rw[Xae (Xzs (X1i (ltf _ _ eb) hlt)),Xae (Xzs (ltf _ _ eb)),Xae nb]
  exact eb
 ·have hP:s.heap.get? T=some (PySem.W.tabObj #[rawInt pos.line,rawInt pos.col,.ref c]):=I.hok T _ e
  refine PySem.W.kla_makeFunctionHit (mg:=X.mg) (clos:=[]) (cv:=.ref c) hcl I.ok.glob hg hcode C hP trivial (by simp[codeAmong,rawInt]) hB λctv h' tk hk hsz=>?_
  have J:=Xu9 (tk:=tk) (fd:=PySem.W.kla_fn "<lambda>" q params body scope [] ((X.mg "__name__").getD .none) (.ref c) ctv) (o:={cls:=.type "function",data:=.func (PySem.W.kla_fn "<lambda>" q params body scope [] ((X.mg "__name__").getD .none) (.ref c) ctv)}) I hk hsz rfl rfl
  have nf:∀b o,H b=some o->b≠h'.objs.size:=λb o eb=>Xzs (Xz5 (I.hok.lt eb) hsz)
  refine⟨.ref h'.objs.size,_,J,rfl,k _ c _ ctv _ (I.hok.fresh hsz) Xab (by rw[Xae (nf _ _ ec)];exact ec) (.inr ⟨c,by rw[Xae (nf _ _ e)];exact e,by rw[Xae (nf _ _ ec)];exact ec⟩) λb o eb _=>?_⟩
  rw[Xae (nf b o eb)]
  exact eb
end
end L2
namespace SH
open PySem PySem.Spec PyProof.Rows L2
structure Bl (mg:Str->Option Value):Prop where
 len:mg "len" = none
 range:mg "range" = none
 list:mg "list" = none
 min:mg "min" = none
 isi:mg "isinstance" = none
 all:mg "all" = none
 str:mg "str" = none
 val:mg "ValueError" = none
 sorted:mg "sorted" = none
 set:mg "set" = none
 enum:mg "enumerate" = none
 int:mg "int" = none
 bool:mg "bool" = none
 tuple:mg "tuple" = none
 any:mg "any" = none
 dict:mg "dict" = none
 sum:mg "sum" = none
 max:mg "max" = none
structure DrawOk (H:Hp) (dr sc:Addr):Prop where
 ex:∃(ns:List Int) (p:Nat) (c m k:Int),H dr=some (.lst [.ref sc,.int p,.int c,.int m,.int k])/\H sc=some (.lst (ns.map V.int))/\p<=ns.length/\ns.length<=63/\0<=m/\m<1000000007
def Xld (K:PySem.W.Frag):Sp:=λvs H Q _=>∃(a:Addr) (ns:List Int),vs=[.ref a]/\SqL K H a (ns.map V.int)/\ns.length<=63/\∀dr sc H',H dr=none->H sc=none->DrawOk H' dr sc->Same H H'->Q (.ref dr) H'
def Xtx:Sp:=λvs H Q _=>∃(dr sc:Addr) (n:Int),vs=[.ref dr,.int n]/\0<n/\n<=1000/\DrawOk H dr sc /\
 ∀r H',0<=r->r<n->DrawOk H' dr sc->(∀b o,H b=some o->b≠dr->H' b=some o)->Q (.int r) H'
abbrev NP:List Str:=["_law_draw", "_law_many", "_law_cell", "_law_got"]
def D5 (H:Hp) (dr sc:Addr) (ns:List Int) (p:Nat) (c m k:Int):Prop:=H dr=some (.lst [.ref sc,.int p,.int c,.int m,.int k])/\H sc=some (.lst (ns.map V.int))
theorem cpow3{m:Int}(h0:0<=m)(h1:m<1000000007):CPow m 3:=⟨by decide,by decide,by omega⟩
def putR (row:List Str) (x:Str) (a b:Nat):List Str:=row.take a++[x]++(row.drop a).take (b - a)++[x]++row.drop b
theorem Xj4(row:List Str)(x:Str)(a b:Nat)(hab:a<=b):(putR row x a b).Perm (x::x::row):=by
 unfold putR
 have e:row=row.take a++((row.drop a).take (b - a)++row.drop b):=by
  have e1:row.drop b=(row.drop a).drop (b - a):=by rw[List.drop_drop];congr 1;omega
  rw[e1,X0u,X0u]
 generalize hA:row.take a=A at *
 generalize hB:(row.drop a).take (b - a)=B at *
 generalize hC:row.drop b=C at *
 rw[e]
 have p1:(A++[x]++B++[x]++C).Perm (x::(A++B++[x]++C)):=by
  have:A++[x]++B++[x]++C=A++x::(B++[x]++C):=by simp
  rw[this]
  refine X1x.trans ?_
  simp
 refine p1.trans (List.Perm.cons x ?_)
 have:A++B++[x]++C=(A++B)++x::C:=by simp
 rw[this]
 refine X1x.trans ?_
 simp
def Xva:Sp:=λvs H Q _=>∃(r:Addr) (row:List Str) (x:Str) (a b:Nat),vs=[.ref r,.str x,.int a,.int b]/\H r=some (.lst (row.map V.str))/\row.length<=1000/\a<=b/\b<=row.length /\
 ∀l H',H l=none->H' l=some (.lst ((putR row x a b).map V.str))->Same H H'->Q (.ref l) H'
abbrev NPut:List Str:=["_law_row_here", "_law_name", "_law_at", "_law_to", "_law_told"]
def plcF (x:Str):Nat->List Str->List Int
 | _,[]=>[]
 | n,y::r=>if y=x then (n:Int)::plcF x (n+1) r else plcF x (n+1) r
def plc (row:List Str) (x:Str):List Int:=plcF x 0 row
theorem Xj5(x y:Str):∀(n:Nat) (r:List Str),plcF x n (r++[y])=plcF x n r++(if y=x then [((n+r.length:Nat):Int)] else [])
 | n,[]=>by
  show (if y=x then ((n:Nat):Int)::plcF x (n+1) [] else plcF x (n+1) [])=_
  split<;>simp[plcF]
 | n,z::r=>by
  have ih:=Xj5 x y (n+1) r
  show (if z=x then (n:Int)::plcF x (n+1) (r++[y]) else plcF x (n+1) (r++[y]))=(if z=x then (n:Int)::plcF x (n+1) r else plcF x (n+1) r)++_
  rw[ih,X0a,show n+1+r.length=n+(r.length+1) by omega]
  split<;>simp
theorem Xf4(x:Str):∀(n:Nat) (r:List Str),(plcF x n r).length=r.count x
 | _,[]=>rfl
 | n,z::r=>by
  show (if z=x then (n:Int)::plcF x (n+1) r else plcF x (n+1) r).length=_
  rw[List.count_cons]
  split
  ·rename_i e
   rw[X0a,Xf4,X3i (by simpa using e)]
  ·rename_i e
   rw[Xf4,X3h (by simpa using e)]
   rfl
theorem Xle(row:List Str)(x:Str):(plc row x).length=row.count x:=Xf4 x 0 row
theorem Xij(r:List Str)(x y:Str):plc (r++[y]) x=plc r x++(if y=x then [(r.length:Int)] else []):=by
 have e:=Xj5 x y 0 r
 rw[Nat.zero_add] at e
 exact e
structure Wh (H:Hp) (kvs:List (Key×V)) (row:List Str):Prop where
 keys:∀k∈kvs.map (·.1),∃x,k=Sum.inr x/\x∈row
 val:∀x∈row,∃l,valV kvs (Sum.inr x:Key)=some (.ref l)/\H l=some (.lst ((plc row x).map V.int))
 none:∀x,x∉row->valV kvs (Sum.inr x:Key)=none
 nd:(kvs.map (·.1)).Nodup
 len:kvs.length<=row.length
theorem Xj6{kvs:List (Key×V)}{k:Key}{v:V}{l:V}(h:valV kvs k=some l):(putK kvs k v).map (·.1)=kvs.map (·.1):=by
 unfold putK
 rw[Xcz,h,X3i X2z,X0f]
 refine X0x λp _=>?_
 show (if p.1=k then (p.1,v) else p).1=p.1
 split<;>rfl
theorem Wh.snoc{H H':Hp}{kvs:List (Key×V)}{row:List Str}(w:Wh H kvs row)(y:Str)(l:Addr)(hl:H' l=some (.lst ((plc (row++[y]) y).map V.int)))
  (s:∀b xs,H b=some (.lst xs)->H' b=some (.lst xs)):Wh H' (putK kvs (Sum.inr y) (.ref l)) (row++[y]):=by
 refine⟨λk hk=>?_,λx hx=>?_,λx hx=>?_,?_,?_⟩
 ·by_cases hy:y∈row
  ·obtain⟨l0,e,_⟩:=w.val y hy
   rw[Xj6 e] at hk
   obtain⟨x,e1,e2⟩:=w.keys k hk
   exact⟨x,e1,X0z _ e2⟩
  ·rw[Xen _ (w.none y hy),Xzq] at hk
   rcases Xzv.mp hk with hk | hk
   ·obtain⟨x,e1,e2⟩:=w.keys k hk
    exact⟨x,e1,X0z _ e2⟩
   ·exact⟨y,by simpa using hk,by simp⟩
 ·rw[Xd2]
  by_cases e:x=y
  ·subst e
   exact⟨l,X3i rfl,hl⟩
  ·have hx':x∈row:=by
    rcases Xzv.mp hx with z | z
    ·exact z
    ·exact absurd (Xzr.mp z) e
   obtain⟨l0,e1,e2⟩:=w.val x hx'
   refine⟨l0,by rw[X3h (λz=>e (X1b z))];exact e1,?_⟩
   rw[Xij,X3h (λz=>e z.symm),X0m]
   exact s _ _ e2
 ·rw[Xd2]
  have h1:x∉row:=λz=>hx (X0z _ z)
  have h2:x≠y:=λz=>hx (by rw[z];simp)
  rw[X3h (λz=>h2 (X1b z))]
  exact w.none x h1
 ·by_cases hy:y∈row
  ·obtain⟨l0,e,_⟩:=w.val y hy
   rw[Xj6 e]
   exact w.nd
  ·exact Xuu _ w.nd (w.none y hy)
 ·have:=Xcb kvs (Sum.inr y:Key) (.ref l)
  have:=w.len
  rw[Xzt,X0o]
  omega
def Xik:Sp:=λvs H Q _=>∃(r:Addr) (row:List Str),vs=[.ref r]/\H r=some (.lst (row.map V.str))/\row.length<=1000 /\
 ∀d kvs H',H d=none->H' d=some (.dK kvs)->Wh H' kvs row->Same H H'->Q (.ref d) H'
abbrev NWh:List Str:=["_law_row_here", "_law_told", "_law_at"]
def inn (a b:Int) (ys:List Int):List Int:=ys.filter λt=>decide (a<t)&&decide (t<b)
theorem Xpy(a b:Int)(ys:List Int):(inn a b ys).length<=ys.length:=X0i ..
def words3:List Str:=["same", "cross", "around"]
def Xhg (a b c e:Int) (same:Bool):Str:=
 if (same||decide (0<(inn a b [c,e]).length))=true then words3.getD (inn a b [c,e]).length "apart" else if c<a/\b<e then "within" else "apart"
def spWord:Sp:=λvs H Q _=>∃(d l1 l2:Addr) (kvs:List (Key×V)) (x y:Str) (a b c e:Int),vs=[.ref d,.str x,.str y]/\Rd H d (.dK kvs)/\valV kvs (Sum.inr x:Key)=some (.ref l1)/\valV kvs (Sum.inr y:Key)=some (.ref l2) /\
 H l1=some (.lst [.int a,.int b])/\H l2=some (.lst [.int c,.int e])/\∀H',Same H H'->Q (.str (Xhg a b c e (decide (x=y)))) H'
abbrev NWo:List Str:=["_law_where_here", "_law_one", "_law_other", "_law_low", "_law_high", "_law_inner"]
theorem Rd.same{H H':Hp}{d:Addr}{o:HO}(r:Rd H d o)(s:Same H H'):Rd H' d o:=by
 rcases r with r | ⟨u,r⟩
 ·exact .inl (s _ _ r)
 ·exact .inr ⟨u,s _ _ r⟩
theorem DGet.rd{H:Hp}{a:Addr}{kvs:List (Key×V)}{x:Str}{v:V}(e:Rd H a (.dK kvs))(h:valV kvs (Sum.inr x:Key)=some v):DGet H a (.str x) (some v):=.inl ⟨kvs,Sum.inr x,e,rfl,h.symm⟩
theorem Xvb{row:List Str}{x:Str}(h:row.count x=2):∃a b,plc row x=[a,b]:=by
 have e:=Xle row x
 rw[h] at e
 match q:plc row x,e with
 | [a,b],_=>exact⟨a,b,rfl⟩
abbrev NBa:List Str:=["_law_row_here", "_law_name", "_law_where_here", "_law_met", "_law_at", "_law_other"]
abbrev NBc:List Str:=["_law_one", "_law_name", "_law_where_here"]
abbrev Xlf:Str := "kqvzbdgmprtxhnjfwlycsaeiou"
def signOf (i:Nat):Str:=⟨#[(Xlf.cps.toList).getD i 0]⟩
def Xj7 (st:Nat) (late:Bool) (k:Nat):Str:=
 if late=true then (repS "m" ((st+k * k) % 7)++signOf ((st+k) % 26)) ++ "y" else signOf ((st+k) % 26)++repS "m" ((st+k * k) % 7)
def Xaw (st:Nat) (late:Bool) (n:Nat):List Str:=(List.range n).map (Xj7 st late)
theorem Xny:∀st<26,∀late:Bool,(Xaw st late 14).Nodup:=by decide +kernel
theorem Xf5{st:Nat}{late:Bool}{n:Nat}(hs:st<26)(hn:n<=14):(Xaw st late n).Nodup:=by
 refine(Xny st hs late).sublist ?_
 unfold Xaw
 refine List.Sublist.map _ ?_
 have e:List.range 14=List.range n++(List.range (14 - n)).map (n + ·):=by
  rw[<-List.range_add]
  congr 1
  omega
 rw[e]
 exact List.sublist_append_left ..
def But (dr:Addr) (H H':Hp):Prop:=∀b o,H b=some o->b≠dr->H' b=some o
theorem But.refl(dr:Addr)(H:Hp):But dr H H:=λ_ _ e _=>e
theorem But.trans{dr:Addr}{H H1 H2:Hp}(a:But dr H H1)(b:But dr H1 H2):But dr H H2:=λc o e h=>b c o (a c o e h) h
theorem But.same{dr:Addr}{H H1 H2:Hp}(a:But dr H H1)(b:Same H1 H2):But dr H H2:=λc o e h=>b c o (a c o e h)
theorem But.free{dr b:Addr}{H H':Hp}{o:HO}(a:But dr H H')(hd:H' dr=some o)(h:H' b=none):H b=none:=by
 cases q:H b with
 | none=>rfl
 | some u=>
  by_cases e:b=dr
  ·rw[e,hd] at h;cases h
  ·rw[a b u q e] at h;cases h
theorem But.upd{dr a:Addr}{H H':Hp}{o:HO}(x:But dr H H')(h:H a=none):But dr H (L2.upd H' a o):=λb u e hb=>by
 rw[Xae (Xaf e h)]
 exact x b u e hb
theorem DrawOk.at{H:Hp}{dr sc:Addr}(d:DrawOk H dr sc):∃xs,H dr=some (.lst xs):=let ⟨_,_,_,_,_,h,_⟩:=d.ex; ⟨_,h⟩
theorem DrawOk.same{H H':Hp}{dr sc:Addr}(d:DrawOk H dr sc)(s:Same H H'):DrawOk H' dr sc:=
 let ⟨ns,p,c,m,k,h1,h2,r⟩:=d.ex; ⟨ns,p,c,m,k,s _ _ h1,s _ _ h2,r⟩
theorem DrawOk.upd{H:Hp}{dr sc a:Addr}{o:HO}(d:DrawOk H dr sc)(h1:a≠dr)(h2:a≠sc):DrawOk (L2.upd H a o) dr sc:=
 let ⟨ns,p,c,m,k,e1,e2,r⟩:=d.ex; ⟨ns,p,c,m,k,by rw[Xae h1.symm];exact e1,by rw[Xae h2.symm];exact e2,r⟩
theorem DrawOk.ne{H:Hp}{dr sc a:Addr}(d:DrawOk H dr sc)(h:H a=none):a≠dr/\a≠sc:=by
 obtain⟨ns,p,c,m,k,e1,e2,r⟩:=d.ex
 exact⟨(Xaf e1 h).symm,(Xaf e2 h).symm⟩
def Xlg:Sp:=λvs H Q _=>∃(dr sc:Addr) (n:Nat),vs=[.ref dr,.int n]/\n<=14/\DrawOk H dr sc /\
 ∀l st late H',H l=none->st<26->H' l=some (.lst ((Xaw st late n).map V.str))->l≠sc->DrawOk H' dr sc->But dr H H'->Q (.ref l) H'
abbrev FnPick (P:Program) (w:World) (K:PySem.W.Frag) (mg:Str->Option Value) (base:Heap):Prop:=Fn P w K mg base CX0 1 "_law_pick" ["_law_draw", "_law_many"] Xtx
abbrev NNa:List Str:=["_law_draw", "_law_many", "_law_base", "_law_start", "_law_late", "_law_told", "_law_k", "_law_sign", "_law_hum"]
theorem Xvc{i:Nat}(h:i<26):atI Xlf.cps.toList (i:Int)=some ((Xlf.cps.toList).getD i 0):=by
 have hl:i<Xlf.cps.toList.length:=h
 refine Xdb ?_
 rw[Xzl hl]
 simp[List.getD,Xzl hl]
theorem Xc7{l:List Str}(h:l.Nodup){row:List Str}(p:row.Perm (l++l)):∀y∈row,row.count y=2:=λy hy=>by
 rw[p.count_eq,X1t]
 have hy':y∈l:=by
  rcases Xzv.mp (p.mem_iff.mp hy) with z | z
  ·exact z
  ·exact z
 have e1:l.count y<=1:=List.nodup_iff_count.mp h y
 have e2:0<l.count y:=X21.mpr hy'
 omega
theorem Xj8{A row more:List Str}{x:Str}(p:row.Perm (A++A))(q:more.Perm (x::x::row)):more.Perm ((A++[x])++(A++[x])):=by
 refine q.trans (((p.cons x).cons x).trans ?_)
 have e:(A++[x])++(A++[x])=A++x::(A++x::[]):=by simp
 rw[e]
 refine List.Perm.trans ?_ X1x.symm
 refine List.Perm.cons x ?_
 have e2:A++(A++x::[])=(A++A)++x::[]:=by simp
 rw[e2]
 refine List.Perm.trans ?_ X1x.symm
 simp
abbrev NRo:List Str:=["_law_draw", "_law_names_here", "_law_cut", "_law_row_here", "_law_name", "_law_at", "_law_to", "_law_more"]
def Xyr:Sp:=λvs H Q _=>∃(dr sc:Addr) (m:Nat),vs=[.ref dr,.int m]/\m<=14/\DrawOk H dr sc /\
 ∀(l:Addr) (row:List Str) (n st:Nat) (late:Bool) (H':Hp),H l=none->n<=m->st<26->H' l=some (.lst (row.map V.str))->row.Perm (Xaw st late n++Xaw st late n)->DrawOk H' dr sc->But dr H H'->Q (.ref l) H'
theorem Xms(K:PySem.W.Frag)(T:String):PySem.W.kitOne K (.type T) (.type T)=some true:=by
 unfold PySem.W.kitOne
 rw[X3i (beq_self_eq_true _)]
theorem Xgy(row:List Str)(x:Str):((List.range row.length).filter λi=>decide (row.getD i Str.empty=x)).map (λi:Nat=>(i:Int))=plc row x:=by
 have go:∀n,n<=row.length->((List.range n).filter λi=>decide (row.getD i Str.empty=x)).map (λi:Nat=>(i:Int))=plc (row.take n) x:=by
  intro n
  induction n with
  | zero=>intro _;rfl
  | succ n ih=>
   intro h
   have hn:n<row.length:=by omega
   have e:row.getD n Str.empty=row[n]:=by simp[List.getD,hn]
   rw[X0q,Xz7,Xzq,ih (by omega),Xzy hn,Xij,X0l,e,Xz6,X15 (by omega)]
   by_cases q:row[n]=x
   ·rw[X3i q,X3i (X3j q)]
    rfl
   ·rw[X3h q,X3h (by simpa using q)]
    rfl
 rw[go _ (Xzn _),X0j]
def okN (x:Str):Prop:=x.length<=20/\∀c∈x.cps.toList,c<0x110000
def Xvd (C:Addr):Sp:=λvs H Q E=>∃(r:Addr) (row:List Str) (x:Str),vs=[.ref r,.str x]/\H r=some (.lst (row.map V.str))/\okN x /\
 (x∈row->∀H',Same H H'->Q .non H')/\(x∉row->∀H',Same H H'->E (.ref C) none H')
def spDitches:Sp:=λvs H Q _=>∃(r:Addr) (row:List Str),vs=[.ref r]/\H r=some (.lst (row.map V.str))/\row.length<=60 /\
 ∀l H',H l=none->H' l=some (.lst ((dit row).map V.str))->Same H H'->Q (.ref l) H'
def Xpz (C:Addr):Sp:=λvs H Q E=>∃(r:Addr) (row:List Str) (x:Str),vs=[.ref r,.str x]/\H r=some (.lst (row.map V.str))/\okN x/\row.length<=1000 /\
 (x∈row->∃a b,plc row x=[a,b]/\∀l H',H l=none->H' l=some (.tup [.int a,.int b])->Same H H'->Q (.ref l) H')/\(x∉row->∀H',Same H H'->E (.ref C) none H')
abbrev NEn:List Str:=["row", "name", "found"]
abbrev NEc:List Str:=["at", "end", "name"]
end SH
namespace L2
open PySem PySem.Spec PyProof.Rows
theorem Xb1(x y:Str):decide (V.str x=V.str y)=decide (x=y):=by
 by_cases z:x=y
 ·rw[z];simp
 ·rw[X3k z,X3k (λq=>z (by injection q))]
theorem Xsk(row:List Str):∀v∈row.map V.str,Xdd v=true:=λv h=>by
 obtain⟨x,_,rfl⟩:=Xz4.mp h
 rfl
theorem Xaz{α : Type}(f : α->V)(d : α)(xs:List α){i:Nat}(hi:i<xs.length):(xs.map f).getD i .non=f (xs.getD i d):=by simp[List.getD,hi]
theorem Xxs{α : Type}(f : α->V)(d : α)(xs:List α){i:Nat}(hi:i<xs.length):atI (xs.map f) (i:Int)=some (f (xs.getD i d)):=by
 refine Xdb ?_
 rw[Xz1,Xzl hi]
 simp[List.getD,hi]
end L2
namespace SH
open PySem PySem.Spec PyProof.Rows L2
theorem Wh.names{H:Hp}{kvs:List (Key×V)}{row:List Str}(w:Wh H kvs row):∃ss:List Str,kvs.map (·.1)=ss.map (λx=>(Sum.inr x:Key))/\ss.Nodup/\∀x,x∈ss↔x∈row:=by
 have e:∀ks:List Key,(∀k∈ks,∃x,k=Sum.inr x)->∃ss:List Str,ks=ss.map (λx=>(Sum.inr x:Key)):=by
  intro ks
  induction ks with
  | nil=>intro _;exact⟨[],rfl⟩
  | cons k r ih=>
   intro h
   obtain⟨x,rfl⟩:=h k Xzp
   obtain⟨ss,rfl⟩:=ih λk hk=>h k (Xzo _ hk)
   exact⟨x::ss,rfl⟩
 obtain⟨ss,hs⟩:=e (kvs.map (·.1)) λk hk=>let ⟨x,h,_⟩:=w.keys k hk; ⟨x,h⟩
 have inj:∀x,x∈ss↔(Sum.inr x:Key)∈kvs.map (·.1):=λx=>by
  rw[hs,Xz4]
  constructor
  ·exact λh=>⟨x,h,rfl⟩
  ·rintro ⟨y,hy,e⟩
   rw[<-X1b e];exact hy
 refine⟨ss,hs,?_,λx=>?_⟩
 ·have:=w.nd
  rw[hs] at this
  exact List.Pairwise.of_map _ (λa b hab e=>hab (congrArg _ e)) this
 ·rw[inj]
  constructor
  ·intro h
   obtain⟨y,e,hy⟩:=w.keys _ h
   rw[X1b e];exact hy
  ·intro h
   obtain⟨l,e,_⟩:=w.val x h
   exact Xfa e
structure Isl (row:List Str):Prop where
 ex:∃n st late,n<=14/\st<26/\row.Perm (Xaw st late n++Xaw st late n)
theorem Xex{st n:Nat}{late:Bool}(hn:n<=14){x:Str}(h:x∈Xaw st late n):x∈Xaw st late 14:=by
 unfold Xaw at h ⊢
 obtain⟨i,hi,rfl⟩:=Xz4.mp h
 exact Xz4.mpr ⟨i,X0v.mpr (by have:=X0v.mp hi;omega),rfl⟩
instance (x:Str):Decidable (okN x):=inferInstanceAs (Decidable (_/\_))
theorem Xnz:∀st<26,∀late:Bool,∀x∈Xaw st late 14,okN x:=by decide +kernel
theorem Isl.two{row:List Str}(h:Isl row):∀y∈row,row.count y=2:=by
 obtain⟨n,st,late,hn,hs,p⟩:=h.ex
 exact Xc7 (Xf5 hs hn) p
theorem Isl.len{row:List Str}(h:Isl row):row.length<=28:=by
 obtain⟨n,st,late,hn,hs,p⟩:=h.ex
 have:=p.length_eq
 unfold Xaw at this
 simp at this
 omega
theorem Isl.ok{row:List Str}(h:Isl row):∀y∈row,okN y:=λy hy=>by
 obtain⟨n,st,late,hn,hs,p⟩:=h.ex
 refine Xnz st hs late y (Xex hn ?_)
 rcases Xzv.mp (p.mem_iff.mp hy) with z | z<;>exact z
def Xb5:List Str->Str
 | [] => "noneatal"
 | y::_=>Txt.slice y none (some 7)++Str.ofString "q"
theorem stranger14:∀st<26,∀late:Bool,∀y∈Xaw st late 14,okN (Txt.slice y none (some 7)++Str.ofString "q")/\Txt.slice y none (some 7)++Str.ofString "q" ∉ Xaw st late 14:=by decide +kernel
theorem Isl.stranger{row:List Str}(h:Isl row):okN (Xb5 row)/\Xb5 row∉row:=by
 cases row with
 | nil=>exact⟨by decide +kernel,by simp⟩
 | cons y r=>
  obtain⟨n,st,late,hn,hs,p⟩:=h.ex
  have sub:∀z∈y::r,z∈Xaw st late 14:=λz hz=>Xex hn (by rcases Xzv.mp (p.mem_iff.mp hz) with q | q<;>exact q)
  obtain⟨h1,h2⟩:=stranger14 st hs late y (sub y Xzp)
  exact⟨h1,λz=>h2 (sub _ z)⟩
theorem Xp0{x:Str}(h:okN x):Xcl (.str x)=true:=by
 show PyData.strOk x=true
 unfold PyData.strOk
 rw[<-Array.all_toList,Xz8]
 intro c hc
 exact X3j (h.2 c hc)
theorem Xp1{row:List Str}{x:Str}{i:Int}:i∈plc row x ↔ ∃k:Nat,i=k/\row[k]? = some x:=by
 rw[<-Xgy,Xz4]
 constructor
 ·rintro ⟨k,hk,rfl⟩
  obtain⟨h1,h2⟩:=Xzu.mp hk
  have hk':=X0v.mp h1
  refine⟨k,rfl,?_⟩
  have:=X3l h2
  rw[Xzl hk']
  simpa [List.getD,hk'] using this
 ·rintro ⟨k,rfl,hk⟩
  have hk':k<row.length:=(Xz2.mp hk).1
  refine⟨k,Xzu.mpr ⟨X0v.mpr hk',X3j ?_⟩,rfl⟩
  simp[List.getD,hk]
theorem Xxt(row:List Str)(x:Str):(plc row x).Pairwise (· < ·):=by
 rw[<-Xgy,X1u]
 refine List.Pairwise.imp ?_ (List.Pairwise.filter _ (List.pairwise_lt_range (n:=row.length)))
 intro a b h
 omega
def pl (row:List Str) (x:Str):Int×Int:=((plc row x).getD 0 0,(plc row x).getD 1 0)
theorem Xxu{row:List Str}{x:Str}{a b:Int}(h:plc row x=[a,b]):pl row x=(a,b):=by
 unfold pl
 rw[h]
 rfl
theorem Xgz{row:List Str}{x:Str}(h:row.count x=2):plc row x=[(pl row x).1,(pl row x).2]:=by
 obtain⟨a,b,e⟩:=Xvb h
 rw[Xxu e,e]
theorem Xd6{row:List Str}{x:Str}(h:row.count x=2):(pl row x).1<(pl row x).2:=by
 have h1:=Xxt row x
 rw[Xgz h] at h1
 simpa using h1
theorem Xlh{row:List Str}{x y:Str}(hx:row.count x=2)(hy:row.count y=2)(n:x≠y):(pl row x).1≠(pl row y).1/\(pl row x).1≠(pl row y).2/\(pl row x).2≠(pl row y).1/\(pl row x).2≠(pl row y).2:=by
 have key:∀i,i∈plc row x->i∈plc row y->False:=λi h1 h2=>by
  obtain⟨k,e1,g1⟩:=Xp1.mp h1
  obtain⟨m,e2,g2⟩:=Xp1.mp h2
  have:k=m:=by omega
  subst this
  rw[g1] at g2
  exact n (Xzx g2)
 rw[Xgz hx,Xgz hy] at key
 refine⟨λe=>key (pl row x).1 (by simp) (by rw[e];simp),λe=>key (pl row x).1 (by simp) (by rw[e];simp),λe=>key (pl row x).2 (by simp) (by rw[e];simp),λe=>key (pl row x).2 (by simp) (by rw[e];simp)⟩
def nIn (a b:Int) (ys:List Int):Nat:=(inn a b ys).length
theorem nIn2(a b c e:Int):nIn a b [c,e]=(if a<c/\c<b then 1 else 0)+(if a<e/\e<b then 1 else 0):=by
 unfold nIn inn
 simp only[X0l,X2u,Xz3,decide_eq_true_eq]
 split<;>split<;>rfl
def lieT (a b c e:Int):Str:=if a=c/\b=e then "same" else if nIn c e [a,b]=1 then "cross" else if nIn c e [a,b]=2 then "within" else if nIn a b [c,e]=2 then "around" else "apart"
theorem Xsl{a b c e:Int}(h1:a<b)(h2:c<e)(n1:a≠c)(n2:a≠e)(n3:b≠c)(n4:b≠e):lieT a b c e=Xhg a b c e false:=by
  unfold lieT Xhg
  rw[X3h (λz=>n1 z.1)]
  have e1:=nIn2 a b c e
  have e2:=nIn2 c e a b
  have e3:(inn a b [c,e]).length=nIn a b [c,e]:=rfl
  rw[e3]
  generalize nIn a b [c,e]=p at *
  generalize nIn c e [a,b]=q at *
  by_cases p1:a<c/\c<b<;>by_cases p2:a<e/\e<b<;>by_cases q1:c<a/\a<e<;>by_cases q2:c<b/\b<e <;>
    (first | rw[X3i p1] at e1 | rw[X3h p1] at e1)<;>(first | rw[X3i p2] at e1 | rw[X3h p2] at e1) <;>
    (first | rw[X3i q1] at e2 | rw[X3h q1] at e2)<;>(first | rw[X3i q2] at e2 | rw[X3h q2] at e2)<;>subst e1 e2<;>first
    | (exfalso;omega)
    | rfl
    | (have hw:(c<a/\b<e):=by omega
       rw[X3i hw];rfl)
    | (have hw:¬(c<a/\b<e):=by omega
       rw[X3h hw];rfl)
theorem Xsm{a b:Int}:lieT a b a b=Xhg a b a b true:=by
 unfold lieT Xhg
 rw[X3i ⟨rfl,rfl⟩,Bool.true_or,X3i rfl]
 have e1:=nIn2 a b a b
 have e3:(inn a b [a,b]).length=nIn a b [a,b]:=rfl
 rw[e3,e1,X3h (by omega),X3h (by omega)]
 rfl
def lieR (row:List Str) (x y:Str):Str:=lieT (pl row x).1 (pl row x).2 (pl row y).1 (pl row y).2
theorem Xc8{row:List Str}{x y:Str}(hx:row.count x=2)(hy:row.count y=2):lieR row x y=Xhg (pl row x).1 (pl row x).2 (pl row y).1 (pl row y).2 (decide (x=y)):=by
 unfold lieR
 by_cases n:x=y
 ·subst n
  rw[X3j rfl]
  exact Xsm
 ·rw[X3k n]
  obtain⟨n1,n2,n3,n4⟩:=Xlh hx hy n
  exact Xsl (Xd6 hx) (Xd6 hy) n1 n2 n3 n4
def crs (row:List Str):List (Str×Str):=(dit row).flatMap λx=>((dit row).filter λy=>decide (ltS x y)&&decide (lieR row x y = "cross")).map λy=>(x,y)
def prD (p:Str×Str):PyData:=.tuple [.str p.1,.str p.2]
structure Spn (H:Hp) (kvs:List (Key×V)) (row:List Str) (ns:List Str):Prop where
 keys:kvs.map (·.1)=ns.map (λx=>(Sum.inr x:Key))
 val:∀x∈ns,∃l,valV kvs (Sum.inr x:Key)=some (.ref l)/\H l=some (.tup [.int (pl row x).1,.int (pl row x).2])
theorem Spn.mono{H H':Hp}{kvs:List (Key×V)}{row ns:List Str}(s:Spn H kvs row ns)(h:Same H H'):Spn H' kvs row ns:=⟨s.keys,λx hx=>let ⟨l,h1,h2⟩:=s.val x hx; ⟨l,h1,h _ _ h2⟩⟩
end SH
namespace L2
open PySem
theorem hu3{A:Around}{k:Nat}(hr:Room k A):A.units+3<cLine:=by have:=hr.units;omega
theorem hu4{A:Around}{k:Nat}(hr:Room k A):A.units+4<cLine:=by have:=hr.units;omega
end L2
namespace SH
open PySem PySem.Spec PyProof.Rows L2
structure Row2 (row:List Str):Prop where
 two:∀y∈row,row.count y=2
 ok:∀y∈row,okN y
 len:row.length<=60
theorem Isl.row2{row:List Str}(h:Isl row):Row2 row:=⟨h.two,h.ok,by have:=h.len;omega⟩
def spSpans:Sp:=λvs H Q _=>∃(r:Addr) (row:List Str),vs=[.ref r]/\H r=some (.lst (row.map V.str))/\Row2 row /\
 ∀d kvs H',H d=none->H' d=some (.dK kvs)->Spn H' kvs row (dit row)->Same H H'->Q (.ref d) H'
def Lie4 (a b c e:Int):Prop:=c<=e/\(b=e->a=c)
theorem lie4{row:List Str}{x y:Str}(hx:row.count x=2)(hy:row.count y=2):Lie4 (pl row x).1 (pl row x).2 (pl row y).1 (pl row y).2:=
 ⟨Int.le_of_lt (Xd6 hy),λe=>by
  by_cases n:x=y
  ·rw[n]
  ·exact absurd e (Xlh hx hy n).2.2.2⟩
theorem Xxv{a b c e:Int}(n:¬(a=c/\b=e))(h:((decide (c<a)&&decide (a<e))==(decide (c<b)&&decide (b<e)))=false):lieT a b c e = "cross" := by
 unfold lieT
 rw[X3h n,X3i]
 rw[nIn2]
 rw[<-Bool.decide_and,<-Bool.decide_and] at h
 by_cases q1:c<a/\a<e<;>by_cases q2:c<b/\b<e<;>simp[q1,q2] at h ⊢
theorem Xxw{a b c e:Int}(n:¬(a=c/\b=e))(h:((decide (c<a)&&decide (a<e))==(decide (c<b)&&decide (b<e)))=true)(h2:(decide (c<a)&&decide (a<e))=true):lieT a b c e = "within" := by
 unfold lieT
 rw[h2,beq_iff_eq] at h
 simp only[Xz3,decide_eq_true_eq] at h2
 have h3:c<b/\b<e:=by simpa using h.symm
 rw[X3h n,nIn2,X3i h2,X3i h3,X3h (by decide),X3i rfl]
theorem Xve{a b c e:Int}(l:Lie4 a b c e)(n:¬(a=c/\b=e))(h:((decide (c<a)&&decide (a<e))==(decide (c<b)&&decide (b<e)))=true)(h2:(decide (c<a)&&decide (a<e))=false):lieT a b c e=if (decide (a<c)&&decide (c<b))=true then "around" else "apart" := by
 unfold lieT
 rw[h2,beq_iff_eq] at h
 have h2:¬(c<a/\a<e):=λz=>by rw[X3j z.1,X3j z.2] at h2;cases h2
 have h3:¬(c<b/\b<e):=λz=>by rw[X3j z.1,X3j z.2] at h;cases h
 rw[X3h n,nIn2,X3h h2,X3h h3,X3h (by decide),X3h (by decide),nIn2]
 obtain⟨l1,l2⟩:=l
 have key:a<c/\c<b->a<e/\e<b:=λz=>by
  have:b≠e:=λq=>n ⟨l2 q,q⟩
  omega
 by_cases q:a<c/\c<b
 ·rw[X3i q,X3i (key q),X3i rfl,X3i (by simp[q])]
 ·rw[X3h q,X3h (by split<;>decide),X3h (by simpa using q)]
def spLieOf:Sp:=λvs H Q _=>∃(p q:Addr) (a b c e:Int),vs=[.ref p,.ref q]/\H p=some (.tup [.int a,.int b])/\H q=some (.tup [.int c,.int e])/\Lie4 a b c e/\∀H',Same H H'->Q (.str (lieT a b c e)) H'
theorem Xg0{ta tb tc:TE}{σ:L2.St}{H:Hp}{Q:VK}{x y z:Int}(ha:∀Q':VK,Q' (.int x) H->ta σ H Q')(hb:∀Q':VK,Q' (.int y) H->tb σ H Q')(hc:∀Q':VK,Q' (.int z) H->tc σ H Q')(h:Q (.bl (decide (x<y)&&decide (y<z))) H):
  Xou (rI0 λi j=>.bl (decide (i<j))) (rI0 λi j=>.bl (decide (i<j))) ta tb tc σ H Q:=by
 refine ha _ (hb _ ⟨x,y,rfl,rfl,_,rfl,?_⟩)
 refine ite2b (λq=>hc _ ⟨y,z,rfl,rfl,?_⟩) (λq=>?_)
 ·rw[q,X06] at h
  exact h
 ·rw[q,X0w] at h
  exact h
def Xef:Sp:=λvs H Q _=>∃(r:Addr) (row:List Str),vs=[.ref r]/\H r=some (.lst (row.map V.str))/\Row2 row /\
 ∀l xs H',H l=none->H' l=some (.lst xs)->DAll (hid l H') ((crs row).map prD) xs->Same H H'->Q (.ref l) H'
abbrev NSp:List Str:=["name", "row"]
abbrev NLo:List Str:=["here", "there", "first", "last"]
abbrev NCr:List Str:=["row", "span"]
abbrev NCc:List Str:=["one", "other", "span"]
theorem Spn.snoc{H H':Hp}{kvs:List (Key×V)}{row ns:List Str}{x:Str}{l:Addr}(s:Spn H kvs row ns)(nx:x∉ns)(h:H' l=some (.tup [.int (pl row x).1,.int (pl row x).2]))(k:∀b xs,H b=some (.tup xs)->H' b=some (.tup xs)):
  Spn H' (putK kvs (Sum.inr x) (.ref l)) row (ns++[x]):=by
 have hn:valV kvs (Sum.inr x:Key)=none:=by
  cases e:valV kvs (Sum.inr x:Key) with
  | none=>rfl
  | some v=>
   exfalso
   have:=Xfa e
   rw[s.keys] at this
   obtain⟨y,hy,e2⟩:=Xz4.mp this
   rw[X1b e2] at hy
   exact nx hy
 refine⟨by rw[Xen _ hn,Xzq,Xzq,s.keys];rfl,λy hy=>?_⟩
 rw[Xd2]
 by_cases e:y=x
 ·subst e
  exact⟨l,X3i rfl,h⟩
 ·have hy':y∈ns:=by
   rcases Xzv.mp hy with z | z
   ·exact z
   ·exact absurd (Xzr.mp z) e
  obtain⟨l0,h1,h2⟩:=s.val y hy'
  exact⟨l0,by rw[X3h (λz=>e (X1b z))];exact h1,k _ _ h2⟩
theorem Spn.get{H:Hp}{kvs:List (Key×V)}{row ns:List Str}{d:Addr}{x:Str}(s:Spn H kvs row ns)(hd:Rd H d (.dK kvs))(hx:x∈ns):∃l,DGet H d (.str x) (some (.ref l))/\H l=some (.tup [.int (pl row x).1,.int (pl row x).2]):=by
 obtain⟨l,h1,h2⟩:=s.val x hx
 exact⟨l,DGet.rd hd h1,h2⟩
theorem Spn.at{H:Hp}{kvs:List (Key×V)}{row ns:List Str}(s:Spn H kvs row ns)(i:Nat)(hi:i<ns.length):(kvs.map λp=>kV p.1).getD i .non = .str (ns.getD i Str.empty):=by
 have e:(kvs.map λp=>kV p.1)=ns.map V.str:=by
  have:(kvs.map λp=>kV p.1)=(kvs.map (·.1)).map kV:=by rw[X0f];rfl
  rw[this,s.keys,X0f]
  rfl
 rw[e]
 exact Xaz V.str Str.empty ns hi
theorem Spn.len{H:Hp}{kvs:List (Key×V)}{row ns:List Str}(s:Spn H kvs row ns):kvs.length=ns.length:=by
 have:=congrArg List.length s.keys
 simpa using this
theorem Xbb{ns:List Str}{i:Nat}(hi:i<ns.length):ns.getD i Str.empty∈ns:=by
 have:ns.getD i Str.empty=ns[i]:=by simp[List.getD,hi]
 rw[this]
 exact X0b hi
theorem Wh.two'{H:Hp}{kvs:List (Key×V)}{row:List Str}{x:Str}(w:Wh H kvs row)(hx:x∈row)(h:row.count x=2):∃l,valV kvs (Sum.inr x:Key)=some (.ref l)/\H l=some (.lst [.int (pl row x).1,.int (pl row x).2]):=by
 obtain⟨l,h1,h2⟩:=w.val x hx
 rw[Xgz h] at h2
 exact⟨l,h1,h2⟩
theorem Xb9{H:Hp}:∀{ss:List Str} {xs:List V},DAll H (ss.map PyData.str) xs->xs=ss.map V.str
 | [],xs,h=>by unfold List.map DAll at h;exact h
 | s::ss,xs,h=>by
  rw[Xz9] at h
  unfold DAll at h
  obtain⟨v,r,rfl,h1,h2⟩:=h
  unfold DAt at h1
  rw[h1,Xb9 h2]
  rfl
def Xc9:Sp:=λvs H Q _=>∃(r:Addr) (row:List Str),vs=[.ref r]/\H r=some (.lst (row.map V.str))/\(∀y∈row,y.length<=20)/\∀H',Same H H'->Q (.str (Xb5 row)) H'
def spTuple:Sp:=λvs H Q _=>∃(v:V) (ss:List Str),vs=[v]/\DAt H (.tuple (ss.map PyData.str)) v/\ss.length<=1000/\∀H',Same H H'->Q (.bl true) H'
def Xbp (how:Str) (off:Bool):Bool:=if how = "within" then off else (!decide (how = "apart") || !off)
def told (ss:List Str):List Str:=srt (ddup ss)
def isPlotB (row plot:List Str):Bool:=decide (plot=told plot)&&plot.all (λx=>decide (x∈row))&&plot.all λx=>(dit row).all λy=>Xbp (lieR row x y) (decide (y∈plot))
def trD (t:Str×Str×Str):PyData:=.tuple [.str t.1,.str t.2.1,.str t.2.2]
def barB (row:List Str) (x y:Str):Bool:=decide (lieR row x y = "within")||(decide (lieR row x y = "apart")&&decide (ltS x y))
def bars (row:List Str):List (Str×Str×Str):=(dit row).flatMap λx=>((dit row).filter (barB row x)).map λy=>(x,y,lieR row x y)
def Xfo (bs:List (Str×Str×Str)) (plot:List Str):Bool:=bs.all λt => !(decide (t.1∈plot) && !decide (decide (t.2.1∈plot)=decide (t.2.2 = "within")))
def Xj9 (row plot:List Str):Bool:=decide (plot=(dit row).filter λy=>decide (y∈plot))&&Xfo (bars row) plot
theorem Xn0{a b c e:Int}(h1:a<b)(h2:c<e)(n1:a≠c)(n2:a≠e)(n3:b≠c)(n4:b≠e)(h:lieT a b c e = "apart"):lieT c e a b = "apart" := by
 unfold lieT at h ⊢
 rw[X3h (λz=>n1 z.1)] at h
 rw[X3h (λz=>n1 z.1.symm)]
 have e1:=nIn2 a b c e
 have e2:=nIn2 c e a b
 generalize nIn a b [c,e]=p at *
 generalize nIn c e [a,b]=q at *
 by_cases p1:a<c/\c<b<;>by_cases p2:a<e/\e<b<;>by_cases q1:c<a/\a<e<;>by_cases q2:c<b/\b<e <;>
  (first | rw[X3i p1] at e1 | rw[X3h p1] at e1)<;>(first | rw[X3i p2] at e1 | rw[X3h p2] at e1) <;>
  (first | rw[X3i q1] at e2 | rw[X3h q1] at e2)<;>(first | rw[X3i q2] at e2 | rw[X3h q2] at e2)<;>subst e1 e2<;>first
  | (exfalso;omega)
  | rfl
  | (exfalso;revert h;decide +kernel)
theorem Xn1{row:List Str}{x y:Str}(hx:row.count x=2)(hy:row.count y=2)(h:lieR row x y = "apart"):lieR row y x = "apart" := by
 by_cases n:x=y
 ·subst n;exact h
 ·obtain⟨n1,n2,n3,n4⟩:=Xlh hx hy n
  exact Xn0 (Xd6 hx) (Xd6 hy) n1 n2 n3 n4 h
theorem Xey(row:List Str)(x:Str):lieR row x x = "same" := by
 unfold lieR lieT
 rw[X3i ⟨rfl,rfl⟩]
theorem Xf6{l:List Str}(h:l.Pairwise ltS):l.Pairwise leS:=h.imp λh=>Xxg h
theorem Xcq{l:List Str}(h:l.Pairwise ltS):l.Nodup:=h.imp λh=>Xju h
theorem Xp2{l:List Str}(h:l.Nodup):(ddup l).Perm l:=Xfj (Xgs l) h (Xeq l)
theorem Xil{l:List Str}(h:l.Pairwise ltS):told l=l:=Xjx ((Xbh _).trans (Xp2 (Xcq h))) (Xer _) (Xf6 h)
theorem Xli(l:List Str):(told l).Pairwise ltS:=Xdt l
theorem Xmt{l:List Str}{x:Str}:x∈told l↔x∈l:=Xai
theorem Xeg{row plot:List Str}:(plot=(dit row).filter λy=>decide (y∈plot))↔(plot=told plot/\∀x∈plot,x∈row):=by
 constructor
 ·intro h
  have hp:plot.Pairwise ltS:=by
   rw[h]
   exact(Xdt row).filter _
  refine⟨(Xil hp).symm,λx hx=>?_⟩
  rw[h] at hx
  exact Xai.mp (Xzu.mp hx).1
 ·rintro ⟨h1,h2⟩
  have hp:plot.Pairwise ltS:=by rw[h1];exact Xli plot
  have hq:((dit row).filter λy=>decide (y∈plot)).Pairwise ltS:=(Xdt row).filter _
  refine Xjx (Xfj (Xcq hp) (Xcq hq) λx=>?_) (Xf6 hp) (Xf6 hq)
  rw[Xzu,decide_eq_true_eq,Xai]
  exact⟨λh=>⟨h2 x h,h⟩,λh=>h.2⟩
theorem Xf7{row:List Str}{t:Str×Str×Str}:t∈bars row↔t.1∈row/\t.2.1∈row/\barB row t.1 t.2.1=true/\t.2.2=lieR row t.1 t.2.1:=by
 unfold bars
 rw[List.mem_flatMap]
 constructor
 ·rintro ⟨x,hx,h⟩
  obtain⟨y,hy,rfl⟩:=Xz4.mp h
  obtain⟨h1,h2⟩:=Xzu.mp hy
  exact⟨Xai.mp hx,Xai.mp h1,h2,rfl⟩
 ·rintro ⟨h1,h2,h3,h4⟩
  refine⟨t.1,Xai.mpr h1,Xz4.mpr ⟨t.2.1,Xzu.mpr ⟨Xai.mpr h2,h3⟩,?_⟩⟩
  rw[<-h4]
theorem Xim{row plot:List Str}(h:∀y∈row,row.count y=2):Xj9 row plot=isPlotB row plot:=by
 unfold Xj9 isPlotB
 by_cases hp:plot=(dit row).filter λy=>decide (y∈plot)
 ·obtain⟨p1,p2⟩:=Xeg.mp hp
  have e1:plot.all (λx=>decide (x∈row))=true:=Xz8.mpr λx hx=>X3j (p2 x hx)
  rw[X3j hp,X3j p1,e1,X06,X06]
  show Xfo (bars row) plot=(true&&_)
  rw[X06,X01]
  unfold Xfo
  rw[Xz8,Xz8]
  constructor
  ·intro hf x hx
   rw[Xz8]
   intro y hy
   have hyr:=Xai.mp hy
   unfold Xbp
   by_cases hw:lieR row x y = "within"
   ·rw[X3i hw]
    have:=hf (x,y,lieR row x y) (Xf7.mpr ⟨p2 x hx,hyr,by unfold barB;rw[X3j hw];rfl,rfl⟩)
    simpa [hx,hw] using this
   ·rw[X3h hw]
    by_cases ha:lieR row x y = "apart"
    ·have hne:x≠y:=λz=>by
      rw[z,Xey] at ha
      revert ha
      decide
     have ha2:=Xn1 (h x (p2 x hx)) (h y hyr) ha
     have key:y∉plot:=λhy2=>by
      rcases Xgt x y with hle | hle
      ·have hlt:=ltS_of hle hne
       have:=hf (x,y,lieR row x y) (Xf7.mpr ⟨p2 x hx,hyr,by unfold barB;rw[X3j ha,X3j hlt,Bool.and_self,X3d],rfl⟩)
       rw[ha] at this
       simp[hx,hy2] at this
       revert this
       decide
      ·have hlt:=ltS_of hle (λz=>hne z.symm)
       have:=hf (y,x,lieR row y x) (Xf7.mpr ⟨hyr,p2 x hx,by unfold barB;rw[X3j ha2,X3j hlt,Bool.and_self,X3d],rfl⟩)
       rw[ha2] at this
       simp[hx,hy2] at this
       revert this
       decide
     rw[X3k key]
     simp
    ·rw[X3k ha]
     rfl
  ·intro hf t ht
   obtain⟨h1,h2,h3,h4⟩:=Xf7.mp ht
   by_cases hx:t.1∈plot
   ·have:=hf t.1 hx
    rw[Xz8] at this
    have:=this t.2.1 (Xai.mpr h2)
    rw[h4]
    unfold Xbp at this
    by_cases hw:lieR row t.1 t.2.1 = "within"
    ·rw[X3i hw] at this
     simp[hw,X3l this]
    ·rw[X3h hw] at this
     have ha:lieR row t.1 t.2.1 = "apart" := by
      unfold barB at h3
      rw[X3k hw,Bool.false_or,Xz3] at h3
      exact X3l h3.1
     rw[ha] at this
     have hn:t.2.1∉plot:=by simpa using this
     have hne:¬(("apart" : Str) = "within"):=by decide
     simp[hn,ha,hne]
   ·simp[hx]
 ·rw[X3k hp,X0w]
  by_cases p1:plot=told plot
  ·have:¬ ∀x∈plot,x∈row:=λp2=>hp (Xeg.mpr ⟨p1,p2⟩)
   have e1:plot.all (λx=>decide (x∈row))=false:=by
    rw[X1s]
    intro z
    rw[Xz8] at z
    exact this λx hx=>X3l (z x hx)
   rw[e1,X24,X0w]
  ·rw[X3k p1,X0w,X0w]
theorem Xc4{H:Hp}:∀{bs:List Bool} {xs:List V},DAll H (bs.map PyData.bool) xs->xs=bs.map V.bl
 | [],xs,h=>by unfold List.map DAll at h;exact h
 | s::ss,xs,h=>by
  rw[Xz9] at h
  unfold DAll at h
  obtain⟨v,r,rfl,h1,h2⟩:=h
  unfold DAt at h1
  rw[h1,Xc4 h2]
  rfl
theorem Xmu(a b:List Str)(h:PyData.tuple (a.map PyData.str)=PyData.tuple (b.map PyData.str)):a=b:=by
 injection h with h
 exact(X22 (λx y e=>by injection e)).mp h
theorem Xhr{ss:List Str}(h:∀y∈ss,okN y):Xb0 (ss.map PyData.str)=true:=plainAll_map PyData.str ss λx hx=>Xp0 (h x hx)
theorem Xa7{ss:List Str}(h:∀y∈ss,okN y):Xcl (.tuple (ss.map PyData.str))=true:=Xhr h
theorem Xez{ss:List Str}(h:∀y∈ss,okN y):Xcl (.list (ss.map PyData.str))=true:=Xhr h
theorem Xcs:∀(ss:List Str),PyData.depthAll (ss.map PyData.str)=0
 | []=>rfl
 | s::ss=>by
  rw[Xz9]
  unfold PyData.depthAll
  rw[Xcs ss]
  rfl
theorem Xka(a b:List Str):min (PyData.depth (.tuple (a.map PyData.str))) (PyData.depth (.tuple (b.map PyData.str)))<=3:=by
 have e:PyData.depth (.tuple (a.map PyData.str))=PyData.depthAll (a.map PyData.str)+1:=rfl
 rw[e,Xcs]
 omega
theorem Xfp{a b:List Str}(ha:∀y∈a,okN y)(hb:∀y∈b,okN y):PyData.eqv (.tuple (a.map PyData.str)) (.tuple (b.map PyData.str))=decide (a=b):=
 Xpt (λl:List Str=>PyData.tuple (l.map PyData.str)) Xmu a b (Xa7 ha) (Xa7 hb)
theorem Xbs{H:Hp}{p:Addr}{ss:List Str}(h:H p=some (.tup (ss.map V.str))):DAt H (.tuple (ss.map PyData.str)) (.ref p):=Xlb h (Xdx ss)
def spTold (K:PySem.W.Frag):Sp:=λvs H Q _=>∃(p:Addr) (ss:List Str),vs=[.ref p]/\(SqL K H p (ss.map V.str)\/SqT K H p (ss.map V.str))/\ss.length<=60 /\
 ∀l H',H l=none->H' l=some (.tup ((told ss).map V.str))->Same H H'->Q (.ref l) H'
def spAllows:Sp:=λvs H Q _=>∃(how:Str) (off:Bool),vs=[.str how,.bl off]/\Q (.bl (Xbp how off)) H
def Xin:Sp:=λvs H Q _=>∃(r p:Addr) (row ss:List Str),vs=[.ref r,.ref p]/\H r=some (.lst (row.map V.str))/\Row2 row/\H p=some (.tup (ss.map V.str))/\(∀y∈ss,okN y)/\ss.length<=60 /\
 ∀H',Same H H'->Q (.bl (isPlotB row ss)) H'
abbrev NIp:List Str:=["row", "plot", "span"]
abbrev NI1:List Str:=["name", "span"]
abbrev NI2:List Str:=["name", "other", "plot", "span"]
theorem Spn.has{H:Hp}{kvs:List (Key×V)}{row:List Str}{x:Str}(s:Spn H kvs row (dit row)):(valV kvs (Sum.inr x:Key)).isSome=decide (x∈row):=by
 by_cases hx:x∈row
 ·obtain⟨l,h1,_⟩:=s.val x (Xai.mpr hx)
  rw[h1,X3j hx]
  rfl
 ·rw[X3k hx]
  cases e:valV kvs (Sum.inr x:Key) with
  | none=>rfl
  | some v=>
   exfalso
   have:=Xfa e
   rw[s.keys] at this
   obtain⟨y,hy,e2⟩:=Xz4.mp this
   rw[X1b e2] at hy
   exact hx (Xai.mp hy)
theorem Xmv{ss:List Str}(h:∀y∈ss,okN y):∀y∈told ss,okN y:=λy hy=>h y (Xmt.mp hy)
theorem Xp3{α : Type}(d : α)(p : α->Bool)(xs:List α):((List.range xs.length).map λi=>p (xs.getD i d)).any id=xs.any p:=by
 have e:(List.range xs.length).map (λi=>p (xs.getD i d))=xs.map p:=by
  have:=Xa0 d (λ_=>true) xs
  rw[X0d.mpr (λ_ _=>rfl),X0d.mpr (λ_ _=>rfl)] at this
  conv=>rhs;rw[<-this]
  rw[X0f]
  rfl
 rw[e,List.any_map]
 rfl
theorem Xmw{α : Type}(f : α->List Bool):∀(xs:List α),(xs.flatMap f).all id=xs.all λx=>(f x).all id
 | []=>rfl
 | x::xs=>by
  rw[X1v,List.all_append,X28,Xmw f xs]
theorem Xio{α β : Type}(d : α)(f : α->List β)(xs:List α):(List.range xs.length).flatMap (λi=>f (xs.getD i d))=xs.flatMap f:=by
 have this:=Xa0 d (λ_=>true) xs
 rw[X0d.mpr (λ_ _=>rfl),X0d.mpr (λ_ _=>rfl)] at this
 conv=>rhs;rw[<-this]
 rw[List.flatMap_map]
end SH
namespace L2
open PySem PySem.Spec PyProof.Rows
theorem Xp4{X:Cx}{o e:Expr}{es:List Expr}{to:TE}{t:TA}{name:Str}{apos cpos:Pos}{T id:String}{r:V->List V->Hp->VK->Prop}(K:PySem.W.Frag)(hK:X.K=K)(pa:PlainAttrs T)(slot:Slot T name id)(hty:typeOf (.builtin id)=pure (.type "method_descriptor"))(hm:MtR X id r)(ho:PE X o to)(ha:PA X (e::es) t)
  (hbase:attributeBase o name X.env (eval o X.env)=eval o X.env:=by rfl)
  (hfew:((backTo cpos (starEach (e::es) X.env)).all (λx => !x.1)&&(backToKw cpos (keywordEach [] X.env)).all (λx=>x.1.isSome)
   && decide ((e::es).length+([]:List Keyword).length+(if ([]:List Keyword).isEmpty then 0 else 1)<30))=true:=by rfl)
  (hline:(apos.endLine==cpos.line)=true:=by rfl) (hs:starEach (e::es) X.env=(false,eval e X.env)::starEach es X.env:=by rfl) (hplain:(backTo cpos (starEach es X.env)).any (·.1)=false:=by rfl):
  PE X (.Call (.Attribute o name apos) (e::es) [] cpos) (tBM K T r to t):=by
 subst hK
 exact Xru pa slot hty hm ho ha hbase hfew hline hs hplain
def Xxx (K:PySem.W.Frag) (i:Nat):TE:=fun σ H Q=>∃v, σ[i]? = some (some v)/\∃p ss,v = .ref p/\(SqL K H p (ss.map V.str)\/SqT K H p (ss.map V.str))/\ss.length<=60/\∀l H',H l=none->H' l=some (.lst ((dit ss).map V.str))->Same H H'->Q (.ref l) H'
theorem Xf8{X:Cx}{i:Nat}{x:Str}{pos p1 p2 q1 q2:Pos}(hc:X.calm=true)(hg1:Gl X "sorted")(hm1:X.mg "sorted" = none)(hg2:Gl X "set")(hm2:X.mg "set" = none)(hv:PE X (.Name x pos) (tVar i))
  (h1:starEach [.Call (.Name "set" p2) [.Name x pos] [] q2] X.env=[(false,eval (.Call (.Name "set" p2) [.Name x pos] [] q2) X.env)]:=by rfl) (h2:starEach [.Name x pos] X.env=[(false,eval (.Name x pos) X.env)]:=by rfl):
  PE X (.Call (.Name "sorted" p1) [.Call (.Name "set" p2) [.Name x pos] [] q2] [] q1) (Xxx X.K i):=by
 intro pins s σ H Q I h
 obtain⟨v,hv1,p,ss,ev,hq,hl,k⟩:=h
 refine(Xan (Xc0 hc) hg1 hm1 (by rfl) (Xaa (Xau (Xic hc) hg2 hm2 (by rfl) (Xaa hv Xac) (by decide) (by decide) h2) Xac) (by decide) (by decide) h1) pins s σ H Q I ?_
 refine⟨v,hv1,p,ss,by rw[ev],hq,by unfold scanBound;omega,λa na=>?_⟩
 have hdl:=Xd3 ss
 refine⟨a,ddup ss,rfl,Xab,by omega,λl ls nl hp hs=>?_⟩
 rw[Xho hp hs]
 have s1:Same H (upd H a (SetO X.prog X.w a (ddup ss))):=(Same.refl H).step na
 exact k l _ (s1.free nl) Xab (s1.step nl)
end L2
namespace SH
open PySem PySem.Spec PyProof.Rows L2
theorem Isl.dlen{row:List Str}(h:Isl row):(dit row).length<=14:=by
 obtain⟨n,st,late,hn,hs,p⟩:=h.ex
 have hp:(dit row).Perm (Xaw st late n):=Xfj (Xgu row) (Xf5 hs hn) λx=>by
  rw[Xai,p.mem_iff,Xzv,or_self]
 rw[hp.length_eq]
 unfold Xaw
 rw[Xzk,X0s]
 exact hn
def Xp5 (ss:List Str) (x:Str):List Str:=srt (ss.filter (λy=>decide (y≠x))++(if x∈ss then [] else [x]))
def spFlip:Sp:=λvs H Q _=>∃(p:Addr) (ss:List Str) (x:Str),vs=[.ref p,.str x]/\H p=some (.tup (ss.map V.str))/\ss.length<=60 /\
 ∀q H',H q=none->H' q=some (.tup ((Xp5 ss x).map V.str))->Same H H'->Q (.ref q) H'
theorem Xsn{ss:List Str}{x y:Str}(h:y∈Xp5 ss x):y∈ss\/y=x:=by
 unfold Xp5 at h
 rw[Xfi,Xzv] at h
 rcases h with h | h
 ·exact .inl (Xzu.mp h).1
 ·split at h
  ·simp at h
  ·exact .inr (Xzr.mp h)
theorem Xso(ss:List Str)(x:Str):(Xp5 ss x).length<=ss.length+1:=by
 unfold Xp5
 rw[(Xbh _).length_eq,Xzt]
 have:=X0i (λy=>decide (y≠x)) ss
 generalize (ss.filter λy=>decide (y≠x)).length=n at *
 split
 ·rw[X1d];omega
 ·rw[X0o];omega
def spOdd:Sp:=λvs H Q _=>∃(dr sc r p:Addr) (row ss:List Str),vs=[.ref dr,.ref r,.ref p]/\DrawOk H dr sc/\H r=some (.lst (row.map V.str))/\r≠dr/\Isl row/\H p=some (.tup (ss.map V.str))/\(∀y∈ss,okN y)/\ss.length<=50 /\
 ∀(q:Addr) (ss':List Str) (H':Hp),H' q=some (.tup (ss'.map V.str))->(∀y∈ss',okN y)->ss'.length<=ss.length+1->DrawOk H' dr sc->But dr H H'->Q (.ref q) H'
def Xmx:Sp:=λvs H Q _=>∃(b p:Addr) (xs:List V) (bs:List (Str×Str×Str)) (ss:List Str),vs=[.ref b,.ref p]/\H b=some (.lst xs)/\DAll H (bs.map trD) xs/\H p=some (.tup (ss.map V.str)) /\
 ∀H',Same H H'->Q (.bl (Xfo bs ss)) H'
def spBars:Sp:=λvs H Q _=>∃(r:Addr) (row:List Str),vs=[.ref r]/\H r=some (.lst (row.map V.str))/\Row2 row /\
 ∀l xs H',H l=none->H' l=some (.lst xs)->DAll H' ((bars row).map trD) xs->Same H H'->Q (.ref l) H'
def spGood:Sp:=λvs H Q _=>∃(r p:Addr) (row ss:List Str),vs=[.ref r,.ref p]/\H r=some (.lst (row.map V.str))/\Row2 row/\H p=some (.tup (ss.map V.str))/\(∀y∈ss,okN y)/\ss.length<=60 /\
 ∀H',Same H H'->Q (.bl (Xj9 row ss)) H'
theorem Xvf{H:Hp}{t:Str×Str×Str}{v:V}(h:DAt H (trD t) v):∃p,v = .ref p/\H p=some (.tup [.str t.1,.str t.2.1,.str t.2.2]):=by
 obtain⟨p,xs,rfl,hp,hs⟩:=Xps h
 have:=Xb9 (ss:=[t.1,t.2.1,t.2.2]) hs
 rw[this] at hp
 exact⟨p,rfl,hp⟩
def Xch (row:List Str) (x:Str) (ys:List Str):List (Str×Str×Str):=(ys.filter (barB row x)).map λy=>(x,y,lieR row x y)
def Xcp (row:List Str) (i:Nat):List (Str×Str×Str):=((dit row).take i).flatMap λx=>Xch row x (dit row)
theorem Xlj(row:List Str):Xcp row (dit row).length=bars row:=by
 unfold Xcp
 rw[X0j]
 rfl
theorem Xkb(row:List Str){i:Nat}(hi:i<(dit row).length):Xcp row (i+1)=Xcp row i++Xch row ((dit row).getD i Str.empty) (dit row):=by
 unfold Xcp
 rw[Xzy hi,X1w,X1v,X2d,X0m]
 simp[List.getD,hi]
theorem Xkc(row:List Str)(x:Str){j:Nat}(hj:j<(dit row).length):Xch row x ((dit row).take (j+1))=Xch row x ((dit row).take j)++(if barB row x ((dit row).getD j Str.empty)=true then [(x,(dit row).getD j Str.empty,lieR row x ((dit row).getD j Str.empty))] else []):=by
 unfold Xch
 have e:(dit row).getD j Str.empty=(dit row)[j]:=by simp[List.getD,hj]
 rw[Xzy hj,Xz7,Xzq,e,X0l]
 split<;>rfl
theorem Xg1(row:List Str)(x:Str)(ys:List Str):(Xch row x ys).length<=ys.length:=by
 unfold Xch
 rw[Xzk]
 exact X0i ..
theorem Xlk(row:List Str)(i:Nat):(Xcp row i).length<=i * (dit row).length:=by
 unfold Xcp
 rw[List.length_flatMap]
 have h:∀l:List Str,(l.map λx=>(Xch row x (dit row)).length).sum<=l.length * (dit row).length:=by
  intro l
  induction l with
  | nil=>simp
  | cons x l ih=>
   rw[Xz9,X1r,X0a,Nat.succ_mul]
   have:=Xg1 row x (dit row)
   omega
 refine X0c (h _) (Nat.mul_le_mul_right _ ?_)
 rw[Xz6]
 omega
abbrev NFl:List Str:=["_law_plot", "_law_name"]
abbrev NFl1:List Str:=["_law_one", "_law_name"]
abbrev NOd:List Str:=["_law_draw", "_law_row_here", "_law_plot", "_law_way", "_law_at", "_law_name"]
abbrev NFi:List Str:=["_law_bars_here", "_law_plot", "_law_one", "_law_other", "_law_word_here"]
abbrev NBr:List Str:=["_law_row_here", "_law_where_here", "_law_told", "_law_one", "_law_other", "_law_word_here"]
abbrev NGo:List Str:=["_law_row_here", "_law_plot"]
abbrev NGo1:List Str:=["_law_name", "_law_plot"]
theorem Xvg{α : Type}(f : α->V)(xs:List α)(b:Nat):cutV (xs.map f) none (some (b:Int))=(xs.take b).map f:=by
 by_cases hb:b<=xs.length
 ·exact Xdu f xs b hb
 ·unfold cutV
  rw[HT.sIx_none,X25,HT.sIx_nat,Xzk,Nat.min_eq_right (by omega),Nat.sub_zero,X1y (by rw[Xzk];omega),X1y (by omega)]
def Xg2 (C:Addr):Sp:=λvs H Q E=>∃(r p:Addr) (row ss:List Str),vs=[.ref r,.ref p]/\H r=some (.lst (row.map V.str))/\Row2 row/\H p=some (.tup (ss.map V.str))/\(∀y∈ss,okN y)/\ss.length<=24 /\
 (isPlotB row ss=true->∀H',Same H H'->Q .non H')/\(isPlotB row ss=false->∀H',Same H H'->E (.ref C) none H')
def spBankOf:Sp:=λvs H Q _=>∃(p:Addr) (ss:List Str) (x:Str),vs=[.ref p,.str x]/\H p=some (.tup (ss.map V.str))/\∀H',Same H H'->Q (.str (if x∈ss then "off" else "home")) H'
theorem Xvh{ss:List Str}(h:∀y∈ss,okN y):∀z∈ss,z.length<=20/\∀c∈z.cps.toList,c<16 ^ 8:=λz hz=>⟨(h z hz).1,λc hc=>X1i ((h z hz).2 c hc) (by decide)⟩
theorem DrawOk.ntup{H:Hp}{dr sc:Addr}(d:DrawOk H dr sc):∀q ys,H q=some (.tup ys)->q≠dr:=λq ys e z=>by
 obtain⟨xs,h⟩:=d.at
 rw[z,h] at e
 cases e
def mid (row:List Str) (x:Str):List Str:=((row.dropWhile λy=>decide (y≠x)).tail).takeWhile λy=>decide (y≠x)
theorem Xty{x y:Str}{r:List Str}(h:x∉y::r):decide (y≠x)=true:=by
 have:y≠x:=λe=>h (by rw[e];exact Xzp)
 simpa using this
theorem Xn2{A R:List Str}{x:Str}(h:x∉A):(A++x::R).dropWhile (λy=>decide (y≠x))=x::R:=by
 induction A with
 | nil=>rw[X12,X1m,X3h (by simp)]
 | cons y r ih=>
  rw[List.cons_append,X1m,X3i (Xty h)]
  exact ih λz=>h (Xzo _ z)
theorem Xn3{A R:List Str}{x:Str}(h:x∉A):(A++x::R).takeWhile (λy=>decide (y≠x))=A:=by
 induction A with
 | nil=>rw[X12,X1n,X3h (by simp)]
 | cons y r ih=>
  rw[List.cons_append,X1n,X3i (Xty h)]
  rw[ih λz=>h (Xzo _ z)]
theorem Xg3{A B C:List Str}{x:Str}(hA:x∉A)(hB:x∉B):mid (A++x::(B++x::C)) x=B:=by
 unfold mid
 rw[Xn2 hA,List.tail_cons,Xn3 hB]
theorem split1{x:Str}:∀{row:List Str},x∈row->∃A R,row=A++x::R/\x∉A:=by
 intro row
 induction row with
 | nil=>intro h;cases h
 | cons y r ih=>
  intro h
  by_cases e:x=y
  ·exact⟨[],r,by rw[e];rfl,by simp⟩
  ·obtain⟨A,R,h1,h2⟩:=ih ((Xzw.mp h).resolve_left e)
   exact⟨y::A,R,by rw[h1];rfl,λz=>(Xzw.mp z).elim e h2⟩
theorem split2{row:List Str}{x:Str}(h:row.count x=2):∃A B C,row=A++x::(B++x::C)/\x∉A/\x∉B/\x∉C:=by
 obtain⟨A,R,h1,h2⟩:=split1 (X21.mp (by omega:0<row.count x))
 rw[h1,X1t,X10.mpr h2,X2a] at h
 have hR:R.count x=1:=by omega
 obtain⟨B,C,h3,h4⟩:=split1 (X21.mp (by omega:0<R.count x))
 rw[h3,X1t,X10.mpr h4,X2a] at hR
 exact⟨A,B,C,by rw[h1,h3],h2,h4,X10.mp (by omega)⟩
theorem Xe0(x:Str):∀(n:Nat) (l r:List Str),plcF x n (l++r)=plcF x n l++plcF x (n+l.length) r
 | n,[],r=>rfl
 | n,y::l,r=>by
  have ih:=Xe0 x (n+1) l r
  have e:n+(y::l).length=n+1+l.length:=by rw[X0a];omega
  rw[e]
  show (if y=x then (n:Int)::plcF x (n+1) (l++r) else plcF x (n+1) (l++r))=(if y=x then (n:Int)::plcF x (n+1) l else plcF x (n+1) l)++_
  rw[ih]
  split<;>rfl
theorem Xf9(x:Str):∀(n:Nat) (l:List Str),∀i∈plcF x n l,(n:Int)<=i/\i<n+l.length
 | n,[]=>λi h=>by cases h
 | n,y::l=>λi h=>by
  have ih:=Xf9 x (n+1) l
  have h':i=n\/i∈plcF x (n+1) l:=by
   change i∈(if y=x then (n:Int)::plcF x (n+1) l else plcF x (n+1) l) at h
   split at h
   ·exact Xzw.mp h
   ·exact .inr h
  rw[X0a]
  rcases h' with rfl | h'
  ·omega
  ·have:=ih i h'
   omega
theorem Xga{x:Str}:∀(n:Nat) (l:List Str),x∉l->plcF x n l=[]
 | _,[],_=>rfl
 | n,y::l,h=>by
  show (if y=x then (n:Int)::plcF x (n+1) l else plcF x (n+1) l)=[]
  rw[X3h (λe=>h (by rw[e];exact Xzp))]
  exact Xga _ _ λz=>h (Xzo _ z)
theorem Xvi{row:List Str}{x y:Str}(hx:row.count x=2)(n:x≠y):nIn (pl row x).1 (pl row x).2 (plc row y)=(mid row x).count y:=by
 obtain⟨A,B,C,e,hA,hB,hC⟩:=split2 hx
 have ex:plc row x=[(A.length:Int),((A.length+1+B.length:Nat):Int)]:=by
  unfold plc
  rw[e,Xe0,Xga _ _ hA]
  show []++(if x=x then _ else _)=_
  rw[X3i rfl,Xe0,Xga _ _ hB]
  show []++(_::([]++(if x=x then _ else _)))=_
  rw[X3i rfl,Xga _ _ hC]
  simp
 have ey:plc row y=plcF y 0 A++(plcF y (A.length+1) B++plcF y (A.length+1+B.length+1) C):=by
  unfold plc
  rw[e,Xe0]
  show _++(if x=y then _ else _)=_
  rw[X3h n,Xe0]
  show _++(_++(if x=y then _ else _))=_
  rw[X3h n]
  simp
 rw[Xxu ex,ey]
 unfold nIn inn
 rw[Xz7,Xz7]
 have e1:(plcF y 0 A).filter (λt=>decide ((A.length:Int)<t)&&decide (t<((A.length+1+B.length:Nat):Int)))=[]:=by
  rw[X1o]
  intro i hi
  have:=Xf9 y 0 A i hi
  simp
  intro
  omega
 have e2:(plcF y (A.length+1) B).filter (λt=>decide ((A.length:Int)<t)&&decide (t<((A.length+1+B.length:Nat):Int)))=plcF y (A.length+1) B:=by
  rw[X0d]
  intro i hi
  have:=Xf9 y (A.length+1) B i hi
  simp
  omega
 have e3:(plcF y (A.length+1+B.length+1) C).filter (λt=>decide ((A.length:Int)<t)&&decide (t<((A.length+1+B.length:Nat):Int)))=[]:=by
  rw[X1o]
  intro i hi
  have:=Xf9 y _ C i hi
  simp
  intro
  omega
 rw[e1,e2,e3,X12,X0m,Xf4]
 rw[e,Xg3 hA hB]
def Xa1 (row:List Str) (x y:Str):Prop:=lieR row x y = "cross"
instance (row:List Str) (x y:Str):Decidable (Xa1 row x y):=inferInstanceAs (Decidable (_=_))
theorem Xfq{a b c e:Int}:Xhg a b c e false = "cross" ↔ nIn a b [c,e]=1:=by
 unfold Xhg
 have e3:(inn a b [c,e]).length=nIn a b [c,e]:=rfl
 have h2:(inn a b [c,e]).length<=2:=Xpy a b [c,e]
 rw[e3] at *
 generalize nIn a b [c,e]=q at *
 match q,h2 with
 | 0,_=>
  rw[X3h (by decide)]
  split<;>decide
 | 1,_=>rw[X3i (by decide)];decide
 | 2,_=>rw[X3i (by decide)];decide
theorem Xe1{row:List Str}{x y:Str}(hx:row.count x=2)(hy:row.count y=2)(n:x≠y):Xa1 row x y↔(mid row x).count y=1:=by
 unfold Xa1
 rw[Xc8 hx hy,X3k n,Xfq,<-Xgz hy,Xvi hx n]
theorem Xcn{row:List Str}{x:Str}(hx:row.count x=2):¬Xa1 row x x:=by
 unfold Xa1 lieR lieT
 rw[X3i ⟨rfl,rfl⟩]
 decide
theorem Xbk{row:List Str}{x y:Str}(hx:row.count x=2)(hy:row.count y=2)(h:Xa1 row x y):Xa1 row y x:=by
 by_cases n:x=y
 ·subst n;exact h
 ·obtain⟨n1,n2,n3,n4⟩:=Xlh hx hy n
  unfold Xa1 at *
  rw[Xc8 hx hy,X3k n,Xfq,nIn2] at h
  rw[Xc8 hy hx,X3k (λe=>n e.symm),Xfq,nIn2]
  have l1:=Xd6 hx
  have l2:=Xd6 hy
  generalize (pl row x).1=a at *
  generalize (pl row x).2=b at *
  generalize (pl row y).1=c at *
  generalize (pl row y).2=e at *
  by_cases p1:a<c/\c<b<;>by_cases p2:a<e/\e<b<;>by_cases q1:c<a/\a<e<;>by_cases q2:c<b/\b<e <;>
  (first | rw[X3i p1] at h | rw[X3h p1] at h)<;>(first | rw[X3i p2] at h | rw[X3h p2] at h) <;>
  (first | rw[X3i q1] | rw[X3h q1])<;>(first | rw[X3i q2] | rw[X3h q2])<;>omega
theorem Xhs{x:Str}{p:Str->Bool}(h:p x=true):∀row:List Str,mid (row.filter p) x=(mid row x).filter p:=by
 have tk:∀l:List Str,(l.filter p).takeWhile (λy=>decide (y≠x))=(l.takeWhile λy=>decide (y≠x)).filter p:=by
  intro l
  induction l with
  | nil=>rfl
  | cons y r ih=>
   by_cases e:y=x
   ·subst e
    rw[X0l,X3i h,X1n,X3h (by simp),X1n,X3h (by simp)]
    rfl
   ·rw[X1n,X3i (X3j e),X0l,X0l]
    by_cases q:p y=true
    ·rw[X3i q,X3i q,X1n,X3i (X3j e),ih]
    ·rw[X3h q,X3h q,ih]
 intro row
 unfold mid
 rw[<-tk]
 congr 1
 induction row with
 | nil=>rfl
 | cons y r ih=>
  by_cases e:y=x
  ·subst e
   rw[X0l,X3i h,X1m,X3h (by simp),X1m,X3h (by simp)]
   rfl
  ·rw[X1m,X3i (X3j e),<-ih,X0l]
   by_cases q:p y=true
   ·rw[X3i q,X1m,X3i (X3j e)]
   ·rw[X3h q]
theorem Xll{row row':List Str}{x y:Str}(hx:row.count x=2)(hy:row.count y=2)(hx':row'.count x=2)(hy':row'.count y=2)
  (e:row.filter (λz=>decide (z=x\/z=y))=row'.filter (λz=>decide (z=x\/z=y))):Xa1 row x y↔Xa1 row' x y:=by
 by_cases n:x=y
 ·subst n
  exact⟨λh=>absurd h (Xcn hx),λh=>absurd h (Xcn hx')⟩
 ·rw[Xe1 hx hy n,Xe1 hx' hy' n]
  have h1:∀r:List Str,(mid r x).count y=(mid (r.filter λz=>decide (z=x\/z=y)) x).count y:=λr=>by
   rw[Xhs (by simp),List.count_filter (by simp)]
  rw[h1 row,h1 row',e]
def Xbx (row:List Str):Prop:=∀x∈row,∀y∈row,∀z∈row,Xa1 row x y->Xa1 row x z->¬Xa1 row y z
theorem Xlm:Xbx []:=λx h=>by cases h
theorem Xg4{row more:List Str}{x:Str}(h:Xbx row)(h2:∀y∈row,row.count y=2)(h2':∀y∈more,more.count y=2)(hin:∀y∈more,y=x\/y∈row)
  (hf:∀p:Str->Bool,p x=false->more.filter p=row.filter p) (hb:∀y∈more,∀z∈more,Xa1 more x y->Xa1 more x z->¬Xa1 more y z):Xbx more:=by
 intro a ha b hb' c hc k1 k2 k3
 have s12:=Xbk (h2' a ha) (h2' b hb') k1
 have s13:=Xbk (h2' a ha) (h2' c hc) k2
 have s23:=Xbk (h2' b hb') (h2' c hc) k3
 by_cases ea:a=x
 ·subst ea;exact hb b hb' c hc k1 k2 k3
 by_cases eb:b=x
 ·subst eb;exact hb a ha c hc s12 k3 k2
 by_cases ec:c=x
 ·subst ec;exact hb a ha b hb' s13 s23 k1
 have ra:=(hin a ha).resolve_left ea
 have rb:=(hin b hb').resolve_left eb
 have rc:=(hin c hc).resolve_left ec
 have go:∀u v:Str,u≠x->v≠x->u∈row->v∈row->u∈more->v∈more->Xa1 more u v->Xa1 row u v:=λu v nu nv hu hv mu mv k=>
  (Xll (h2' u mu) (h2' v mv) (h2 u hu) (h2 v hv) (hf _ (by
   rw[decide_eq_false_iff_not]
   rintro (e | e)
   ·exact nu e.symm
   ·exact nv e.symm))).mp k
 exact h a ra b rb c rc (go a b ea eb ra rb ha hb' k1) (go a c ea ec ra rc ha hc k2) (go b c eb ec rb rc hb' hc k3)
theorem Xln{row:List Str}{x:Str}{a b:Nat}(hab:a<=b){p:Str->Bool}(h:p x=false):(putR row x a b).filter p=row.filter p:=by
 unfold putR
 have e:row=row.take a++((row.drop a).take (b - a)++row.drop b):=by
  have e1:row.drop b=(row.drop a).drop (b - a):=by rw[List.drop_drop];congr 1;omega
  rw[e1,X0u,X0u]
 conv=>rhs;rw[e]
 simp[Xz7,X0l,h]
theorem Xsp{A C:List Str}{x y:Str}(hx:(A++[x,x]++C).count x=2)(hy:(A++[x,x]++C).count y=2):¬Xa1 (A++[x,x]++C) x y:=by
 by_cases n:x=y
 ·subst n;exact Xcn hx
 ·rw[Xe1 hx hy n]
  have hA:x∉A:=by
   rw[<-X10]
   rw[X1t,X1t,X2a,X2a] at hx
   omega
  have e:A++[x,x]++C=A++x::([]++x::C):=by simp
  rw[e,Xg3 hA (by simp)]
  simp
theorem Xlo{row:List Str}{x:Str}{a:Nat}{p:Str->Bool}(h:p x=false):(row.take a++[x,x]++row.drop a).filter p=row.filter p:=by
 simp[Xz7,X0l,h]
 rw[<-Xz7,X0u]
theorem Xp6{F:List Str}{x y:Str}(hF:F.Nodup)(hx:x∈F)(n:x≠y):(mid (F++F.reverse) x).count y≠1:=by
 obtain⟨A,B,rfl,hA⟩:=split1 hx
 have hB:x∉B:=by
  have h1:=(X04.mp hF).2.1
  exact(X02.mp h1).1
 have e:(A++x::B)++(A++x::B).reverse=A++x::((B++B.reverse)++x::A.reverse):=by simp
 rw[e,Xg3 hA (by simp[hB]),X1t,List.count_reverse]
 omega
theorem Xc3{ns:List Str}(hn:ns.Nodup)(c:Nat){x y:Str}(h2:∀z∈ns,(ns++(ns.take c).reverse++(ns.drop c).reverse).count z=2)
  (h:(x∈ns.take c/\y∈ns.take c)\/(x∈ns.drop c/\y∈ns.drop c)):¬Xa1 (ns++(ns.take c).reverse++(ns.drop c).reverse) x y:=by
 have sub:(∀z,z∈ns.take c->z∈ns)/\∀z,z∈ns.drop c->z∈ns:=⟨λz=>X1a,λz=>X1h⟩
 have hx:x∈ns:=h.elim (λz=>sub.1 _ z.1) λz=>sub.2 _ z.1
 have hy:y∈ns:=h.elim (λz=>sub.1 _ z.2) λz=>sub.2 _ z.2
 by_cases n:x=y
 ·subst n;exact Xcn (h2 x hx)
 rw[Xe1 (h2 x hx) (h2 y hy) n]
 have key:(mid (ns++(ns.take c).reverse++(ns.drop c).reverse) x).count y=(mid ((ns++(ns.take c).reverse++(ns.drop c).reverse).filter λz=>decide (z=x\/z=y)) x).count y:=by
  rw[Xhs (by simp),List.count_filter (by simp)]
 rw[key]
 have dj:∀z,z∈ns.take c->z∈ns.drop c->False:=by
  have:=hn
  rw[<-X0u c ns] at this
  intro z h1 h2
  exact(X04.mp this).2.2 z h1 z h2 rfl
 have e0:ns.filter (λz=>decide (z=x\/z=y))=(ns.take c).filter (λz=>decide (z=x\/z=y))++(ns.drop c).filter (λz=>decide (z=x\/z=y)):=by
  rw[<-Xz7,X0u]
 rw[Xz7,Xz7,e0,List.filter_reverse,List.filter_reverse]
 rcases h with ⟨h1,h2⟩ | ⟨h1,h2⟩
 ·have e:(ns.drop c).filter (λz=>decide (z=x\/z=y))=[]:=by
   rw[X1o]
   intro z hz q
   rcases X3l q with q | q
   ·exact dj x h1 (q ▸ hz)
   ·exact dj y h2 (q ▸ hz)
  rw[e,X0m,List.reverse_nil,X0m]
  exact Xp6 ((hn.sublist (X1j ..)).filter _) (Xzu.mpr ⟨h1,by simp⟩) n
 ·have e:(ns.take c).filter (λz=>decide (z=x\/z=y))=[]:=by
   rw[X1o]
   intro z hz q
   rcases X3l q with q | q
   ·exact dj x (q ▸ hz) h1
   ·exact dj y (q ▸ hz) h2
  rw[e,X12,List.reverse_nil,X0m]
  exact Xp6 ((hn.sublist (List.drop_sublist ..)).filter _) (Xzu.mpr ⟨h1,by simp⟩) n
theorem noThree_grid{ns:List Str}(hn:ns.Nodup)(c:Nat)(h2:∀z∈ns,(ns++(ns.take c).reverse++(ns.drop c).reverse).count z=2):Xbx (ns++(ns.take c).reverse++(ns.drop c).reverse):=by
 have mem:∀z,z∈ns++(ns.take c).reverse++(ns.drop c).reverse->z∈ns.take c\/z∈ns.drop c:=by
  intro z hz
  rw[<-Xzv,X0u]
  simp only[Xzv,List.mem_reverse] at hz
  rcases hz with (h | h) | h
  ·exact h
  ·exact X1a h
  ·exact X1h h
 intro x hx y hy z hz k1 k2 k3
 rcases mem x hx with a | a<;>rcases mem y hy with b | b<;>rcases mem z hz with d | d
 ·exact Xc3 hn c h2 (.inl ⟨a,b⟩) k1
 ·exact Xc3 hn c h2 (.inl ⟨a,b⟩) k1
 ·exact Xc3 hn c h2 (.inl ⟨a,d⟩) k2
 ·exact Xc3 hn c h2 (.inr ⟨b,d⟩) k3
 ·exact Xc3 hn c h2 (.inl ⟨b,d⟩) k3
 ·exact Xc3 hn c h2 (.inr ⟨a,d⟩) k2
 ·exact Xc3 hn c h2 (.inr ⟨a,b⟩) k1
 ·exact Xc3 hn c h2 (.inr ⟨a,b⟩) k1
def spBarredN:Sp:=λvs H Q _=>∃(r:Addr) (row:List Str) (x:Str),vs=[.ref r,.str x]/\H r=some (.lst (row.map V.str))/\row.length<=1000/\(∀y∈row,row.count y=2)/\x∈row /\
 ∀b H',(b=false->∀y∈row,∀z∈row,Xa1 row x y->Xa1 row x z->¬Xa1 row y z)->Same H H'->Q (.bl b) H'
def spRowN:Sp:=λvs H Q _=>∃(dr sc nl:Addr) (ns:List Str),vs=[.ref dr,.ref nl]/\DrawOk H dr sc/\H nl=some (.lst (ns.map V.str))/\nl≠dr/\ns.Nodup/\ns.length<=14 /\
 ∀(l:Addr) (row:List Str) (H':Hp),H l=none->H' l=some (.lst (row.map V.str))->row.Perm (ns++ns)->Xbx row->DrawOk H' dr sc->But dr H H'->Q (.ref l) H'
def spIslandN:Sp:=λvs H Q _=>∃(dr sc:Addr) (m:Nat),vs=[.ref dr,.int m]/\m<=14/\DrawOk H dr sc /\
 ∀(l:Addr) (row:List Str) (n st:Nat) (late:Bool) (H':Hp),H l=none->n<=m->st<26->H' l=some (.lst (row.map V.str))->row.Perm (Xaw st late n++Xaw st late n)->Xbx row->DrawOk H' dr sc->But dr H H'->Q (.ref l) H'
theorem Xkd{p:Prop}{_:Decidable p}(h:decide p=false):¬p:=X3m h
theorem Wh.pl{H:Hp}{kvs:List (Key×V)}{row:List Str}{x:Str}(w:Wh H kvs row)(hx:x∈row)(h:row.count x=2):∃l,valV kvs (Sum.inr x:Key)=some (.ref l)/\H l=some (.lst [.int (pl row x).1,.int (pl row x).2]):=by
 obtain⟨l,h1,h2⟩:=w.val x hx
 rw[Xgz h] at h2
 exact⟨l,h1,h2⟩
def deg2 {α : Type} (R : α -> α->Bool) (l:List α):Nat:=(l.map λx=>l.countP (R x)).sum
theorem Xsq{a b:List Nat}(p:a.Perm b):a.sum=b.sum:=by
 induction p with
 | nil=>rfl
 | cons x _ ih=>simp[ih]
 | swap x y l=>simp;omega
 | trans _ _ h1 h2=>exact h1.trans h2
theorem Xp7{α : Type}{R : α -> α->Bool}{a b:List α}(p:a.Perm b):deg2 R a=deg2 R b:=by
 unfold deg2
 have e:(a.map λx=>a.countP (R x))=a.map λx=>b.countP (R x):=X0x λx _=>p.countP_eq _
 rw[e]
 exact Xsq (p.map _)
theorem Xeh{α : Type}(f g : α->Nat):∀l:List α,(l.map λx=>f x+g x).sum=(l.map f).sum+(l.map g).sum
 | []=>rfl
 | x::r=>by simp[Xeh f g r];omega
theorem Xbu{α : Type}(p : α->Bool):∀l:List α,(l.map λx=>if p x=true then 1 else 0).sum=l.countP p
 | []=>rfl
 | x::r=>by
  rw[Xz9,X1r,Xbu p r,X0y]
  omega
theorem Xmy{α : Type}:∀l:List α,(l.map λ_=>0).sum=0
 | []=>rfl
 | _::r=>by rw[Xz9,X1r,Xmy r]
theorem mantel{α : Type}[DecidableEq α]{R : α -> α->Bool}:∀(n:Nat) (l:List α),l.length=n->l.Nodup->(∀x∈l,R x x=false)->(∀x∈l,∀y∈l,R x y=R y x) ->
  (∀x∈l,∀y∈l,∀z∈l,R x y=true->R x z=true->R y z=false)->2 * deg2 R l<=n * n:=by
 intro n
 induction n using Nat.strongRecOn with
 | ind n ih=>
  intro l hl nd irr sy tri
  by_cases h:∃u∈l,∃v∈l,R u v=true
  ·obtain⟨u,hu,v,hv,huv⟩:=h
   have nuv:u≠v:=λe=>by subst e;rw[irr u hu] at huv;cases huv
   have p1:l.Perm (u::l.erase u):=List.perm_cons_erase hu
   have hv':v∈l.erase u:=(List.mem_erase_of_ne nuv.symm).mpr hv
   have p2:l.Perm (u::v::(l.erase u).erase v):=p1.trans (List.Perm.cons u (List.perm_cons_erase hv'))
   generalize (l.erase u).erase v=r at p2
   have hlen:=p2.length_eq
   simp only[X0a] at hlen
   have nd':=p2.nodup_iff.mp nd
   have mr:∀x∈r,x∈l:=λx hx=>p2.mem_iff.mpr (Xzo _ (Xzo _ hx))
   have ndr:r.Nodup:=(X02.mp (X02.mp nd').2).2
   have ihr:=ih r.length (by omega) r rfl ndr (λx hx=>irr x (mr x hx)) (λx hx y hy=>sy x (mr x hx) y (mr y hy)) (λx hx y hy z hz=>tri x (mr x hx) y (mr y hy) z (mr z hz))
   have e:deg2 R l=2+2 * (r.countP (R u)+r.countP (R v))+deg2 R r:=by
    rw[Xp7 p2]
    unfold deg2
    rw[Xz9,Xz9,X1r,X1r]
    have ef:(r.map λx=>(u::v::r).countP (R x))=r.map λx=>((if R u x=true then 1 else 0)+(if R v x=true then 1 else 0))+r.countP (R x):=by
     refine X0x λx hx=>?_
     rw[X0y,X0y,sy x (mr x hx) u hu,sy x (mr x hx) v hv]
     omega
    rw[ef,Xeh,Xeh,Xbu,Xbu,X0y,X0y,X0y,X0y,irr u hu,irr v hv,huv,sy v hv u hu,huv]
    simp
    omega
   have le:r.countP (R u)+r.countP (R v)<=r.length:=by
    rw[<-Xbu (R u),<-Xbu (R v),<-Xeh]
    have:∀m:List α,(∀x∈m,x∈l)->(m.map λx=>(if R u x=true then 1 else 0)+(if R v x=true then 1 else 0)).sum<=m.length:=by
     intro m
     induction m with
     | nil=>intro _;exact Xzn _
     | cons x t iht=>
      intro hm
      have h1:=iht λy hy=>hm y (Xzo _ hy)
      have hx:=hm x Xzp
      have h2:(if R u x=true then 1 else 0)+(if R v x=true then 1 else 0)<=1:=by
       by_cases a:R u x=true
       ·have:=tri u hu v hv x hx huv a
        rw[this,X3i a]
        decide
       ·rw[X3h a]
        split<;>decide
      rw[Xz9,X1r,X0a]
      omega
    exact this r mr
   have hn:n=r.length+2:=by omega
   rw[e,hn]
   have:(r.length+2) * (r.length+2)=r.length * r.length+4 * r.length+4:=by
    rw[Nat.add_mul,Nat.mul_add];omega
   rw[this]
   omega
  ·have z:deg2 R l=0:=by
    unfold deg2
    have:(l.map λx=>l.countP (R x))=l.map λ_=>0:=by
     refine X0x λx hx=>?_
     rw[List.countP_eq_zero]
     intro y hy q
     exact h ⟨x,hx,y,hy,q⟩
    rw[this]
    exact Xmy l
   rw[z]
   exact X0k _
theorem Xmz{α β : Type}(p : α -> β->Bool)(m:List β):∀l:List α,(l.map λx=>m.countP (p x)).sum=(m.map λy=>l.countP λx=>p x y).sum
 | []=>by
  show 0=_
  induction m with
  | nil=>rfl
  | cons y r ih=>rw[Xz9,X1r,<-ih];rfl
 | x::l=>by
  rw[Xz9,X1r,Xmz p m l]
  have e:(m.map λy=>(x::l).countP λx=>p x y)=m.map λy=>(if p x y=true then 1 else 0)+l.countP λx=>p x y:=by
   refine X0x λy _=>?_
   rw[X0y]
   omega
  rw[e,Xeh,Xbu]
theorem Xvj{row:List Str}(h2:∀y∈row,row.count y=2):2 * (crs row).length=deg2 (λx y=>decide (Xa1 row x y)) (dit row):=by
 have e:(crs row).length=((dit row).map λx=>(dit row).countP λy=>decide (ltS x y)&&decide (Xa1 row x y)).sum:=by
  unfold crs
  rw[List.length_flatMap]
  congr 1
  refine X0x λx _=>?_
  rw[Xzk,X11]
  rfl
 have e2:=Xmz (λx y=>decide (ltS x y)&&decide (Xa1 row x y)) (dit row) (dit row)
 have e3:2 * (crs row).length=((dit row).map λx=>(dit row).countP λy=>decide (ltS x y)&&decide (Xa1 row x y)).sum+((dit row).map λy=>(dit row).countP λx=>decide (ltS x y)&&decide (Xa1 row x y)).sum:=by
  rw[<-e2,e];omega
 rw[e3,<-Xeh]
 unfold deg2
 congr 1
 refine X0x λx hx=>?_
 rw[<-Xbu,<-Xbu,<-Xbu,<-Xeh]
 congr 1
 refine X0x λy hy=>?_
 have hx':=Xai.mp hx
 have hy':=Xai.mp hy
 by_cases c:Xa1 row x y
 ·have c':=Xbk (h2 x hx') (h2 y hy') c
  have n:x≠y:=λe=>by subst e;exact Xcn (h2 x hx') c
  by_cases l:ltS x y
  ·have l':¬ltS y x:=λq=>Xc6 x (Xds l q)
   simp[c,c',l,l']
  ·have l':ltS y x:=ltS_of (Xk9.mp l) n.symm
   simp[c,c',l,l']
 ·have c':¬Xa1 row y x:=λq=>c (Xbk (h2 y hy') (h2 x hx') q)
  simp[c,c']
theorem Xtz{row:List Str}(h2:∀y∈row,row.count y=2)(h3:Xbx row)(hl:(dit row).length<=14):(crs row).length<=49:=by
 have m:=mantel (R:=λx y=>decide (Xa1 row x y)) (dit row).length (dit row) rfl (Xgu row) (λx hx=>X3k (Xcn (h2 x (Xai.mp hx))))
  (λx hx y hy=>by
   by_cases c:Xa1 row x y
   ·rw[X3j c,X3j (Xbk (h2 x (Xai.mp hx)) (h2 y (Xai.mp hy)) c)]
   ·rw[X3k c,X3k λq=>c (Xbk (h2 y (Xai.mp hy)) (h2 x (Xai.mp hx)) q)])
  (λx hx y hy z hz a b=>X3k (h3 x (Xai.mp hx) y (Xai.mp hy) z (Xai.mp hz) (X3l a) (X3l b)))
 rw[<-Xvj h2] at m
 have:(dit row).length * (dit row).length<=14 * 14:=Nat.mul_le_mul hl hl
 omega
def upB (row:List Str) (x y:Str):Bool:=decide (y=x)||decide (lieR row x y = "within")
def span (row:List Str) (x:Str):Nat:=((pl row x).2 - (pl row x).1).toNat
theorem Xsr(a b c e:Int):lieT a b c e = "same" \/ lieT a b c e = "cross" \/ lieT a b c e = "within" \/ lieT a b c e = "around" \/ lieT a b c e = "apart" := by
 unfold lieT
 split
 ·exact .inl rfl
 ·split
  ·exact .inr (.inl rfl)
  ·split
   ·exact .inr (.inr (.inl rfl))
   ·split
    ·exact .inr (.inr (.inr (.inl rfl)))
    ·exact .inr (.inr (.inr (.inr rfl)))
theorem Xlp{row:List Str}{x y:Str}(hx:row.count x=2)(hy:row.count y=2)(n:x≠y)(h:lieR row x y = "around"):span row y<span row x:=by
 obtain⟨n1,n2,n3,n4⟩:=Xlh hx hy n
 have l1:=Xd6 hx
 have l2:=Xd6 hy
 unfold span
 unfold lieR lieT at h
 rw[X3h (λz=>n1 z.1)] at h
 split at h
 ·exact absurd h (by decide)
 ·split at h
  ·exact absurd h (by decide)
  ·split at h
   ·rename_i q
    rw[nIn2] at q
    generalize (pl row x).1=a at *
    generalize (pl row x).2=b at *
    generalize (pl row y).1=c at *
    generalize (pl row y).2=e at *
    by_cases p1:a<c/\c<b
    ·by_cases p2:a<e/\e<b
     ·omega
     ·rw[X3i p1,X3h p2] at q;omega
    ·rw[X3h p1] at q
     split at q<;>omega
   ·exact absurd h (by decide)
theorem Xp8{row:List Str}{x y:Str}(hx:row.count x=2)(hy:row.count y=2)(h:lieR row x y = "same"):x=y:=by
 refine Classical.byContradiction λn=>?_
 obtain⟨n1,n2,n3,n4⟩:=Xlh hx hy n
 unfold lieR lieT at h
 rw[X3h (λz=>n1 z.1)] at h
 split at h
 ·exact absurd h (by decide)
 ·split at h
  ·exact absurd h (by decide)
  ·split at h
   ·exact absurd h (by decide)
   ·exact absurd h (by decide)
theorem least{α : Type}(f : α->Nat):∀l:List α,l≠[]->∃a∈l,∀b∈l,f a<=f b
 | [],h=>absurd rfl h
 | [a],_=>⟨a,Xzp,λb hb=>by rw[Xzr.mp hb];exact Xzn _⟩
 | a::c::r,_=>by
  obtain⟨m,hm,hl⟩:=least f (c::r) (by simp)
  by_cases q:f a<=f m
  ·exact⟨a,Xzp,λb hb=>by
    rcases Xzw.mp hb with e | e
    ·rw[e];exact Xzn _
    ·exact X0c q (hl b e)⟩
  ·exact⟨m,Xzo _ hm,λb hb=>by
    rcases Xzw.mp hb with e | e
    ·rw[e];omega
    ·exact hl b e⟩
def cands (row:List Str):List (List Str):=(dit row).map (λa=>(dit row).filter (upB row a))++(crs row).map λp=>(dit row).filter λy=>upB row p.1 y||upB row p.2 y
theorem Xke{row S:List Str}(h2:∀y∈row,row.count y=2)(h3:Xbx row)(hne:S≠[])(hg:isPlotB row S=true):S∈cands row:=by
 have hg':=hg
 rw[<-Xim h2] at hg'
 unfold Xj9 at hg'
 rw[Xz3] at hg'
 have hS:=X3l hg'.1
 unfold isPlotB at hg
 rw[Xz3,Xz3] at hg
 obtain⟨⟨_,hrow⟩,hal⟩:=hg
 have inr:∀x∈S,x∈row:=λx hx=>X3l (Xz8.mp hrow x hx)
 have al:∀x∈S,∀y∈row,Xbp (lieR row x y) (decide (y∈S))=true:=λx hx y hy=>Xz8.mp (Xz8.mp hal x hx) y (Xai.mpr hy)
 have within:∀x∈S,∀y∈row,lieR row x y = "within" -> y∈S:=λx hx y hy e=>by
  have:=al x hx y hy
  unfold Xbp at this
  rw[X3i e] at this
  exact X3l this
 have apart:∀x∈S,∀y∈S,lieR row x y ≠ "apart" := λx hx y hy e=>by
  have:=al x hx y (inr y hy)
  unfold Xbp at this
  rw[X3h (by rw[e];decide),e,X3j hy] at this
  exact absurd this (by decide)
 have how:∀a∈S,∀c∈S,upB row a c=false->¬span row c<span row a->Xa1 row a c:=λa ha c hc hu hs=>by
  have hu':=Bool.or_eq_false_iff.mp hu
  have n1:c≠a:=X3m hu'.1
  have n2:=X3m hu'.2
  rcases Xsr (pl row a).1 (pl row a).2 (pl row c).1 (pl row c).2 with q | q | q | q | q
  ·exact absurd (Xp8 (h2 a (inr a ha)) (h2 c (inr c hc)) q).symm n1
  ·exact q
  ·exact absurd q n2
  ·exact absurd (Xlp (h2 a (inr a ha)) (h2 c (inr c hc)) (λe=>n1 e.symm) q) hs
  ·exact absurd q (apart a ha c hc)
 have upin:∀a∈S,∀y∈row,upB row a y=true->y∈S:=λa ha y hy q=>by
  rcases X2t.mp q with q | q
  ·rw[X3l q];exact ha
  ·exact within a ha y hy (X3l q)
 obtain⟨a,ha,la⟩:=least (span row) S hne
 unfold cands
 rw[Xzv]
 by_cases hall:∀c∈S,upB row a c=true
 ·left
  rw[Xz4]
  refine⟨a,Xai.mpr (inr a ha),?_⟩
  rw[hS]
  refine List.filter_congr λy hy=>?_
  by_cases q:y∈S
  ·rw[hall y q,X3j q]
  ·rw[X3k q,X1s]
   exact λz=>q (upin a ha y (Xai.mp hy) z)
 ·right
  have hne2:S.filter (λc => !upB row a c)≠[]:=λe=>hall λc hc=>by
   rw[X1o] at e
   have:=e c hc
   simpa using this
  obtain⟨b,hb,lb⟩:=least (span row) _ hne2
  obtain⟨hbS,hbu⟩:=Xzu.mp hb
  have hbu:upB row a b=false:=by simpa using hbu
  have cab:=how a ha b hbS hbu (by have:=la b hbS;omega)
  have all2:∀c∈S,upB row a c=true\/upB row b c=true:=λc hc=>by
   refine Classical.byContradiction λz=>?_
   have z1:upB row a c=false:=by
    cases q:upB row a c with
    | false=>rfl
    | true=>exact absurd (.inl q) z
   have z2:upB row b c=false:=by
    cases q:upB row b c with
    | false=>rfl
    | true=>exact absurd (.inr q) z
   have k1:=how a ha c hc z1 (by have:=la c hc;omega)
   have k2:=how b hbS c hc z2 (by have:=lb c (Xzu.mpr ⟨hc,by simp[z1]⟩);omega)
   exact h3 a (inr a ha) b (inr b hbS) c (inr c hc) cab k1 k2
  have key:∀p q:Str,p∈S->q∈S->(∀c∈S,upB row p c=true\/upB row q c=true)->(dit row).filter (λy=>upB row p y||upB row q y)=S:=λp q hp hq h=>by
   conv=>rhs;rw[hS]
   refine List.filter_congr λy hy=>?_
   by_cases m:y∈S
   ·rw[X3j m,X2t];exact h y m
   ·rw[X3k m,Bool.or_eq_false_iff]
    exact⟨X1s.mpr λz=>m (upin p hp y (Xai.mp hy) z),X1s.mpr λz=>m (upin q hq y (Xai.mp hy) z)⟩
  have nab:a≠b:=λe=>by subst e;exact Xcn (h2 a (inr a ha)) cab
  have mk:∀p q:Str,p∈S->q∈S->ltS p q->Xa1 row p q->(p,q)∈crs row:=λp q hp hq l c=>by
   unfold crs
   rw[List.mem_flatMap]
   refine⟨p,Xai.mpr (inr p hp),Xz4.mpr ⟨q,Xzu.mpr ⟨Xai.mpr (inr q hq),?_⟩,rfl⟩⟩
   rw[Xz3]
   exact⟨X3j l,X3j c⟩
  rw[Xz4]
  by_cases l:ltS a b
  ·exact⟨(a,b),mk a b ha hbS l cab,key a b ha hbS all2⟩
  ·have l':=ltS_of (Xk9.mp l) nab.symm
   exact⟨(b,a),mk b a hbS ha l' (Xbk (h2 a (inr a ha)) (h2 b (inr b hbS)) cab),key b a hbS ha λc hc=>(all2 c hc).symm⟩
theorem Xp9{α : Type}[DecidableEq α]:∀{a b:List α},a.Nodup->(∀x∈a,x∈b)->a.length<=b.length
 | [],_,_,_=>X0k _
 | x::r,b,h,s=>by
  obtain⟨h1,h2⟩:=X02.mp h
  have hx:=s x Xzp
  have:=Xp9 (a:=r) (b:=b.erase x) h2 λy hy=>(List.mem_erase_of_ne (show y≠x from λe=>h1 (e ▸ hy))).mpr (s y (Xzo _ hy))
  rw[List.length_erase_of_mem hx] at this
  have:0<b.length:=List.length_pos_of_mem hx
  rw[X0a]
  omega
theorem Xip{row:List Str}{L:List (List Str)}(h2:∀y∈row,row.count y=2)(h3:Xbx row)(hl:(dit row).length<=14)(nd:L.Nodup)(h:∀S∈L,S≠[]/\isPlotB row S=true):L.length<64:=by
 have l1:=Xp9 nd λS hS=>Xke h2 h3 (h S hS).1 (h S hS).2
 have l2:=Xtz h2 h3 hl
 unfold cands at l1
 rw[Xzt,Xzk,Xzk] at l1
 omega
end SH
namespace L2
open PySem PySem.Spec PyProof.Rows
open PySem.W (KasT kas_asc kas_desc kas_rev kas_tail3 kas_descPart kas_count kas_place kas_bin kas_sort kas_ask kas_item kat_run kat_snds kat_kind kat_lt KatLex kat_cons kat_go kat_yes kat_no kat_one kat_nil KatTups)
def KAll {α : Type} (n:Nat) (P : α->Prop):KasT α->Prop
 | .ret a=>P a
 | .ask i j k=>i<n/\j<n/\∀b,KAll n P (k b)
theorem KAll.bind{α β : Type}{n:Nat}{P : α->Prop}{Q : β->Prop}{f : α->KasT β}(hf:∀a,P a->KAll n Q (f a)):∀{t:KasT α},KAll n P t->KAll n Q (t.bind f)
 | .ret a,h=>hf a h
 | .ask i j k,h=>⟨h.1,h.2.1,λb=>KAll.bind hf (h.2.2 b)⟩
def Gd (n:Nat) (p:Array Nat):Prop:=p.Perm (List.toArray (List.range n))
theorem Gd.lt{n:Nat}{p:Array Nat}(h:Gd n p)(hn:0<n)(i:Nat):p.getD i 0<n:=by
 by_cases hi:i<p.size
 ·have e:p.getD i 0=p[i]:=by simp[Array.getD,hi]
  rw[e]
  have:p[i]∈p:=Array.getElem_mem hi
  have:=h.mem_iff.mp this
  simpa using this
 ·have e:p.getD i 0=0:=by simp[Array.getD,hi]
  rw[e]
  exact hn
theorem Gd.rev{n:Nat}{p:Array Nat}(h:Gd n p)(i j:Nat):Gd n (kas_rev p i j):=(mirror_perm p i j _).trans h
theorem Xlq{n:Nat}(hn:0<n){p:Array Nat}(h:Gd n p):∀f m,KAll n (λ_=>True) (kas_asc p f m)
 | 0,_=>trivial
 | f+1,m=>⟨h.lt hn _,h.lt hn _,λb=>by
  cases b with
  | true=>exact trivial
  | false=>exact Xlq hn h f (m+1)⟩
theorem Xgb{n:Nat}(hn:0<n):∀f (p:Array Nat) m q,Gd n p->KAll n (λr=>Gd n r.1) (kas_desc f p m q)
 | 0,p,m,q,h=>h
 | f+1,p,m,q,h=>⟨h.lt hn _,h.lt hn _,λb=>by
  cases b with
  | true=>
   show KAll n _ (if q > 0 then kas_desc f (kas_rev p (m - (q+1)) m) (m+1) 0 else kas_desc f p (m+1) 0)
   split
   ·exact Xgb hn f _ _ _ (h.rev _ _)
   ·exact Xgb hn f _ _ _ h
  | false=>
   refine⟨h.lt hn _,h.lt hn _,λd=>?_⟩
   cases d with
   | true=>exact h
   | false=>exact Xgb hn f _ _ _ h⟩
theorem Xkf{n:Nat}(hn:0<n){p:Array Nat}(h:Gd n p)(m r:Nat):KAll n (λr=>Gd n r.2) (kas_tail3 m r p):=by
 unfold kas_tail3
 refine KAll.bind (P:=λ_=>True) (Q:=λ(r:Nat×Array Nat)=>Gd n r.2) (λa _=>?_) (Xlq hn (h.rev 0 m) _ _)
 exact h.rev 0 m
theorem Xfx{n:Nat}(hn:0<n){p:Array Nat}(h:Gd n p)(m r:Nat):KAll n (λr=>Gd n r.2) (kas_descPart m r p):=by
 refine KAll.bind (P:=λr=>Gd n r.1) (λa ha=>?_) (Xgb hn _ _ _ _ h)
 split
 ·exact Xkf hn (ha.rev _ _) _ _
 ·exact Xkf hn ha _ _
theorem Xqa{n:Nat}(hn:0<n){p:Array Nat}(h:Gd n p)(r:Nat):KAll n (λr=>Gd n r.2) (kas_count r p):=by
 refine KAll.bind (P:=λ_=>True) (λa _=>?_) (Xlq hn h _ _)
 split
 ·exact h
 ·split
  ·refine⟨h.lt hn _,h.lt hn _,λb=>?_⟩
   cases b with
   | true=>exact h
   | false=>exact Xfx hn (h.rev _ _) _ _
  ·exact Xfx hn h _ _
theorem Xg5{n:Nat}(hn:0<n){p:Array Nat}(h:Gd n p)(k:Nat):∀f l r,KAll n (λ_=>True) (kas_place p k f l r)
 | 0,_,_=>trivial
 | f+1,l,r=>by
  show KAll n _ (if l ≥ r then _ else _)
  split
  ·exact trivial
  ·refine⟨h.lt hn _,h.lt hn _,λb=>?_⟩
   cases b with
   | true=>exact Xg5 hn h k f _ _
   | false=>exact Xg5 hn h k f _ _
theorem Xqb{n:Nat}(hn:0<n):∀f (p:Array Nat) k,Gd n p->KAll n (Gd n) (kas_bin f p k)
 | 0,p,_,h=>h
 | f+1,p,k,h=>KAll.bind (P:=λ_=>True) (λl _=>Xqb hn f _ _ ((bubble_perm p k _).trans h)) (Xg5 hn h k _ _ _)
theorem Xgc{n:Nat}(hn:0<n):KAll n (Gd n) (kas_sort n):=by
 refine KAll.bind (P:=λr=>Gd n r.2) (λa ha=>?_) (Xqa hn (X2v _) n)
 split
 ·exact Xqb hn _ _ _ ha
 ·exact ha
section
variable {prog:Program}{w:World}{A:Around}{E:Value->Shared->Prop}{s:Shared}
def TupS (h:Heap) (v:Value):Prop:=∃a o xs n ss,v = .ref a/\h.get? a=some o/\o.cls = .type "tuple" /\ o.data = .seq xs n/\StrsAre xs.toList ss/\ss≠[]
theorem Xht:∀{vs:List Value},(∀v∈vs,TupS s.heap v)->∃fs,KatTups s.heap vs fs/\fs.length=vs.length/\∀f∈fs,∃x t,f = .str x t
 | [],_=>⟨[],KatTups.nil,rfl,λ_ h=>by cases h⟩
 | v::vs,h=>by
  obtain⟨fs,h1,h2,h3⟩:=Xht (vs:=vs) λu hu=>h u (Xzo _ hu)
  obtain⟨a,o,xs,n,ss,rfl,g1,g2,g3,g4,g5⟩:=h v Xzp
  obtain⟨f,x,t,hf,rfl⟩:∃f x t,xs[0]? = some f/\f = .str x t:=by
   have e:xs[0]? = xs.toList[0]?:=by simp
   rw[e]
   generalize xs.toList=l at g4
   cases g4 with
   | nil=>exact absurd rfl g5
   | cons x t r=>exact⟨_,x,t,rfl,rfl⟩
  exact⟨_::fs,KatTups.cons g1 g2 g3 hf h1,by simp[h2],λf hf=>by
   rcases Xzw.mp hf with e | e
   ·exact⟨x,t,e⟩
   ·exact h3 f e⟩
end
section
variable {X:Cx}
end
section
variable {X:Cx}
theorem Xiq:Xcx X (.builtin "sorted") (λxs H Q=>∃(a:Addr) (ks:List Str),xs=[.ref a]/\H a=some (.tup (ks.map V.str))/\ks.length<64/\∀l,H l=none->Q (.ref l) (upd H l (.lst ((srt ks).map V.str)))):=by
 intro pins s σ H xs us Q I r h
 obtain⟨a,ks,rfl,ha,h64,q⟩:=h
 obtain⟨u,rfl,rx⟩:=vals1 r
 cases rx
 obtain⟨its,r2,p2,_⟩:=I.tuple (SqT.of (K:=X.K) ha)
 obtain⟨o,ho,hc,n,hd⟩:=id p2
 have hl:its.length=ks.length:=by
  have:=r2.length
  rw[Xzk] at this
  exact this.symm
 refine Xdr h64 (λR k=>wpAny_collect_seq a (.inr rfl) ho hc hd (λh' kk=>k _ _ ks kk rfl rfl (by simpa using Xc5 r2) (X2b _)) (by rw[Xzm,hl,X3g];omega)) λs1 s' vs ls e k1 o1 g1 k2 o2 g2 he st p so=>?_
 refine Xfh I h64 k1 o1 g1 k2 o2 g2 he st p λl hl=>?_
 rw[Xho p so]
 exact q l hl
theorem Xkg(hu:X.A.units+4<cLine):OpR X (compareOp .NotIn) (λx y H Q=>∃d ds,DAt H d x/\DAt H (.list ds) y/\d.canLay0=true/\PyData.canLayAll0 ds=true/\d.depth<=3/\Q (.bl (!ds.any λe=>PyData.eqv e d)) H):=by
 intro pins s σ H x y v u Q I rx ry h
 obtain⟨d,ds,h1,h2,c1,c2,hd,q⟩:=h
 obtain⟨as,ra⟩:=Xdg I d x v h1 rx
 obtain⟨bs,rb⟩:=Xdg I (.list ds) y u h2 ry
 exact SeqAt.notIn_list_reads rb ra c2 c1 (by omega) ⟨.bl _,H,I,rfl,q⟩
end
end L2
namespace SH
open PySem PySem.Spec PyProof.Rows L2
def tupD (ss:List Str):PyData:=.tuple (ss.map PyData.str)
def Plts (row:List Str) (H:Hp) (ps:List Addr):Prop:=∀p∈ps,∃ss:List Str,H p=some (.tup (ss.map V.str))/\isPlotB row ss=true
theorem Xck{row ss:List Str}(h:isPlotB row ss=true):(∀x∈ss,x∈row)/\ss.Pairwise ltS:=by
 unfold isPlotB at h
 rw[Xz3,Xz3] at h
 refine⟨λx hx=>X3l (Xz8.mp h.1.2 x hx),?_⟩
 rw[X3l h.1.1]
 exact Xli ss
theorem Xir{row ss:List Str}(h:isPlotB row ss=true):ss.length<=(dit row).length:=
 Xp9 (Xcq (Xck h).2) λx hx=>Xai.mpr ((Xck h).1 x hx)
theorem Xgd(row:List Str):isPlotB row []=true:=by
 unfold isPlotB
 rw[Xil .nil]
 rfl
theorem Xqc{row ss:List Str}{x:Str}(h2:∀y∈row,row.count y=2)(h:isPlotB row ss=true)(hx:x∈row)(n:x∉ss)(hf:Xfo (bars row) (srt (ss++[x]))=true):isPlotB row (srt (ss++[x]))=true:=by
 rw[<-Xim h2]
 unfold Xj9
 rw[hf,Bool.and_true]
 obtain⟨hr,hl⟩:=Xck h
 have nd:(ss++[x]).Nodup:=by
  rw[X04]
  exact⟨Xcq hl,by simp,λa ha b hb e=>n (by rw[Xzr.mp hb] at e;exact e ▸ ha)⟩
 refine X3j (Xeg.mpr ⟨?_,λy hy=>?_⟩)
 ·unfold told
  have e1:srt (ddup (srt (ss++[x])))=srt (srt (ss++[x])):=Xpk (Xp2 ((Xbh _).nodup_iff.mpr nd))
  have e2:srt (srt (ss++[x]))=srt (ss++[x]):=Xjx (Xbh _) (Xer _) (Xer _)
  exact(e1.trans e2).symm
 ·rcases Xzv.mp (Xfi.mp hy) with q | q
  ·exact hr y q
  ·rw[Xzr.mp q];exact hx
theorem Xxy{ss:List Str}{x:Str}:srt (ss++[x])≠[]:=λe=>by
 have:x∈srt (ss++[x]):=Xfi.mpr (by simp)
 rw[e] at this
 cases this
structure Fresh (row:List Str) (H:Hp) (f:Addr) (xs:List V) (Ts:List (List Str)):Prop where
 at':H f=some (.lst xs)
 all:DAll H (Ts.map tupD) xs
 nd:Ts.Nodup
 ok:∀T∈Ts,T≠[]/\isPlotB row T=true
theorem Fresh.same{row:List Str}{H H':Hp}{f:Addr}{xs:List V}{Ts:List (List Str)}(h:Fresh row H f xs Ts)(s:Same H H'):Fresh row H' f xs Ts:=⟨s _ _ h.at',DAll.same s _ _ h.all,h.nd,h.ok⟩
abbrev NPl:List Str:=["_law_row_here", "_law_bars_here", "_law_names_here", "_law_told", "_law_layer", "_law_k", "_law_fresh", "_law_plot", "_law_name", "_law_over"]
end SH
namespace L2
open PySem PySem.Spec PyProof.Rows
def Tups (H:Hp) (ps:List Addr) (Ts:List (List Str)):Prop:=ps.length=Ts.length/\∀i,i<ps.length->H (ps.getD i 0)=some (.tup ((Ts.getD i []).map V.str))
theorem Tups.same{H H':Hp}{ps:List Addr}{Ts:List (List Str)}(h:Tups H ps Ts)(s:Same H H'):Tups H' ps Ts:=⟨h.1,λi hi=>s _ _ (h.2 i hi)⟩
theorem Tups.nil(H:Hp):Tups H [] []:=⟨rfl,λi hi=>absurd hi (X1e _)⟩
theorem Tups.cons{H:Hp}{p:Addr}{T:List Str}{ps:List Addr}{Ts:List (List Str)}(h:H p=some (.tup (T.map V.str)))(r:Tups H ps Ts):Tups H (p::ps) (T::Ts):=by
 refine⟨by simp[r.1],λi hi=>?_⟩
 cases i with
 | zero=>exact h
 | succ i=>exact r.2 i (by simpa using hi)
theorem Tups.app{H:Hp}:∀{ps qs:List Addr} {Ts Us:List (List Str)},Tups H ps Ts->Tups H qs Us->Tups H (ps++qs) (Ts++Us)
 | [],qs,Ts,Us,h,g=>by
  have:Ts=[]:=X0g.mp h.1.symm
  rw[this];exact g
 | p::ps,qs,[],Us,h,g=>by have:=h.1;simp at this
 | p::ps,qs,T::Ts,Us,h,g=>by
  have r:Tups H ps Ts:=⟨by simpa using h.1,λi hi=>by simpa using h.2 (i+1) (by simpa using hi)⟩
  exact Tups.cons (h.2 0 (by simp)) (Tups.app r g)
theorem Tups.mem{H:Hp}{ps:List Addr}{Ts:List (List Str)}(h:Tups H ps Ts){p:Addr}(hp:p∈ps):∃T∈Ts,H p=some (.tup (T.map V.str)):=by
 obtain⟨i,hi,rfl⟩:=X0r.mp hp
 have hi':i<Ts.length:=by rw[<-h.1];exact hi
 have:=h.2 i hi
 have e1:ps.getD i 0=ps[i]:=by simp[List.getD,hi]
 have e2:Ts.getD i []=Ts[i]:=by simp[List.getD,hi']
 rw[e1,e2] at this
 exact⟨_,X0b hi',this⟩
open PySem.W (KasT kas_asc kas_desc kas_rev kas_tail3 kas_descPart kas_count kas_place kas_bin kas_sort kas_ask kas_item kat_run kat_snds kat_kind kat_lt KatLex kat_cons kat_go kat_yes kat_no kat_one kat_nil KatTups)
def kRun {α : Type} (lt:Nat->Nat->Bool):KasT α -> α
 | .ret a=>a
 | .ask i j k=>kRun lt (k (lt i j))
theorem Xda{α β : Type}{lt:Nat->Nat->Bool}{f : α->KasT β}:∀t:KasT α,kRun lt (t.bind f)=kRun lt (f (kRun lt t))
 | .ret _=>rfl
 | .ask i j k=>Xda (k (lt i j))
theorem Xlr{α : Type}{n:Nat}{lt:Nat->Nat->Bool}{P : α->Prop}{G : α->Shared->Prop}{s:Shared}{cmp:Nat->Nat->(Bool->Shared->Prop)->Shared->Prop}(hc:∀i j C,i<n->j<n->C (lt i j) s->cmp i j C s):
  ∀{t:KasT α},KAll n P t->G (kRun lt t) s->t.kasWp cmp G s
 | .ret a,_,h=>h
 | .ask i j k,h,g=>hc i j _ h.1 h.2.1 (Xlr hc (h.2.2 _) g)
theorem KAll.run{α : Type}{n:Nat}{lt:Nat->Nat->Bool}{P : α->Prop}:∀{t:KasT α},KAll n P t->P (kRun lt t)
 | .ret a,h=>h
 | .ask i j k,h=>KAll.run (t:=k (lt i j)) (h.2.2 (lt i j))
structure Lin (n:Nat) (lt:Nat->Nat->Bool):Prop where
 irr:∀i,lt i i=false
 tr:∀i j k,lt i j=true->lt j k=true->lt i k=true
 tot:∀i j,i<n->j<n->i≠j->lt i j=true\/lt j i=true
section
variable {n:Nat}{lt:Nat->Nat->Bool}{p:Array Nat}
def SoTo (lt:Nat->Nat->Bool) (p:Array Nat) (m:Nat):Prop:=∀i j,i<j->j<m->lt (p.getD i 0) (p.getD j 0)=true
def DeTo (lt:Nat->Nat->Bool) (p:Array Nat) (m:Nat):Prop:=∀i j,i<j->j<m->lt (p.getD j 0) (p.getD i 0)=true
theorem Gd.size{p:Array Nat}(h:Gd n p):p.size=n:=by
 have:=h.size_eq
 simpa using this
theorem Gd.inj{p:Array Nat}(h:Gd n p){i j:Nat}(hi:i<n)(hj:j<n)(ne:i≠j):p.getD i 0≠p.getD j 0:=λe=>by
 have sz:=h.size
 have nd:p.toList.Nodup:=by
  have q:p.toList.Perm (List.range n):=by simpa using h.toList
  exact q.nodup_iff.mpr List.nodup_range
 have hi':i<p.toList.length:=by rw[Xzz,sz];exact hi
 have hj':j<p.toList.length:=by rw[Xzz,sz];exact hj
 have e1:p.getD i 0=p.toList[i]:=by simp[Array.getD,sz,hi]
 have e2:p.getD j 0=p.toList[j]:=by simp[Array.getD,sz,hj]
 rw[e1,e2] at e
 exact ne ((X2n nd).mp e)
theorem Lin.flip(L:Lin n lt)(h:Gd n p){i j:Nat}(hi:i<n)(hj:j<n)(ne:i≠j)(e:lt (p.getD i 0) (p.getD j 0)=false):lt (p.getD j 0) (p.getD i 0)=true:=by
 have hn:0<n:=by omega
 rcases L.tot _ _ (h.lt hn i) (h.lt hn j) (h.inj hi hj ne) with z | z
 ·rw[z] at e;cases e
 ·exact z
theorem Xls(L:Lin n lt)(h:Gd n p):∀f m,1<=m->m+f<=n->SoTo lt p m->m<=kRun lt (kas_asc p f m)/\kRun lt (kas_asc p f m)<=m+f/\SoTo lt p (kRun lt (kas_asc p f m)) /\
  (kRun lt (kas_asc p f m)<m+f->lt (p.getD (kRun lt (kas_asc p f m)) 0) (p.getD (kRun lt (kas_asc p f m) - 1) 0)=true)
 | 0,m,_,_,so=>⟨Xzn _,Xzn _,so,λz=>absurd z (by show ¬m<m+0;omega)⟩
 | f+1,m,h1,hn,so=>by
  have e:kRun lt (kas_asc p (f+1) m)=kRun lt (if lt (p.getD m 0) (p.getD (m - 1) 0)=true then KasT.ret m else kas_asc p f (m+1)):=rfl
  cases c:lt (p.getD m 0) (p.getD (m - 1) 0) with
  | true=>
   rw[e,c,X3i rfl]
   exact⟨Xzn _,by show m<=_;omega,so,λ_=>c⟩
  | false=>
   rw[e,c,X3h (by decide)]
   have c':=L.flip h (by omega) (by omega) (by omega) c
   obtain⟨a1,a2,a3,a4⟩:=Xls L h f (m+1) (by omega) (by omega) (λi j hij hj=>by
    by_cases hjm:j<m
    ·exact so i j hij hjm
    ·have:j=m:=by omega
     subst this
     by_cases hi:i=j - 1
     ·subst hi;exact c'
     ·exact L.tr _ _ _ (so i (j - 1) (by omega) (by omega)) c')
   exact⟨by omega,by omega,a3,λz=>a4 (by omega)⟩
theorem Xm0(L:Lin n lt)(h:Gd n p):∀f m,1<=m->m+f<=n->DeTo lt p m->∃r,kRun lt (kas_desc f p m 0)=(p,r,0)/\m<=r/\r<=m+f/\DeTo lt p r
 | 0,m,_,_,so=>⟨m,rfl,Xzn _,Xzn _,so⟩
 | f+1,m,h1,hn,so=>by
  have e:kRun lt (kas_desc (f+1) p m 0)=kRun lt (if lt (p.getD m 0) (p.getD (m - 1) 0)=true then (if 0 > 0 then kas_desc f (kas_rev p (m - (0+1)) m) (m+1) 0 else kas_desc f p (m+1) 0)
   else .ask (p.getD (m - 1) 0) (p.getD m 0) λd=>if d=true then .ret (p,m,0) else kas_desc f p (m+1) (0+1)):=rfl
  cases c:lt (p.getD m 0) (p.getD (m - 1) 0) with
  | true=>
   rw[e,c,X3i rfl,X3h (by omega)]
   obtain⟨r,a1,a2,a3,a4⟩:=Xm0 L h f (m+1) (by omega) (by omega) (λi j hij hj=>by
    by_cases hjm:j<m
    ·exact so i j hij hjm
    ·have:j=m:=by omega
     subst this
     by_cases hi:i=j - 1
     ·subst hi;exact c
     ·exact L.tr _ _ _ c (so i (j - 1) (by omega) (by omega)))
   exact⟨r,a1,by omega,by omega,a4⟩
  | false=>
   rw[e,c,X3h (by decide)]
   have c':=L.flip h (by omega) (by omega) (by omega) c
   refine⟨m,?_,Xzn _,by omega,so⟩
   show kRun lt (if lt (p.getD (m - 1) 0) (p.getD m 0)=true then _ else _)=_
   rw[X3i c']
   rfl
theorem Xis(p:Array Nat)(i:Nat):p.getD i 0=(p[i]?).getD 0:=by simp
theorem Xt0{m:Nat}(hm:m<=p.size){i:Nat}(hi:i<m):(kas_rev p 0 m).getD i 0=p.getD (m - 1 - i) 0:=by
 rw[Xis,Xis]
 show ((mirror p 0 m ((m - 0) / 2))[i]?).getD 0=_
 rw[getElem?_mirror_all hm,X3i (by omega)]
 congr 2
 omega
theorem Xqd(L:Lin n lt)(h:Gd n p)(hn:1<=n):∃m p',kRun lt (kas_count n p)=(m,p')/\1<=m/\m<=n/\Gd n p'/\SoTo lt p' m:=by
 have sz:=h.size
 unfold kas_count
 rw[Xda]
 obtain⟨a1,a2,a3,a4⟩:=Xls (lt:=lt) L h (n - 1) 1 (Xzn _) (by omega) (λi j hij hj=>by omega)
 generalize kRun lt (kas_asc p (n - 1) 1)=r at *
 by_cases e1:(r==n)=true
 ·rw[X3i e1]
  exact⟨r,p,rfl,a1,by omega,h,a3⟩
 ·rw[X3h e1]
  have rn:r≠n:=λz=>e1 (by rw[z];exact beq_self_eq_true _)
  by_cases e2:r > 1
  ·rw[X3i e2]
   refine⟨r,p,?_,a1,by omega,h,a3⟩
   show kRun lt (if lt (p.getD 0 0) (p.getD (r - 1) 0)=true then _ else _)=_
   rw[X3i (a3 0 (r - 1) (by omega) (by omega))]
   rfl
  ·rw[X3h e2]
   obtain rfl:r=1:=by omega
   have a4:=a4 (by omega)
   unfold kas_descPart
   rw[Xda]
   obtain⟨r2,b1,b2,b3,b4⟩:=Xm0 (lt:=lt) L h (n - (1+1)) (1+1) (by omega) (by omega) (λi j hij hj=>by
    have:j=1:=by omega
    subst this
    have:i=0:=by omega
    subst this
    exact a4)
   rw[b1]
   dsimp only
   rw[X3h (by omega)]
   unfold kas_tail3
   rw[Xda]
   have hrv:=h.rev 0 r2
   obtain⟨c1,c2,c3,_⟩:=Xls (lt:=lt) L hrv (n - r2) r2 (by omega) (by omega) (λi j hij hj=>by
    rw[Xt0 (by omega) (by omega),Xt0 (by omega) (by omega)]
    exact b4 _ _ (by omega) (by omega))
   exact⟨_,_,rfl,by omega,by omega,hrv,c3⟩
theorem Xg6(L:Lin n lt)(h:Gd n p){k:Nat}(hk:k<n)(so:SoTo lt p k):∀f l r,r - l<=f->l<=r->r<=k->(∀i,i<l->lt (p.getD i 0) (p.getD k 0)=true)->(∀i,r<=i->i<k->lt (p.getD k 0) (p.getD i 0)=true) ->
  kRun lt (kas_place p k f l r)<=k/\(∀i,i<kRun lt (kas_place p k f l r)->lt (p.getD i 0) (p.getD k 0)=true)/\(∀i,kRun lt (kas_place p k f l r)<=i->i<k->lt (p.getD k 0) (p.getD i 0)=true)
 | 0,l,r,hf,hlr,hr,hl,hg=>by
  have:l=r:=by omega
  subst this
  exact⟨hr,hl,hg⟩
 | f+1,l,r,hf,hlr,hr,hl,hg=>by
  unfold kas_place
  by_cases e:l ≥ r
  ·rw[X3i e]
   have:l=r:=by omega
   subst this
   exact⟨hr,hl,hg⟩
  ·rw[X3h e]
   have e2:kRun lt (KasT.ask (p.getD k 0) (p.getD ((l+r) / 2) 0) λc=>if c=true then kas_place p k f l ((l+r) / 2) else kas_place p k f ((l+r) / 2+1) r)=kRun lt (if lt (p.getD k 0) (p.getD ((l+r) / 2) 0)=true then kas_place p k f l ((l+r) / 2) else kas_place p k f ((l+r) / 2+1) r):=rfl
   rw[e2]
   have hm1:l<=(l+r) / 2:=by omega
   have hm2:(l+r) / 2<r:=by omega
   generalize (l+r) / 2=md at *
   cases c:lt (p.getD k 0) (p.getD md 0) with
   | true=>
    rw[X3i rfl]
    refine Xg6 L h hk so f l md (by omega) (by omega) (by omega) hl λi h1 h2=>?_
    by_cases e3:i=md
    ·rw[e3];exact c
    ·exact L.tr _ _ _ c (so md i (by omega) h2)
   | false=>
    rw[X3h (by decide)]
    have c':=L.flip h hk (by omega) (by omega) c
    refine Xg6 L h hk so f (md+1) r (by omega) (by omega) hr (λi hi=>?_) hg
    by_cases e3:i=md
    ·rw[e3];exact c'
    ·exact L.tr _ _ _ (so i md (by omega) (by omega)) c'
theorem Xt1{k l:Nat}(hk:k<p.size)(hl:l<=k)(i:Nat):(bubble p k (k - l)).getD i 0=if i=l then p.getD k 0 else if l<i/\i<=k then p.getD (i - 1) 0 else p.getD i 0:=by
 simp only[Xis]
 rw[getElem?_bubble hk _ (by omega),show k - (k - l)=l by omega]
 by_cases h1:i=l
 ·rw[X3i h1,X3i h1]
 ·rw[X3h h1,X3h h1]
  by_cases h2:l<i/\i<=k
  ·rw[X3i h2,X3i h2]
  ·rw[X3h h2,X3h h2]
theorem Xqe(L:Lin n lt):∀f (p:Array Nat) k,Gd n p->k+f<=n->SoTo lt p k->SoTo lt (kRun lt (kas_bin f p k)) (k+f)
 | 0,p,k,_,_,so=>so
 | f+1,p,k,h,hk,so=>by
  have sz:=h.size
  have e:kRun lt (kas_bin (f+1) p k)=kRun lt ((kas_place p k k 0 k).bind λl=>kas_bin f (bubble p k (k - l)) (k+1)):=rfl
  rw[e,Xda]
  obtain⟨a1,a2,a3⟩:=Xg6 (lt:=lt) L h (k:=k) (by omega) so k 0 k (by omega) (by omega) (Xzn _) (λi z=>absurd z (X1e _)) (λi h1 h2=>by omega)
  generalize kRun lt (kas_place p k k 0 k)=l at *
  have:=Xqe L f (bubble p k (k - l)) (k+1) ((bubble_perm p k _).trans h) (by omega) (λi j hij hj=>by
   rw[Xt1 (by omega) a1,Xt1 (by omega) a1]
   by_cases i1:i=l
   ·rw[X3i i1,X3h (by omega),X3i (by omega)]
    exact a3 _ (by omega) (by omega)
   ·rw[X3h i1]
    by_cases i2:l<i/\i<=k
    ·rw[X3i i2,X3h (by omega),X3i (by omega)]
     exact so _ _ (by omega) (by omega)
    ·rw[X3h i2]
     by_cases j1:j=l
     ·rw[X3i j1]
      exact a2 i (by omega)
     ·rw[X3h j1]
      by_cases j2:l<j/\j<=k
      ·rw[X3i j2]
       by_cases z:i=j - 1
       ·omega
       ·exact so _ _ (by omega) (by omega)
      ·rw[X3h j2]
       exact so _ _ hij (by omega))
  rw[show k+(f+1)=k+1+f by omega]
  exact this
theorem Xm1(L:Lin n lt)(hn:0<n):SoTo lt (kRun lt (kas_sort n)) n:=by
 unfold kas_sort
 rw[Xda]
 obtain⟨m,p',e,h1,h2,h3,h4⟩:=Xqd (lt:=lt) L (p:=List.toArray (List.range n)) (X2v _) hn
 rw[e]
 dsimp only
 by_cases hm:m<n
 ·rw[X3i hm]
  have:=Xqe L (n - max m 1) p' (max m 1) h3 (by omega) (by rw[show max m 1=m by omega];exact h4)
  rwa [show max m 1+(n - max m 1)=n by omega] at this
 ·rw[X3h hm]
  have:m=n:=by omega
  subst this
  exact h4
end
open PySem.W (KasT kas_asc kas_desc kas_rev kas_tail3 kas_descPart kas_count kas_place kas_bin kas_sort kas_ask kas_item kat_run kat_snds kat_kind kat_lt KatLex kat_cons kat_go kat_yes kat_no kat_one kat_nil KatTups)
def ltL:List Str->List Str->Bool
 | [],[]=>false
 | [],_::_=>true
 | _::_,[]=>false
 | x::a,y::b=>if x=y then ltL a b else decide (ltS x y)
theorem Xg7:∀a,ltL a a=false
 | []=>rfl
 | x::a=>by
  show (if x=x then ltL a a else _)=false
  rw[X3i rfl]
  exact Xg7 a
theorem Xqf:∀a b c,ltL a b=true->ltL b c=true->ltL a c=true
 | [],[],c,h,_=>by cases h
 | [],_::_,[],_,g=>by cases g
 | [],_::_,_::_,_,_=>rfl
 | _::_,[],_,h,_=>by cases h
 | _::_,_::_,[],_,g=>by cases g
 | x::a,y::b,z::c,h,g=>by
  have h:(if x=y then ltL a b else decide (ltS x y))=true:=h
  have g:(if y=z then ltL b c else decide (ltS y z))=true:=g
  show (if x=z then ltL a c else decide (ltS x z))=true
  by_cases e1:x=y
  ·subst e1
   rw[X3i rfl] at h
   by_cases e2:x=z
   ·rw[X3i e2] at g ⊢
    exact Xqf a b c h g
   ·rw[X3h e2] at g ⊢
    exact g
  ·rw[X3h e1] at h
   by_cases e2:y=z
   ·subst e2
    rw[X3h e1]
    exact h
   ·rw[X3h e2] at g
    have q:=Xds (X3l h) (X3l g)
    rw[X3h (Xju q)]
    exact X3j q
theorem Xlt:∀a b,a≠b->ltL a b=true\/ltL b a=true
 | [],[],n=>absurd rfl n
 | [],_::_,_=>.inl rfl
 | _::_,[],_=>.inr rfl
 | x::a,y::b,n=>by
  show (if x=y then ltL a b else decide (ltS x y))=true\/(if y=x then ltL b a else decide (ltS y x))=true
  by_cases e:x=y
  ·subst e
   rw[X3i rfl,X3i rfl]
   exact Xlt a b λz=>n (by rw[z])
  ·rw[X3h e,X3h (λz=>e z.symm)]
   rcases Xgt x y with z | z
   ·exact .inl (X3j (ltS_of z e))
   ·exact .inr (X3j (ltS_of z λq=>e q.symm))
theorem Xxz{Ts:List (List Str)}(nd:Ts.Nodup):Lin Ts.length λi j=>ltL (Ts.getD i []) (Ts.getD j []) where
 irr i:=Xg7 _
 tr i j k:=Xqf _ _ _
 tot i j hi hj ne:=Xlt _ _ λe=>ne (by
  have e1:Ts.getD i []=Ts[i]:=by simp[List.getD,hi]
  have e2:Ts.getD j []=Ts[j]:=by simp[List.getD,hj]
  rw[e1,e2] at e
  exact(X2n nd).mp e)
theorem Xn4{Ts:List (List Str)}{p:Array Nat}(g:Gd Ts.length p)(so:SoTo (λi j=>ltL (Ts.getD i []) (Ts.getD j [])) p Ts.length):
  (p.toList.map λi=>Ts.getD i []).Perm Ts/\(p.toList.map λi=>Ts.getD i []).Pairwise λa b=>ltL a b=true:=by
 constructor
 ·have e:((List.range Ts.length).map λi=>Ts.getD i [])=Ts:=by
   refine X2c (by simp) λi h1 h2=>?_
   simp[X1p,List.getElem_range,List.getD,h2]
  have q:p.toList.Perm (List.range Ts.length):=by
   have:=g.toList
   simpa using this
  have:=q.map λi=>Ts.getD i []
  rw[e] at this
  exact this
 ·rw[List.pairwise_iff_getElem]
  intro i j hi hj hij
  have sz:=g.size
  rw[Xzk,Xzz,sz] at hi hj
  have:=so i j hij hj
  rw[X1p,X1p]
  have e1:p.getD i 0=p.toList[i]'(by rw[Xzz,sz];exact hi):=by simp[Array.getD,sz,hi]
  have e2:p.getD j 0=p.toList[j]'(by rw[Xzz,sz];exact hj):=by simp[Array.getD,sz,hj]
  rw[e1,e2] at this
  exact this
section
variable {prog:Program}{w:World}{A:Around}{E:Value->Shared->Prop}{s:Shared}
theorem Xqg{b fin:Bool}{C:Bool->Shared->Prop}:∀{us vs:List Value} {as bs:List Str} (i:Nat),StrsAre us as->StrsAre vs bs->fin=decide (as.length<bs.length)->C (ltL as bs) s->KatLex prog w A b fin C (us.zip vs) i s
 | _,_,_,_,_,.nil,.nil,hf,h=>kat_nil (by rw[hf];exact h)
 | _,_,_,_,_,.nil,.cons _ _ _,hf,h=>kat_nil (by rw[hf];exact h)
 | _,_,_,_,_,.cons _ _ _,.nil,hf,h=>kat_nil (by rw[hf];exact h)
 | _,_,_,_,i,.cons x t r,.cons y u r',hf,h=>by
  have h:C (if x=y then ltL _ _ else decide (ltS x y)) s:=h
  refine kat_cons (eqBool_str ?_)
  refine kat_go (λe=>kat_yes (Xqg (i+1) r r' ?_ ?_)) (λe=>kat_no ?_)
  ·rw[hf]
   simp
  ·rw[X3i (by simpa using e)] at h
   exact h
  ·have e:¬x=y:=by simpa using e
   rw[X3h e] at h
   cases (b&&i==0) with
   | true=>exact oneLt_str h
   | false=>exact kat_one _ _ (PyProof.Rows.lt_str h)
def TupO (h:Heap) (v:Value) (ss:List Str):Prop:=∃a o xs n,v = .ref a/\h.get? a=some o/\o.cls = .type "tuple" /\ o.data = .seq xs n/\StrsAre xs.toList ss
theorem Xvk{b:Bool}{x y:Value}{as bs:List Str}{C:Bool->Shared->Prop}(hx:TupO s.heap x as)(hy:TupO s.heap y bs)(h:C (ltL as bs) s):wpAny (model prog w) A (keyLt' (tuples' b) x y) C E s:=by
 obtain⟨a,o,xs,n,rfl,h1,_,h2,h3⟩:=hx
 obtain⟨b,o',ys,n',rfl,g1,_,g2,g3⟩:=hy
 refine kat_lt h1 h2 g1 g2 (Xqg 0 h3 g3 ?_ h)
 have e1:=h3.length
 have e2:=g3.length
 rw[Xzz] at e1 e2
 rw[e1,e2]
theorem TupO.toS{h:Heap}{v:Value}{ss:List Str}(t:TupO h v ss)(n:ss≠[]):TupS h v:=by
 obtain⟨a,o,xs,k,e,h1,h2,h3,h4⟩:=t
 exact⟨a,o,xs,k,ss,e,h1,h2,h3,h4,n⟩
theorem TupO.kept{h h':Heap}{v:Value}{ss:List Str}(t:TupO h v ss)(k:∀b o,o.cls = .type "tuple" -> h.get? b=some o->h'.get? b=some o):TupO h' v ss:=by
 obtain⟨a,o,xs,n,e,h1,h2,h3,h4⟩:=t
 exact⟨a,o,xs,n,e,k a o h2 h1,h2,h3,h4⟩
def Xx0 (h:Heap) (vs:List Value) (Ts:List (List Str)):Prop:=vs.length=Ts.length/\∀i,i<vs.length->TupO h (vs.getD i .none) (Ts.getD i [])
theorem Xn5{a:Addr}{vs:List Value}{Ts:List (List Str)}{n:Nat}{P:PySem.Fin->Shared->Prop}(ho:s.heap.get? a=some (seqObj "list" vs.toArray n))(hv:Xx0 s.heap vs Ts)(hne:[]∉Ts)(nd:Ts.Nodup)(h64:vs.length<64)
  (h:∀p:Array Nat,Gd vs.length p->SoTo (λi j=>ltL (Ts.getD i []) (Ts.getD j [])) p vs.length->P (.done (.ret .none)) {s with heap:=sortedHeap s.heap a vs (p.toList.map λi=>vs.getD i Value.none).toArray}):
  wpAny (model prog w) A (Builtin.«list.sort» ⟨[.ref a],[]⟩) P E s:=by
 rw[list_sort_plain]
 have ha:a<s.heap.objs.size:=X3n ho
 have L:=Xxz nd
 rw[<-hv.1] at L
 have mem:∀i,i<vs.length->Ts.getD i []∈Ts:=λi hi=>by
  have hi':i<Ts.length:=by rw[<-hv.1];exact hi
  have:Ts.getD i []=Ts[i]:=by simp[List.getD,hi']
  rw[this];exact X0b hi'
 refine X3e (listItems_at ho rfl ?_)
 refine X3e (listUpdate_at ho rfl ?_)
 obtain⟨e1,ho1⟩:∃e1,(s.heap.update a (Obj.mapSeq λ_ => #[])).get? a=some (seqObj "list" #[] e1):=⟨_,get?_update_seq ho (λ_ => #[])⟩
 refine X3e (seqEpoch_at ho1 rfl ?_)
 refine X3e (wpAny_newTuple ?_)
 refine X3e (wpAny_newList ?_)
 refine wpAny_holding ?_
 have ho6:(((s.heap.update a (Obj.mapSeq λ_ => #[])).push (seqObj "tuple" vs.toArray 0)).push (seqObj "list" #[] 0)).get? a=some (seqObj "list" #[] e1):=by
  rw[Heap.get?_push_ne _ _ _ (by rw[size_push',Heap.size_update];exact Xzs (X03 ha)),Heap.get?_push_ne _ _ _ (by rw[Heap.size_update];exact Xzs ha)]
  exact ho1
 have hk6:∀b o,o.cls = .type "tuple" -> s.heap.get? b=some o->(((s.heap.update a (Obj.mapSeq λ_ => #[])).push (seqObj "tuple" vs.toArray 0)).push (seqObj "list" #[] 0)).get? b=some o:=λb o g2 g1=>by
  have hne:b≠a:=λe=>by
   rw[e,ho] at g1
   have e1:=Xzx g1
   rw[<-e1] at g2
   exact absurd (show Value.type "list" = Value.type "tuple" from g2) (by decide)
  exact X3o _ (X3o _ (by rw[Heap.get?_update_ne _ _ _ _ hne];exact g1))
 have hv6:∀i,i<vs.length->TupO (((s.heap.update a (Obj.mapSeq λ_ => #[])).push (seqObj "tuple" vs.toArray 0)).push (seqObj "list" #[] 0)) (vs.getD i .none) (Ts.getD i []):=λi hi=>(hv.2 i hi).kept hk6
 show wpAny (model prog w) A _ P E {s with heap:=((s.heap.update a (Obj.mapSeq λ_ => #[])).push (seqObj "tuple" vs.toArray 0)).push (seqObj "list" #[] 0)}
 dsimp only
 have hsz:vs.toArray.size=vs.length:=by simp
 by_cases h2:vs.toArray.size<2
 ·rw[X3i h2,X3i h2]
  refine X3e (X3f ?_)
  rw[StateT.run_pure]
  refine X3e (X3f ?_)
  dsimp only
  refine X3e (seqEpoch_at ho6 rfl ?_)
  refine X3e (listUpdate_at ho6 rfl ?_ (hsz2:=by rw[Array.size_map];show (pairsOf vs).size<=_;rw[pairsOf_size,X3g];omega))
  simp only[bne_self_eq_false,X0t,if_false]
  have q:=h (List.toArray (List.range vs.length)) (X2v _) (λi j hij hj=>by omega)
  refine X3f ?_
  have e:(arrOf (SortSt.mk' general' (vs.toArray.zip vs.toArray) #[] 7 none)).map (·.2)=(((List.range vs.length).toArray).toList.map λi=>vs.getD i Value.none).toArray:=by
   show ((vs.toArray.zip vs.toArray).map (·.2))=_
   apply Array.toList_inj.mp
   simp only[Array.toList_map,List.zip_toArray]
   rw[List.map_snd_zip (Xzn _)]
   refine X2c (by simp) λi h1 h2=>?_
   simp[List.getD,h1]
  rw[e]
  exact q
 ·rw[X3h h2,X3h h2]
  obtain⟨fs,t1,t2,t3⟩:=Xht (s:={s with heap:=((s.heap.update a (Obj.mapSeq λ_ => #[])).push (seqObj "tuple" vs.toArray 0)).push (seqObj "list" #[] 0)}) (vs:=vs) λv hm=>by
   obtain⟨i,hi,rfl⟩:=X0r.mp hm
   have e:vs.getD i .none=vs[i]:=by simp[List.getD,hi]
   have:=hv6 i hi
   rw[e] at this
   exact TupO.toS this λz=>hne (z ▸ mem i hi)
  refine X3e (kat_kind (T:=.type "str") t1 (by omega) (λv hm=>?_) (by decide) ?_)
  ·obtain⟨x,t,rfl⟩:=t3 v hm
   exact .now
  have eb:((Value.type "str") != Value.type "tuple")=true:=by decide
  rw[eb]
  refine X3e (wpAny_mono (kat_run (κ:=tuples' true) (ks:=vs) (vs:=vs) (Q:=λst' s'=>s' = {s with heap:=((s.heap.update a (Obj.mapSeq λ_ => #[])).push (seqObj "tuple" vs.toArray 0)).push (seqObj "list" #[] 0)}/\failedOf st'=none/\∃p,Gd vs.length p/\SoTo (λi j=>ltL (Ts.getD i []) (Ts.getD j [])) p vs.length/\(arrOf st').map (·.2)=(p.toList.map λi=>vs.getD i Value.none).toArray)
   (G:=λp s'=>s' = {s with heap:=((s.heap.update a (Obj.mapSeq λ_ => #[])).push (seqObj "tuple" vs.toArray 0)).push (seqObj "list" #[] 0)}/\Gd vs.length p/\SoTo (λi j=>ltL (Ts.getD i []) (Ts.getD j [])) p vs.length) rfl (by omega) h64 (λp st' s' a1 a2 a3 a4=>⟨a4.1,a3,p,a4.2.1,a4.2.2,kat_snds rfl a2⟩) ?_) ?_ λ_ _ e=>e)
  ·refine Xlr (n:=vs.length) (lt:=λi j=>ltL (Ts.getD i []) (Ts.getD j [])) (λi j C hi hj hC=>?_) (Xgc (n:=vs.length) (by omega)) ⟨rfl,(Xgc (n:=vs.length) (by omega)).run,Xm1 L (by omega)⟩
   show wpAny _ _ (keyLt' (tuples' true) (vs.getD i Value.none) (vs.getD j Value.none)) C _ _
   exact Xvk (hv6 i hi) (hv6 j hj) hC
  rintro ⟨⟨⟩,st'⟩ s' ⟨rfl,hf,p,hp,so,ea⟩
  dsimp only
  refine X3e (seqEpoch_at ho6 rfl ?_)
  have hps:=hp.size
  refine X3e (listUpdate_at ho6 rfl ?_ (hsz2:=by
   rw[ea,Xzm,Xzk,Xzz,hps,X3g];omega))
  rw[hf]
  simp only[bne_self_eq_false,X0t,if_false]
  rw[ea]
  exact X3f (h p hp so)
theorem Xvl{l:Addr}{vs:List Value}{Ts:List (List Str)}{Q:Value->Shared->Prop}(hl:s.heap.IsList l vs.toArray)(hv:Xx0 s.heap vs Ts)(hne:[]∉Ts)(nd:Ts.Nodup)(h64:vs.length<64)
  (h:∀p:Array Nat,Gd vs.length p->SoTo (λi j=>ltL (Ts.getD i []) (Ts.getD j [])) p vs.length->Q (.ref (s.heap.objs.size+1)) {s with heap:=sortedAll s.heap vs (p.toList.map λi=>vs.getD i Value.none).toArray}):
  wpAny (model prog w) A (call (.builtin "sorted") [.ref l]) Q E s:=by
 refine Calls.call_function_entry kind_sorted plain_sorted entry_sorted (args_sorted1 _) ?_
 unfold Builtin.«sorted»
 refine X3e (m:=checkCount "sorted" 1 1 _) (X3f ?_)
 refine X3e (collect_list hl ?_)
 refine X3e (wpAny_newList ?_)
 have hsz:((s.heap.push (seqObj "list" #[] 0)).update s.heap.objs.size (Obj.mapSeq (· ++ vs.toArray))).objs.size=s.heap.objs.size+1:=by
  rw[Heap.size_update,size_push']
 have hoL:(((s.heap.push (seqObj "list" #[] 0)).update s.heap.objs.size (Obj.mapSeq (· ++ vs.toArray))).push (seqObj "list" vs.toArray 0)).get? (s.heap.objs.size+1)=some (seqObj "list" vs.toArray 0):=by
  rw[<-hsz];exact Heap.get?_push_size _ rfl
 have keep:∀b o,s.heap.get? b=some o->(((s.heap.push (seqObj "list" #[] 0)).update s.heap.objs.size (Obj.mapSeq (· ++ vs.toArray))).push (seqObj "list" vs.toArray 0)).get? b=some o:=λb o q=>by
  have hlt:b<s.heap.objs.size:=X3n q
  rw[Heap.get?_push_ne _ _ _ (by rw[hsz];exact Xzs (X03 hlt)),Heap.get?_update_ne _ _ _ _ (Xzs hlt),Heap.get?_push_ne _ _ _ (Xzs hlt)]
  exact q
 show wpAny _ _ _ _ _ {s with heap:=((s.heap.push (seqObj "list" #[] 0)).update s.heap.objs.size (Obj.mapSeq (· ++ vs.toArray))).push (seqObj "list" vs.toArray 0)}
 rw[hsz]
 refine X3e (wpAny_holding (wpAny_call_entry slot_list_sort ⟨_,hoL,rfl⟩ entry_list_sort (Xn5 hoL ⟨hv.1,λi hi=>(hv.2 i hi).kept λb o _=>keep b o⟩ hne nd h64 λp a1 a2=>⟨_,rfl,?_⟩) (args_list_sort _)))
 exact X3f ⟨_,rfl,h p a1 a2⟩
end
section
variable {X:Cx}
theorem Xkh:Xcx X (.builtin "sorted") (λxs H Q=>∃(a:Addr) (ps:List Addr) (Ts:List (List Str)),xs=[.ref a]/\H a=some (.lst (ps.map V.ref))/\Tups H ps Ts/\[]∉Ts/\Ts.Nodup/\ps.length<64 /\
  ∀(l:Addr) (ps':List Addr) (Ts':List (List Str)),H l=none->Tups H ps' Ts'->Ts'.Perm Ts->(Ts'.Pairwise λa b=>ltL a b=true)->Q (.ref l) (upd H l (.lst (ps'.map V.ref)))):=by
 intro pins s σ H xs us Q I r h
 obtain⟨a,ps,Ts,rfl,ha,ht,hne,nd,h64,q⟩:=h
 obtain⟨u,rfl,rx⟩:=vals1 r
 cases rx
 obtain⟨its,rv,pl,hz⟩:=I.list (SqL.of ha)
 have hits:its=ps.map Value.ref:=by
  clear ht h64 q hz pl ha
  induction ps generalizing its with
  | nil=>cases rv;rfl
  | cons p t ih=>
   cases rv with
   | cons r t'=>cases r;rw[ih _ t'];rfl
 subst hits
 have hget:∀i,i<ps.length->(ps.map Value.ref).getD i .none = .ref (ps.getD i 0):=λi hi=>by simp[List.getD,hi]
 refine Xvl pl.isList (Ts:=Ts) ⟨by rw[Xzk];exact ht.1,λi hi=>?_⟩ hne nd (by rw[Xzk];exact h64) λp h1 h2=>?_
 ·rw[Xzk] at hi
  obtain⟨its2,r2,p2,_⟩:=I.tuple (SqT.of (K:=X.K) (ht.2 i hi))
  obtain⟨o,ho,hc,n,hd⟩:=id p2
  exact⟨ps.getD i 0,o,its2.toArray,n,hget i hi,ho,hc,hd,by simpa using Xc5 r2⟩
 ·rw[Xzk] at h1 h2
  obtain⟨e,he⟩:=sortedAll_at s.heap (ps.map Value.ref) (p.toList.map λi=>(ps.map Value.ref).getD i Value.none).toArray
  have hf:H (s.heap.objs.size+1)=none:=I.hok.fresh (X00 _)
  have hps:=h1.size
  have lt:∀i∈p.toList,i<ps.length:=λi hi=>by
   have q:p.toList.Perm (List.range ps.length):=by
    have:=h1.toList
    simpa using this
   simpa using q.mem_iff.mp hi
  have eo:(p.toList.map λi=>(ps.map Value.ref).getD i Value.none)=(p.toList.map λi=>ps.getD i 0).map Value.ref:=by
   rw[X0f]
   exact X0x λi hi=>hget i (lt i hi)
  have hst:=Xn4 (Ts:=Ts) (by rw[<-ht.1];exact h1) (by rw[<-ht.1];exact h2)
  refine⟨.ref (s.heap.objs.size+1),_,I.laid (t':=s.toks) (h':=sortedAll s.heap (ps.map Value.ref) _) (o:=.lst ((p.toList.map λi=>ps.getD i 0).map V.ref)) (λb ob q=>sortedAll_old q) (X00 _) ?_,rfl,q _ _ (p.toList.map λi=>Ts.getD i []) hf ⟨by simp,λi hi=>?_⟩ hst.1 hst.2⟩
  ·refine⟨by rw[Xzk,Xzk,Xzz,hps,X3g];omega,_,e,?_,he⟩
   show Vals ((p.toList.map λi=>ps.getD i 0).map V.ref) (p.toList.map λi=>(ps.map Value.ref).getD i Value.none)
   rw[eo]
   generalize (p.toList.map λi=>ps.getD i 0)=z
   induction z with
   | nil=>exact .nil
   | cons p t ih=>exact .cons rfl ih
  ·rw[Xzk] at hi
   have g1:(p.toList.map λi=>ps.getD i 0).getD i 0=ps.getD (p.toList[i]) 0:=by rw[List.getD_eq_getElem?_getD,Xz1,Xzl hi];rfl
   have g2:(p.toList.map λi=>Ts.getD i []).getD i []=Ts.getD (p.toList[i]) []:=by rw[List.getD_eq_getElem?_getD,Xz1,Xzl hi];rfl
   rw[g1,g2]
   exact ht.2 _ (lt _ (X0b hi))
end
theorem Xx1(x y:Str)(xs ys:List Str):ltL (x::xs) (y::ys)=if x=y then ltL xs ys else decide (ltS x y):=rfl
theorem Xx2:ltL [] []=false:=rfl
theorem Xx3(y:Str)(ys:List Str):ltL [] (y::ys)=true:=rfl
theorem Xx4(x:Str)(xs:List Str):ltL (x::xs) []=false:=rfl
theorem Xss(A:Around)(s:Shared)(a:Str)(t:Tok)(c:Str)(u:Tok):∃e,SeqAt.EqAt A s (.str a t) (.str c u) e/\(e=true↔a=c):=
 ⟨(a==c),SeqAt.EqAt.str_str a t c u,by simp⟩
theorem Xst(A:Around)(s:Shared)(a:Str)(t:Tok)(c:Str)(u:Tok)(prog:Program)(w:World)(E:Value->Shared->Prop)(Q:Value->Shared->Prop)(h:Q (.bool (decide (ltS a c))) s):
  wpAny (model prog w) A (richCompare .Lt (.str a t) (.str c u)) Q E s:=
 (PyProof.Rows.lt_str h:wpAny (model prog w) A (compareOp .Lt (.str a t) (.str c u)) Q E s)
section
open PySem.SeqAt
open PySem.AutoSeq1 (wpAny_loadPart')
open PySem.MeetsSeq PySem.MeetsSeq2 PySem.MeetsSeq3
theorem Xhh(l b:Addr)(items items2:Array Value)(n n2:Nat)(dd dd2:Option Addr)(sl sl2:Array (Option Value))(ns ms:List Str)(hi:StrsAre items.toList ns)(hj:StrsAre items2.toList ms):
  Meets (Builtin.«tuple.__lt__» ⟨[.ref l,.ref b],[]⟩)
   (λ_ R s=>s.heap.get? l=some {cls:=.type "tuple",dict:=dd,data:=.seq items n,slots:=sl}/\s.heap.get? b=some {cls:=.type "tuple",dict:=dd2,data:=.seq items2 n2,slots:=sl2} /\
    R (.ok (.ret (.bool (ltL ns ms)))) s):=
 .of_wp λprog w A R s h=>by
  obtain⟨hp,g,d,tk,os⟩:=s;obtain⟨hl,hb,h⟩:=h
  have f2:=AutoSeq1.sub_tuple_tuple
  have z1:items.size=ns.length:=by rw[<-hi.length];simp
  have z2:items2.size=ms.length:=by rw[<-hj.length];simp
  wp_walk using wpAny_loadPart' hl,wpAny_loadPart' hb,wpAny_forIn_list _ (λrest b s'=>b.1=none/\s'=⟨hp,g,d,tk,os⟩/\∃(vs ws:List Value) (ns' ms':List Str),rest=vs.zip ws /\
   StrsAre vs ns'/\StrsAre ws ms'/\ns'.length+items2.size=ms'.length+items.size/\R (.ok (.ret (.bool (ltL ns' ms')))) ⟨hp,g,d,tk,os⟩) _
  case turn=>
   rintro ⟨y,x⟩ rest b s' ⟨hb',rfl,vs,ws,ns',ms',hz,hvi,hwi,hlen,hR⟩
   cases hvi with
   | nil=>rw[List.zip_nil_left] at hz;cases hz
   | cons a t hvi'=>
    cases hwi with
    | nil=>rw[List.zip_nil_right] at hz;cases hz
    | cons c u hwi'=>
     rw[List.zip_cons_cons] at hz
     injection hz with hyx hrest
     injection hyx with hy hx
     subst hy hx
     rw[Xx1] at hR
     simp only[X0a] at hlen
     obtain⟨e,he,hiff⟩:=Xss A.in1 ⟨hp,g,d,tk,os⟩ a t c u
     refine X3e (he prog w _ _ ?_)
     cases e with
     | true=>
      rw[X3i (hiff.mp rfl)] at hR
      wp_walk
      exact⟨rfl,rfl,_,_,_,_,hrest,hvi',hwi',by omega,hR⟩
     | false=>
      rw[X3h (λq=>absurd (hiff.mpr q) Xz0)] at hR
      have hri:=Xst A.in1 ⟨hp,g,d,tk,os⟩ a t c u prog w
      wp_walk using hri
      exact⟨_,rfl,by simpa using hR⟩
  case fin=>
   rintro ⟨b1,b2⟩ s' ⟨hb',rfl,vs,ws,ns',ms',hz,hvi,hwi,hlen,hR⟩
   simp only at hb'
   subst hb'
   have hv:ltL ns' ms'=decide (items.size<items2.size):=by
    cases hvi with
    | nil=>
     cases hwi with
     | nil=>
      simp only[X1d] at hlen
      rw[Xx2]
      exact(X3k (by omega)).symm
     | cons c u hw=>
      simp only[X1d,X0a] at hlen
      rw[Xx3]
      exact(X3j (by omega)).symm
    | cons a t hv=>
     cases hwi with
     | nil=>
      simp only[X1d,X0a] at hlen
      rw[Xx4]
      exact(X3k (by omega)).symm
     | cons c u hw=>
      rw[List.zip_cons_cons] at hz
      cases hz
   rw[hv] at hR
   wp_walk
   exact⟨_,rfl,by simpa [Builtin.Tuple.tupleCompareSizes] using hR⟩
  case h=>
   exact⟨rfl,rfl,items.toList,items2.toList,ns,ms,rfl,hi,hj,by omega,h⟩
end
open PySem.W (KasT kas_sort kas_ask kas_item kat_run kat_snds kat_kind kat_lt KatLex kat_cons kat_go kat_yes kat_no kat_one kat_nil KatTups)
section
variable {prog:Program}{w:World}{A:Around}{E:Value->Shared->Prop}{s:Shared}
theorem Xlu{l b:Addr}{items items2:Array Value}{ns ms:List Str}{Q:Value->Shared->Prop}(hl:IsTup s.heap l items)(hb:IsTup s.heap b items2)(hi:StrsAre items.toList ns)(hj:StrsAre items2.toList ms)
  (hu:A.units<cLine) (h:Q (.bool (ltL ns ms)) s):wpAny (model prog w) A (compareOp .Lt (.ref l) (.ref b)) Q E s:=by
 obtain⟨⟨cls,dd,data,sl⟩,ho,hc,n,hd⟩:=id hl
 obtain⟨⟨cls2,dd2,data2,sl2⟩,ho2,hc2,n2,hd2⟩:=id hb
 simp only at hc hd hc2 hd2
 subst hc hd hc2 hd2
 exact richCompare_meets_room (op:=.Lt) ⟨_,ho,rfl⟩ ⟨_,ho2,rfl⟩ PySem.F.slot_tuple_lt PySem.F.entry_tuple_lt (PySem.F.args_tuple_lt_2 _ _) (Xhh l b items items2 n n2 dd dd2 sl sl2 ns ms hi hj)
  ⟨ho,ho2,show Value.bool (ltL ns ms)≠Value.notImplemented/\Q (.bool (ltL ns ms)) s from ⟨(λx=>nomatch x),h⟩⟩ hu
def ltNL (n:Nat) (a:List Str) (m:Nat) (b:List Str):Bool:=if n=m then ltL a b else decide (n<m)
theorem Xt2{vs:List Value}{ss:List Str}(h:StrsAre vs ss):ItemsAre (Xas prog w) (ss.map Sum.inr) vs:=by
 induction h with
 | nil=>exact .nil
 | cons x t r ih=>exact .cons (show Xh0 (.inr x) (.str x t)=true by simp[Xh0,Value.isStrOf]) ih
def Xqh (h:Heap) (v:Value) (n:Nat) (ss:List Str):Prop:=∃a o xs k t u,v = .ref a/\h.get? a=some o/\o.cls = .type "tuple" /\ o.data = .seq xs k/\xs.toList=[.int n t,u]/\TupO h u ss
theorem Xvm{x y:Value}{n m:Nat}{as bs:List Str}{C:Bool->Shared->Prop}(hu:A.units<cLine)(hx:Xqh s.heap x n as)(hy:Xqh s.heap y m bs)(h:C (ltNL n as m bs) s):wpAny (model prog w) A (keyLt' (tuples' true) x y) C E s:=by
 obtain⟨a,o,xs,k,t,u,rfl,h1,h2,h3,h4,h5⟩:=hx
 obtain⟨b,o',ys,k',t',u',rfl,g1,g2,g3,g4,g5⟩:=hy
 refine kat_lt h1 h3 g1 g3 ?_
 rw[h4,g4]
 have ef:decide (xs.size<ys.size)=false:=by
  have e1:xs.size=2:=by rw[<-Xzz,h4];rfl
  have e2:ys.size=2:=by rw[<-Xzz,g4];rfl
  rw[e1,e2];decide
 rw[ef]
 show KatLex prog w A true false C [(.int n t,.int m t'),(u,u')] 0 s
 unfold ltNL at h
 refine kat_cons (wpAny_eqBool_int ?_)
 refine kat_go (λe=>kat_yes ?_) (λe=>kat_no ?_)
 ·have e:n=m:=by have:=X3l e;omega
  rw[X3i e] at h
  obtain⟨c,oc,cs,kc,rfl,c1,c2,c3,c4⟩:=h5
  obtain⟨d,od,ds,kd,rfl,d1,d2,d3,d4⟩:=g5
  refine kat_cons (wpAny_eqBool_tuple (knd:=Xas prog w) hu ⟨oc,cs,kc,c1,c2,c3,Xt2 c4⟩ ⟨od,ds,kd,d1,d2,d3,Xt2 d4⟩ ?_)
  refine kat_go (λe2=>kat_yes (kat_nil ?_)) (λe2=>kat_no ?_)
  ·have e2:as=bs:=by
    have:=X3l e2
    exact X22 (λ_ _ q=>X1b q) |>.mp this
   rw[e2,Xg7] at h
   exact h
  ·exact kat_one _ _ (Xlu ⟨oc,c1,c2,kc,c3⟩ ⟨od,d1,d2,kd,d3⟩ c4 d4 hu h)
 ·have e:¬n=m:=λz=>by
   have:=X3m e
   omega
  rw[X3h e] at h
  refine oneLt_int ?_
  have:decide ((n:Int)<(m:Int))=decide (n<m):=by simp
  rw[this]
  exact h
end
open PySem.W (KasT kas_sort kas_ask kas_item kat_run kat_snds kat_kind KatTups)
section
variable {X:Cx}{pins:List (Addr×Obj)}{σ:List (Option V)}{H:Hp}{s:Shared}
theorem Inv.unpin{p:Addr×Obj}(I:Inv X (p::pins) σ H s):Inv X pins σ H s:=
 I.pins_of λq hq=>I.pin q (X0e _ (Xzo _ hq))
theorem Xqi{D:Addr}{e1:Nat}{ys:List V}{out:List Value}(I:Inv X ((D,seqObj "list" #[] e1)::pins) σ H s)(hD:X.s₀.heap.objs.size<=D)(hnp:∀p∈X.pn++pins,p.1≠D)(hv:Vals ys out)(hz:ys.length<=sizeLine):
  Inv X pins σ (upd H D (.lst ys)) {s with heap:=s.heap.update D (Obj.mapSeq λ_=>out.toArray)}:=by
 obtain⟨hg,hn,hl,hf,_⟩:=I.pin (D,seqObj "list" #[] e1) (X0e _ Xzp)
 have J:=I.unpin
 have sb:=X3p s.heap D (Obj.mapSeq λ_=>out.toArray)
 obtain⟨c2,hc2⟩:∃c2,(s.heap.update D (Obj.mapSeq λ_=>out.toArray)).get? D=some (seqObj "list" out.toArray c2):=⟨_,get?_update_seq hg λ_=>out.toArray⟩
 have kp:∀b o,b≠D->s.heap.get? b=some o->(s.heap.update D (Obj.mapSeq λ_=>out.toArray)).get? b=some o:=λb o n e=>(sb.2 b n).trans e
 have nD:∀b u,H b=some u->b≠D:=λb u e z=>by rw[z,hn] at e;cases e
 have up:∀b u,H b=some u->(upd H D (.lst ys)) b=some u:=λb u e=>by rw[Xae (nD b u e)];exact e
 refine J.step (g':=s.gens) (d':=s.drawn) (t':=s.toks) (ch:=[D]) (λb hb=>?_) (λb o _ _ hc e _=>kp b o (λz=>hc (by rw[z];exact X09 _)) e) (λb o _ _ hc e _=>⟨o.slots,kp b o (λz=>hc (by rw[z];exact X09 _)) e⟩)
  (λb o hc e n=>?_) (λb o hc e=>⟨o,kp b o (λz=>hc (by rw[z];exact X09 _)) e⟩) (λb xs e=>up b _ e) (λb o u e=>up b _ e) (λb pz e=>⟨#[],by rw[up b _ e];simp⟩) (λm hm=>hm.sameBut sb (Ne.symm hl)) ?_ J.bare
 ·rw[Xzr.mp hb]
  refine⟨.inr hD,hl,λx c e z=>?_,λp hp=>hnp p hp⟩
  obtain⟨v,o,ho,hd⟩:=J.cell x c e
  rw[z,hg] at ho
  cases ho
  cases hd
 ·rw[Xae (λz=>hc (by rw[z];exact X09 _))]
  exact n
 ·intro b u e
  by_cases z:b=D
  ·subst z
   rw[Xab] at e
   cases e
   exact⟨hz,out,c2,hv,hc2⟩
  ·rw[Xae z] at e
   refine(J.hok b u e).stay (λd v hd g=>kp d v ?_ g) (λd g=>up d _ g) λd xs g=>up d _ g
   rcases hd with rfl | hd
   ·exact z
   ·exact nD d _ hd
end
open PySem.W (KasT kas_sort kas_ask kas_item kat_run kat_snds kat_kind KatTups)
def ltP' (Ts:List (List Str)) (i j:Nat):Bool:=ltNL (Ts.getD i []).length (Ts.getD i []) (Ts.getD j []).length (Ts.getD j [])
theorem Xsu(n:Nat)(a:List Str):ltNL n a n a=false:=by unfold ltNL;rw[X3i rfl];exact Xg7 a
theorem Xvn{n m k:Nat}{a b c:List Str}(h:ltNL n a m b=true)(g:ltNL m b k c=true):ltNL n a k c=true:=by
 unfold ltNL at *
 by_cases e1:n=m
 ·rw[X3i e1] at h
  by_cases e2:m=k
  ·rw[X3i e2] at g
   rw[X3i (e1.trans e2)]
   exact Xqf _ _ _ h g
  ·rw[X3h e2] at g
   rw[X3h (by omega)]
   have:=X3l g
   exact X3j (by omega)
 ·rw[X3h e1] at h
  have h:=X3l h
  by_cases e2:m=k
  ·rw[X3h (by omega)]
   exact X3j (by omega)
  ·rw[X3h e2] at g
   have g:=X3l g
   rw[X3h (by omega)]
   exact X3j (by omega)
theorem Xsv{n m:Nat}{a b:List Str}(h:a≠b):ltNL n a m b=true\/ltNL m b n a=true:=by
 unfold ltNL
 by_cases e:n=m
 ·rw[X3i e,X3i e.symm]
  exact Xlt _ _ h
 ·rw[X3h e,X3h (Ne.symm e)]
  rcases Nat.lt_or_ge n m with z | z
  ·exact .inl (X3j z)
  ·exact .inr (X3j (by omega))
theorem linP{Ts:List (List Str)}(nd:Ts.Nodup):Lin Ts.length (ltP' Ts) where
 irr i:=Xsu _ _
 tr i j k:=Xvn
 tot i j hi hj ne:=Xsv λe=>ne (by
  have e1:Ts.getD i []=Ts[i]:=by simp[List.getD,hi]
  have e2:Ts.getD j []=Ts[j]:=by simp[List.getD,hj]
  rw[e1,e2] at e
  exact(X2n nd).mp e)
def Turns (X:Cx) (f:Addr) (H:Hp) (ps:List Addr) (Ts:List (List Str)):Prop:=
 ∀(pins:List (Addr×Obj)) (σ:L2.St) (s1:Shared) (H1:Hp) (i:Nat),i<ps.length->Same H H1->Inv X pins σ H1 s1 ->
  wpAny (model X.prog X.w) X.A.in1.in1 (call (.ref f) [.ref (ps.getD i 0)]) (λu s'=>∃t H2,u = .ref t/\Inv X pins σ H2 s'/\H2 t=some (.tup [.int (Ts.getD i []).length,.ref (ps.getD i 0)])/\Same H1 H2) (λ_ _=>False) s1
section
variable {X:Cx}{pins:List (Addr×Obj)}{σ:L2.St}{H:Hp}{s:Shared}
theorem Xvo{t p:Addr}{n:Nat}{ss:List Str}(I:Inv X pins σ H s)(ht:H t=some (.tup [.int n,.ref p]))(hp:H p=some (.tup (ss.map V.str))):Xqh s.heap (.ref t) n ss:=by
 obtain⟨its,r,⟨o,ho,hc,k,hd⟩,_⟩:=I.tuple (SqT.of (K:=X.K) ht)
 obtain⟨its2,r2,⟨o2,ho2,hc2,k2,hd2⟩,_⟩:=I.tuple (SqT.of (K:=X.K) hp)
 cases r with
 | cons r1 r'=>
  cases r' with
  | cons r2' r''=>
   cases r''
   obtain⟨tk,rfl⟩:∃tk,_=Value.int n tk:=r1
   cases r2'
   exact⟨t,o,_,k,tk,.ref p,rfl,ho,hc,hd,rfl,p,o2,_,k2,rfl,ho2,hc2,hd2,by simpa using Xc5 r2⟩
theorem Xqj{D kS:Addr}{e1:Nat}{ks:List V}{st:SortSt}{out:List Addr}{A:Around}{E:Value->Shared->Prop}{P:PySem.Fin->Shared->Prop}(I:Inv X ((D,seqObj "list" #[] e1)::pins) σ H s)(hD:X.s₀.heap.objs.size<=D)(hnp:∀p∈X.pn++pins,p.1≠D)
  (hk:H kS=some (.lst ks)) (ho:(arrOf st).map (·.2)=(out.map Value.ref).toArray) (hf:failedOf st=none) (hz:out.length<64) (h:∀s',Inv X pins σ (upd (upd H kS (.lst [])) D (.lst (out.map V.ref))) s'->P (.done (.ret .none)) s'):
  wpAny (model X.prog X.w) A (ksk_tail D false e1 (.ref kS) st) P E s:=by
 obtain⟨z,its,n,r,hl,e⟩:=I.lstM hk
 have J:=I.lset (its':=[]) (f:=λ_ => #[]) (ys:=[]) (t':=s.toks) hk e rfl .nil (by decide)
 unfold ksk_tail
 try dsimp only
 rw[ho]
 simp only[X0t,if_false]
 refine X3e (listUpdate_at e rfl ?_ (by rw[Xzm,<-hl];exact z) (X0k _))
 refine X3e (wpAny_letGo ?_)
 obtain⟨hg,_⟩:=J.pin (D,seqObj "list" #[] e1) (X0e _ Xzp)
 refine X3e (seqEpoch_at hg rfl ?_)
 refine X3e (listUpdate_at hg rfl ?_ (X0k _) (by rw[Xzm,Xzk,X3g];omega))
 rw[hf]
 simp only[bne_self_eq_false,X0t,if_false]
 refine X3f (h _ ?_)
 have vr:Vals (out.map V.ref) (out.map Value.ref):=by
  clear ho hz h
  induction out with
  | nil=>exact .nil
  | cons p t ih=>exact .cons rfl ih
 exact Xqi J hD hnp vr (by rw[Xzk,X3g];omega)
theorem Xx5{D kS:Addr}{e1:Nat}{ks:List V}{ps:List Addr}{Ts:List (List Str)}{its:List Value}{A:Around}{E:Value->Shared->Prop}{P:PySem.Fin->Shared->Prop}(I:Inv X ((D,seqObj "list" #[] e1)::pins) σ H s)(hu:A.units<cLine)(hD:X.s₀.heap.objs.size<=D)(hnp:∀p∈X.pn++pins,p.1≠D)
  (hk:H kS=some (.lst ks)) (hlen:its.length=ps.length) (hT:ps.length=Ts.length) (nd:Ts.Nodup) (hp:∀i,i<ps.length->Xqh s.heap (its.getD i .none) (Ts.getD i []).length (Ts.getD i [])) (h64:ps.length<64)
  (h:∀(p:Array Nat) s',Gd ps.length p->SoTo (ltP' Ts) p ps.length->Inv X pins σ (upd (upd H kS (.lst [])) D (.lst ((p.toList.map λi=>ps.getD i 0).map V.ref))) s'->P (.done (.ret .none)) s'):
  wpAny (model X.prog X.w) A (ksk_end D false (ps.map Value.ref).toArray e1 (.ref kS) its.toArray) P E s:=by
 have hsz:(ps.map Value.ref).toArray.size=ps.length:=by simp
 have L:=linP nd
 rw[<-hT] at L
 have outs:∀p:Array Nat,Gd ps.length p->(p.toList.map λi=>(ps.map Value.ref).getD i Value.none)=((p.toList.map λi=>ps.getD i 0).map Value.ref):=λp g=>by
  rw[X0f]
  refine X0x λi hi=>?_
  have hi':i<ps.length:=by
   have:=(Array.perm_iff_toList_perm.mp g).mem_iff.mp hi
   simpa using this
  simp[List.getD,hi']
 unfold ksk_end
 try dsimp only
 simp only[X0t,if_false]
 by_cases h2:(ps.map Value.ref).toArray.size<2
 ·rw[X3i h2,X3i h2]
  refine X3e (X3f ?_)
  rw[StateT.run_pure]
  refine X3e (X3f ?_)
  try dsimp only
  have g0:Gd ps.length (List.toArray (List.range ps.length)):=X2v _
  refine Xqj (st:=SortSt.mk' general' (its.toArray.zip (ps.map Value.ref).toArray) #[] 7 none) (out:=(List.toArray (List.range ps.length)).toList.map λi=>ps.getD i 0) I hD hnp hk ?_ rfl (by simpa using h64) λs' J=>h _ s' g0 (λi j hij hj=>by omega) J
  rw[<-outs _ g0]
  show ((its.toArray.zip (ps.map Value.ref).toArray).map (·.2))=_
  apply Array.toList_inj.mp
  simp only[Array.toList_map,List.zip_toArray]
  rw[List.map_snd_zip (by simp[hlen])]
  refine X2c (by simp) λi h1 h2=>?_
  simp[List.getD] at h1 ⊢
  simp[h1]
 ·rw[X3h h2,X3h h2]
  have fst:∀(l:List Value) (q:∀v∈l,∃n ss,Xqh s.heap v n ss),∃fs,KatTups s.heap l fs/\fs.length=l.length/\∀f∈fs,∃(x:Int) (t:Tok),f = .int x t:=by
   intro l
   induction l with
   | nil=>exact λ_=>⟨[],KatTups.nil,rfl,λ_ h=>by cases h⟩
   | cons v l ih=>
    intro q
    obtain⟨fs,t1,t2,t3⟩:=ih λu hm=>q u (Xzo _ hm)
    obtain⟨n,ss,a,o,xs,k,t,u,rfl,g1,g2,g3,g4,_⟩:=q v Xzp
    refine⟨.int n t::fs,KatTups.cons g1 g2 g3 ?_ t1,by simp[t2],λf hf=>?_⟩
    ·have:xs[0]? = xs.toList[0]?:=by simp
     rw[this,g4];rfl
    ·rcases Xzw.mp hf with e | e
     ·exact⟨_,_,e⟩
     ·exact t3 f e
  obtain⟨fs,t1,t2,t3⟩:=fst its λv hv=>by
   obtain⟨i,hi,rfl⟩:=X0r.mp hv
   have:=hp i (by omega)
   have e:its.getD i .none=its[i]:=by simp[List.getD,hi]
   rw[e] at this
   exact⟨_,_,this⟩
  refine X3e (kat_kind (T:=.type "int") t1 (by omega) (λv hm=>?_) (by decide) ?_)
  ·obtain⟨x,t,rfl⟩:=t3 v hm
   exact .now
  have eb:((Value.type "int") != Value.type "tuple")=true:=by decide
  rw[eb]
  refine X3e (wpAny_mono (kat_run (κ:=tuples' true) (ks:=its) (vs:=ps.map Value.ref) (Q:=λst' s'=>s'=s/\failedOf st'=none/\∃p,Gd ps.length p/\SoTo (ltP' Ts) p ps.length/\(arrOf st').map (·.2)=(p.toList.map λi=>(ps.map Value.ref).getD i Value.none).toArray)
   (G:=λp s'=>s'=s/\Gd ps.length p/\SoTo (ltP' Ts) p ps.length) (by simp[hlen]) (by rw[Xzk];omega) (by rw[Xzk];exact h64) (λp st' s' a1 a2 a3 a4=>⟨a4.1,a3,p,a4.2.1,a4.2.2,kat_snds (by simp[hlen]) a2⟩) ?_) ?_ λ_ _ e=>e)
  ·rw[Xzk]
   refine Xlr (n:=ps.length) (lt:=ltP' Ts) (λi j C hi hj hC=>?_) (Xgc (n:=ps.length) (by omega)) ⟨rfl,(Xgc (n:=ps.length) (by omega)).run,Xm1 L (by omega)⟩
   show wpAny _ _ (keyLt' (tuples' true) (its.getD i Value.none) (its.getD j Value.none)) C _ _
   exact Xvm hu (hp i hi) (hp j hj) hC
  rintro ⟨⟨⟩,st'⟩ s' ⟨rfl,hf,p,g,so,ea⟩
  try dsimp only
  refine Xqj (out:=p.toList.map λi=>ps.getD i 0) I hD hnp hk (by rw[ea,outs p g]) hf (by rw[Xzk,Xzz,g.size];exact h64) λs' J=>h p s' g so J
end
section
variable {X:Cx}{pins:List (Addr×Obj)}{σ:L2.St}{H:Hp}{s:Shared}
theorem Xvp{D kS f:Addr}{e1:Nat}{ps:List Addr}{Ts:List (List Str)}{A:Around}{E:Value->Shared->Prop}{P:PySem.Fin->Shared->Prop}(hA:A=X.A.in1.in1)(I:Inv X ((D,seqObj "list" #[] e1)::pins) σ (upd H kS (.lst [])) s)(hkS:H kS=none)(hu:A.units<cLine)(hD:X.s₀.heap.objs.size<=D)(hnp:∀p∈X.pn++pins,p.1≠D)(hDn:H D=none)
  (hT:Tups H ps Ts) (nd:Ts.Nodup) (h64:ps.length<64) (turn:Turns X f H ps Ts)
  (h:∀(p:Array Nat) (H':Hp) s',Gd ps.length p->SoTo (ltP' Ts) p ps.length->Same H H'->H' D=some (.lst ((p.toList.map λi=>ps.getD i 0).map V.ref))->Inv X pins σ H' s'->P (.done (.ret .none)) s'):
  wpAny (model X.prog X.w) A (ksk_rest D (.ref f) false (ps.map Value.ref).toArray e1 (.ref kS)) P E s:=by
 subst hA
 unfold ksk_rest
 refine X3e (wpAny_rule ?_)
 first
  | rw[List.forIn_toArray]
  | (rw[<-Array.forIn_toList];simp only[List.toList_toArray])
  | rw[<-Array.forIn_toList]
 refine X3e (ksk_fold (λi s'=>∃(H':Hp) (ks:List V),Inv X ((D,seqObj "list" #[] e1)::pins) σ H' s'/\Same H H'/\H' kS=some (.lst ks)/\ks.length=i/\∀j,j<i->∃t,ks[j]? = some (.ref t)/\H' t=some (.tup [.int (Ts.getD j []).length,.ref (ps.getD j 0)])) (ps.map Value.ref) 0 s
  ⟨_,[],I,Same.upd0 hkS,Xab,rfl,λj hj=>absurd hj (X1e _)⟩ ?step ?done)
 case step=>
  rintro j x s' hx ⟨H',ks,J,sm,hk,hkl,hks⟩
  simp only[Nat.zero_add] at hkl hks ⊢
  obtain⟨hj,ex⟩:=Xz2.mp hx
  rw[Xzk] at hj
  have ex':x = .ref (ps.getD j 0):=by rw[<-ex];simp[List.getD,hj]
  subst ex'
  refine X3e (wpAny_attempt (wpAny_mono (turn _ σ s' H' j hj sm J) (λv s'' he=>?_) λ_ _ hF=>hF.elim))
  obtain⟨t,H2,rfl,J2,ht,sm2⟩:=he
  try dsimp only
  have hk2:=sm2 _ _ hk
  obtain⟨z,its,n,r,hl,e⟩:=J2.lstM hk2
  have ntk:t≠kS:=λq=>by rw[q,hk2] at ht;cases ht
  refine X3e (listUpdate_at e rfl ?_ (by rw[Xzm,<-hl];exact z) (by rw[Array.size_push,Xzm,<-hl,hkl,X3g];omega))
  refine X3f ⟨rfl,_,ks++[.ref t],J2.lset (ys:=ks++[.ref t]) (its':=its++[.ref t]) (t':=s''.toks) hk2 e (by simp) (r.append (.cons (show RelV (.ref t) (.ref t) from rfl) .nil)) (by rw[Xzt,X0o,hkl,X3g];omega),(sm.trans sm2).upd hkS,Xab,by simp[hkl],λi hi=>?_⟩
  by_cases q:i=j
  ·subst q
   exact⟨t,by rw[List.getElem?_append_right (by omega),hkl];simp,by rw[Xae ntk];exact ht⟩
  ·obtain⟨t',a1,a2⟩:=hks i (by omega)
   refine⟨t',by rw[List.getElem?_append_left (by omega)];exact a1,?_⟩
   rw[Xae λq=>by rw[q,hk] at a2;cases a2]
   exact sm2 _ _ a2
 case done=>
  rintro s' ⟨H',ks,J,sm,hk,hkl,hks⟩
  simp only[Nat.zero_add,Xzk] at hkl hks
  try dsimp only
  obtain⟨z,its,n,r,hl,e⟩:=J.lstM hk
  refine X3e (listItems_at e rfl ?_)
  have hTs:=hT.same sm
  have nkD:kS≠D:=λq=>by
   obtain⟨_,hn,_⟩:=J.pin (D,seqObj "list" #[] e1) (X0e _ Xzp)
   have hn:H' D=none:=hn
   rw[<-q,hk] at hn
   cases hn
  refine Xx5 (ks:=ks) J hu hD hnp hk (by omega) hT.1 nd (λi hi=>?_) h64 λp s2 g so J2=>h p _ s2 g so ((sm.upd hkS).upd hDn) Xab J2
  obtain⟨t,a1,a2⟩:=hks i hi
  obtain⟨u,hu1,hu2⟩:=r.get a1
  have hu2:u=Value.ref t:=hu2
  have e2:its.getD i .none = .ref t:=by simp[List.getD,hu1,hu2]
  rw[e2]
  exact Xvo J a2 (hTs.2 i hi)
theorem Xn6{l f:Addr}{ps:List Addr}{Ts:List (List Str)}{Q:VK}(I:Inv X pins σ H s)(hu:X.A.in1.in1.units<cLine)(hl:H l=some (.lst (ps.map V.ref)))(hT:Tups H ps Ts)(nd:Ts.Nodup)(h64:ps.length<64)(turn:Turns X f H ps Ts)
  (h:∀(D:Addr) (p:Array Nat) (H':Hp),H D=none->Gd ps.length p->SoTo (ltP' Ts) p ps.length->Same H H'->H' D=some (.lst ((p.toList.map λi=>ps.getD i 0).map V.ref))->Q (.ref D) H'):
  wpAny (model X.prog X.w) X.A (call (.builtin "sorted") [.ref l] [(Str.ofString "key",.ref f)]) (EP X pins σ Q) X.xe s:=by
 obtain⟨its,rv,pl,hz⟩:=I.list (SqL.of hl)
 have hits:its=ps.map Value.ref:=by
  clear hT h64 turn h pl hl hz
  induction ps generalizing its with
  | nil=>cases rv;rfl
  | cons p t ih=>
   cases rv with
   | cons r t'=>cases r;rw[ih _ t'];rfl
 subst hits
 refine call_function_entry_kw kind_sorted plain_sorted entry_sorted (ksk_s1 _ _) ?_
 unfold Builtin.«sorted»
 refine X3e (m:=checkCount "sorted" 1 1 _) (X3f ?_)
 refine X3e (collect_list pl.isList ?_ (by rw[Xzk,X3g];omega))
 refine X3e (wpAny_newList ?_ (by rw[Xzk,X3g];omega))
 generalize hvs:ps.map Value.ref=vs at *
 have hvl:vs.length=ps.length:=by rw[<-hvs,Xzk]
 have hsz:((s.heap.push (seqObj "list" #[] 0)).update s.heap.objs.size (Obj.mapSeq (· ++ vs.toArray))).objs.size=s.heap.objs.size+1:=by
  rw[Heap.size_update,size_push']
 have hoL:(((s.heap.push (seqObj "list" #[] 0)).update s.heap.objs.size (Obj.mapSeq (· ++ vs.toArray))).push (seqObj "list" vs.toArray 0)).get? (s.heap.objs.size+1)=some (seqObj "list" vs.toArray 0):=by
  rw[<-hsz];exact Heap.get?_push_size _ rfl
 have keep:∀b o,s.heap.get? b=some o->(((s.heap.push (seqObj "list" #[] 0)).update s.heap.objs.size (Obj.mapSeq (· ++ vs.toArray))).push (seqObj "list" vs.toArray 0)).get? b=some o:=λb o q=>by
  have hlt:b<s.heap.objs.size:=X3n q
  rw[Heap.get?_push_ne _ _ _ (by rw[hsz];exact Xzs (X03 hlt)),Heap.get?_update_ne _ _ _ _ (Xzs hlt),Heap.get?_push_ne _ _ _ (Xzs hlt)]
  exact q
 have hszA:(((s.heap.push (seqObj "list" #[] 0)).update s.heap.objs.size (Obj.mapSeq (· ++ vs.toArray))).push (seqObj "list" vs.toArray 0)).objs.size=s.heap.objs.size+2:=by
  rw[size_push',hsz]
 show wpAny _ _ _ _ _ {s with heap:=((s.heap.push (seqObj "list" #[] 0)).update s.heap.objs.size (Obj.mapSeq (· ++ vs.toArray))).push (seqObj "list" vs.toArray 0)}
 rw[hsz]
 generalize hhA:((s.heap.push (seqObj "list" #[] 0)).update s.heap.objs.size (Obj.mapSeq (· ++ vs.toArray))).push (seqObj "list" vs.toArray 0)=hA at *
 refine X3e (wpAny_holding (wpAny_call_entry_kw slot_list_sort ⟨_,hoL,rfl⟩ entry_list_sort ?body (ksk_l1 _ _)))
 case body=>
  show wpAny (model X.prog X.w) X.A.in1.in1 (Builtin.«list.sort» ⟨[.ref (s.heap.objs.size+1)],[(Str.ofString "key",.ref f)]⟩) _ _ _
  rw[ksk_t1]
  unfold ksk_tree
  refine X3e (listItems_at hoL rfl ?_)
  refine X3e (listUpdate_at hoL rfl ?_ (by rw[Xzm,hvl,X3g];omega) (X0k _))
  obtain⟨e1,ho1⟩:∃e1,(hA.update (s.heap.objs.size+1) (Obj.mapSeq λ_=>(#[]:Array Value))).get? (s.heap.objs.size+1)=some (seqObj "list" #[] e1):=⟨_,get?_update_seq hoL λ_ => #[]⟩
  refine X3e (seqEpoch_at ho1 rfl ?_)
  refine X3e (wpAny_newTuple ?_ (by show vs.length<=_;rw[hvl,X3g];omega))
  refine X3e (wpAny_newList ?_ (X0k _))
  refine wpAny_holding ?_
  have hkS:((hA.update (s.heap.objs.size+1) (Obj.mapSeq λ_=>(#[]:Array Value))).push (seqObj "tuple" vs.toArray 0)).objs.size=s.heap.objs.size+3:=by rw[size_push',Heap.size_update,hszA]
  have k6:∀b o,s.heap.get? b=some o->(((hA.update (s.heap.objs.size+1) (Obj.mapSeq λ_=>(#[]:Array Value))).push (seqObj "tuple" vs.toArray 0)).push (seqObj "list" #[] 0)).get? b=some o:=λb o e=>by
   refine X3o _ (X3o _ ?_)
   rw[Heap.get?_update_ne _ _ _ _ (Xzs (X03 (X3n e)))]
   exact keep b o e
  have ho6:(((hA.update (s.heap.objs.size+1) (Obj.mapSeq λ_=>(#[]:Array Value))).push (seqObj "tuple" vs.toArray 0)).push (seqObj "list" #[] 0)).get? (s.heap.objs.size+1)=some (seqObj "list" #[] e1):=X3o _ (X3o _ ho1)
  have hk6:(((hA.update (s.heap.objs.size+1) (Obj.mapSeq λ_=>(#[]:Array Value))).push (seqObj "tuple" vs.toArray 0)).push (seqObj "list" #[] 0)).get? (s.heap.objs.size+3)=some (seqObj "list" #[] 0):=by rw[<-hkS];exact Heap.get?_push_size _ rfl
  have J0:Inv X pins σ (upd H (s.heap.objs.size+3) (.lst [])) {s with heap:=((hA.update (s.heap.objs.size+1) (Obj.mapSeq λ_=>(#[]:Array Value))).push (seqObj "tuple" vs.toArray 0)).push (seqObj "list" #[] 0)}:=
   I.laid (t':=s.toks) (o:=.lst []) k6 (by omega) ⟨by decide,[],0,.nil,hk6⟩
  have hDn:H (s.heap.objs.size+1)=none:=I.hok.fresh (X00 _)
  have hnp:∀p∈X.pn++pins,p.1≠s.heap.objs.size+1:=λp hp=>Xzs (X03 (X3n (I.pin p hp).1))
  have J1:Inv X ((s.heap.objs.size+1,seqObj "list" #[] e1)::pins) σ (upd H (s.heap.objs.size+3) (.lst [])) {s with heap:=((hA.update (s.heap.objs.size+1) (Obj.mapSeq λ_=>(#[]:Array Value))).push (seqObj "tuple" vs.toArray 0)).push (seqObj "list" #[] 0)}:=by
   refine J0.pins_of λp hp=>?_
   rcases Xzw.mp hp with rfl | hp
   ·exact⟨ho6,by rw[Xae (by show s.heap.objs.size+1≠s.heap.objs.size+3;omega)];exact hDn,X3b (X03 I.lt),I.nofs (X00 _),λv q=>by cases q⟩
   ·exact J0.pin p (X0e _ hp)
  rw[hkS]
  subst hvs
  refine Xvp (f:=f) rfl J1 (I.hok.fresh (by omega)) hu (X0c I.sz (X00 _)) hnp hDn hT nd h64 turn λp H' s' g so sm hD' J=>⟨_,rfl,?_⟩
  exact X3f ⟨_,rfl,⟨.ref (s.heap.objs.size+1),H',J,rfl,h _ p H' hDn g so sm hD'⟩⟩
end
structure FunT (K:PySem.W.Frag) (x:Str) (st:Stmt) (f:Addr) (fd:FuncData) (T:Addr):Prop where
 ex:∃(oc:Value) (od:Option Addr) (kV doc pm:Value) (an:Option Addr) (c0:Addr) (ct:Value) (osl:Array (Option Value)),
  fd=PySem.W.fnOf x x (Xdf st) (Xcc st) (defScope st) .none kV doc pm an (.ref c0) ct/\K.lookup f=some ⟨oc,od,.func fd,osl⟩/\PySem.W.codeIn K (.ref c0) x=true/\PySem.W.codeHdIn K c0 T=true
 kp:PySem.W.keepIn K (.ref f)=true
structure DefT (K:PySem.W.Frag) (x:Str) (st:Stmt) (T:Addr):Prop where
 ex:∃f fd,PySem.W.nsIn K mainGlobals x=some (some (.ref f))/\PySem.W.keepIn K (.ref f)=true/\FunT K x st f fd T/\Fun K x x st f fd
theorem DefT.of{K:PySem.W.Frag}{x:Str}{st:Stmt}{f c0 T:Addr}{oc:Value}{od an:Option Addr}{osl:Array (Option Value)}{kV doc pm ct:Value}(a:PySem.W.nsIn K mainGlobals x=some (some (.ref f)))
  (l:K.lookup f=some ⟨oc,od,.func (PySem.W.fnOf x x (Xdf st) (Xcc st) (defScope st) .none kV doc pm an (.ref c0) ct),osl⟩) (c:PySem.W.codeIn K (.ref c0) x=true) (k:PySem.W.keepIn K (.ref f)=true) (t:PySem.W.codeHdIn K c0 T=true):DefT K x st T:=
 ⟨⟨f,_,a,k,⟨⟨oc,od,kV,doc,pm,an,c0,ct,osl,rfl,l,c,t⟩,k⟩,Xtr l c k⟩⟩
section
variable {P:Program}{w:World}{K:PySem.W.Frag}{mg:Str->Option Value}{base:Heap}
theorem FunT.ok{x:Str}{st:Stmt}{f T:Addr}{fd:FuncData}{N ps:List Str}{k:Nat}{sp:Sp}(F:FunT K x st f fd T)(S:FnScope N ps (defScope st))(len:∀vs H Q E,sp vs H Q E->vs.length=ps.length)
  (hbody:∀(c0:Addr),PySem.W.codeHdIn K c0 T=true->∀(A:Around) (outer:List Env) (s:Shared) (H:Hp) (vs:List V) (Q:VK) (E:XK),Room k (A.deeper (envOfC x (defScope st) s.heap.objs.size f (.ref c0)))->sp vs H Q E ->
   ∃t,PSs (cxOf CX0 P w K mg base N x (defScope st) f (.ref c0) A outer s H E).nox (Xcc st) t/\t {nx:=λ_ H'=>Q .non H',rt:=Q} (start N vs) H):FnOk P w K mg base CX0 (k+1) f fd ps sp:=by
 obtain⟨oc,od,kV,doc,pm,an,c0,ct,osl,rfl,lk,hcd,hhd⟩:=F.ex
 refine Xui lk hcd S len λA outer s H vs Q E hr hsp=>?_
 obtain⟨t,h,q⟩:=hbody c0 hhd A outer s H vs Q E hr hsp
 exact⟨t,h.nox,q⟩
end
section
variable {X:Cx}
def Xx6 (X:Cx) (ta tk:TA):TE:=fun σ H Q=>ta σ H λvs H1=>tk σ H1 λzs H2=>∃(l f:Addr) (ps:List Addr) (Ts:List (List Str)),vs=[.ref l]/\zs=[.ref f]/\H2 l=some (.lst (ps.map V.ref))/\Tups H2 ps Ts/\Ts.Nodup/\ps.length<64/\Turns X f H2 ps Ts /\
 ∀(D:Addr) (p:Array Nat) (H':Hp),H2 D=none->Gd ps.length p->SoTo (ltP' Ts) p ps.length->Same H2 H'->H' D=some (.lst ((p.toList.map λi=>ps.getD i 0).map V.ref))->Q (.ref D) H'
theorem Xsw{x:Str}{p pos:Pos}{e:Expr}{es:List Expr}{kws:List Keyword}{ta tk:TA}(hu:X.A.in1.in1.units<cLine)(hg:Gl X x)(hm:X.mg x=none)(hv:bootBuiltins x=some (.builtin "sorted"))(ha:PA X (e::es) ta)(hkw:PK X kws tk)
  (hks:(backToKw pos (keywordEach kws X.env)).filterMap (·.1)=[Str.ofString "key"]:=by rfl)
  (hn:x ≠ "__name__" := by decide) (hdb:(x==("__debug__" : Str))=false:=by decide)
  (he:backTo pos (starEach (e::es) X.env)=(false,eval e X.env)::backTo pos (starEach es X.env):=by rfl)
  (hplain:(backTo pos (starEach (e::es) X.env)).any (·.1)=false:=by rfl)
  (hall:(backToKw pos (keywordEach kws X.env)).all (·.1.isSome)=true:=by rfl)
  (hno:(backToKw pos (keywordEach kws X.env)).any (·.1.isNone)=false:=by rfl):PE X (.Call (.Name x p) (e::es) kws pos) (Xx6 X ta tk):=by
 intro pins s σ H Q I h
 refine wpAny_Call_Name_kw (Xhi I hg hm hv ?_ hn hdb)
 refine callWith_kw (thn (ha pos pins s σ H _ I h) λus s1 ⟨vs,H1,I1,r1,q1⟩=>thn (hkw pos pins s1 σ H1 _ I1 q1) λws s2 ⟨zs,H2,I2,r2,q2⟩=>?_) he hplain hall hno
 rw[hks]
 obtain⟨l,f,ps,Ts,rfl,rfl,hl,hT,nd,h64,turn,k⟩:=q2
 obtain⟨u,rfl,rx⟩:=vals1 r1
 obtain⟨v,rfl,rf⟩:=vals1 r2
 cases rx
 cases rf
 exact Xn6 I2 hu hl hT nd h64 turn k
theorem Xqk{k:Nat}{f c:Addr}{x qual:Str}{params:Arguments}{body:Expr}{scope:Scope}{pm ctv:Value}{H:Hp}{ps:List Addr}{Ts:List (List Str)}(hf:H f=some (.ext (lamP f (PySem.W.kla_fn "<lambda>" qual params body scope [] pm (.ref c) ctv))))(hc:H c=some (.ext (codP c qual)))
  (S:FnScope [x] [x] scope) (hr:Room (k+3) X.A) (hb:∀u,bindArgs (PySem.W.kla_fn "<lambda>" qual params body scope [] pm (.ref c) ctv) ⟨[u],[]⟩=pure ([x].zip [u]))
  (hkey:∀(A:Around) (outer:List Env) (s1:Shared) (H1:Hp) (i:Nat),i<ps.length->Same H H1->Room k (A.deeper (envOfC qual scope s1.heap.objs.size f (.ref c)))->∃t,PE (cxOf CX0 X.prog X.w X.K X.mg X.base [x] qual scope f (.ref c) A outer s1 H1 E0) body t /\
   ∀Q:VK,(∀t H2,H2 t=some (.tup [.int (Ts.getD i []).length,.ref (ps.getD i 0)])->Same H1 H2->Q (.ref t) H2)->t (start [x] [.ref (ps.getD i 0)]) H1 Q):Turns X f H ps Ts:=by
 intro pins σ s1 H1 i hi sm I
 have hr1:Room (k+1) X.A.in1.in1:=(Room.in1 (k:=k+2) hr).in1
 obtain⟨t,ht,hq⟩:=hkey X.A.in1.in1 X.stack s1 H1 i hi sm (hr1.deeper _)
 refine wpAny_call (codeAny_mono (Xu8 (Q:=λv H2=>∃t,v = .ref t/\H2 t=some (.tup [.int (Ts.getD i []).length,.ref (ps.getD i 0)])/\Same H1 H2) (sm _ _ hf) (sm _ _ hc) S hr1 I.env0.in1.in1 rfl (.cons (show RelV (.ref (ps.getD i 0)) (.ref (ps.getD i 0)) from rfl) .nil) (hb _) ht (hq _ λt H2 a b=>⟨t,rfl,a,b⟩)) λr s' hq'=>?_)
 cases r with
 | error e=>exact hq'.elim
 | ok fl=>
  cases fl with
  | next=>exact False.elim hq'
  | brk=>exact False.elim hq'
  | cont=>exact False.elim hq'
  | ret u=>
   obtain⟨v,H2,J,rv,t,rfl,a,b⟩:=I.after hq'
   exact⟨t,H2,rv,J,a,b⟩
end
end L2
namespace SH
open PySem PySem.Spec PyProof.Rows L2
theorem Xfr{how:Str}{off:Bool}:Xbp how off=true↔(how = "within" -> off=true)/\(how = "apart" -> off=false):=by
 unfold Xbp
 by_cases h:how = "within"
 ·rw[X3i h]
  have n:how ≠ "apart" := by rw[h];decide
  exact⟨λz=>⟨λ_=>z,λz=>absurd z n⟩,λz=>z.1 h⟩
 ·rw[X3h h]
  by_cases g:how = "apart"
  ·rw[X3j g]
   constructor
   ·exact λz=>⟨λq=>absurd q h,λ_=>by simpa using z⟩
   ·intro z
    rw[z.2 g]
    rfl
  ·rw[X3k g]
   exact⟨λ_=>⟨λq=>absurd q h,λq=>absurd q g⟩,λ_=>rfl⟩
theorem Xca{row S:List Str}:isPlotB row S=true↔S.Pairwise ltS/\(∀x∈S,x∈row)/\(∀x∈S,∀y∈row,lieR row x y = "within" -> y∈S)/\(∀x∈S,∀y∈S,lieR row x y ≠ "apart"):=by
 constructor
 ·intro h
  obtain⟨h1,h2⟩:=Xck h
  unfold isPlotB at h
  rw[Xz3] at h
  have al:∀x∈S,∀y∈row,Xbp (lieR row x y) (decide (y∈S))=true:=λx hx y hy=>Xz8.mp (Xz8.mp h.2 x hx) y (Xai.mpr hy)
  refine⟨h2,h1,λx hx y hy e=>X3l ((Xfr.mp (al x hx y hy)).1 e),λx hx y hy e=>?_⟩
  have:=(Xfr.mp (al x hx y (h1 y hy))).2 e
  rw[X3j hy] at this
  cases this
 ·rintro ⟨h1,h2,h3,h4⟩
  unfold isPlotB
  rw[Xz3,Xz3]
  refine⟨⟨X3j (Xil h1).symm,Xz8.mpr λx hx=>X3j (h2 x hx)⟩,Xz8.mpr λx hx=>Xz8.mpr λy hy=>Xfr.mpr ⟨λe=>X3j (h3 x hx y (Xai.mp hy) e),λe=>X3k λz=>h4 x hx y z e⟩⟩
theorem Xe2{a b c e:Int}(h:lieT a b c e = "within"):c<a/\a<e/\c<b/\b<e:=by
 unfold lieT at h
 split at h
 ·exact absurd h (by decide)
 ·split at h
  ·exact absurd h (by decide)
  ·split at h
   ·rename_i q
    rw[nIn2] at q
    by_cases p1:c<a/\a<e
    ·by_cases p2:c<b/\b<e
     ·exact⟨p1.1,p1.2,p2.1,p2.2⟩
     ·rw[X3i p1,X3h p2] at q;omega
    ·rw[X3h p1] at q
     split at q<;>omega
   ·split at h
    ·exact absurd h (by decide)
    ·exact absurd h (by decide)
theorem Xlv{row:List Str}{x y:Str}(hx:row.count x=2)(h:lieR row x y = "within"):span row x<span row y:=by
 have l1:=Xd6 hx
 obtain⟨h1,h2,h3,h4⟩:=Xe2 h
 unfold span
 omega
theorem Xql{S:List Str}{p:Str->Bool}(h:S.Pairwise ltS):(S.filter p).Pairwise ltS:=h.filter p
theorem Xqm{row S:List Str}(h2:∀y∈row,row.count y=2)(h:isPlotB row S=true)(ne:S≠[]):∃x∈S,isPlotB row (S.filter λy=>decide (y≠x))=true:=by
 obtain⟨p1,p2,p3,p4⟩:=Xca.mp h
 obtain⟨x,hx,lx⟩:=least (span row) S ne
 refine⟨x,hx,Xca.mpr ⟨Xql p1,λy hy=>p2 y (Xzu.mp hy).1,λy hy z hz e=>?_,λy hy z hz=>p4 y (Xzu.mp hy).1 z (Xzu.mp hz).1⟩⟩
 obtain⟨hy1,hy2⟩:=Xzu.mp hy
 refine Xzu.mpr ⟨p3 y hy1 z hz e,X3j λq=>?_⟩
 subst q
 have:=Xlv (h2 y (p2 y hy1)) e
 have:=lx y hy1
 omega
theorem Xki{S:List Str}{x:Str}(h:S.Pairwise ltS)(hx:x∈S):srt ((S.filter λy=>decide (y≠x))++[x])=S:=by
 have nd:=Xcq h
 refine Xjx ((Xbh _).trans (Xfj ?_ nd λy=>?_)) (Xer _) (Xf6 h)
 ·rw[X04]
  refine⟨nd.filter _,by simp,λa ha b hb e=>?_⟩
  rw[Xzr.mp hb] at e
  exact X3l (Xzu.mp ha).2 e
 ·rw[Xzv,Xzr,Xzu]
  constructor
  ·rintro (z | z)
   ·exact z.1
   ·rw[z];exact hx
  ·intro z
   by_cases e:y=x
   ·exact .inr e
   ·exact .inl ⟨z,X3j e⟩
theorem Xsx{S:List Str}{x:Str}(h:S.Pairwise ltS)(hx:x∈S):(S.filter λy=>decide (y≠x)).length+1=S.length:=by
 have e:=Xki h hx
 have:=congrArg List.length e
 rw[(Xbh _).length_eq,Xzt] at this
 exact this
theorem Xg8{H:Hp}:∀{Ts:List (List Str)} {xs:List V},DAll H (Ts.map tupD) xs->∃ps:List Addr,xs=ps.map V.ref/\Tups H ps Ts
 | [],xs,h=>by unfold List.map DAll at h;exact⟨[],h,Tups.nil H⟩
 | T::Ts,xs,h=>by
  rw[Xz9] at h
  unfold DAll at h
  obtain⟨v,vr,rfl,h1,h2⟩:=h
  obtain⟨p,ys,rfl,hp,hy⟩:=Xps h1
  rw[Xb9 hy] at hp
  obtain⟨ps,rfl,hq⟩:=Xg8 h2
  exact⟨p::ps,rfl,Tups.cons hp hq⟩
theorem Xkj{H:Hp}:∀{ps:List Addr} {Ts:List (List Str)},Tups H ps Ts->DAll H (Ts.map tupD) (ps.map V.ref)
 | [],Ts,h=>by
  have:Ts=[]:=X0g.mp h.1.symm
  rw[this]
  unfold List.map DAll
  rfl
 | p::ps,[],h=>by have:=h.1;simp at this
 | p::ps,T::Ts,h=>by
  rw[Xz9,Xz9]
  unfold DAll
  exact⟨.ref p,ps.map V.ref,rfl,Xbs (h.2 0 (by simp)),Xkj ⟨by simpa using h.1,λi hi=>by simpa using h.2 (i+1) (by simpa using hi)⟩⟩
theorem Xvq{row T:List Str}(h2:∀y∈row,row.count y=2)(h:isPlotB row T=true):Xfo (bars row) T=true:=by
 rw[<-Xim h2] at h
 unfold Xj9 at h
 rw[Xz3] at h
 exact h.2
def Cov (row:List Str) (Us:List (List Str)) (j:Nat) (Ts:List (List Str)):Prop:=∀i,i<j->∀x∈row,x∉Us.getD i []->isPlotB row (srt (Us.getD i []++[x]))=true->srt (Us.getD i []++[x])∈Ts
theorem Xlw{α : Type}{R : α -> α->Prop}(irr:∀a,¬R a a)(tr:∀a b c,R a b->R b c->R a c):∀{A B:List α},A.Pairwise R->B.Pairwise R->(∀x,x∈A↔x∈B)->A=B
 | [],[],_,_,_=>rfl
 | [],b::_,_,_,h=>absurd ((h b).mpr Xzp) (by simp)
 | a::_,[],_,_,h=>absurd ((h a).mp Xzp) (by simp)
 | a::A,b::B,hA,hB,h=>by
  obtain⟨a1,a2⟩:=X1q.mp hA
  obtain⟨b1,b2⟩:=X1q.mp hB
  have e:a=b:=by
   rcases Xzw.mp ((h a).mp Xzp) with z | z
   ·exact z
   ·rcases Xzw.mp ((h b).mpr Xzp) with u | u
    ·exact u.symm
    ·exact absurd (tr _ _ _ (a1 b u) (b1 a z)) (irr a)
  subst e
  rw[Xlw irr tr a2 b2 λx=>?_]
  constructor
  ·intro hx
   rcases Xzw.mp ((h x).mp (Xzo _ hx)) with z | z
   ·exact absurd (z ▸ a1 x hx) (irr a)
   ·exact z
  ·intro hx
   rcases Xzw.mp ((h x).mpr (Xzo _ hx)) with z | z
   ·exact absurd (z ▸ b1 x hx) (irr a)
   ·exact z
def LayC (row:List Str) (n:Nat) (Us:List (List Str)):Prop:=∀T,T∈Us↔isPlotB row T=true/\T.length=n
end SH
namespace L2
open PySem PySem.Spec PyProof.Rows
theorem Xsy{X:Cx}{tg l:Expr}{tl:TE}(K:PySem.W.Frag)(h:X.K=K)(hl:PE X l tl):PI X tg l (Xwo K tl):=by subst h;exact Xa9 hl
theorem Xhu{t u:TS}{D:Ends}{σ:St}{H:Hp}(P:St->Hp->Prop)(h2:∀σ' H',P σ' H'->u D σ' H')(h1:∀nx,(∀σ' H',P σ' H'->nx σ' H')->t {D with nx:=nx} σ H):tSeq t u D σ H:=h1 (u D) h2
end L2
namespace SH
open PySem PySem.Spec PyProof.Rows L2
def spOne:Sp:=λvs H Q _=>∃(dr sc l:Addr) (xs:List V),vs=[.ref dr,.ref l]/\DrawOk H dr sc/\H l=some (.lst xs)/\l≠dr/\0<xs.length/\xs.length<=1000 /\
 ∀(i:Nat) (H':Hp),i<xs.length->DrawOk H' dr sc->But dr H H'->Q (xs.getD i .non) H'
def mostL (a b c:List Str):List Str:=srt ((a.filter λx=>decide (x∈b)||decide (x∈c))++(b.filter λx=>decide (x∈c) && !decide (x∈a)))
theorem Xlx{a b:List Str}(ha:a.Pairwise ltS)(hb:b.Pairwise ltS)(h:∀x,x∈a↔x∈b):a=b:=Xlw Xc6 (λ_ _ _=>Xds) ha hb h
end SH
set_option maxHeartbeats 3200000
namespace L2
open PySem PySem.Spec PyProof.Rows PySem.Calls
def Mask (mask:Nat):Prop:=mask=7\/mask=15\/mask=31
section
variable {mask:Nat}{owner:Array (Option Nat)}
def liveL (owner:Array (Option Nat)):List Nat:=owner.toList.filterMap id
end
section
variable {P:Program}{w:World}{A:Around}{E:Value->Shared->Prop}{s:Shared}{a b c:Addr}{ks ls:List Str}
structure Nu (w:World) (h:Heap) (a:Addr) (n:Nat):Prop where
 ex:∃o ep t,h.get? a=some o/\o.ExactSet/\o.data = .set #[] ep t/\t.place = #[]/\t.dummies = #[]/\Mask t.mask/\n<=t.mask/\t.led = !Xd5 w/\t.plain=true
def Wl (P:Program) (w:World) (wl:Array (Int×Value)) (ks:List Str):Prop:=ElemsOf (PySem.strKind P w) wl.toList/\∃zs,StrsAre (wl.toList.map (·.2)) zs/\zs.Perm ks
end
section
variable {P:Program}{w:World}{A:Around}{E:Value->Shared->Prop}{s:Shared}{a b c:Addr}{ks ls:List Str}
def xor1 (ks:List Str) (x:Str):List Str:=if x∈ks then ks.erase x else ks++[x]
end
section
variable {P:Program}{w:World}{A:Around}{E:Value->Shared->Prop}{s:Shared}{a b c:Addr}{ks ls:List Str}
end
section
variable {X:Cx}
end
end L2
set_option maxHeartbeats 4000000
namespace SH
open PySem PySem.Spec PyProof.Rows L2
def xorL (a b:List Str):List Str:=srt ((a.filter λx => !decide (x∈b))++(b.filter λx => !decide (x∈a)))
structure Two (H:Hp) (r p q:Addr) (row a b:List Str):Prop where
 hr:H r=some (.lst (row.map V.str))
 r2:Row2 row
 hd:(dit row).length<=14
 hp:H p=some (.tup (a.map V.str))
 hq:H q=some (.tup (b.map V.str))
 oa:∀y∈a,okN y
 ob:∀y∈b,okN y
 la:a.length<=24
 lb:b.length<=24
def ltPl (a b:List Str):Bool:=ltNL a.length a b.length b
theorem Xn7{Ts:List (List Str)}{p:Array Nat}(g:Gd Ts.length p)(so:SoTo (ltP' Ts) p Ts.length):
  (p.toList.map λi=>Ts.getD i []).Perm Ts/\(p.toList.map λi=>Ts.getD i []).Pairwise λa b=>ltPl a b=true:=by
 constructor
 ·have e:((List.range Ts.length).map λi=>Ts.getD i [])=Ts:=by
   refine X2c (by simp) λi h1 h2=>?_
   simp[X1p,List.getElem_range,List.getD,h2]
  have q:p.toList.Perm (List.range Ts.length):=by
   have:=g.toList
   simpa using this
  have:=q.map λi=>Ts.getD i []
  rw[e] at this
  exact this
 ·rw[List.pairwise_iff_getElem]
  intro i j hi hj hij
  have sz:=g.size
  rw[Xzk,Xzz,sz] at hi hj
  have:=so i j hij hj
  rw[X1p,X1p]
  have e1:p.getD i 0=p.toList[i]'(by rw[Xzz,sz];exact hi):=by simp[Array.getD,sz,hi]
  have e2:p.getD j 0=p.toList[j]'(by rw[Xzz,sz];exact hj):=by simp[Array.getD,sz,hj]
  rw[e1,e2] at this
  exact this
theorem Xe3{α : Type}(f:Nat -> α)(d : α)(l:List Nat){i:Nat}(hi:i<l.length):(l.map f).getD i d=f l[i]:=by simp[List.getD,hi]
theorem Xvr{H:Hp}{ps:List Addr}{Ts:List (List Str)}{p:Array Nat}(h:Tups H ps Ts)(g:Gd ps.length p):Tups H (p.toList.map λi=>ps.getD i 0) (p.toList.map λi=>Ts.getD i []):=by
 refine⟨by simp,λi hi=>?_⟩
 rw[Xzk] at hi
 have e1:(p.toList.map λi=>ps.getD i 0).getD i 0=ps.getD p.toList[i] 0:=Xe3 _ _ _ hi
 have e2:(p.toList.map λi=>Ts.getD i []).getD i []=Ts.getD p.toList[i] []:=Xe3 _ _ _ hi
 rw[e1,e2]
 refine h.2 _ ?_
 have q:p.toList.Perm (List.range ps.length):=by
  have:=g.toList
  simpa using this
 simpa using q.mem_iff.mp (X0b hi)
abbrev qIn:Str:=(Str.ofString "in_order" ++ Str.ofString ".<locals>.")++Str.ofString "<lambda>"
def spInOrder (T:Addr) (pos:Pos):Sp:=λvs H Q _=>∃(l:Addr) (ps:List Addr) (Ts:List (List Str)),vs=[.ref l]/\H l=some (.lst (ps.map V.ref))/\Tups H ps Ts/\Ts.Nodup/\ps.length<64/\Xa6 T pos qIn H /\
 ∀(D:Addr) (ps':List Addr) (Ts':List (List Str)) (H':Hp),H D=none->H' D=some (.lst (ps'.map V.ref))->Tups H' ps' Ts'->Ts'.Perm Ts->(Ts'.Pairwise λa b=>ltPl a b=true)->Xa6 T pos qIn H'->But T H H'->Q (.ref D) H'
theorem Xa6.same{T:Addr}{pos:Pos}{q:Str}{H H':Hp}(h:Xa6 T pos q H)(s:Same H H'):Xa6 T pos q H':=by
 rcases h with e | ⟨c,e,ec⟩
 ·exact .inl (s _ _ e)
 ·exact .inr ⟨c,s _ _ e,s _ _ ec⟩
theorem Xa6.but{T dr:Addr}{pos:Pos}{q:Str}{H H':Hp}{o':List V}(h:Xa6 T pos q H)(hd:H dr=some (.lst o'))(b:But dr H H'):Xa6 T pos q H':=by
 rcases h with e | ⟨c,e,ec⟩
 ·exact .inl (b _ _ e λz=>by rw[z,hd] at e;cases e)
 ·exact .inr ⟨c,b _ _ e (λz=>by rw[z,hd] at e;cases e),b _ _ ec λz=>by rw[z,hd] at ec;cases ec⟩
def lamPos (s:Stmt):Pos:=match Xcc s with
 | [.Return (some (.Call _ _ [⟨_,.Lambda _ _ _ p,_⟩] _)) _]=>p
 | _=>⟨0,0,0,0⟩
theorem Xqn{a b c e:Int}(h1:a<b)(h2:c<e)(n1:a≠c)(n2:a≠e)(n3:b≠c)(n4:b≠e)(h:lieT a b c e = "apart"):e<a\/b<c:=by
 unfold lieT at h
 rw[X3h (by omega)] at h
 split at h
 ·exact absurd h (by decide)
 ·split at h
  ·exact absurd h (by decide)
  ·split at h
   ·exact absurd h (by decide)
   ·rename_i q1 q2 q3
    rw[nIn2] at q1 q2 q3
    by_cases p1:c<a/\a<e
    ·by_cases p2:c<b/\b<e
     ·rw[X3i p1,X3i p2] at q2;omega
     ·rw[X3i p1,X3h p2] at q1;omega
    ·by_cases p2:c<b/\b<e
     ·rw[X3h p1,X3i p2] at q1;omega
     ·by_cases p3:a<c/\c<b
      ·by_cases p4:a<e/\e<b
       ·rw[X3i p3,X3i p4] at q3;omega
       ·omega
      ·omega
theorem Xm2{a b c e:Int}(h1:a<b)(h:lieT a b c e = "cross"):a<e/\c<b:=by
 unfold lieT at h
 split at h
 ·exact absurd h (by decide)
 ·split at h
  ·rename_i q
   rw[nIn2] at q
   by_cases p1:c<a/\a<e
   ·omega
   ·by_cases p2:c<b/\b<e
    ·omega
    ·rw[X3h p1,X3h p2] at q;omega
  ·split at h
   ·exact absurd h (by decide)
   ·split at h
    ·exact absurd h (by decide)
    ·exact absurd h (by decide)
theorem Xqo{a b c e:Int}(h1:a<b)(h2:c<a)(h3:b<e):lieT a b c e = "within" := by
 unfold lieT
 have q:nIn c e [a,b]=2:=by rw[nIn2,X3i ⟨h2,by omega⟩,X3i ⟨by omega,h3⟩]
 rw[X3h (by omega),q,X3h (by decide),X3i rfl]
section
variable {row:List Str}
theorem Xx7{a y:Str}(h:upB row a y=true):(pl row y).1<=(pl row a).1/\(pl row a).2<=(pl row y).2:=by
 unfold upB at h
 rw[X16] at h
 rcases h with h | h
 ·rw[X3l h];exact⟨Int.le_refl _,Int.le_refl _⟩
 ·obtain⟨h1,h2,h3,h4⟩:=Xe2 (X3l h)
  exact⟨by omega,by omega⟩
theorem Xkk{x y z:Str}(hx:row.count x=2)(h:lieR row x y = "within")(g:lieR row y z = "within"):lieR row x z = "within" := by
 have l:=Xd6 hx
 obtain⟨h1,h2,h3,h4⟩:=Xe2 h
 obtain⟨g1,g2,g3,g4⟩:=Xe2 g
 exact Xqo l (by omega) (by omega)
theorem Xg9{x:Str}:lieR row x x ≠ "within" := by rw[Xey];decide
structure Core (row:List Str) (cs:List Str) (p:Str->Bool):Prop where
 inr:∀c∈cs,c∈row
 is:∀y,p y=true ↔ ∃c∈cs,upB row c y=true
 ov:∀c∈cs,∀d∈cs,(pl row c).1<(pl row d).2
 an:∀c∈cs,∀d∈cs,lieR row c d ≠ "within"
variable {cs cs':List Str}{p p':Str->Bool}
theorem Core.plot(h2:∀y∈row,row.count y=2)(C:Core row cs p):isPlotB row ((dit row).filter p)=true:=by
 refine Xca.mpr ⟨(Xdt row).filter p,λx hx=>Xai.mp (Xzu.mp hx).1,λx hx y hy e=>?_,λx hx y hy e=>?_⟩
 ·obtain⟨c,hc,hu⟩:=(C.is x).mp (Xzu.mp hx).2
  refine Xzu.mpr ⟨Xai.mpr hy,(C.is y).mpr ⟨c,hc,?_⟩⟩
  unfold upB at hu ⊢
  rw[X16] at hu ⊢
  rcases hu with hu | hu
  ·rw[X3l hu] at e
   exact .inr (X3j e)
  ·exact .inr (X3j (Xkk (h2 c (C.inr c hc)) (X3l hu) e))
 ·have mx:=Xzu.mp hx
  have my:=Xzu.mp hy
  obtain⟨c,hc,hu⟩:=(C.is x).mp mx.2
  obtain⟨d,hd,hv⟩:=(C.is y).mp my.2
  have hx2:=h2 x (Xai.mp mx.1)
  have hy2:=h2 y (Xai.mp my.1)
  have ne:x≠y:=λz=>by rw[z,Xey] at e;exact absurd e (by decide)
  obtain⟨n1,n2,n3,n4⟩:=Xlh hx2 hy2 ne
  have u1:=Xx7 hu
  have u2:=Xx7 hv
  have o1:=C.ov c hc d hd
  have o2:=C.ov d hd c hc
  rcases Xqn (Xd6 hx2) (Xd6 hy2) n1 n2 n3 n4 e with z | z
  ·omega
  ·omega
theorem Core.min(h2:∀y∈row,row.count y=2)(C:Core row cs p)(x:Str):x∈cs↔x∈(dit row).filter p/\∀y∈(dit row).filter p,lieR row y x ≠ "within" := by
 have self:∀c∈cs,c∈(dit row).filter p:=λc hc=>Xzu.mpr ⟨Xai.mpr (C.inr c hc),(C.is c).mpr ⟨c,hc,by unfold upB;simp⟩⟩
 constructor
 ·intro hx
  refine⟨self x hx,λy hy e=>?_⟩
  obtain⟨c,hc,hu⟩:=(C.is y).mp (Xzu.mp hy).2
  unfold upB at hu
  rw[X16] at hu
  rcases hu with hu | hu
  ·rw[X3l hu] at e
   exact C.an c hc x hx e
  ·exact C.an c hc x hx (Xkk (h2 c (C.inr c hc)) (X3l hu) e)
 ·rintro ⟨hx,hm⟩
  obtain⟨c,hc,hu⟩:=(C.is x).mp (Xzu.mp hx).2
  unfold upB at hu
  rw[X16] at hu
  rcases hu with hu | hu
  ·rw[X3l hu];exact hc
  ·exact absurd (X3l hu) (hm c (self c hc))
theorem Core.eq(h2:∀y∈row,row.count y=2)(C:Core row cs p)(C':Core row cs' p')(e:(dit row).filter p=(dit row).filter p'):∀x,x∈cs↔x∈cs':=λx=>by
 rw[C.min h2,C'.min h2,e]
theorem core1(h2:∀y∈row,row.count y=2){a:Str}(ha:a∈row):Core row [a] (upB row a) where
 inr c hc:=by rw[Xzr.mp hc];exact ha
 is y:=by simp
 ov c hc d hd:=by rw[Xzr.mp hc,Xzr.mp hd];exact Xd6 (h2 a ha)
 an c hc d hd:=by rw[Xzr.mp hc,Xzr.mp hd];exact Xg9
theorem Xkl{q:Str×Str}(h:q∈crs row):q.1∈row/\q.2∈row/\ltS q.1 q.2/\lieR row q.1 q.2 = "cross" := by
 unfold crs at h
 obtain⟨x,hx,h⟩:=List.mem_flatMap.mp h
 obtain⟨y,hy,rfl⟩:=Xz4.mp h
 obtain⟨h1,h3⟩:=Xzu.mp hy
 rw[Xz3] at h3
 exact⟨Xai.mp hx,Xai.mp h1,X3l h3.1,X3l h3.2⟩
theorem core2(h2:∀y∈row,row.count y=2){q:Str×Str}(h:q∈crs row):Core row [q.1,q.2] λy=>upB row q.1 y||upB row q.2 y:=by
 obtain⟨ha,hb,hl,hx⟩:=Xkl h
 have hy:lieR row q.2 q.1 = "cross" := Xbk (h2 _ ha) (h2 _ hb) hx
 have la:=Xd6 (h2 _ ha)
 have lb:=Xd6 (h2 _ hb)
 have c1:=Xm2 la hx
 have c2:=Xm2 lb hy
 refine⟨λc hc=>?_,λy=>by simp,λc hc d hd=>?_,λc hc d hd=>?_⟩
 ·simp at hc
  rcases hc with rfl | rfl
  ·exact ha
  ·exact hb
 ·simp at hc hd
  rcases hc with rfl | rfl<;>rcases hd with rfl | rfl
  ·exact la
  ·exact c1.1
  ·exact c2.1
  ·exact lb
 ·simp at hc hd
  rcases hc with rfl | rfl<;>rcases hd with rfl | rfl
  ·exact Xg9
  ·rw[hx];decide
  ·rw[hy];decide
  ·exact Xg9
theorem Xn8(h2:∀y∈row,row.count y=2):∀S∈cands row,isPlotB row S=true:=λS hS=>by
 unfold cands at hS
 rcases Xzv.mp hS with h | h
 ·obtain⟨a,ha,rfl⟩:=Xz4.mp h
  exact(core1 h2 (Xai.mp ha)).plot h2
 ·obtain⟨q,hq,rfl⟩:=Xz4.mp h
  exact(core2 h2 hq).plot h2
theorem Xx8(row:List Str):(crs row).Nodup:=by
 unfold crs
 have nd:=Xcq (Xdt row)
 rw[List.Nodup,List.pairwise_flatMap]
 refine⟨λx hx=>?_,nd.imp λ{x y} ne a ha b hb e=>?_⟩
 ·rw[X1u]
  exact(nd.filter _).imp λne e=>ne (Prod.mk.inj e).2
 ·obtain⟨u,_,rfl⟩:=Xz4.mp ha
  obtain⟨v,_,rfl⟩:=Xz4.mp hb
  exact ne (Prod.mk.inj e).1
theorem Xsz(h2:∀y∈row,row.count y=2):(cands row).Nodup:=by
 have nd:=Xcq (Xdt row)
 unfold cands
 rw[List.Nodup,List.pairwise_append]
 refine⟨?_,?_,?_⟩
 ·rw[X1u]
  refine nd.imp_of_mem λ{a b} ha hb ne e=>ne ?_
  have:=(Core.eq h2 (core1 h2 (Xai.mp ha)) (core1 h2 (Xai.mp hb)) e a).mp (X09 _)
  exact Xzr.mp this
 ·rw[X1u]
  refine(Xx8 row).imp_of_mem λ{q r} hq hr ne e=>ne ?_
  have E:=Core.eq h2 (core2 h2 hq) (core2 h2 hr) e
  obtain⟨_,_,l1,_⟩:=Xkl hq
  obtain⟨_,_,l2,_⟩:=Xkl hr
  have e1:=(E q.1).mp (by simp)
  have e2:=(E q.2).mp (by simp)
  have e3:=(E r.1).mpr (by simp)
  simp at e1 e2 e3
  obtain⟨a,b⟩:=q
  obtain⟨c,d⟩:=r
  simp only at *
  rcases e1 with e1 | e1
  ·rcases e2 with e2 | e2
   ·exact absurd (e1.trans e2.symm) (Xju l1)
   ·rw[e1,e2]
  ·rcases e2 with e2 | e2
   ·rw[e1,e2] at l1
    exact absurd (Xds l1 l2) (Xc6 _)
   ·exact absurd (e1.trans e2.symm) (Xju l1)
 ·intro A hA B hB e
  obtain⟨a,ha,rfl⟩:=Xz4.mp hA
  obtain⟨q,hq,rfl⟩:=Xz4.mp hB
  have E:=Core.eq h2 (core1 h2 (Xai.mp ha)) (core2 h2 hq) e
  obtain⟨_,_,l1,_⟩:=Xkl hq
  have e1:=Xzr.mp ((E q.1).mpr (by simp))
  have e2:=Xzr.mp ((E q.2).mpr (by simp))
  exact Xju l1 (e1.trans e2.symm)
theorem Xqp(h2:∀y∈row,row.count y=2)(h3:Xbx row)(S:List Str):S∈[]::cands row↔isPlotB row S=true:=by
 constructor
 ·intro h
  rcases Xzw.mp h with e | e
  ·rw[e];exact Xgd row
  ·exact Xn8 h2 S e
 ·intro h
  by_cases e:S=[]
  ·rw[e];exact Xzp
  ·exact Xzo _ (Xke h2 h3 e h)
theorem Xs0(h2:∀y∈row,row.count y=2):[]∉cands row:=λh=>by
 unfold cands at h
 rcases Xzv.mp h with h | h
 ·obtain⟨a,ha,e⟩:=Xz4.mp h
  have:=((core1 h2 (Xai.mp ha)).min h2 a).mp (X09 _)
  rw[e] at this
  cases this.1
 ·obtain⟨q,hq,e⟩:=Xz4.mp h
  have:=((core2 h2 hq).min h2 q.1).mp (by simp)
  rw[e] at this
  cases this.1
theorem Xx9(h2:∀y∈row,row.count y=2):([]::cands row).Nodup:=X02.mpr ⟨Xs0 h2,Xsz h2⟩
end
end SH
namespace L2
open PySem PySem.Spec PyProof.Rows
theorem Xm3{X:Cx}{N:List Str}{cap:List (Option Nat)}{scope:Scope}{tg iter elt:Expr}{ifs:List Expr}{g:TG}{tt:TT}{te:TE}{wi:TI}{pos:Pos}{i:Nat}{y:Str}{py spos:Pos}(C:CompScope X N cap scope)(hcalm:X.calm=true)(hN:X.N.Nodup)(hiN:X.N[i]? = some y)(hy:X.env.scope.names.lookup y=some .local)(hi:PI X tg iter wi)
  (hg:∀s0 H0 ex,PG (X.comp N scope s0 H0 ex) tg g) (ht:∀s0 H0 ex,PIfs (X.comp N scope s0 H0 ex) ifs tt) (he:∀s0 H0 ex,PE (X.comp N scope s0 H0 ex) elt te)
  (hsw:swapsWith (.ListComp elt [⟨tg,iter,ifs,0⟩] scope pos) (some (.Name y py)) spos.line X.env=pure true:=by rfl)
  (hs:∀x,foldedSetIterable iter X.env x=pure x:=by intro _;rfl):PS X (.Assign [.Name y py] (.ListComp elt [⟨tg,iter,ifs,0⟩] scope pos) spos) (Xpq i cap (.lst []) wi g tt (Xpn te)):=
 Xmo (act := fun D env => do let _ <- call (.builtin "list.append") [.ref D, <- eval elt env]) Xf3 (fun use => rfl) rfl C hcalm Xgv hN hiN hy hi (fun it D env => rfl) hg ht (fun D s0 H0 ex => Xie (he s0 H0 ex)) hsw hs
end L2
namespace SH
open PySem PySem.Spec PyProof.Rows L2
def Xit (T:Addr) (pos:Pos):Sp:=λvs H Q _=>∃(r:Addr) (row:List Str),vs=[.ref r]/\H r=some (.lst (row.map V.str))/\Row2 row/\Xbx row/\(dit row).length<=13/\Xa6 T pos qIn H /\
 ∀(D:Addr) (ps:List Addr) (Ts:List (List Str)) (H':Hp),H D=none->H' D=some (.lst (ps.map V.ref))->Tups H' ps Ts->(∀S,S∈Ts↔isPlotB row S=true)->(Ts.Pairwise λa b=>ltPl a b=true)->ps.length<=64->Xa6 T pos qIn H'->But T H H'->Q (.ref D) H'
abbrev NPp:List Str:=["row", "span", "off", "single", "double"]
abbrev NPo:List Str:=["name", "span"]
abbrev NPi:List Str:=["other", "name", "span"]
abbrev NPs:List Str:=["name", "off"]
abbrev NPd:List Str:=["one", "other", "off"]
structure Offs (H:Hp) (kvs:List (Key×V)) (row:List Str) (ns:List Str):Prop where
 keys:kvs.map (·.1)=ns.map (λx=>(Sum.inr x:Key))
 val:∀x∈ns,∃l,valV kvs (Sum.inr x:Key)=some (.ref l)/\H l=some (.lst (((dit row).filter (upB row x)).map V.str))
theorem Offs.mono{H H':Hp}{kvs:List (Key×V)}{row ns:List Str}(s:Offs H kvs row ns)(h:Same H H'):Offs H' kvs row ns:=⟨s.keys,λx hx=>let ⟨l,h1,h2⟩:=s.val x hx; ⟨l,h1,h _ _ h2⟩⟩
theorem Offs.snoc{H H':Hp}{kvs:List (Key×V)}{row ns:List Str}{x:Str}{l:Addr}(s:Offs H kvs row ns)(nx:x∉ns)(h:H' l=some (.lst (((dit row).filter (upB row x)).map V.str)))(k:∀b xs,H b=some (.lst xs)->H' b=some (.lst xs)):
  Offs H' (putK kvs (Sum.inr x) (.ref l)) row (ns++[x]):=by
 have hn:valV kvs (Sum.inr x:Key)=none:=by
  cases e:valV kvs (Sum.inr x:Key) with
  | none=>rfl
  | some v=>
   exfalso
   have:=Xfa e
   rw[s.keys] at this
   obtain⟨y,hy,e2⟩:=Xz4.mp this
   rw[X1b e2] at hy
   exact nx hy
 refine⟨by rw[Xen _ hn,Xzq,Xzq,s.keys];rfl,λy hy=>?_⟩
 rw[Xd2]
 by_cases e:y=x
 ·subst e
  exact⟨l,X3i rfl,h⟩
 ·have hy':y∈ns:=by
   rcases Xzv.mp hy with z | z
   ·exact z
   ·exact absurd (Xzr.mp z) e
  obtain⟨l0,h1,h2⟩:=s.val y hy'
  exact⟨l0,by rw[X3h (λz=>e (X1b z))];exact h1,k _ _ h2⟩
theorem Offs.get{H:Hp}{kvs:List (Key×V)}{row ns:List Str}{d:Addr}{x:Str}(s:Offs H kvs row ns)(hd:Rd H d (.dK kvs))(hx:x∈ns):∃l,DGet H d (.str x) (some (.ref l))/\H l=some (.lst (((dit row).filter (upB row x)).map V.str)):=by
 obtain⟨l,h1,h2⟩:=s.val x hx
 exact⟨l,DGet.rd hd h1,h2⟩
theorem Offs.at{H:Hp}{kvs:List (Key×V)}{row ns:List Str}(s:Offs H kvs row ns)(i:Nat)(hi:i<ns.length):(kvs.map λp=>kV p.1).getD i .non = .str (ns.getD i Str.empty):=by
 have e:(kvs.map λp=>kV p.1)=ns.map V.str:=by
  have:(kvs.map λp=>kV p.1)=(kvs.map (·.1)).map kV:=by rw[X0f];rfl
  rw[this,s.keys,X0f]
  rfl
 rw[e]
 exact Xaz V.str Str.empty ns hi
theorem Offs.len{H:Hp}{kvs:List (Key×V)}{row ns:List Str}(s:Offs H kvs row ns):kvs.length=ns.length:=by
 have:=congrArg List.length s.keys
 simpa using this
theorem Xvs{row:List Str}{x y:Str}(hx:row.count x=2)(hy:row.count y=2):decide (lieR row x y∈[Str.ofString "same",Str.ofString "within"])=upB row x y:=by
 unfold upB
 by_cases e:y=x
 ·subst e
  rw[Xey]
  simp
 ·have n:lieR row x y ≠ "same" := λz=>e (Xp8 hx hy z).symm
  simp[e,n]
end SH
namespace L2
open PySem PySem.Spec PyProof.Rows PySem.Calls
section
variable {P:Program}{w:World}{A:Around}{E:Value->Shared->Prop}{s:Shared}
theorem Xqq{Q:Value->Shared->Prop}(h:Q (.ref s.heap.objs.size) {s with heap:=s.heap.push (Xhf w)}):wpAny (model P w) A (newSet (.type "set")) Q E s:=by
 unfold newSet setsByText
 refine X3e (X3e (wpAny_askSetting (X3f ?_)))
 dsimp only
 simp only[newObj]
 exact X3e (wpAny_alloc (X3f h))
theorem SSet.tySet{a:Addr}{ks:List Str}(S:SSet P w s.heap a ks):s.TypeIs (.ref a) "set" := by
 obtain⟨o,es,ep,t,ls,ho,hex,_⟩:=S
 exact⟨o,ho,hex.1⟩
theorem call_add{a:Addr}{ks:List Str}{x:Str}{tk:Tok}{Q:Value->Shared->Prop}(S:SSet P w s.heap a ks)(hr:ks.length+1<scanBound)
  (h:∀h' tk',Heap.SameBut a s.heap h'->SSet P w h' a (dd1 ks x)->Q .none {s with heap:=h',toks:=tk'}):wpAny (model P w) A (call (.builtin "set.add") [.ref a,.str x tk]) Q E s:=by
 refine wpAny_call_entry F.slot_set_add S.tySet F.entry_set_add ?_ (F.args_set_add_2 _ _)
 unfold Builtin.«set.add» Builtin.Frozenset.oneOther
 simp only[List.isEmpty_nil,bind_assoc]
 unfold Builtin.Frozenset.addrOf setAdd
 refine X3e (X3f ?_)
 try dsimp only
 refine X3e (X3f ?_)
 try dsimp only
 refine X3e ?_
 refine wpAny_holding (X3e ((PySem.strKind P w).pyHash (k:=x) (strKind_is P w _ tk) ?_))
 refine Xmi (s:={s with toks:=s.toks+1}) S hr λb h' sb S2=>?_
 show wpAny _ _ (ret Value.none) _ _ _
 exact X3f ⟨_,rfl,h h' _ sb S2⟩
end
section
variable {X:Cx}{N:List Str}{cap:List (Option Nat)}{scope:Scope}{tg iter elt:Expr}{ifs:List Expr}{g:TG}{tt:TT}{te:TE}{wi:TI}{pos:Pos}
theorem Xya{elt:Expr}{gs:List Comprehension}{sc:Scope}{p:Pos}:Cm (.SetComp elt gs sc p):=⟨λ_ _ _ _ _ _=>rfl,λ_ _ _ _ _ _=>rfl,λ_ _ _ _ _=>rfl,λ_ _ _ _ _=>rfl⟩
theorem Xt3{a:Addr}{H:Hp}{h:Heap}{ks:List Str}(S:SSet X.prog X.w h a ks):Xbm X.prog X.w H h a (SetO X.prog X.w a ks):=
 ⟨S,by obtain⟨o,_,_,_,_,g,_⟩:=S;exact⟨o,g⟩,λh1 h2 S1 kk=>S1.stay kk⟩
def mSet (P:Program) (w:World) (te:TE) (D:Addr):TM:=fun σ H Q=>te σ H λy H6=>∃x ks,y = .str x/\H6 D=some (SetO P w D ks)/\ks.length+1<scanBound/\Q σ (upd H6 D (SetO P w D (dd1 ks x)))
theorem Xyb{Y:Cx}{D:Addr}(he:PE Y elt te):PM Y (do let v <-eval elt Y.env;standAt elt.pos;let _ <-call (.builtin "set.add") [.ref D,v]) (mSet Y.prog Y.w te D):=by
 intro pins s σ H Q I h
 refine X3e (thn (he pins s σ H _ I h) λyv s8 ⟨y,H8,I8,r8,x,ks,ey,hD,hlt,q8⟩=>?_)
 subst ey
 obtain⟨tk,rfl⟩:=r8
 obtain⟨S,_,_⟩:=(show Xbm Y.prog Y.w H8 s8.heap D (SetO Y.prog Y.w D ks) from I8.hok D _ hD)
 refine X3e (wpAny_standAt (X3e (call_add S hlt λh' tk' sb S2=>?_)))
 refine X3f ⟨σ,_,Xgl I8 (by rw[hD];exact True.intro) sb ?_ (Xt3 S2),q8⟩
 obtain⟨o,_,_,_,_,g,_⟩:=S2
 exact⟨o,g⟩
theorem Xvt:AccA X (newSet (.type "set")) (Xhf X.w) (λD=>SetO X.prog X.w D []):=
 ⟨λs Q E' h=>Xqq h,λpins σ H s I=>I.laid (a:=s.heap.objs.size) (t':=s.toks) (λ_ _ q=>X3o _ q) (Xzn _) (Xt3 (Xmj (Heap.get?_push_size _ rfl)))⟩
theorem Xs1(C:CompScope X N cap scope)(hcalm:X.calm=true)(hi:PI X tg iter wi)
  (hg:∀s0 H0 ex,PG (X.comp N scope s0 H0 ex) tg g) (ht:∀s0 H0 ex,PIfs (X.comp N scope s0 H0 ex) ifs tt) (he:∀s0 H0 ex,PE (X.comp N scope s0 H0 ex) elt te)
  (hs:∀x,foldedSetIterable iter X.env x=pure x:=by intro _;rfl):PE X (.SetComp elt [⟨tg,iter,ifs,0⟩] scope pos) (Xpo cap (λD=>SetO X.prog X.w D []) wi g tt (mSet X.prog X.w te)):=
 Xmn (act := fun D env => do let v <- eval elt env; standAt elt.pos; let _ <- call (.builtin "set.add") [.ref D, v]) Xvt rfl rfl C hcalm Xya hi (fun it D env => rfl) hg ht (fun D s0 H0 ex => Xyb (Y := X.comp N scope s0 H0 ex) (he s0 H0 ex)) hs
end
theorem Xvu{P:Program}{w:World}{cap:List (Option Nat)}{te:TE}{J:It}{σ:St}{H1:Hp}{F:Addr->Hp->Prop}{j:Nat}(n:Nat)(hn:n+1<scanBound)(vs:Nat->V)(ys:Nat->Str)
  (hgo:∀i H2,i<n->Same H1 H2->J.go i H2/\∀x H3,J.yld i H2 x H3->H3=H2/\x=vs i)
  (hst:∀H2,Same H1 H2->J.stop n H2)
  (step:∀i H2 Q,i<n->Same H1 H2->(∀H',Same H2 H'->Q (.str (ys i)) H')->te ((capS cap σ).set j (some (vs i))) H2 Q)
  (hd:∀D H2,H1 D=none->Same H1 H2->H2 D=some (SetO P w D (ddup ((List.range n).map ys)))->F D H2):Xu4 cap (λD=>SetO P w D []) (Xbv j) tYes (mSet P w te) J σ H1 F:=by
 intro D hD
 refine⟨wN n λi σ2 H2=>(∀v, σ2.set j v=(capS cap σ).set j v)/\Same H1 H2/\H2 D=some (SetO P w D (ddup ((List.range i).map ys))),⟨n,by simp,X0k _,λ_=>rfl,(Same.refl H1).step hD,Xab⟩,?_⟩
 rintro i m σ1 H2 ⟨rfl,hi,e,s2,hb⟩
 by_cases hlt:i<n
 ·obtain⟨h1,h2⟩:=hgo i H2 hlt s2
  refine .inr ⟨h1,λx H3 y=>?_⟩
  obtain⟨e1,e2⟩:=h2 x H3 y
  subst e1 e2
  dsimp only[Xbv,tYes,mSet]
  rw[X3i rfl,e]
  refine step i _ _ hlt s2 λH4 s4=>?_
  have hl:(ddup ((List.range i).map ys)).length<=i:=by
   have:=Xd3 ((List.range i).map ys)
   rw[Xzk,X0s] at this
   exact this
  refine⟨ys i,_,rfl,s4 _ _ hb,by omega,wskip hlt ⟨λv=>by rw[X2m],λb u e'=>?_,?_⟩⟩
  ·rw[Xae (Xaf e' hD)]
   exact s4 _ _ (s2 b u e')
  ·rw[Xab,X0q,Xzq,List.map_singleton,Xgr]
 ·have:i=n:=by omega
  subst this
  exact .inl ⟨hst H2 s2,hd D H2 hD s2 hb⟩
end L2
namespace L2
open PySem PySem.Spec PyProof.Rows
theorem Xqr{cap:List (Option Nat)}{tt:TT}{te:TE}{J:It}{σ:St}{H1:Hp}{F:Addr->Hp->Prop}{j:Nat}(n:Nat)(hn:n<sizeLine)(vs:Nat->V)(ok:Nat->Bool)(Us:Nat->List Str)
  (hgo:∀i H2,i<n->Same H1 H2->J.go i H2/\∀x H3,J.yld i H2 x H3->H3=H2/\x=vs i)
  (hst:∀H2,Same H1 H2->J.stop n H2)
  (tst:∀i H2 Q,i<n->Same H1 H2->(∀H',Same H2 H'->Q (ok i) H')->tt ((capS cap σ).set j (some (vs i))) H2 Q)
  (step:∀i H2 Q,i<n->ok i=true->Same H1 H2->(∀t H',H' t=some (.tup ((Us i).map V.str))->Same H2 H'->Q (.ref t) H')->te ((capS cap σ).set j (some (vs i))) H2 Q)
  (hd:∀D ps H2,H1 D=none->Same H1 H2->H2 D=some (.lst (ps.map V.ref))->Tups H2 ps (((List.range n).filter ok).map Us)->F D H2):tBlk cap (Xbv j) tt te J σ H1 F:=by
 refine Xk4 n vs (λD i σ2 H2=>(∀v, σ2.set j v=(capS cap σ).set j v)/\Same H1 H2/\∃ps:List Addr,H2 D=some (.lst (ps.map V.ref))/\Tups H2 ps (((List.range i).filter ok).map Us)) ?_ ?_ ?_ ?_ ?_
 ·intro D hD
  exact⟨λ_=>rfl,(Same.refl H1).step hD,[],Xab,Tups.nil _⟩
 ·rintro D i σ2 H2 hD hi ⟨_,s2,_⟩
  exact hgo i H2 hi s2
 ·rintro D σ2 H2 hD ⟨_,s2,_⟩
  exact hst H2 s2
 ·rintro D i σ2 H2 hD hi ⟨e,s2,ps,hb,ht⟩
  show tt (σ2.set j (some (vs i))) H2 _
  rw[e]
  refine tst i H2 _ hi s2 λH3 s3=>?_
  have s13:=s2.trans s3
  have hb3:=s3 _ _ hb
  have ht3:=ht.same s3
  have hss:∀v,((capS cap σ).set j (some (vs i))).set j v=(capS cap σ).set j v:=λv=>by rw[X2m]
  refine ite2b (λhk=>?_) (λhk=>?_)
  ·refine step i H3 _ hi hk s13 λt H4 h4 s4=>?_
   have hb4:=s4 _ _ hb3
   have hl:(ps.map V.ref).length<=i:=by
    have:=ht.1
    rw[Xzk] at this
    rw[Xzk,this]
    exact X0c (X0i ..) (by rw[X0s];omega)
   have keep:∀b w,H4 b=some (.tup w)->upd H4 D (.lst (ps.map V.ref++[.ref t])) b=some (.tup w):=λb w e=>by
    rw[Xae (λz=>by rw[z,hb4] at e;cases e)]
    exact e
   refine wput hi hb4 (by omega) ⟨hss,λb u e'=>?_,ps++[t],by rw[Xab,Xzq];rfl,?_⟩
   ·rw[Xae (Xaf e' hD)]
    exact s4 _ _ (s13 b u e')
   ·rw[X0q,Xz7,List.filter_cons_of_pos hk,X2u,Xzq]
    exact Tups.app ⟨ht3.1,λj hj=>keep _ _ (s4 _ _ (ht3.2 j hj))⟩ (Tups.cons (keep _ _ h4) (Tups.nil _))
  ·refine wskip hi ⟨hss,s13,ps,hb3,?_⟩
   rw[X0q,Xz7,List.filter_cons_of_neg (by rw[hk];decide),X2u,X0m]
   exact ht3
 ·rintro D σ2 H2 hD ⟨_,s2,ps,hb,ht⟩
  exact hd D ps H2 hD s2 hb ht
end L2
set_option maxHeartbeats 8000000
namespace SH
open PySem PySem.Spec PyProof.Rows L2
theorem isin{U:List (List Str)}{S:List Str}(h1:∀W∈U,∀y∈W,okN y)(h2:∀y∈S,okN y):((U.map tupD).any λe=>PyData.eqv e (tupD S))=decide (S∈U):=by
 rw[List.any_map]
 by_cases hS:S∈U
 ·rw[X3j hS,X1g]
  exact⟨S,hS,by show PyData.eqv (.tuple _) (.tuple _)=true;rw[Xfp h2 h2];exact X3j rfl⟩
 ·rw[X3k hS,List.any_eq_false]
  intro W hW
  show ¬PyData.eqv (.tuple _) (.tuple _)=true
  rw[Xfp (h1 W hW) h2]
  simp
  exact λz=>hS (z ▸ hW)
theorem Xhv:∀(U:List (List Str)),PyData.depthAll (U.map tupD)<=1
 | []=>by show 0<=1;decide
 | S::U=>by
  have:=Xhv U
  show max (PyData.depthAll (S.map PyData.str)+1) (PyData.depthAll (U.map tupD))<=1
  rw[Xcs]
  omega
theorem Xhw{U:List (List Str)}(h:∀S∈U,∀y∈S,okN y):Xb0 (U.map tupD)=true:=plainAll_map tupD U λS hS=>Xa7 (h S hS)
theorem Xba{U:List (List Str)}(h:∀S∈U,∀y∈S,okN y):Xcl (.list (U.map tupD))=true:=Xhw h
theorem Xe4{U W:List (List Str)}(h1:∀S∈U,∀y∈S,okN y)(h2:∀S∈W,∀y∈S,okN y):PyData.eqv (.list (U.map tupD)) (.list (W.map tupD))=decide (U=W):=
 Xpt (λU=>PyData.list (U.map tupD)) (λa b e=>by injection e with e;exact(X22 Xmu).mp e) U W (Xba h1) (Xba h2)
theorem Xdi{H:Hp}{l:Addr}{ps:List Addr}{Ts:List (List Str)}(h:H l=some (.lst (ps.map V.ref)))(t:Tups H ps Ts):DAt H (.list (Ts.map tupD)) (.ref l):=Xfl h (Xkj t)
theorem Xdy(U W:List (List Str)):min (PyData.depth (.list (U.map tupD))) (PyData.depth (.list (W.map tupD)))<=3:=by
 show min (PyData.depthAll (U.map tupD)+1) _<=3
 have:=Xhv U
 omega
end SH
set_option maxHeartbeats 4000000
namespace L2
open PySem PySem.Spec PyProof.Rows
section
variable {X:Cx}{N:List Str}{cap:List (Option Nat)}{scope:Scope}{tg iter elt:Expr}{ifs:List Expr}{g:TG}{tt:TT}{te:TE}{wi:TI}{pos:Pos}
theorem Xkm(P:Program)(w:World)(h1:X.prog=P)(h2:X.w=w)(hc:X.calm=true):Xcx X (.builtin "sorted") (λxs H Q=>∃a ks,xs=[.ref a]/\H a=some (SetO P w a ks)/\ks.length<64/\∀l ls,H l=none->ls.Perm ks->sortedS ls=true->Q (.ref l) (upd H l (.lst (ls.map V.str)))):=by
 subst h1 h2
 exact Xc0 hc
theorem Xqs{P:Program}{w:World}(C:CompScope X N cap scope)(hcalm:X.calm=true)(hi:PI X tg iter wi)
  (hg:∀s0 H0 ex,PG (X.comp N scope s0 H0 ex) tg g) (ht:∀s0 H0 ex,PIfs (X.comp N scope s0 H0 ex) ifs tt) (he:∀s0 H0 ex,PE (X.comp N scope s0 H0 ex) elt te) (h1:X.prog=P:=by rfl) (h2:X.w=w:=by rfl)
  (hs:∀x,foldedSetIterable iter X.env x=pure x:=by intro _;rfl):PE X (.SetComp elt [⟨tg,iter,ifs,0⟩] scope pos) (Xpo cap (λD=>SetO P w D []) wi g tt (mSet P w te)):=by
 subst h1 h2
 exact Xs1 C hcalm hi hg ht he hs
end
end L2
namespace SH
open PySem PySem.Spec PyProof.Rows L2
def bk (S:List Str) (x:Str):Str:=if x∈S then "off" else "home"
theorem Xzd{S T:List Str}{x:Str}:bk S x=bk T x↔(x∈S↔x∈T):=by
 unfold bk
 by_cases h:x∈S<;>by_cases g:x∈T
 ·simp[h,g]
 ·rw[X3i h,X3h g];simp only[h,g];exact⟨λe=>absurd e (by decide),λe=>absurd (e.mp trivial) id⟩
 ·rw[X3h h,X3i g];simp only[h,g];exact⟨λe=>absurd e (by decide),λe=>absurd (e.mpr trivial) id⟩
 ·simp[h,g]
theorem Xha{S:List Str}{x:Str}:bk S x = "off" ↔ x∈S:=by
 unfold bk
 by_cases h:x∈S
 ·rw[X3i h];simp[h]
 ·rw[X3h h];simp only[h];exact⟨λe=>absurd e (by decide),λe=>e.elim⟩
theorem Xze(S:List Str)(x:Str):okN (bk S x):=by
 unfold bk
 by_cases h:x∈S
 ·rw[X3i h];decide +kernel
 ·rw[X3h h];decide +kernel
def Xby (Ts:List (List Str)) (x:Str):List Str:=srt (ddup (Ts.map λS=>bk S x))
def Xbi (row:List Str) (Ts:List (List Str)):List (Str×Str):=((dit row).filter λx=>decide ((Xby Ts x).length=1)).map λx=>(x,(Xby Ts x).headD Str.empty)
def pr2 (q:Str×Str):List Str:=[q.1,q.2]
theorem Xge{Ts:List (List Str)}(ne:Ts≠[])(x b:Str):((Xby Ts x).length=1/\(Xby Ts x).headD Str.empty=b) ↔ ∀S∈Ts,bk S x=b:=by
 have m:∀z,z∈Xby Ts x ↔ ∃S∈Ts,bk S x=z:=λz=>by
  unfold Xby
  rw[Xfi,Xeq,Xz4]
 have nd:(Xby Ts x).Nodup:=(Xbh _).nodup_iff.mpr (Xgs _)
 constructor
 ·rintro ⟨h1,h2⟩ S hS
  obtain⟨c,hc⟩:=X2i.mp h1
  rw[hc] at h2
  have:bk S x∈Xby Ts x:=(m _).mpr ⟨S,hS,rfl⟩
  rw[hc] at this
  rw[Xzr.mp this]
  exact h2
 ·intro h
  obtain⟨S,hS⟩:=X1c _ ne
  have mb:∀z∈Xby Ts x,z=b:=λz hz=>by
   obtain⟨S,hS,e⟩:=(m z).mp hz
   rw[<-e];exact h S hS
  have hb:b∈Xby Ts x:=(m b).mpr ⟨S,hS,h S hS⟩
  cases e:Xby Ts x with
  | nil=>rw[e] at hb;cases hb
  | cons c r=>
   rw[e] at nd mb
   have hc:=mb c Xzp
   cases r with
   | nil=>exact⟨rfl,hc⟩
   | cons d r=>
    have hd:=mb d (by simp)
    rw[hc,hd] at nd
    simp at nd
theorem Xbl{row:List Str}{Ts:List (List Str)}(ne:Ts≠[]){x b:Str}:(x,b)∈Xbi row Ts↔x∈row/\∀S∈Ts,bk S x=b:=by
 unfold Xbi
 rw[<-Xge ne x b,Xz4]
 constructor
 ·rintro ⟨y,hy,e⟩
  obtain⟨h1,h2⟩:=Xzu.mp hy
  cases e
  exact⟨Xai.mp h1,X3l h2,rfl⟩
 ·rintro ⟨h1,h2,h3⟩
  exact⟨x,Xzu.mpr ⟨Xai.mpr h1,X3j h2⟩,by rw[h3]⟩
theorem Xhb(row:List Str)(Ts:List (List Str)):(Xbi row Ts).Pairwise λp q=>ltS p.1 q.1:=by
 unfold Xbi
 rw[X1u]
 exact(Xdt row).filter _
theorem Xn9(row:List Str)(Ts:List (List Str)):(Xbi row Ts).length<=(dit row).length:=by
 unfold Xbi
 rw[Xzk]
 exact X0i ..
theorem Xqt{A B:List (Str×Str)}(hA:A.Pairwise λp q=>ltS p.1 q.1)(hB:B.Pairwise λp q=>ltS p.1 q.1)(h:∀q,q∈A↔q∈B):A=B:=
 Xlw (R:=λp q:Str×Str=>ltS p.1 q.1) (λa=>Xc6 _) (λ_ _ _=>Xds) hA hB h
def keeps (kept:List (Str×Str)) (S:List Str):Bool:=kept.all λq=>decide (bk S q.1=q.2)
theorem Xe5{kept:List (Str×Str)}{S:List Str}:keeps kept S=true ↔ ∀q∈kept,bk S q.1=q.2:=by
 unfold keeps
 rw[Xz8]
 exact⟨λh q hq=>X3l (h q hq),λh q hq=>X3j (h q hq)⟩
def Good (row:List Str) (kept:List (Str×Str)):Prop:=∃Us,Us≠[]/\(∀S∈Us,isPlotB row S=true)/\kept=Xbi row Us
theorem Xqu{row:List Str}{Us:List (List Str)}(ne:Us≠[]){S:List Str}(h:S∈Us):keeps (Xbi row Us) S=true:=
 Xe5.mpr λq hq=>((Xbl ne (x:=q.1) (b:=q.2)).mp hq).2 S h
theorem Xm4{row:List Str}{kept:List (Str×Str)}{Ts:List (List Str)}(h:∀S,S∈Ts↔isPlotB row S=true/\keeps kept S=true):Good row kept↔Ts≠[]/\Xbi row Ts=kept:=by
 constructor
 ·rintro ⟨Us,ne,hp,rfl⟩
  have sub:∀S∈Us,S∈Ts:=λS hS=>(h S).mpr ⟨hp S hS,Xqu ne hS⟩
  have ne':Ts≠[]:=λe=>by
   obtain⟨S,hS⟩:=X1c _ ne
   have:=sub S hS
   rw[e] at this;cases this
  refine⟨ne',Xqt (Xhb ..) (Xhb ..) λq=>?_⟩
  rw[show q=(q.1,q.2) from rfl,Xbl ne',Xbl ne]
  refine⟨λz=>⟨z.1,λS hS=>z.2 S (sub S hS)⟩,λz=>⟨z.1,λS hS=>?_⟩⟩
  exact Xe5.mp ((h S).mp hS).2 (q.1,q.2) ((Xbl ne).mpr z)
 ·rintro ⟨ne,e⟩
  exact⟨Ts,ne,λS hS=>((h S).mp hS).1,e.symm⟩
theorem Good.len{row:List Str}{kept:List (Str×Str)}(g:Good row kept):kept.length<=(dit row).length:=by
 obtain⟨Us,_,_,rfl⟩:=g
 exact Xn9 ..
theorem Good.pw{row:List Str}{kept:List (Str×Str)}(g:Good row kept):kept.Pairwise λp q=>ltS p.1 q.1:=by
 obtain⟨Us,_,_,rfl⟩:=g
 exact Xhb ..
theorem Xkn{row:List Str}{Ts:List (List Str)}(ne:Ts≠[])(ok:∀y∈row,okN y):∀S∈(Xbi row Ts).map pr2,∀y∈S,okN y:=λS hS y hy=>by
 obtain⟨q,hq,rfl⟩:=Xz4.mp hS
 obtain⟨h1,h2⟩:=(Xbl ne (x:=q.1) (b:=q.2)).mp hq
 obtain⟨U,hU⟩:=X1c _ ne
 unfold pr2 at hy
 rcases Xzw.mp hy with e | e
 ·rw[e];exact ok _ h1
 ·rw[Xzr.mp e,<-h2 U hU];exact Xze ..
theorem Xqv{A B:List (Str×Str)}(h:A.map pr2=B.map pr2):A=B:=by
 induction A generalizing B with
 | nil=>cases B with
  | nil=>rfl
  | cons b B=>cases h
 | cons a A ih=>cases B with
  | nil=>cases h
  | cons b B=>
   rw[Xz9,Xz9] at h
   obtain⟨h1,h2⟩:=List.cons.inj h
   unfold pr2 at h1
   obtain⟨e1,e2⟩:=List.cons.inj h1
   obtain⟨e2,_⟩:=List.cons.inj e2
   rw[ih h2,Prod.ext e1 e2]
structure Lsts (H:Hp) (kvs:List (Key×V)) (f:Str->List Str) (ns:List Str):Prop where
 keys:kvs.map (·.1)=ns.map (λx=>(Sum.inr x:Key))
 val:∀x∈ns,∃l,valV kvs (Sum.inr x:Key)=some (.ref l)/\H l=some (.lst ((f x).map V.str))
theorem Lsts.mono{H H':Hp}{kvs:List (Key×V)}{f:Str->List Str}{ns:List Str}(s:Lsts H kvs f ns)(h:Same H H'):Lsts H' kvs f ns:=⟨s.keys,λx hx=>let ⟨l,h1,h2⟩:=s.val x hx; ⟨l,h1,h _ _ h2⟩⟩
theorem Lsts.snoc{H H':Hp}{kvs:List (Key×V)}{f:Str->List Str}{ns:List Str}{x:Str}{l:Addr}(s:Lsts H kvs f ns)(nx:x∉ns)(h:H' l=some (.lst ((f x).map V.str)))(k:∀b xs,H b=some (.lst xs)->H' b=some (.lst xs)):
  Lsts H' (putK kvs (Sum.inr x) (.ref l)) f (ns++[x]):=by
 have hn:valV kvs (Sum.inr x:Key)=none:=by
  cases e:valV kvs (Sum.inr x:Key) with
  | none=>rfl
  | some v=>
   exfalso
   have:=Xfa e
   rw[s.keys] at this
   obtain⟨y,hy,e2⟩:=Xz4.mp this
   rw[X1b e2] at hy
   exact nx hy
 refine⟨by rw[Xen _ hn,Xzq,Xzq,s.keys];rfl,λy hy=>?_⟩
 rw[Xd2]
 by_cases e:y=x
 ·subst e
  exact⟨l,X3i rfl,h⟩
 ·have hy':y∈ns:=by
   rcases Xzv.mp hy with z | z
   ·exact z
   ·exact absurd (Xzr.mp z) e
  obtain⟨l0,h1,h2⟩:=s.val y hy'
  exact⟨l0,by rw[X3h (λz=>e (X1b z))];exact h1,k _ _ h2⟩
theorem Lsts.get{H:Hp}{kvs:List (Key×V)}{f:Str->List Str}{ns:List Str}{d:Addr}{x:Str}(s:Lsts H kvs f ns)(hd:Rd H d (.dK kvs))(hx:x∈ns):∃l,DGet H d (.str x) (some (.ref l))/\H l=some (.lst ((f x).map V.str)):=by
 obtain⟨l,h1,h2⟩:=s.val x hx
 exact⟨l,DGet.rd hd h1,h2⟩
theorem Lsts.at{H:Hp}{kvs:List (Key×V)}{f:Str->List Str}{ns:List Str}(s:Lsts H kvs f ns)(i:Nat)(hi:i<ns.length):(kvs.map λp=>kV p.1).getD i .non = .str (ns.getD i Str.empty):=by
 have e:(kvs.map λp=>kV p.1)=ns.map V.str:=by
  have:(kvs.map λp=>kV p.1)=(kvs.map (·.1)).map kV:=by rw[X0f];rfl
  rw[this,s.keys,X0f]
  rfl
 rw[e]
 exact Xaz V.str Str.empty ns hi
theorem Lsts.len{H:Hp}{kvs:List (Key×V)}{f:Str->List Str}{ns:List Str}(s:Lsts H kvs f ns):kvs.length=ns.length:=by
 have:=congrArg List.length s.keys
 simpa using this
def spShared:Sp:=λvs H Q _=>∃(r c:Addr) (row:List Str) (ps:List Addr) (Ts:List (List Str)),vs=[.ref r,.ref c]/\H r=some (.lst (row.map V.str))/\Row2 row/\H c=some (.lst (ps.map V.ref))/\Tups H ps Ts/\ps.length<=200 /\
 ∀(D:Addr) (qs:List Addr) (H':Hp),H D=none->H' D=some (.lst (qs.map V.ref))->Tups H' qs ((Xbi row Ts).map pr2)->Same H H'->Q (.ref D) H'
def spLiesOn:Sp:=λvs H Q _=>∃(p k:Addr) (S:List Str) (qs:List Addr) (kept:List (Str×Str)),vs=[.ref p,.ref k]/\H p=some (.tup (S.map V.str))/\H k=some (.lst (qs.map V.ref))/\Tups H qs (kept.map pr2)/\qs.length<=1000/\∀H',Same H H'->Q (.bl (keeps kept S)) H'
abbrev NSh:List Str:=["row", "some", "sides"]
abbrev NSh1:List Str:=["name", "some"]
abbrev NSh2:List Str:=["plot", "name"]
abbrev NSh3:List Str:=["name", "sides"]
abbrev NLo1:List Str:=["name", "side", "plot"]
end SH
namespace L2
open PySem PySem.Spec PyProof.Rows
def okR (z:Str):Prop:=z.length<=9/\∀c∈z.cps.toList,c<16 ^ 8
def Xt4 (te:TE) (t:L2.St->Hp->(Hp->Prop)->Prop):L2.St->Hp->(Hp->Prop)->Prop:=fun σ H Q=>te σ H λx H1=>∃(a:Addr) (ps:List Addr) (Ts:List (List Str)),x = .ref a/\H1 a=some (.lst (ps.map V.ref))/\Tups H1 ps Ts/\ps.length<=16/\(∀S∈Ts,S.length<=3/\∀z∈S,okR z)/\t σ H1 Q
theorem Xqw{P:Program}{w:World}{as:List Addr}{h0:Heap}{d:Nat}:∀{us:List Value} {ts:List Str},ReprAll P w us ts->ReprAllK P w as h0 d us ts
 | _,_,.nil=>.nil
 | _,_,.cons h r=>.cons (ReprK.of_is h as h0 d) (Xqw r)
section
variable {X:Cx}{es:List Expr}{t:L2.St->Hp->(Hp->Prop)->Prop}{e:Expr}{te:TE}{pos:Pos}
theorem Xoa{S:List Str}(h1:S.length<=3)(h2:∀z∈S,okR z):(tupleText (S.map reprText)).length<=285:=by
 have a:=Xew (S.map reprText)
 have b:piled (S.map reprText)<=94 * S.length:=by
  clear a h1
  induction S with
  | nil=>simp[piled]
  | cons z S ih=>
   obtain⟨g1,g2⟩:=h2 z Xzp
   have:=StrLaws.reprText_len z g2
   have:=ih λy hy=>h2 y (Xzo _ hy)
   rw[Xz9,piled_cons,X0a]
   omega
 omega
theorem Xm5:∀(Ts:List (List Str)),(∀S∈Ts,S.length<=3/\∀z∈S,okR z)->((Ts.map λS=>tupleText (S.map reprText)).map (·.length)).sum<=285 * Ts.length
 | [],_=>by simp
 | S::Ts,h=>by
  obtain⟨h1,h2⟩:=h S Xzp
  have:=Xoa h1 h2
  have ih:=Xm5 Ts λy hy=>h y (Xzo _ hy)
  rw[Xz9,Xz9,X1r,X0a]
  omega
theorem Xs2{k:Nat}{p:Pos}(hr:Room k X.A)(ha:PE X e te)(h:PJ X es t)(he:evalEach (.FormattedValue e 114 none p::es) X.env=eval (.FormattedValue e 114 none p) X.env::evalEach es X.env:=by rfl):PJ X (.FormattedValue e 114 none p::es) (Xt4 te t):=by
 intro out pins s σ H Q I hw hl
 rw[he]
 rw[X0a] at hl
 refine joinParts_cons (wpAny_FormattedValue_repr (thn (ha pins s σ H _ I hw) λv s1 ⟨x,H1,I1,r1,q1⟩=>?_))
 obtain⟨a,ps,Ts,ez,hp,hT,h1,h2,q⟩:=q1
 subst ez
 cases r1
 obtain⟨_,its,n,rv,hx⟩:(ps.map V.ref).length<=sizeLine/\∃(its:List Value) (n:Nat),Vals (ps.map V.ref) its/\s1.heap.get? a=some {cls:=.type "list",data:=.seq its.toArray n}:=I1.hok a _ hp
 have lenV:its.length=ps.length:=by rw[<-rv.length,Xzk]
 have hz1:=listText_len_le (Ts.map λS=>tupleText (S.map reprText))
 have hz2:=Xm5 Ts h2
 have hTl:=hT.1
 rw[Xzk] at hz1
 have hz3:(listText (Ts.map λS=>tupleText (S.map reprText))).length<=5000:=by omega
 have hz4:(listText (Ts.map λS=>tupleText (S.map reprText))).length<=sizeLine:=by rw[X3g];omega
 cases its with
 | nil=>
  refine wpAny_pyReprObj_list_empty ⟨_,hx,rfl⟩ hr.units0 hx rfl ?_
  refine formatField_str (λt' k=>⟨by rw[Xct];have:(("[]" : String):Str).length=2:=rfl;omega,?_⟩) (by decide)
  exact h _ pins _ σ H1 Q ((I1.tok _).tok _) q (by rw[Xct];have:(("[]" : String):Str).length=2:=rfl;omega)
 | cons v r=>
  refine wpAny_pyReprObj_listK (as:=ps) (h₀:=s1.heap) (d:=1) (g:=[]) hx rfl rfl ?_ ?_ (λi y hy=>?_) hr.gd (λb _=>Clear.nil b) (by have:=hr.units;omega) (λ_ _ e=>e) (λh' u tk k=>?_) hz4
  ·intro hm
   obtain⟨T,_,e⟩:=hT.mem hm
   rw[hp] at e;cases e
  ·rw[Xzk,Xzm,lenV,hTl]
  ·rw[List.getElem?_toArray] at hy
   have hi:i<ps.length:=by
    have:=(Xz2.mp hy).1
    omega
   have hi':i<Ts.length:=by omega
   obtain⟨u,hu,ru⟩:=rv.get (i:=i) (x:=.ref (ps.getD i 0)) (by rw[Xz1,Xzl hi];simp[List.getD,hi])
   have e0:y=u:=by
    rw[hu] at hy
    exact(Xzx hy).symm
   subst e0
   cases ru
   have hS:Ts.getD i []∈Ts:=by
    have:Ts.getD i []=Ts[i]:=by simp[List.getD,hi']
    rw[this];exact X0b hi'
   have ht:=hT.2 i hi
   have hpm:ps.getD i 0∈ps:=by
    have:ps.getD i 0=ps[i]:=by simp[List.getD,hi]
    rw[this];exact X0b hi
   refine⟨tupleText ((Ts.getD i []).map reprText),by rw[Xz1,Xzl hi'];simp[List.getD,hi'],?_⟩
   generalize Ts.getD i []=S at hS ht
   generalize ps.getD i 0=p at ht hpm
   obtain⟨h21,h22⟩:=h2 S hS
   obtain⟨its2,r2,pl,_⟩:=I1.tuple (SqT.of (K:=X.K) ht)
   obtain⟨o,ho,hc,n2,hd⟩:=pl
   refine(ReprK.tuple (as:=[]) (d:=0) ho hc hd (by simp) (Xqw (Xfn (λz hz=>⟨X0c (h22 z hz).1 (by decide),(h22 z hz).2⟩) (by simpa using r2)))).more λb hb=>?_
   rw[Xzr.mp hb]
   exact hpm
  ·refine formatField_str (λt' k2=>⟨by rw[Xct];omega,?_⟩) hz4
   exact h _ pins _ σ H1 Q ((I1.kept k).tok _) q (by rw[Xct];omega)
end
end L2
namespace L2
open PySem PySem.Spec PyProof.Rows PySem.Calls
section
variable {P:Program}{w:World}{A:Around}{E:Value->Shared->Prop}{s:Shared}
theorem Xqx:typeLookup (.type "list") "keys" = pure none:=by rw[typeLookup_type,builtinLookup_eq_fast];kernel_rfl
theorem Xqy{a:Addr}{xs:Array Value}{k:Nat}{Q:Option Value->Shared->Prop}(hx:s.heap.get? a=some {cls:=.type "list",data:=.seq xs k})(hA:A.handled=none)
  (h:∀h' tk,(∀b o,s.heap.get? b=some o->h'.get? b=some o)->Q none {s with heap:=h',toks:=tk}):wpAny (model P w) A (getAttr? (.ref a) "keys") Q E s:=by
 obtain⟨hp,g,d,tk,os⟩:=s
 have hT:∀tk',(⟨hp,g,d,tk',os⟩:Shared).TypeIs (.ref a) "list" := λ_=>⟨_,hx,rfl⟩
 have f1:=sub_AttributeError
 have f3:=PySem.F.slot_list_getattribute.lookup
 have f4:=PySem.F.slot_list_getattribute.bind (.ref a)
 have f5:=am_list_getattr_none
 unfold getAttr? getAttrBy? getAttrBy
 repeat (any_goals (first | assumption | exact hT _ | ((with_reducible show wpAny _ _ (call (Value.builtin "list.__getattribute__") _ _) _ _ _);refine call_meets PySem.F.slot_list_getattribute (hT _) am_entry_list_getattribute (PySem.F.args_list_getattribute_2 _ _) (meets_getattribute_miss_list a xs k #[] "keys" _ Xqx (by decide +kernel)) ⟨hx,hA,λh' tk' e hx'=>?_⟩) | wp_step))
 obtain⟨t',u',he⟩:=hx'.there
 show wpAny _ _ (getattributeRaised _ _ _ _ _ _ _) _ _ _
 unfold getattributeRaised
 repeat (any_goals (first | assumption | wp_step))
 all_goals first | exact h _ _ hx'.keeps | trace_state
theorem Xko:entryFor table "dict.update.loop" = some Builtin.«dict.update.loop»:=entryFor_of_tree (by kernel_rfl)
theorem Xe6:plainId "dict.update.loop" = true:=by decide +kernel
def Xco (prs:List (Key×V)):List (Key×V):=prs.foldl (λm q=>putK m q.1 q.2) []
theorem Xfs(prs:List (Key×V))(q:Key×V):Xco (prs++[q])=putK (Xco prs) q.1 q.2:=by
 unfold Xco
 rw[List.foldl_append]
 rfl
theorem Xkp(prs:List (Key×V)):(Xco prs).length<=prs.length:=by
 have:∀n,∀prs:List (Key×V),prs.length=n->(Xco prs).length<=n:=by
  intro n
  induction n with
  | zero=>intro prs h;rw[X0g.mp h];exact Xzn _
  | succ n ih=>
   intro prs h
   obtain⟨l,q,rfl⟩:∃l q,prs=l++[q]:=⟨prs.dropLast,prs.getLast (λe=>by rw[e] at h;cases h),(X1z _).symm⟩
   rw[Xfs]
   have:=Xcb (Xco l) q.1 q.2
   have:=ih l (by simpa using h)
   omega
 exact this _ prs rfl
theorem Xqz{R:Result->Shared->Prop}{I:Addr}{fp wr:List Addr}{G:Array GenState->Array GenState->Prop}{Pv:Nat->Value->Prop}{St:Nat->Shared->Prop}(prs:List (Key×V))(W:WalksS P w A.in1 I fp wr G prs.length Pv St)(d:Addr)(nd:d∉fp)(h0:Heap)(dft:Key×V)
  (hval:∀i v,i<prs.length->Pv i v->∃p o n kv vv,v = .ref p/\p≠d/\p∉wr/\h0.get? p=some o/\o.cls = .type "tuple" /\ o.data = .seq #[kv,vv] n/\RelV (kV (prs.getD i dft).1) kv/\RelV (prs.getD i dft).2 vv) (hb:prs.length<sizeLine):
  ∀(k i:Nat) (j:Int) (tj:Tok) (s:Shared),prs.length - i=k->i<=prs.length->St i s->(∀b o,b≠d->b∉wr->h0.get? b=some o->s.heap.get? b=some o)->(∃vs,KV (Xco (prs.take i)) vs/\s.heap.DictOf (Xas P w) d vs) ->
   (∀s',Moved (d::wr) G s s'->(∃vs,KV (Xco prs) vs/\s'.heap.DictOf (Xas P w) d vs)->R (.ok (.ret .none)) s') ->
   codeAny (model P w) A (.builtin "dict.update.loop" ⟨[.ref d,.ref I,.int j tj,.none],[]⟩) R s:=by
 have nw:d∉wr:=λz=>nd (W.sub _ z)
 have up:∀b∈wr,b∈d::wr:=λb z=>Xzo _ z
 intro k
 induction k with
 | zero=>
  intro i j tj s e hi st hk ⟨vs,rel,dd⟩ hR
  have:i=prs.length:=by omega
  subst this
  rw[X0j] at rel
  refine codeAny_builtin Xko ?_
  rw[Around.under_plainId Xe6 _]
  show wpAny _ A.in1 (pyNext (.ref I) >>= λ_=>_) _ _ s
  refine X3e (W.done s _ _ st λs' mv=>?_)
  show wpAny _ A.in1 (Builtin.Dict.addKeywords d [] >>= _) _ _ s'
  obtain⟨o,es,ep,ho,r⟩:=dd
  exact X3e (X3f (X3f (hR s' (mv.mono up) ⟨vs,rel,o,es,ep,mv.heap d o nw ho,r⟩)))
 | succ k ih=>
  intro i j tj s e hi st hk ⟨vs,rel,dd⟩ hR
  have lt:i<prs.length:=by omega
  refine codeAny_builtin Xko ?_
  rw[Around.under_plainId Xe6 _]
  show wpAny _ A.in1 (pyNext (.ref I) >>= λ_=>_) _ _ s
  refine X3e (W.item i s _ _ lt st λv s' hP st' mv=>?_)
  obtain⟨p,o,n,kv,vv,rfl,npd,npw,ho,hc,hd,rk,rv⟩:=hval i v lt hP
  have hk':∀b o,b≠d->b∉wr->h0.get? b=some o->s'.heap.get? b=some o:=λb o h1 h2 h3=>mv.heap b o h2 (hk b o h1 h2 h3)
  have ho':=hk' p o npd npw ho
  have dd':s'.heap.DictOf (Xas P w) d vs:=by
   obtain⟨o,es,ep,ho,r⟩:=dd
   exact⟨o,es,ep,mv.heap d o nw ho,r⟩
  have hT:s'.TypeIs (.ref p) "tuple" := ⟨o,ho',hc⟩
  have hl1:vs.length<=i:=by
   have:=Xkp (prs.take i)
   rw[<-rel.length]
   rw[Xz6] at this
   omega
  show wpAny _ A.in1 (holding [Value.ref p] _ >>= λ_=>_) _ _ s'
  refine X3e (wpAny_holding (X3e (wpAny_tryCatch ?_)))
  unfold Builtin.Dict.pairItems
  refine X3e (wpAny_typeOf hT ?_)
  rw[X3i (by decide)]
  refine X3e (wpAny_seqItems ho' hd (X3f ?_))
  show wpAny _ _ (holding [kv,vv] (dictSet d kv vv)) _ _ s'
  refine wpAny_holding (wpAny_dictSet_pairs (knd:=Xas P w) (Xjb rk) dd' (λh' dd2 hs=>?_) (by omega))
  have e3:Xco (prs.take (i+1))=putK (Xco (prs.take i)) (prs.getD i dft).1 (prs.getD i dft).2:=by
   rw[Xzy lt,Xfs]
   have:prs.getD i dft=prs[i]:=by simp[List.getD,lt]
   rw[this]
  refine X3f ⟨plainId_quiet Xe6 _,ih (i+1) _ _ _ (by omega) lt (W.frame _ s' _ _ st' (X00 _) λb hb o q=>?_) (λb o h1 h2 h3=>?_) ⟨_,by rw[e3];exact rel.put _ rv,dd2⟩ λs'' mv2 S4=>?_⟩
  ·show h'.get? b=some o
   rw[hs.2 b (λz=>nd (z ▸ hb))]
   exact q
  ·show h'.get? b=some o
   rw[hs.2 b h1]
   exact hk' b o h1 h2 h3
  ·refine hR s'' (Moved.trans W.gtrans ((mv.mono up).then_heap (X00 _) λb o hb q=>?_) mv2) S4
   rw[hs.2 b (λz=>hb (z ▸ Xzp))]
   exact q
abbrev dft0:Key×V:=(Sum.inl 0,.non)
abbrev Xkq:Obj:={cls:=.type "dict",data:=.dict #[]}
theorem Xq0{l:Addr}{items:Array Value}{k:Nat}{prs:List (Key×V)}{Q:Value->Shared->Prop}(hA:A.handled=none)(hl:s.heap.get? l=some {cls:=.type "list",data:=.seq items k})(hz:items.size=prs.length)(hb:prs.length<sizeLine)
  (hval:∀i v,i<prs.length->items[i]? = some v->∃p o n kv vv,v = .ref p/\s.heap.get? p=some o/\o.cls = .type "tuple" /\ o.data = .seq #[kv,vv] n/\RelV (kV (prs.getD i dft0).1) kv/\RelV (prs.getD i dft0).2 vv)
  (h:∀(h':Heap) (tk:Nat),(∃vs,KV (Xco prs) vs/\h'.DictOf (Xas P w) s.heap.objs.size vs)->(∀b o,s.heap.get? b=some o->h'.get? b=some o)->Q (.ref s.heap.objs.size) {s with heap:=h',toks:=tk}):
  wpAny (model P w) A (call (.type "dict") [.ref l]) Q E s:=by
 refine callType_codes (Q₁:=λobj s₁=>obj = .ref s.heap.objs.size/\s₁ = {s with heap:=s.heap.push Xkq}) PySem.F.kt_called_dict (PySem.F.kt_typeCall_dict_1 _) PySem.F.entry_dict_init (kt_code_dict_new _ ⟨rfl,rfl⟩) ?_
 rintro obj s₁ ⟨rfl,rfl⟩
 have hnew:(s.heap.push Xkq).DictOf (Xas P w) s.heap.objs.size []:=Heap.DictOf.new s.heap
 have hl1:(s.heap.push Xkq).get? l=some {cls:=.type "list",data:=.seq items k}:=X3o _ hl
 have ltl:=X3n hl
 refine⟨hnew.typeIs,PySem.F.args_dict_init_2 _ _,?_⟩
 unfold Builtin.«dict.__init__»
 refine X3e ?_
 unfold Builtin.Dict.selfAndRest
 refine X3e (wpAny_notOrdered_dict hnew.typeIs ?_)
 show wpAny _ _ (pure (s.heap.objs.size,[Value.ref l])) _ _ _
 refine X3f ?_
 show wpAny _ _ (Builtin.Dict.updateFrom "dict.__init__" s.heap.objs.size (.ref l) [] .none) _ _ _
 unfold Builtin.Dict.updateFrom
 refine X3e (wpAny_typeOf (T := "list") ⟨_,hl1,rfl⟩ ?_)
 rw[X3i (by decide)]
 refine X3e (Xqy (s:={s with heap:=s.heap.push Xkq}) hl1 (by simp[hA]) λh2 tk2 k2=>?_)
 rw[X3i (show (none:Option Value).isNone=true from rfl)]
 have hl2:h2.get? l=some {cls:=.type "list",data:=.seq items k}:=k2 _ _ hl1
 have gS:(s.heap.push Xkq).get? s.heap.objs.size=some Xkq:=Heap.get?_push_size _ rfl
 have ltS:=X3n (k2 _ _ gS)
 have ltl2:=X3n hl2
 have hi2:h2.IsList l items:=⟨_,hl2,rfl,k,rfl⟩
 refine X3e (wpAny_rule (X3e (wpAny_pyIter_list (s:={s with heap:=h2,toks:=tk2}) hi2 ?_)))
 have nI:s.heap.objs.size∉[h2.objs.size,l]:=by simp only[Xzw,X2o,or_false,not_or];exact⟨Xzs ltS,(Xzs ltl).symm⟩
 have W:=(Walks.list (prog:=P) (w:=w) (A:=A.in1.in1) (by simp[hA]) h2.objs.size l (Xzs ltl2) items).toS
 rw[hz] at W
 refine X3f ⟨plainId_quiet Xe6 _,?_⟩
 refine Xqz (A:=A.in1) prs W s.heap.objs.size nI s.heap dft0 (λi v hi hv=>?_) hb _ 0 _ _ _ rfl (X0k _) ⟨⟨_,Heap.get?_push_size _ rfl,rfl,rfl⟩,hi2.push _⟩ (λb o _ _ q=>X3o _ (k2 _ _ (X3o _ q))) ⟨[],.nil,?_⟩ λs' mv S'=>?_
 ·obtain⟨p,o,n,kv,vv,e,ho,hc,hd,rk,rv⟩:=hval i v hi hv
  have ltp:=X3n ho
  have ltp2:=X3n (k2 _ _ (X3o Xkq ho))
  exact⟨p,o,n,kv,vv,e,Xzs ltp,by simp only[Xzw,X2o,or_false];exact Xzs ltp2,ho,hc,hd,rk,rv⟩
 ·obtain⟨o,es,ep,ho,r⟩:=hnew
  exact⟨o,es,ep,X3o _ (k2 _ _ ho),r⟩
 ·rw[Moved.eq_with mv]
  refine⟨rfl,h s'.heap s'.toks S' λb o q=>mv.heap b o (λz=>?_) (X3o _ (k2 _ _ (X3o _ q)))⟩
  have ltb:=X3n q
  rcases Xzw.mp z with z | z
  ·exact absurd ltb (by rw[z];exact X0n _)
  ·have:=X3n (k2 _ _ (X3o Xkq q))
   exact absurd this (by rw[Xzr.mp z];exact X0n _)
end
section
variable {X:Cx}
theorem Xhx(hcalm:X.calm=true):Xcx X (.type "dict") (λxs H Q=>∃(p:Addr) (qs:List Addr) (prs:List (Key×V)),xs=[.ref p]/\H p=some (.lst (qs.map V.ref))/\qs.length=prs.length/\prs.length<=1000 /\
  (∀i,i<qs.length->H (qs.getD i 0)=some (.tup [kV (prs.getD i dft0).1,(prs.getD i dft0).2]))/\∀d,H d=none->Q (.ref d) (upd H d (.dK (Xco prs)))):=by
 intro pins s σ H xs us Q I r h
 obtain⟨p,qs,prs,rfl,hp,hz,hb,ht,q⟩:=h
 obtain⟨u,rfl,rx⟩:=vals1 r
 cases rx
 obtain⟨_,its,n,rv,hx⟩:(qs.map V.ref).length<=sizeLine/\∃(its:List Value) (n:Nat),Vals (qs.map V.ref) its/\s.heap.get? p=some {cls:=.type "list",data:=.seq its.toArray n}:=I.hok p _ hp
 have lenV:its.length=qs.length:=by rw[<-rv.length,Xzk]
 have hdS:(s.heap.objs.size==sysModules)=false:=by
  have:=I.big
  exact beq_eq_false_iff_ne.mpr (X3b this)
 refine Xq0 (prs:=prs) (I.ok.hd hcalm) hx (by rw[Xzm,lenV,hz]) (by rw[X3g];omega) (λi v hi hv=>?_) λh' tk ⟨vs,rel,dd⟩ k=>?_
 ·have hi':i<qs.length:=by omega
  obtain⟨u,hu,ru⟩:=rv.get (i:=i) (x:=.ref (qs.getD i 0)) (by rw[Xz1,Xzl hi'];simp[List.getD,hi'])
  have:v=u:=by
   rw[List.getElem?_toArray,hu] at hv
   exact(Xzx hv).symm
  subst this
  obtain⟨its2,r2,pl,_⟩:=I.tuple (SqT.of (K:=X.K) (ht i hi'))
  obtain⟨kv,vv,e2,rk,rv2⟩:=r2.two
  subst e2
  obtain⟨o,ho,hc,n2,hd⟩:=pl
  exact⟨_,o,n2,kv,vv,ru,ho,hc,hd,rk,rv2⟩
 ·refine⟨.ref s.heap.objs.size,_,I.laidM (s':={s with heap:=h',toks:=tk}) k rfl rfl (Xzn _) ?_,rfl,q _ (I.hok.fresh (Xzn _))⟩
  exact⟨by have:=Xkp prs;rw[X3g];omega,hdS,vs,rel,dd⟩
end
end L2
namespace L2
open PySem PySem.Spec PyProof.Rows
section
variable {X:Cx}
end
end L2
namespace SH
open PySem PySem.Spec PyProof.Rows L2
def CrOk (Ts:List (List Str)):Prop:=∀S∈Ts,(∀y∈S,okN y)/\S.length<=24
theorem Xa6.ne{T b:Addr}{pos:Pos}{q:Str}{H:Hp}{o:HO}(tb:Xa6 T pos q H)(e:H b=some o)(n:∀z,o ≠ .tbl z):b≠T:=λz=>by
 rcases tb with q | ⟨_,q,_⟩<;>(rw[z,q] at e;cases e;exact n _ rfl)
def ne2 (a b:List Str) (x:Str):Bool:=xor (decide (x∈a)) (decide (x∈b))
theorem Xiu{a b:List Str}{x:Str}:ne2 a b x=true↔(x∈a/\x∉b)\/(x∈b/\x∉a):=by
 unfold ne2
 by_cases h1:x∈a<;>by_cases h2:x∈b<;>simp[h1,h2]
def btw (a b c:List Str):Bool:=decide ((xorL a c).length+(xorL c b).length=(xorL a b).length)
theorem Xq1{H:Hp}{ps:List Addr}{Ts:List (List Str)}{I:List Nat}(h:Tups H ps Ts)(g:∀i∈I,i<ps.length):Tups H (I.map λi=>ps.getD i 0) (I.map λi=>Ts.getD i []):=by
 refine⟨by simp,λi hi=>?_⟩
 rw[Xzk] at hi
 rw[Xe3 _ _ _ hi,Xe3 _ _ _ hi]
 exact h.2 _ (g _ (X0b hi))
def Xzf:Sp:=λvs H Q _=>∃(r p q u:Addr) (row a b c:List Str),vs=[.ref r,.ref p,.ref q,.ref u]/\H r=some (.lst (row.map V.str))/\Row2 row/\(dit row).length<=14/\H p=some (.tup (a.map V.str))/\H q=some (.tup (b.map V.str))/\H u=some (.tup (c.map V.str)) /\
 isPlotB row a=true/\isPlotB row b=true/\isPlotB row c=true/\∀H',Same H H'->Q (.bl (btw a b c)) H'
def spLane (T:Addr) (pos:Pos):Sp:=λvs H Q _=>∃(r p q:Addr) (row a b:List Str),vs=[.ref r,.ref p,.ref q]/\H r=some (.lst (row.map V.str))/\Row2 row/\Xbx row/\(dit row).length<=13/\H p=some (.tup (a.map V.str))/\H q=some (.tup (b.map V.str)) /\
 isPlotB row a=true/\isPlotB row b=true/\Xa6 T pos qIn H /\
 ∀(D:Addr) (ps:List Addr) (Ts:List (List Str)) (H':Hp),H D=none->H' D=some (.lst (ps.map V.ref))->Tups H' ps Ts->(∀S,S∈Ts↔isPlotB row S=true/\btw a b S=true)->(Ts.Pairwise λx y=>ltPl x y=true)->ps.length<=64->Xa6 T pos qIn H'->But T H H'->Q (.ref D) H'
structure KpOk (kept:List (Str×Str)):Prop where
 len:kept.length<=16
 ok:∀q∈kept,okR q.1/\okR q.2/\okN q.1/\okN q.2
theorem KpOk.okL{kept:List (Str×Str)}(h:KpOk kept):∀S∈kept.map pr2,∀y∈S,okN y:=λS hS y hy=>by
 obtain⟨q,hq,rfl⟩:=Xz4.mp hS
 obtain⟨_,_,h3,h4⟩:=h.ok q hq
 rcases Xzw.mp hy with e | e
 ·rw[e];exact h3
 ·rw[Xzr.mp e];exact h4
structure HeldAt (H:Hp) (T:Addr) (pos:Pos) (r k:Addr) (row:List Str) (kept:List (Str×Str)):Prop where
 hr:H r=some (.lst (row.map V.str))
 r2:Row2 row
 n3:Xbx row
 d:(dit row).length<=13
 tab:Xa6 T pos qIn H
 kp:∃qs:List Addr,H k=some (.lst (qs.map V.ref))/\Tups H qs (kept.map pr2)
 ok:KpOk kept
def Xt5 (row:List Str) (kept:List (Str×Str)) (Ts:List (List Str)):Prop:=(∀S,S∈Ts↔isPlotB row S=true/\keeps kept S=true)/\Ts.Pairwise (λa b=>ltPl a b=true)
def spHeld (B T:Addr) (pos:Pos):Sp:=λvs H Q E=>∃(r k:Addr) (row:List Str) (kept:List (Str×Str)),vs=[.ref r,.ref k]/\HeldAt H T pos r k row kept /\
 (Good row kept->∀(D:Addr) (ps:List Addr) (Ts:List (List Str)) (H':Hp),H D=none->H' D=some (.lst (ps.map V.ref))->Tups H' ps Ts->Xt5 row kept Ts->ps.length<=64->Xa6 T pos qIn H'->But T H H'->Q (.ref D) H') /\
 (¬Good row kept->∀H',Xa6 T pos qIn H'->But T H H'->E (.ref B) none H')
def Xbc (row:List Str) (kept:List (Str×Str)) (S:List Str):List Str:=(dit row).filter λx=>decide ((kept.lookup x).getD (bk S x) = "off")
def Xm6 (B C T:Addr) (pos:Pos):Sp:=λvs H Q E=>∃(r k p:Addr) (row:List Str) (kept:List (Str×Str)) (S:List Str),vs=[.ref r,.ref k,.ref p]/\HeldAt H T pos r k row kept/\H p=some (.tup (S.map V.str))/\(∀y∈S,okN y)/\S.length<=24 /\
 (Good row kept->isPlotB row S=true->∀(g:Addr) (H':Hp),H g=none->H' g=some (.tup ((Xbc row kept S).map V.str))->Xa6 T pos qIn H'->But T H H'->Q (.ref g) H')/\(¬Good row kept->∀H',Xa6 T pos qIn H'->But T H H'->E (.ref B) none H') /\
 (Good row kept->isPlotB row S=false->∀H',Xa6 T pos qIn H'->But T H H'->E (.ref C) none H')
theorem Good.row{row:List Str}{kept:List (Str×Str)}(g:Good row kept):∀q∈kept,q.1∈row/\(q.2 = "off" \/ q.2 = "home"):=by
 obtain⟨Us,ne,_,rfl⟩:=g
 intro q hq
 obtain⟨h1,h2⟩:=(Xbl ne (x:=q.1) (b:=q.2)).mp hq
 obtain⟨U,hU⟩:=X1c _ ne
 refine⟨h1,?_⟩
 rw[<-h2 U hU]
 unfold bk
 by_cases z:q.1∈U
 ·rw[X3i z];exact .inl rfl
 ·rw[X3h z];exact .inr rfl
def kvK (kept:List (Str×Str)):List (Key×V):=kept.map λq=>((Sum.inr q.1:Key),V.str q.2)
theorem Xkr(kept:List (Str×Str))(nd:(kept.map (·.1)).Nodup)(x:Str):valV (Xco (kvK kept)) (Sum.inr x:Key)=(kept.lookup x).map V.str:=by
 have key:∀(n:Nat) (kept:List (Str×Str)),kept.length=n->(kept.map (·.1)).Nodup->valV (Xco (kvK kept)) (Sum.inr x:Key)=(kept.lookup x).map V.str:=by
  intro n
  induction n with
  | zero=>intro kept h _;rw[X0g.mp h];rfl
  | succ n ih=>
   intro kept h nd
   obtain⟨l,q,rfl⟩:∃l q,kept=l++[q]:=⟨kept.dropLast,kept.getLast (λe=>by rw[e] at h;cases h),(X1z _).symm⟩
   have e:kvK (l++[q])=kvK l++[((Sum.inr q.1:Key),V.str q.2)]:=by unfold kvK;rw[Xzq];rfl
   rw[Xzq,X04] at nd
   rw[e,Xfs,Xd2,List.lookup_append]
   have ih':=ih l (by simpa using h) nd.1
   by_cases z:x=q.1
   ·subst z
    have hn:l.lookup q.1=none:=by
     cases e2:l.lookup q.1 with
     | none=>rfl
     | some b=>
      have hm:q.1∈l.map (·.1):=by
       have:=List.lookup_eq_some_iff.mp e2
       obtain⟨l1,l2,e3,_⟩:=this
       rw[e3];simp
      exact absurd rfl (nd.2.2 q.1 hm q.1 (by simp))
    rw[X3i rfl,hn]
    simp[List.lookup]
   ·rw[X3h (λe=>z (X1b e)),ih']
    have:[q].lookup x=none:=by
     have:(x==q.1)=false:=beq_eq_false_iff_ne.mpr z
     simp[List.lookup,this]
    rw[this]
    cases l.lookup x<;>rfl
 exact key _ kept rfl nd
theorem Good.nd{row:List Str}{kept:List (Str×Str)}(g:Good row kept):(kept.map (·.1)).Nodup:=by
 have:=g.pw
 refine Xcq (l:=kept.map (·.1)) ?_
 rw[X1u]
 exact this
abbrev NHe:List Str:=["row", "kept", "some"]
abbrev NGa:List Str:=["row", "kept", "plot", "side"]
abbrev NGa1:List Str:=["name", "plot", "side"]
section
variable {row:List Str}{kept:List (Str×Str)}{S:List Str}
theorem Good.lk(g:Good row kept){x b:Str}:kept.lookup x=some b↔(x,b)∈kept:=by
 have nd:=g.nd
 clear g
 induction kept with
 | nil=>simp
 | cons q r ih=>
  rw[Xz9,X02] at nd
  rw[X0p]
  by_cases e:x=q.1
  ·subst e
   rw[beq_self_eq_true]
   simp only[Xzw]
   refine⟨λh=>.inl (by rw[<-Xzx h]),λh=>?_⟩
   rcases h with h | h
   ·rw[<-h]
   ·exact absurd (Xz4.mpr ⟨_,h,rfl⟩) nd.1
  ·have:(x==q.1)=false:=beq_eq_false_iff_ne.mpr e
   rw[this]
   show r.lookup x=some b↔_
   rw[Xzw]
   exact(ih nd.2).trans ⟨.inr,λh=>h.elim (λh=>absurd (congrArg Prod.fst h) e) id⟩
theorem Xb2{x:Str}:x∈Xbc row kept S↔x∈row/\(kept.lookup x).getD (bk S x) = "off" := by
 unfold Xbc
 rw[Xzu,Xai,decide_eq_true_eq]
theorem Xks(g:Good row kept){q:Str×Str}(h:q∈kept):bk (Xbc row kept S) q.1=q.2:=by
 have hl:=g.lk.mpr (show (q.1,q.2)∈kept from h)
 obtain⟨h1,h2⟩:=g.row q h
 have hm:q.1∈Xbc row kept S↔q.2 = "off" := by
  rw[Xb2,hl]
  exact⟨λz=>z.2,λz=>⟨h1,z⟩⟩
 unfold bk
 rcases h2 with e | e
 ·rw[X3i (hm.mpr e),e]
 ·rw[X3h (λz=>by have:=hm.mp z;rw[e] at this;exact absurd this (by decide)),e]
theorem Xob(g:Good row kept):keeps kept (Xbc row kept S)=true:=Xe5.mpr λq hq=>Xks g hq
theorem Xhc{x:Str}(hx:x∈row)(h:kept.lookup x=none):x∈Xbc row kept S↔x∈S:=by
 rw[Xb2,h]
 exact⟨λz=>Xha.mp z.2,λz=>⟨hx,Xha.mpr z⟩⟩
theorem Xq2(g:Good row kept)(hS:isPlotB row S=true):isPlotB row (Xbc row kept S)=true:=by
 obtain⟨Us,ne,hp,e⟩:=id g
 obtain⟨T0,hT0⟩:=X1c _ ne
 obtain⟨_,s2,s3,s4⟩:=Xca.mp hS
 have c1:∀x∈Xbc row kept S,(∀T∈Us,x∈T)\/(x∈S/\∃T∈Us,x∈T):=λx hx=>by
  have hr:=(Xb2.mp hx).1
  cases hl:kept.lookup x with
  | some b=>
   have hb:=(Xb2.mp hx).2
   rw[hl] at hb
   have hb:b = "off" := hb
   have hk:=g.lk.mp hl
   rw[e,hb] at hk
   exact .inl λT hT=>Xha.mp (((Xbl ne).mp hk).2 T hT)
  | none=>
   have hxS:=(Xhc hr hl).mp hx
   refine .inr ⟨hxS,Classical.byContradiction λn=>?_⟩
   have:(x,("home" : Str))∈kept:=by
    rw[e]
    refine(Xbl ne).mpr ⟨hr,λT hT=>?_⟩
    unfold bk
    rw[X3h λz=>n ⟨T,hT,z⟩]
   rw[g.lk.mpr this] at hl
   cases hl
 have c2:∀x∈row,(∀T∈Us,x∈T)->x∈Xbc row kept S:=λx hr h=>by
  have:(x,("off" : Str))∈kept:=by
   rw[e]
   exact(Xbl ne).mpr ⟨hr,λT hT=>Xha.mpr (h T hT)⟩
  rw[Xb2,g.lk.mpr this]
  exact⟨hr,rfl⟩
 have c3:∀x∈row,∀T∈Us,x∈S->x∈T->x∈Xbc row kept S:=λx hr T hT h1 h2=>by
  cases hl:kept.lookup x with
  | none=>exact(Xhc hr hl).mpr h1
  | some b=>
   have hk:=g.lk.mp hl
   rw[e] at hk
   have:=((Xbl ne).mp hk).2 T hT
   rw[Xb2,hl]
   exact⟨hr,by rw[<-Xha.mpr h2,this];rfl⟩
 refine Xca.mpr ⟨(Xdt row).filter _,λx hx=>(Xb2.mp hx).1,λx hx y hy w=>?_,λx hx y hy w=>?_⟩
 ·rcases c1 x hx with h | ⟨h1,T,hT,h2⟩
  ·exact c2 y hy λT hT=>(Xca.mp (hp T hT)).2.2.1 x (h T hT) y hy w
  ·exact c3 y hy T hT (s3 x h1 y hy w) ((Xca.mp (hp T hT)).2.2.1 x h2 y hy w)
 ·rcases c1 x hx with h | ⟨h1,T,hT,h2⟩
  ·rcases c1 y hy with h' | ⟨h1',T',hT',h2'⟩
   ·exact(Xca.mp (hp T0 hT0)).2.2.2 x (h T0 hT0) y (h' T0 hT0) w
   ·exact(Xca.mp (hp T' hT')).2.2.2 x (h T' hT') y h2' w
  ·rcases c1 y hy with h' | ⟨h1',T',hT',h2'⟩
   ·exact(Xca.mp (hp T hT)).2.2.2 x h2 y (h' T hT) w
   ·exact s4 x h1 y h1' w
theorem Xvv(g:Good row kept)(hS:isPlotB row S=true){x:Str}(h:ne2 S (Xbc row kept S) x=true):∃q∈kept,q.1=x/\bk S x≠q.2:=by
 have hr:x∈row:=by
  rcases Xiu.mp h with z | z
  ·exact(Xck hS).1 x z.1
  ·exact(Xb2.mp z.1).1
 cases hl:kept.lookup x with
 | none=>
  have:=Xhc (S:=S) hr hl
  rcases Xiu.mp h with z | z
  ·exact absurd (this.mpr z.1) z.2
  ·exact absurd (this.mp z.1) z.2
 | some b=>
  have hk:=g.lk.mp hl
  refine⟨(x,b),hk,rfl,λe=>?_⟩
  have:=Xks (S:=S) g hk
  have e2:bk S x=bk (Xbc row kept S) x:=e.trans this.symm
  have:=Xzd.mp e2
  rcases Xiu.mp h with z | z
  ·exact z.2 (this.mp z.1)
  ·exact z.2 (this.mpr z.1)
end
theorem Xs3:∀st<26,∀late:Bool,∀x∈Xaw st late 14,x.length<=9:=by decide +kernel
theorem Isl.r9{row:List Str}(h:Isl row):∀y∈row,okR y:=λy hy=>by
 obtain⟨n,st,late,hn,hs,p⟩:=h.ex
 refine⟨Xs3 st hs late y (Xex hn ?_),λc hc=>X1i ((h.ok y hy).2 c hc) (by decide)⟩
 rcases Xzv.mp (p.mem_iff.mp hy) with z | z<;>exact z
theorem Xft{b:Str}(h:b = "off" \/ b = "home"):okR b/\okN b:=by
 rcases h with rfl | rfl
 ·exact⟨⟨by decide +kernel,by decide +kernel⟩,by decide +kernel⟩
 ·exact⟨⟨by decide +kernel,by decide +kernel⟩,by decide +kernel⟩
theorem Good.kp{row:List Str}{kept:List (Str×Str)}(g:Good row kept)(hI:Isl row):KpOk kept:=by
 refine⟨X0c g.len (X0c hI.dlen (by decide)),λq hq=>?_⟩
 obtain⟨h1,h2⟩:=g.row q hq
 exact⟨hI.r9 _ h1,(Xft h2).1,hI.ok _ h1,(Xft h2).2⟩
def spFew:Sp:=λvs H Q _=>∃(dr sc l:Addr) (ps:List Addr),vs=[.ref dr,.ref l]/\DrawOk H dr sc/\H l=some (.lst (ps.map V.ref))/\l≠dr/\0<ps.length/\ps.length<=1000 /\
 ∀(c:Addr) (qs:List Addr) (H':Hp),H c=none->H' c=some (.lst (qs.map V.ref))->(∀q∈qs,q∈ps)->0<qs.length->qs.length<=4->DrawOk H' dr sc->But dr H H'->Q (.ref c) H'
def spKeepsL:Sp:=λvs H Q _=>∃(p k:Addr) (S:List Str) (qs:List Addr) (kept:List (Str×Str)),vs=[.ref k,.ref p]/\H p=some (.tup (S.map V.str))/\H k=some (.lst (qs.map V.ref))/\Tups H qs (kept.map pr2)/\qs.length<=1000/\∀H',Same H H'->Q (.bl (keeps kept S)) H'
abbrev NFw:List Str:=["_law_k", "_law_draw", "_law_some"]
abbrev NIsF:List Str:=["_law_draw", "_law_most", "_law_few_here", "_law_many"]
def Xdj (ns:List Str) (Ts:List (List Str)):List (Str×Str):=(ns.filter λx=>decide ((Xby Ts x).length=1)).map λx=>(x,(Xby Ts x).headD Str.empty)
theorem Xkt(row:List Str)(Ts:List (List Str)):Xdj (dit row) Ts=Xbi row Ts:=rfl
theorem Xe7(ns:List Str)(x:Str)(Ts:List (List Str)):Xdj (ns++[x]) Ts=Xdj ns Ts++if (Xby Ts x).length=1 then [(x,(Xby Ts x).headD Str.empty)] else []:=by
 unfold Xdj
 rw[Xz7,Xzq]
 by_cases h:(Xby Ts x).length=1
 ·rw[X3i h,List.filter_cons_of_pos (by simpa using h)]
  rfl
 ·rw[X3h h,List.filter_cons_of_neg (by simpa using h)]
  rfl
theorem Xs4(a b:Str):eqV (.str a) (.str b)=decide (a=b):=by
 have:=Xb1 (x:=a) (y:=b)
 unfold eqV
 first | rfl | (simp[eqV]) | exact beq_eq_decide a b
theorem Xq3(y:Str):∀l:List Str,(l.map V.str).countP (λz=>eqV z (.str y))=l.countP λz=>decide (z=y)
 | []=>rfl
 | z::l=>by
  rw[Xz9,X0y,X0y,Xq3 y l,Xs4]
theorem Xs5{Ts:List (List Str)}(ne:Ts≠[])(x:Str):(Ts.map λS=>bk S x).countP (λz=>decide (z=bk (Ts.headD []) x))=Ts.length↔(Xby Ts x).length=1:=by
 have h1:(Ts.map λS=>bk S x).countP (λz=>decide (z=bk (Ts.headD []) x))=Ts.length ↔ ∀S∈Ts,bk S x=bk (Ts.headD []) x:=by
  rw[show Ts.length=(Ts.map λS=>bk S x).length by rw[Xzk],List.countP_eq_length]
  constructor
  ·exact λh S hS=>X3l (h _ (Xz4.mpr ⟨S,hS,rfl⟩))
  ·intro h z hz
   obtain⟨S,hS,rfl⟩:=Xz4.mp hz
   exact X3j (h S hS)
 rw[h1,<-Xge ne]
 refine⟨λz=>z.1,λz=>⟨z,?_⟩⟩
 have:=(Xge ne x ((Xby Ts x).headD Str.empty)).mp ⟨z,rfl⟩
 cases Ts with
 | nil=>exact absurd rfl ne
 | cons S r=>exact(this S Xzp).symm
theorem Xq4{Ts:List (List Str)}(ne:Ts≠[]){x:Str}(h:(Xby Ts x).length=1):(Xby Ts x).headD Str.empty=bk (Ts.headD []) x:=by
 have:=(Xge ne x ((Xby Ts x).headD Str.empty)).mp ⟨h,rfl⟩
 cases Ts with
 | nil=>exact absurd rfl ne
 | cons S r=>exact(this S Xzp).symm
def Xiv:Sp:=λvs H Q _=>∃(r c:Addr) (row:List Str) (ps:List Addr) (Ts:List (List Str)),vs=[.ref r,.ref c]/\H r=some (.lst (row.map V.str))/\Row2 row/\H c=some (.lst (ps.map V.ref))/\Tups H ps Ts/\ps.length<=200/\Ts≠[] /\
 ∀(D:Addr) (qs:List Addr) (H':Hp),H D=none->H' D=some (.lst (qs.map V.ref))->Tups H' qs ((Xbi row Ts).map pr2)->Same H H'->Q (.ref D) H'
end SH
namespace SH
open PySem L2
theorem Xyc{ns:List Str}{i:Nat}{v:V}(h:(ns.map V.str)[i]? = some v):∃x,v = .str x/\ns[i]? = some x:=by
 rw[Xz1] at h
 cases e:ns[i]? with
 | none=>rw[e] at h;cases h
 | some x=>
  rw[e] at h
  exact⟨x,(Xzx h).symm,rfl⟩
end SH
namespace SH
open PySem PySem.Spec PyProof.Rows L2
def ltP (a b:List Str):Prop:=a.length<b.length\/(a.length=b.length/\ltL a b=true)
theorem Xvw(a:List Str):¬ltP a a:=λh=>by
 rcases h with h | ⟨_,h⟩
 ·omega
 ·rw[Xg7] at h;cases h
structure IsPL (row:List Str) (Ts:List (List Str)):Prop where
 pw:Ts.Pairwise ltP
 mem:∀T,T∈Ts↔isPlotB row T=true
theorem IsPL.nd{row:List Str}{A:List (List Str)}(h:IsPL row A):A.Nodup:=h.pw.imp λ{a b} (q:ltP a b)=>λ(e:a=b)=>Xvw b (e ▸ q)
theorem IsPL.len{row:List Str}{A:List (List Str)}(h:IsPL row A)(h2:∀y∈row,row.count y=2)(h3:Xbx row)(hl:(dit row).length<=14):A.length<=64:=by
 have nd:=h.nd
 have q:=Xip (L:=A.filter λS=>decide (S≠[])) h2 h3 hl (nd.filter _) λS hS=>by
  obtain⟨s1,s2⟩:=Xzu.mp hS
  exact⟨X3l s2,(h.mem S).mp s1⟩
 have e:(A.filter λS=>decide (S≠[])).length+1 ≥ A.length:=by
  have:=List.length_eq_countP_add_countP (p:=λS:List Str=>decide (S≠[])) (l:=A)
  rw[X11,X11] at this
  have c:(A.filter λS=>decide ¬decide (S≠[])=true).length<=1:=by
   have nd2:(A.filter λS=>decide ¬decide (S≠[])=true).Nodup:=nd.filter _
   refine X0c (Xp9 (b:=[[]]) nd2 λx hx=>?_) (Xzn 1)
   have:=(Xzu.mp hx).2
   simp at this
   simp[this]
  omega
 omega
def spPlotsO:Sp:=λvs H Q _=>∃(r:Addr) (row:List Str),vs=[.ref r]/\H r=some (.lst (row.map V.str))/\Row2 row/\Xbx row/\(dit row).length<=14 /\
 ∀(l:Addr) (ps:List Addr) (Ts:List (List Str)) (H':Hp),H l=none->H' l=some (.lst (ps.map V.ref))->Tups H' ps Ts->IsPL row Ts->Same H H'->Q (.ref l) H'
structure Lay (row:List Str) (n:Nat) (Us:List (List Str)):Prop where
 pw:Us.Pairwise λa b=>ltL a b=true
 mem:∀T,T∈Us↔isPlotB row T=true/\T.length=n
theorem Xs6{row:List Str}{n:Nat}{Us Ts:List (List Str)}(h2:∀y∈row,row.count y=2)(L:Lay row n Us)(c:Cov row Us Us.length Ts)(ok:∀T∈Ts,isPlotB row T=true/\T.length=n+1){Ts':List (List Str)}(p:Ts'.Perm Ts)(pw:Ts'.Pairwise λa b=>ltL a b=true):Lay row (n+1) Ts':=by
 refine⟨pw,λT=>⟨λh=>ok T (p.mem_iff.mp h),λ⟨h,hl⟩=>p.mem_iff.mpr ?_⟩⟩
 have ne:T≠[]:=λe=>by rw[e] at hl;cases hl
 obtain⟨x,hx,hs⟩:=Xqm h2 h ne
 obtain⟨p1,p2,_⟩:=Xca.mp h
 have hlen:=Xsx p1 hx
 have hm:(T.filter λy=>decide (y≠x))∈Us:=(L.mem _).mpr ⟨hs,by omega⟩
 obtain⟨i,hi,e⟩:=X0r.mp hm
 have e':Us.getD i []=T.filter λy=>decide (y≠x):=by rw[<-e];simp[List.getD,hi]
 have:=c i hi x (p2 x hx)
 rw[e',Xki p1 hx] at this
 exact this (λz=>by have:=(Xzu.mp z).2;simp at this) h
structure Upto (row:List Str) (n:Nat) (Ts:List (List Str)):Prop where
 pw:Ts.Pairwise ltP
 mem:∀T,T∈Ts↔isPlotB row T=true/\T.length<=n
theorem Upto.next{row:List Str}{n:Nat}{Ts Us:List (List Str)}(U:Upto row n Ts)(L:Lay row (n+1) Us):Upto row (n+1) (Ts++Us):=by
 refine⟨List.pairwise_append.mpr ⟨U.pw,?_,λa ha b hb=>?_⟩,λT=>?_⟩
 ·refine L.pw.imp_of_mem λ{a b} ha hb h=>.inr ⟨?_,h⟩
  rw[((L.mem a).mp ha).2,((L.mem b).mp hb).2]
 ·have h1:=((U.mem a).mp ha).2
  have h2:=((L.mem b).mp hb).2
  exact .inl (by omega)
 ·rw[Xzv,U.mem,L.mem]
  constructor
  ·rintro (⟨h,l⟩ | ⟨h,l⟩)
   ·exact⟨h,by omega⟩
   ·exact⟨h,by omega⟩
  ·rintro ⟨h,l⟩
   by_cases q:T.length<=n
   ·exact .inl ⟨h,q⟩
   ·exact .inr ⟨h,by omega⟩
theorem Upto.all{row:List Str}{Ts:List (List Str)}(U:Upto row (dit row).length Ts):IsPL row Ts:=⟨U.pw,λT=>(U.mem T).trans ⟨λh=>h.1,λh=>⟨h,Xir h⟩⟩⟩
theorem Xyd(row:List Str):Upto row 0 [[]]:=⟨by simp,λT=>by
 rw[Xzr]
 exact⟨λe=>by rw[e];exact⟨Xgd row,Xzn _⟩,λ⟨_,h⟩=>X0g.mp (by omega)⟩⟩
theorem Xzg(row:List Str):Lay row 0 [[]]:=⟨by simp,λT=>by
 rw[Xzr]
 exact⟨λe=>by rw[e];exact⟨Xgd row,rfl⟩,λ⟨_,h⟩=>X0g.mp h⟩⟩
def spHeldL:Sp:=λvs H Q _=>∃(l kp:Addr) (ps:List Addr) (Ts:List (List Str)) (qs:List Addr) (kept:List (Str×Str)),vs=[.ref l,.ref kp]/\H l=some (.lst (ps.map V.ref))/\Tups H ps Ts/\ps.length<=1000/\H kp=some (.lst (qs.map V.ref))/\Tups H qs (kept.map pr2)/\qs.length<=1000 /\
 ∀(D:Addr) (us:List Addr) (H':Hp),H D=none->H' D=some (.lst (us.map V.ref))->Tups H' us (Ts.filter (keeps kept))->us.length<=ps.length->Same H H'->Q (.ref D) H'
def Xly:Sp:=λvs H Q _=>∃(r l kp:Addr) (row:List Str) (ps:List Addr) (Ts:List (List Str)) (qs:List Addr) (kept:List (Str×Str)),vs=[.ref r,.ref l,.ref kp]/\H r=some (.lst (row.map V.str))/\Row2 row/\H l=some (.lst (ps.map V.ref))/\Tups H ps Ts/\ps.length<=64/\(∀S,S∈Ts↔isPlotB row S=true) /\
 H kp=some (.lst (qs.map V.ref))/\Tups H qs (kept.map pr2)/\KpOk kept/\∀(b:Bool) (H':Hp),(b=true↔Good row kept)->Same H H'->Q (.bl b) H'
def spOddK:Sp:=λvs H Q _=>∃(dr sc r kp:Addr) (row:List Str) (qs:List Addr) (kept:List (Str×Str)),vs=[.ref dr,.ref r,.ref kp]/\DrawOk H dr sc/\H r=some (.lst (row.map V.str))/\r≠dr/\Isl row/\H kp=some (.lst (qs.map V.ref))/\kp≠dr/\Tups H qs (kept.map pr2)/\Good row kept /\
 ∀(k':Addr) (qs':List Addr) (kept':List (Str×Str)) (H':Hp),k'≠dr->H' k'=some (.lst (qs'.map V.ref))->Tups H' qs' (kept'.map pr2)->KpOk kept'->DrawOk H' dr sc->But dr H H'->Q (.ref k') H'
end SH
namespace L2
open PySem
theorem Xye{t u:TT}{a b:TS}{D:Ends}{σ:St}{H:Hp}(p1 p2:Bool)(h1:∀Q':Bool->Hp->Prop,(∀H',Same H H'->Q' p1 H')->t σ H Q')(h2:∀(H1:Hp) (Q':Bool->Hp->Prop),Same H H1->(∀H',Same H1 H'->Q' p2 H')->u σ H1 Q')
  (ha:(p1||p2)=true->∀H',Same H H'->a D σ H') (hb:(p1||p2)=false->∀H',Same H H'->b D σ H'):tIfS (tOr t u) a b D σ H:=by
 refine h1 _ λH' s'=>?_
 cases p1 with
 | true=>
  rw[X3i rfl]
  show if true=true then _ else _
  rw[X3i rfl]
  exact ha rfl H' s'
 | false=>
  rw[X3h (by decide)]
  refine h2 H' _ s' λH2 s2=>?_
  show if p2=true then _ else _
  cases p2 with
  | true=>rw[X3i rfl];exact ha rfl H2 (s'.trans s2)
  | false=>rw[X3h (by decide)];exact hb rfl H2 (s'.trans s2)
end L2
namespace SH
open PySem PySem.Spec PyProof.Rows L2
theorem stranger9:∀st<26,∀late:Bool,∀y∈Xaw st late 14,(Txt.slice y none (some 7)++Str.ofString "q").length<=9:=by decide +kernel
theorem Isl.stranger9{row:List Str}(h:Isl row):okR (Xb5 row):=by
 refine⟨?_,λc hc=>X1i (h.stranger.1.2 c hc) (by decide)⟩
 cases row with
 | nil=>decide +kernel
 | cons y r=>
  obtain⟨n,st,late,hn,hs,p⟩:=h.ex
  exact SH.stranger9 st hs late y (Xex hn (by rcases Xzv.mp (p.mem_iff.mp Xzp) with q | q<;>exact q))
theorem Xm7:okR "bank" /\ okN "bank" := ⟨⟨by decide +kernel,by decide +kernel⟩,by decide +kernel⟩
theorem KpOk.mid{kept:List (Str×Str)}{q:Str×Str}(h:KpOk kept)(hl:kept.length<=14)(i j:Nat)(ij:i<=j)(hq:okR q.1/\okR q.2/\okN q.1/\okN q.2):KpOk (kept.take i++q::kept.drop j):=by
 refine⟨?_,λz hz=>?_⟩
 ·rw[Xzt,X0a,Xz6,X05]
  omega
 ·rcases Xzv.mp hz with e | e
  ·exact h.ok z (X1a e)
  ·rcases Xzw.mp e with e | e
   ·rw[e];exact hq
   ·exact h.ok z (X1h e)
theorem KpOk.cut{kept:List (Str×Str)}(h:KpOk kept)(hl:kept.length<=14)(i j:Nat)(ij:i<=j):KpOk (kept.take i++kept.drop j):=by
 refine⟨?_,λz hz=>?_⟩
 ·rw[Xzt,Xz6,X05]
  omega
 ·rcases Xzv.mp hz with e | e
  ·exact h.ok z (X1a e)
  ·exact h.ok z (X1h e)
theorem KpOk.rev{kept:List (Str×Str)}(h:KpOk kept):KpOk kept.reverse:=⟨by rw[X08];exact h.len,λz hz=>h.ok z (List.mem_reverse.mp hz)⟩
theorem Xm8{H:Hp}{ps:List Addr}{Ts:List (List Str)}(h:Tups H ps Ts)(n:Nat):Tups H (ps.take n) (Ts.take n):=by
 refine⟨by rw[Xz6,Xz6,h.1],λi hi=>?_⟩
 rw[Xz6] at hi
 have:=h.2 i (by omega)
 rw[List.getD,List.getD,X2f (by omega),X2f (by omega)]
 exact this
theorem Xm9{H:Hp}{ps:List Addr}{Ts:List (List Str)}(h:Tups H ps Ts)(n:Nat):Tups H (ps.drop n) (Ts.drop n):=by
 refine⟨by rw[X05,X05,h.1],λi hi=>?_⟩
 rw[X05] at hi
 have:=h.2 (n+i) (by omega)
 rw[List.getD,List.getD,X23,X23]
 exact this
theorem Xq5{H:Hp}{ps:List Addr}{Ts:List (List Str)}(h:Tups H ps Ts):Tups H ps.reverse Ts.reverse:=by
 refine⟨by rw[X08,X08,h.1],λi hi=>?_⟩
 rw[X08] at hi
 have hl:=h.1
 have:=h.2 (ps.length - 1 - i) (by omega)
 rw[List.getD,List.getD,List.getElem?_reverse hi,List.getElem?_reverse (by omega),<-hl]
 exact this
theorem Tups.mid{H:Hp}{qs:List Addr}{kept:List (Str×Str)}{p:Addr}{q:Str×Str}(h:Tups H qs (kept.map pr2))(hp:H p=some (.tup [.str q.1,.str q.2]))(i j:Nat):Tups H (qs.take i++p::qs.drop j) ((kept.take i++q::kept.drop j).map pr2):=by
 rw[Xzq,Xz9,X29,X3a]
 exact Tups.app (Xm8 h i) (Tups.cons hp (Xm9 h j))
abbrev NOk:List Str:=["_law_draw", "_law_row_here", "_law_kept_here", "_law_way", "_law_at", "_law_name", "_law_side"]
theorem Xlz(row:List Str)(kept:List (Str×Str))(S:List Str):(Xbc row kept S).Pairwise ltS:=(Xdt row).filter _
theorem Xq6{row:List Str}{kept:List (Str×Str)}{S:List Str}(g:Good row kept):Xbc row kept (Xbc row kept S)=Xbc row kept S:=by
 refine Xlx (Xlz ..) (Xlz ..) λx=>?_
 cases hl:kept.lookup x with
 | none=>
  rw[Xb2,hl]
  exact⟨λz=>Xha.mp z.2,λz=>⟨(Xb2.mp z).1,Xha.mpr z⟩⟩
 | some b=>rw[Xb2,Xb2,hl];exact Iff.rfl
theorem Xq7{row:List Str}{kept:List (Str×Str)}{S:List Str}(g:Good row kept)(hS:isPlotB row S=true):decide (Xbc row kept S=S)=keeps kept S:=by
 rw[X01,decide_eq_true_eq]
 constructor
 ·intro e
  have:=Xob (S:=S) g
  rwa [e] at this
 ·intro h
  refine Xlx (Xlz ..) (Xck hS).2 λx=>?_
  refine Classical.byContradiction λn=>?_
  have ne:ne2 S (Xbc row kept S) x=true:=by
   rw[Xiu]
   by_cases z1:x∈S<;>by_cases z2:x∈Xbc row kept S<;>simp_all
  obtain⟨q,hq,rfl,nq⟩:=Xvv g hS ne
  exact nq (Xe5.mp h q hq)
def Xiw (T:Addr) (pos:Pos):Sp:=λvs H Q _=>∃(r k p:Addr) (row:List Str) (kept:List (Str×Str)) (S:List Str),vs=[.ref r,.ref k,.ref p]/\HeldAt H T pos r k row kept/\H p=some (.tup (S.map V.str))/\(∀y∈S,okN y)/\S.length<=24 /\
 ((¬Good row kept/\∀H',Q (.str "ground") H')\/(Good row kept/\isPlotB row S=false/\∀H',Q (.str "plot") H'))
abbrev NSd:List Str:=["_law_row_here", "_law_kept_here", "_law_plot", "_law_said_here", "e", "_law_kinds"]
end SH
namespace K33
open PySem PySem.Spec PyProof.Rows L2 SH
def top (i:Nat):Stmt:=PySem.Challenge.pw_shoretold_k33_gates_of_a_ground.main.body.getD i (.Pass ⟨0,0,0,0⟩)
abbrev sAsk:Stmt:=top 6
abbrev sDitches:Stmt:=top 7
abbrev sEnds:Stmt:=top 8
abbrev sSpans:Stmt:=top 9
abbrev sLieOf:Stmt:=top 10
abbrev sCross:Stmt:=top 11
abbrev sTold:Stmt:=top 13
abbrev s_in_order:Stmt:=top 14
abbrev sAllows:Stmt:=top 15
abbrev sIsPlot:Stmt:=top 16
abbrev s_ask_plot:Stmt:=top 17
abbrev s_plots:Stmt:=top 18
abbrev s_bank_of:Stmt:=top 19
abbrev s_lies_on:Stmt:=top 21
abbrev s_shared:Stmt:=top 22
abbrev s_held:Stmt:=top 23
abbrev s_gate:Stmt:=top 24
abbrev sBegin:Stmt:=top 26
abbrev sPick:Stmt:=top 27
abbrev sPut:Stmt:=top 28
abbrev sWhere:Stmt:=top 29
abbrev sWord:Stmt:=top 30
abbrev sBarred:Stmt:=top 31
abbrev sRow:Stmt:=top 32
abbrev sNames:Stmt:=top 33
abbrev sIsland:Stmt:=top 34
abbrev s__law_bars:Stmt:=top 35
abbrev s__law_fits:Stmt:=top 36
abbrev s__law_plots:Stmt:=top 37
abbrev s__law_kept:Stmt:=top 38
abbrev s__law_one:Stmt:=top 39
abbrev s__law_few:Stmt:=top 40
abbrev s__law_stranger:Stmt:=top 41
abbrev s__law_odd_kept:Stmt:=top 42
abbrev s__law_flip:Stmt:=top 43
abbrev s__law_odd_plot:Stmt:=top 44
abbrev s__law_keeps:Stmt:=top 45
abbrev s__law_held:Stmt:=top 46
abbrev s__law_good_kept:Stmt:=top 47
abbrev s__law_good_plot:Stmt:=top 48
abbrev s__law_tuple:Stmt:=top 49
abbrev s__law_said:Stmt:=top 50
abbrev s_law:Stmt:=top 51
abbrev NWo:List Str:=["_law_where_here", "_law_one_here", "_law_other", "_law_low", "_law_high", "_law_inner"]
abbrev NBc:List Str:=["_law_one_here", "_law_name", "_law_where_here"]
abbrev NFl1:List Str:=["_law_one_here", "_law_name"]
abbrev NFi:List Str:=["_law_bars_here", "_law_plot", "_law_one_here", "_law_other", "_law_word_here"]
abbrev NBr:List Str:=["_law_row_here", "_law_where_here", "_law_told", "_law_one_here", "_law_other", "_law_word_here"]
section
variable {P:Program}{w:World}{K:PySem.W.Frag}{mg:Str->Option Value}{base:Heap}
theorem Xzh:FnScope ["row", "name"] ["row", "name"] (defScope sAsk):=⟨rfl,rfl,rfl,by decide +kernel,rfl,by decide +kernel,by decide +kernel⟩
theorem Xyf{f C:Addr}{fd:FuncData}(F:Fun K "ask_ditch" "ask_ditch" sAsk f fd)(hC:mg "NoDitch" = some (.ref C))(hc:PySem.W.excIn K C bmV "ValueError.__new__" = true):
  FnOk P w K mg base (CX1 P w) 1 f fd ["row", "name"] (Xvd C):=by
 refine F.ok1 Xzh (λvs H Q E h=>?_) (λcdv A outer s H vs Q E hr h=>?_)
 ·obtain⟨r,row,x,rfl,_⟩:=h
  rfl
 ·obtain⟨r,row,x,rfl,hR,⟨hx1,hx2⟩,kq,ke⟩:=h
  refine⟨_,Xag (Xbn (Xaj Xdq (pv 1) (pv 0) (by rfl))
   (Xag (Xh8 (C:=C) (E:=E) hc rfl leaves1 (by rfl) hC (Xaa (Xk3 (Xji (by decide +kernel) (Xu1 (pv 1) (Xji (by decide +kernel) Xo9)))) Xac))) Xar),?_⟩
  refine⟨_,rfl,_,rfl,r,_,rfl,.inl (SqL.of hR),rfl,Xbr row,_,rfl,?_⟩
  rw[Xcg]
  by_cases hx:x∈row
  ·refine Xy6 hx ?_
   exact kq hx H (Same.refl H)
  ·rw[X3k hx]
   refine iteT ?_
   refine⟨_,rfl,x,rfl,by omega,(λc h=>X1i (hx2 c h) (by decide)),λz=>?_⟩
   exact⟨by show 1<=sizeLine;decide,ke hx H (Same.refl H)⟩
theorem Xq8:FnScope ["row"] ["row"] (defScope sDitches):=⟨rfl,rfl,rfl,by decide +kernel,rfl,by decide +kernel,by decide +kernel⟩
theorem Xoc{f:Addr}{fd:FuncData}(F:Fun K "ditches" "ditches" sDitches f fd)(T:Bl mg):FnOk P w K mg base CX0 1 f fd ["row"] spDitches:=by
 refine F.ok Xq8 (λvs H Q E h=>?_) (λcdv A outer s H vs Q E hr h=>?_)
 ·obtain⟨r,row,rfl,_⟩:=h
  rfl
 ·obtain⟨r,row,rfl,hR,hl,k⟩:=h
  refine⟨_,Xag (Xak (Xan (Xc0 rfl) (by rfl) T.sorted (by rfl) (Xaa (Xau (Xic rfl) (by rfl) T.set (by rfl) (Xaa (pv 0) Xac)) Xac))),?_⟩
  refine⟨_,rfl,r,row,rfl,.inl (SqL.of hR),by unfold scanBound;omega,λa na=>?_⟩
  have hdl:=Xd3 row
  refine⟨a,ddup row,rfl,Xab,by omega,λl ls nl hp hs=>?_⟩
  have s1:Same H (upd H a (SetO P w a (ddup row))):=(Same.refl H).step na
  refine k l _ (s1.free nl) ?_ (s1.step nl)
  rw[Xab,Xho hp hs]
  rfl
theorem Xt6:FnScope NEn ["row", "name"] (defScope sEnds):=⟨rfl,rfl,rfl,by decide +kernel,rfl,by decide +kernel,by decide +kernel⟩
theorem Xvx{f C:Addr}{fd:FuncData}(F:Fun K "ends" "ends" sEnds f fd)(T:Bl mg)(FA:Fn P w K mg base (CX1 P w) 1 "ask_ditch" ["row", "name"] (Xvd C)):
  FnOk P w K mg base (CX1 P w) 2 f fd ["row", "name"] (Xpz C):=by
 refine F.ok1 Xt6 (λvs H Q E h=>?_) (λcdv A outer s H vs Q E hr h=>?_)
 ·obtain⟨r,row,x,rfl,_⟩:=h
  rfl
 ·obtain⟨r,row,x,rfl,hR,hx,hl,kq,ke⟩:=h
  refine⟨_,Xad (Xea (Xao FA hr rfl pass1 (Xaa (pv 0) (Xaa (pv 1) Xac))))
   (Xad (Xfk (i:=2) (N:=NEc) (cap:=[none,none,some 1]) (CompScope.of (defScope sEnds) NEn rfl rfl rfl (by decide +kernel)) rfl Xt6.nd rfl rfl
    (Xu0 (by rfl) T.enum (Xaa (pv 0) Xac))
    (λ_ _ _=>Xid K 2 rfl rfl (Xbe (Xal (i:=0) (show NEc.Nodup by decide +kernel) rfl (Or.inl rfl) (Or.inr rfl)) (Xbe (Xal (i:=1) (show NEc.Nodup by decide +kernel) rfl (Or.inl rfl) (Or.inr rfl)) Xeb)))
    (λ_ _ _=>Xbz (Xaj Xb3 (pv 1) (pv 2) (nomark _))) (λ_ _ _=>pv 0))
   (Xag (Xak (Xbq (Xaa (Xa5 Xay (pv 2) Xah (λ_ _=>rfl)) (Xaa (Xa5 Xay (pv 2) Xah (λ_ _=>rfl)) Xac)))))),?_⟩
  refine⟨_,rfl,_,rfl,r,row,x,rfl,hR,hx,λhin H1 s1=>?_,ke⟩
  obtain⟨a,b,hab,kq⟩:=kq hin
  refine⟨_,rfl,r,rfl,⟨_,SqL.of (s1 _ _ hR)⟩,?_⟩
  refine Xsd (K:=K) (p:=0) (q:=1) (by decide) (SqL.of (s1 _ _ hR)) (by rw[Xzk,X3g];omega) (λi=>decide (row.getD i Str.empty=x)) (λi=>.int i) ?_ ?_ ?_
  ·intro i v H2 Q' hv s2 k
   obtain⟨y,rfl,hy⟩:∃y,v=V.str y/\row.getD i Str.empty=y:=by
    rw[Xz1] at hv
    cases q:row[i]? with
    | none=>rw[q] at hv;cases hv
    | some y=>rw[q] at hv;exact⟨y,(Xzx hv).symm,by simp[List.getD,q]⟩
   refine⟨_,rfl,_,rfl,rfl,_,rfl,?_⟩
   have:=k H2 (Same.refl _)
   rw[hy] at this
   have e:decide (V.str y=V.str x)=decide (y=x):=by
    by_cases z:y=x
    ·rw[z];simp
    ·rw[X3k z,X3k (λq=>z (by injection q))]
   rw[e]
   exact this
  ·intro i v H2 Q' hv hk s2 k
   exact⟨_,rfl,k H2 (Same.refl _)⟩
  ·intro D H2 nD s2 hD
   have hD':H2 D=some (.lst [.int a,.int b]):=by
    rw[hD,Xzk]
    have:=congrArg (List.map V.int) ((Xgy row x).trans hab)
    rw[X0f] at this
    rw[show ((List.range row.length).filter λi=>decide (row.getD i Str.empty=x)).map (λi:Nat=>V.int (i:Int))=_ from this]
    rfl
   refine⟨_,rfl,_,_,_,_,rfl,rfl,SqL.of hD',rfl,_,rfl,_,_,_,_,rfl,rfl,SqL.of hD',rfl,by show 2<=sizeLine;decide,λp np=>?_⟩
   have s3:=s1.trans s2
   exact kq p _ (s3.free np) Xab (s3.step np)
theorem Xvy:FnScope ["row"] ["row"] (defScope sSpans):=⟨rfl,rfl,rfl,by decide +kernel,rfl,by decide +kernel,by decide +kernel⟩
theorem Xs7{f C:Addr}{fd:FuncData}(F:Fun K "spans" "spans" sSpans f fd)(FD:Fn P w K mg base CX0 1 "ditches" ["row"] spDitches)(FE:Fn P w K mg base (CX1 P w) 2 "ends" ["row", "name"] (Xpz C)):
  FnOk P w K mg base CX0 3 f fd ["row"] spSpans:=by
 refine F.ok Xvy (λvs H Q E h=>?_) (λcdv A outer s H vs Q E hr h=>?_)
 ·obtain⟨r,row,rfl,_⟩:=h
  rfl
 ·obtain⟨r,row,rfl,hR,R2,k⟩:=h
  have hr1:Room 1 _:=hr.mono (by decide)
  refine⟨_,Xag (Xak (Xig (N:=NSp) (cap:=[none,some 0]) (CompScope.of (defScope sSpans) ["row"] rfl rfl rfl (by decide +kernel)) rfl
   (Xa9 (Xao FD hr1 (by rfl) pass0 (Xaa (pv 0) Xac))) (λ_ _ _=>Xal (i:=0) (show NSp.Nodup by decide +kernel) rfl (Or.inl rfl) (Or.inr rfl)) (λ_ _ _=>Xbg)
   (λ_ _ _=>pv 0) (λ_ _ _=>Xao (by exact FE) (by exact hr) (by rfl) Xsc (Xaa (pv 1) (Xaa (pv 0) Xac))))),?_⟩
  have hl:=R2.len
  refine⟨_,rfl,r,row,rfl,hR,hl,λdi H1 ndi hdi s1=>?_⟩
  refine⟨di,rfl,⟨_,SqL.of hdi⟩,λD nD=>?_⟩
  have hn:∀i,i<(dit row).length->((dit row).map V.str).getD i .non = .str ((dit row).getD i Str.empty):=λi hi=>Xaz V.str Str.empty _ hi
  have hR1:=s1 _ _ hR
  have hdl:=Xcu row
  refine⟨wN (dit row).length λi σ2 H2=>(∃v, σ2=[v,some (.ref r)])/\Same H1 H2/\∃kvs,H2 D=some (.dK kvs)/\Spn H2 kvs row ((dit row).take i),⟨(dit row).length,by simp,X0k _,⟨none,rfl⟩,(Same.refl H1).step nD,[],Xab,⟨rfl,λx hx=>by simp at hx⟩⟩,?_⟩
  rintro i m σ1 H2 ⟨rfl,hi,⟨v,rfl⟩,s2,kvs,hD,sp⟩
  by_cases hlt:i<(dit row).length
  ·have hlt':i<((dit row).map V.str).length:=by rw[Xzk];exact hlt
   obtain⟨g1,g2⟩:=Xcd (K:=K) (SqL.of (s2 _ _ hdi)) hlt'
   refine .inr ⟨g1,λx H3 y=>?_⟩
   obtain⟨e1,e2⟩:=g2 x H3 y
   subst e1 e2
   rw[hn i hlt]
   generalize hx:(dit row).getD i Str.empty=x
   have hxd:x∈dit row:=by rw[<-hx];exact Xbb hlt
   have hxr:=Xai.mp hxd
   have htk:(dit row).take (i+1)=(dit row).take i++[x]:=by
    rw[Xzy hlt,<-hx]
    simp[List.getD,hlt]
   have hnx:x∉(dit row).take i:=by
    have nd:=Xgu row
    have h2:((dit row).take (i+1)).Nodup:=nd.sublist (X1j ..)
    rw[htk] at h2
    exact λz=>(X04.mp h2).2.2 x z x (by simp) rfl
   refine⟨_,rfl,_,rfl,_,rfl,r,row,x,rfl,s2 _ _ hR1,R2.ok x hxr,by omega,λ_=>⟨_,_,Xgz (R2.two x hxr),λl H4 nl hl4 s4=>?_⟩,λz=>absurd hxr z⟩
   have hD4:=s4 _ _ hD
   have kl:kvs.length<=60:=by
    have:=sp.len
    rw[Xz6] at this
    omega
   refine⟨kvs,Sum.inr x,rfl,hD4,by rw[X3g];omega,?_⟩
   refine wskip hlt ⟨⟨_,rfl⟩,λb u e=>?_,_,Xab,?_⟩
   ·rw[Xae (Xaf e nD)]
    exact s4 _ _ (s2 b u e)
   ·rw[htk]
    refine sp.snoc hnx ?_ λb xs e=>?_
    ·rw[Xae (λz=>by rw[z,hD4] at hl4;cases hl4)]
     exact hl4
    ·have e4:=s4 _ _ e
     rw[Xae (λz=>by rw[z,hD4] at e4;cases e4)]
     exact e4
  ·have ei:i=(dit row).length:=by omega
   subst ei
   refine .inl ⟨by have:=Xce (K:=K) (SqL.of (s2 _ _ hdi));rwa [Xzk] at this,?_⟩
   rw[X0j] at sp
   exact k D kvs H2 (s1.free nD) hD sp (s1.trans s2)
theorem Xl0:FnScope NLo ["here", "there"] (defScope sLieOf):=⟨rfl,rfl,rfl,by decide +kernel,rfl,by decide +kernel,by decide +kernel⟩
theorem Xs8{f:Addr}{fd:FuncData}(F:Fun K "lie_of" "lie_of" sLieOf f fd):FnOk P w K mg base CX0 2 f fd ["here", "there"] spLieOf:=by
 refine F.ok Xl0 (λvs H Q E h=>?_) (λcdv A outer s H vs Q E hr h=>?_)
 ·obtain⟨p,q,a,b,c,e,rfl,_⟩:=h
  rfl
 ·obtain⟨p,q,a,b,c,e,rfl,hp,hq,l4,k⟩:=h
  refine⟨_,Xad (Xbn (Xaj (Xhp (hu3 hr)) (pv 0) (pv 1) (nomark _)) (Xag (Xak Xaq)) Xar)
   (Xad (Xam (i:=2) Xl0.nd rfl (Or.inl rfl) (Xl6 Xfy Xfy (Xa5 (Xcf K (by rfl)) (pv 1) Xah (λ_ _=>rfl)) (Xa5 (Xcf K (by rfl)) (pv 0) Xah (λ_ _=>rfl)) (Xa5 (Xcf K (by rfl)) (pv 1) Xah (λ_ _=>rfl))))
   (Xad (Xam (i:=3) Xl0.nd rfl (Or.inl rfl) (Xl6 Xfy Xfy (Xa5 (Xcf K (by rfl)) (pv 1) Xah (λ_ _=>rfl)) (Xa5 (Xcf K (by rfl)) (pv 0) Xah (λ_ _=>rfl)) (Xa5 (Xcf K (by rfl)) (pv 1) Xah (λ_ _=>rfl))))
   (Xad (Xbn (Xaj Xot (pv 2) (pv 3) (nomark _)) (Xag (Xak Xaq)) Xar)
   (Xad (Xbn (Xdm (pv 2)) (Xag (Xak Xaq)) Xar)
   (Xag (Xak (Xei (Xrr Xfy Xfy (Xa5 (Xcf K (by rfl)) (pv 0) Xah (λ_ _=>rfl)) (Xa5 (Xcf K (by rfl)) (pv 1) Xah (λ_ _=>rfl)) (Xa5 (Xcf K (by rfl)) (pv 0) Xah (λ_ _=>rfl))) Xaq Xaq))))))),?_⟩
  have d2:∀{r:Addr} {x y:Int},H r=some (.tup [.int x,.int y])->DAt H (.tuple [.int x,.int y]) (.ref r):=λ{r x y} h=>Xlb h (Xpr [x,y])
  refine⟨_,rfl,_,rfl,.tuple [.int a,.int b],.tuple [.int c,.int e],d2 hp,d2 hq,rfl,rfl,(by show min (max 0 (max 0 0)+1) (max 0 (max 0 0)+1)<=3;decide),_,rfl,?_⟩
  have ee:PyData.eqv (.tuple [.int a,.int b]) (.tuple [.int c,.int e])=decide (a=c/\b=e):=by
   rw[X01,Xii _ _ rfl rfl]
   simp
  rw[ee]
  have kk:=k H (Same.refl H)
  refine ite2b (λh1=>?_) (λh1=>?_)
  ·unfold lieT at kk
   rw[X3i (X3l h1)] at kk
   exact kk
  ·have h1:=X3m h1
   dsimp only[Xub,tSeq,tAsg,Xbv]
   refine Xg0 (x:=c) (y:=a) (z:=e) (λQ' h=>⟨_,rfl,q,_,_,_,rfl,rfl,SqT.of hq,rfl,h⟩) (λQ' h=>⟨_,rfl,p,_,_,_,rfl,rfl,SqT.of hp,rfl,h⟩) (λQ' h=>⟨_,rfl,q,_,_,_,rfl,rfl,SqT.of hq,rfl,h⟩) ?_
   refine Xg0 (x:=c) (y:=b) (z:=e) (λQ' h=>⟨_,rfl,q,_,_,_,rfl,rfl,SqT.of hq,rfl,h⟩) (λQ' h=>⟨_,rfl,p,_,_,_,rfl,rfl,SqT.of hp,rfl,h⟩) (λQ' h=>⟨_,rfl,q,_,_,_,rfl,rfl,SqT.of hq,rfl,h⟩) ?_
   refine⟨_,rfl,_,rfl,rfl,_,rfl,?_⟩
   rw[Xoq]
   refine ite2b (λh2=>?_) (λh2=>?_)
   ·rw[Xxv h1 (by simpa using h2)] at kk
    exact kk
   ·refine⟨_,rfl,_,rfl,?_⟩
    refine ite2b (λh3=>?_) (λh3=>?_)
    ·rw[Xxw h1 (by simpa using h2) h3] at kk
     exact kk
    ·rw[Xve l4 h1 (by simpa using h2) h3] at kk
     dsimp only[Xub,tRet,tIf,Xud]
     refine Xg0 (x:=a) (y:=c) (z:=b) (λQ' h=>⟨_,rfl,p,_,_,_,rfl,rfl,SqT.of hp,rfl,h⟩) (λQ' h=>⟨_,rfl,q,_,_,_,rfl,rfl,SqT.of hq,rfl,h⟩) (λQ' h=>⟨_,rfl,p,_,_,_,rfl,rfl,SqT.of hp,rfl,h⟩) ⟨_,rfl,?_⟩
     refine ite2b (λh4=>?_) (λh4=>?_)
     ·rw[X3i h4] at kk
      exact kk
     ·rw[X3h (by rw[h4];exact Xz0)] at kk
      exact kk
theorem Xq9:FnScope NCr ["row"] (defScope sCross):=⟨rfl,rfl,rfl,by decide +kernel,rfl,by decide +kernel,by decide +kernel⟩
theorem Xku{f:Addr}{fd:FuncData}(F:Fun K "crossings" "crossings" sCross f fd)(FS:Fn P w K mg base CX0 3 "spans" ["row"] spSpans)(FO:Fn P w K mg base CX0 2 "lie_of" ["here", "there"] spLieOf):
  FnOk P w K mg base CX0 4 f fd ["row"] Xef:=by
 refine F.ok Xq9 (λvs H Q E h=>?_) (λcdv A outer s H vs Q E hr h=>?_)
 ·obtain⟨r,row,rfl,_⟩:=h
  rfl
 ·obtain⟨r,row,rfl,hR,R2,k⟩:=h
  have hu:=Xep hr
  have hr2:Room 2 _:=hr.mono (by decide)
  refine⟨_,Xad (Xam (i:=1) Xq9.nd rfl (Or.inr rfl) (Xao FS hr (by rfl) pass0 (Xaa (pv 0) Xac)))
   (Xag (Xak (Xmp (N:=NCc) (cap:=[none,none,some 1]) (CompScope.of (defScope sCross) NCr rfl rfl rfl (by decide +kernel)) rfl
    (Xdh (pv 1)) (λ_ _ _=>Xal (i:=0) (show NCc.Nodup by decide +kernel) rfl (Or.inl rfl) (Or.inr rfl)) (λ_ _ _=>Xbg)
    (λ_ _ _=>Xdh (pv 2)) (λ_ _ _=>Xal (i:=1) (show NCc.Nodup by decide +kernel) rfl (Or.inl rfl) (Or.inr rfl))
    (λ_ _ _=>Xbz (Xfu (Xaj Xi1 (pv 0) (pv 1) (nomark _)) (Xdn (Xaj Xb3 (Xao (by exact FO) (by exact hr2) (by rfl) pass0 (Xaa (Xbw hu (pv 2) (pv 0) (λ_ _=>rfl)) (Xaa (Xbw hu (pv 2) (pv 1) (λ_ _=>rfl)) Xac))) Xaq (nomark _)))).pt)
    (λ_ _ _=>Xbq (Xaa (pv 0) (Xaa (pv 1) Xac)))))),?_⟩
  have hl:=R2.len
  have hdl:=Xcu row
  refine⟨_,rfl,r,row,rfl,hR,R2,λd kvs H1 nd hd sp s1=>?_⟩
  refine⟨_,rfl,d,kvs,rfl,.inl ⟨hd,λo D nD=>?_⟩⟩
  generalize hH2:upd H1 d (.frz o (.dK kvs))=H2 at nD
  have s2:Same H H2:=λb u e=>by rw[<-hH2,Xae (Xaf e nd)];exact s1 b u e
  have hd2:H2 d=some (.frz o (.dK kvs)):=by rw[<-hH2];exact Xab
  have sp2:Spn H2 kvs row (dit row):=⟨sp.keys,λx hx=>let ⟨l,h1,h2⟩:=sp.val x hx; ⟨l,h1,by rw[<-hH2,Xae (λz=>by rw[z,hd] at h2;cases h2)];exact h2⟩⟩
  have kl:=sp2.len
  have go:∀i H3,i<(dit row).length->Same H2 H3->(Itd d o kvs).go i H3/\∀x H4,(Itd d o kvs).yld i H3 x H4->H4=H3/\x = .str ((dit row).getD i Str.empty):=λi H3 hi s3=>by
   have:=Xfe (kvs:=kvs) (s3 _ _ hd2) (by omega:i<kvs.length)
   rw[sp2.at i hi] at this
   exact this
  have stp:∀H3,Same H2 H3->(Itd d o kvs).stop (dit row).length H3:=λH3 s3=>by
   have:=Xff (kvs:=kvs) (s3 _ _ hd2)
   rwa [kl] at this
  let ns:=dit row
  let ok:Nat->Nat->Bool:=λi j=>decide (ltS (ns.getD i Str.empty) (ns.getD j Str.empty))&&decide (lieR row (ns.getD i Str.empty) (ns.getD j Str.empty) = "cross")
  let part:Nat->List PyData:=λi=>((List.range ns.length).filter (ok i)).map λj=>prD (ns.getD i Str.empty,ns.getD j Str.empty)
  have hpl:∀i,(part i).length<=60:=λi=>by
   show (List.map _ _).length<=60
   rw[Xzk]
   refine X0c (X0i ..) ?_
   rw[X0s]
   show (dit row).length<=60
   omega
  have hacc:∀i,((List.range i).flatMap part).length<=60 * i:=λi=>by
   induction i with
   | zero=>simp
   | succ i ih=>
    rw[X0q,X1w,Xzt]
    have:=hpl i
    simp only[X1v,X2d,X0m]
    omega
  refine Xxn (H0:=H2) (xs0:=[]) (n:=ns.length) (λi=>.str (ns.getD i Str.empty)) (λi=>(List.range i).flatMap part) nD ((Same.refl H2).step nD) Xab Xcj (fun σ1=>∃v0 v1, σ1=[v0,v1,some (.ref d)]) ⟨none,none,rfl⟩ go stp ?_ ?_
  ·rintro i σ1 xs H3 Q' hi ⟨v0,v1,rfl⟩ s3 hD hal kk
   have hxi:=Xbb hi
   refine⟨_,rfl,d,kvs,rfl,.inr ⟨o,s3 _ _ hd2,?_⟩⟩
   refine Xlc (H0:=H2) (n:=ns.length) (λj=>.str (ns.getD j Str.empty)) (ok i) (λj=>prD (ns.getD i Str.empty,ns.getD j Str.empty)) ((List.range i).flatMap part) nD s3 hD hal ?_ go stp ?_ ?_ ?_
   ·have:=hacc i
    have h2:i<60:=by have:i<(dit row).length:=hi;omega
    have h3:ns.length<=60:=by show (dit row).length<=60;omega
    rw[X3g]
    omega
   ·intro j H4 Q2 hj s4 k2
    have hxj:=Xbb hj
    refine⟨_,rfl,_,rfl,_,_,rfl,rfl,_,rfl,?_⟩
    refine ite2b (λq1=>?_) (λq1=>?_)
    ·obtain⟨l1,g1,t1⟩:=(sp2.mono s4).get (.inr ⟨o,s4 _ _ hd2⟩) hxi
     obtain⟨l2,g2,t2⟩:=(sp2.mono s4).get (.inr ⟨o,s4 _ _ hd2⟩) hxj
     refine⟨_,rfl,_,rfl,d,_,rfl,g1,_,rfl,_,rfl,d,_,rfl,g2,l1,l2,_,_,_,_,rfl,t1,t2,lie4 (R2.two _ (Xai.mp hxi)) (R2.two _ (Xai.mp hxj)),λH5 s5=>?_⟩
     refine⟨rfl,_,rfl,?_⟩
     rw[Xb1]
     have:=k2 H5 s5
     have e1:ok i j=decide (lieR row (ns.getD i Str.empty) (ns.getD j Str.empty) = "cross"):=by
      show (decide _&&decide _)=_
      have q1':decide (ltS (ns.getD i Str.empty) (ns.getD j Str.empty))=true:=q1
      rw[q1',X06]
     rw[e1] at this
     exact this
    ·have:=k2 H4 (Same.refl _)
     have e1:ok i j=false:=by
      show (decide _&&decide _)=_
      have q1':decide (ltS (ns.getD i Str.empty) (ns.getD j Str.empty))=false:=q1
      rw[q1',X0w]
     rw[e1] at this
     exact this
   ·intro j xs' H4 Q2 hj hk s4 hD4 k2
    refine⟨_,rfl,_,rfl,by show 2<=sizeLine;decide,λp np=>?_⟩
    exact k2 _ _ ((Same.refl H4).step np) (Xpv hD4 np (Xdx [ns.getD i Str.empty,ns.getD j Str.empty]))
   ·intro σ' H4 xs' e s4 hD4 hal4
    refine kk σ' H4 xs' ?_ s4 hD4 ?_
    ·have l1 : σ'.length=3:=by
      have:=congrArg List.length (e none)
      simpa using this
     match σ',l1,e with
     | [w0,w1,w2],_,e=>
      have:=e none
      simp at this
      exact⟨w0,w1,by rw[this.2]⟩
    ·rw[X0q,X1w,X1v,X2d,X0m]
     exact hal4
  ·intro σ' H3 xs s3 hD hal
   refine k D xs H3 (s2.free nD) hD ?_ (s2.trans s3)
   have e:(List.range ns.length).flatMap part=(crs row).map prD:=by
    have e1:crs row=(List.range ns.length).flatMap λi=>((List.range ns.length).filter (ok i)).map λj=>(ns.getD i Str.empty,ns.getD j Str.empty):=by
     have em:dit row=(List.range ns.length).map λi=>ns.getD i Str.empty:=by
      have:=Xa0 Str.empty (λ_=>true) (dit row)
      rw[X0d.mpr (λ_ _=>rfl),X0d.mpr (λ_ _=>rfl)] at this
      exact this.symm
     show (dit row).flatMap _=_
     conv=>lhs;rw[em]
     rw[List.flatMap_map]
     congr 1
     funext i
     have:=Xa0 Str.empty (λy=>decide (ltS (ns.getD i Str.empty) y)&&decide (lieR row (ns.getD i Str.empty) y = "cross")) (dit row)
     rw[<-em,<-this,X0f]
     rfl
    rw[e1,List.map_flatMap]
    congr 1
    funext i
    rw[X0f]
    rfl
   rw[<-e]
   exact hal
theorem Xyg:FnScope ["names"] ["names"] (defScope sTold):=⟨rfl,rfl,rfl,by decide +kernel,rfl,by decide +kernel,by decide +kernel⟩
theorem Xvz{f:Addr}{fd:FuncData}(F:Fun K "told" "told" sTold f fd)(T:Bl mg):FnOk P w K mg base CX0 1 f fd ["names"] (spTold K):=by
 refine F.ok Xyg (λvs H Q E h=>?_) (λcdv A outer s H vs Q E hr h=>?_)
 ·obtain⟨p,ss,rfl,_⟩:=h
  rfl
 ·obtain⟨p,ss,rfl,hR,hl,k⟩:=h
  refine⟨_,Xag (Xak (Xau Xb6 (by rfl) T.tuple (by rfl) (Xaa (Xan (Xc0 rfl) (by rfl) T.sorted (by rfl) (Xaa (Xau (Xic rfl) (by rfl) T.set (by rfl) (Xaa (pv 0) Xac)) Xac)) Xac))),?_⟩
  refine⟨_,rfl,p,ss,rfl,hR,by unfold scanBound;omega,λa na=>?_⟩
  have hdl:=Xd3 ss
  refine⟨a,ddup ss,rfl,Xab,by omega,λl ls nl hp hs=>?_⟩
  have s1:Same H (upd H a (SetO P w a (ddup ss))):=(Same.refl H).step na
  refine⟨l,_,rfl,.inl ⟨SqL.of Xab,λt nt=>?_⟩⟩
  have s2:=s1.step (o:=.lst (ls.map V.str)) nl
  refine k t _ (s2.free nt) ?_ (s2.step nt)
  rw[Xab,Xho hp hs]
  rfl
theorem Xra:FnScope ["some"] ["some"] (defScope s_in_order):=⟨rfl,rfl,rfl,by decide +kernel,rfl,by decide +kernel,by decide +kernel⟩
theorem Xod{f T:Addr}{fd:FuncData}(F:FunT K "in_order" s_in_order f fd T)(B:Bl mg)(hbm:BmOk mg base):FnOk P w K mg base CX0 4 f fd ["some"] (spInOrder T (lamPos s_in_order)):=by
 refine F.ok Xra (λvs H Q E h=>?_) (λc0 hhd A outer s H vs Q E hr h=>?_)
 ·obtain⟨l,ps,Ts,rfl,_⟩:=h
  rfl
 ·obtain⟨l,ps,Ts,rfl,hl,hT,nd,h64,tab,k⟩:=h
  refine⟨_,Xag (Xak (Xsw (show (A.deeper (envOfC "in_order" (defScope s_in_order) s.heap.objs.size f (.ref c0))).units+1+1<cLine by have:=hr.un;omega) (by rfl) B.sorted (by rfl) (Xaa (pv 0) Xac) (Xuh (Xxr (T:=T) (c0:=c0) (q:=qIn) hbm rfl rfl rfl hhd rfl) Xwu))),?_⟩
  refine⟨_,rfl,⟨tab,λf' c pm ctv H' nf hf hc tab' kp=>?_⟩⟩
  have nlT:∀b o,H b=some o->(∀z,o ≠ .tbl z)->b≠T:=λb o e n z=>by
   rcases tab with q | ⟨_,q,_⟩<;>(rw[z,q] at e;cases e;exact n _ rfl)
  have hT':Tups H' ps Ts:=⟨hT.1,λi hi=>kp _ _ (hT.2 i hi) (nlT _ _ (hT.2 i hi) λz=>by simp)⟩
  refine⟨l,f',ps,Ts,rfl,rfl,kp _ _ hl (nlT _ _ hl λz=>by simp),hT',nd,h64,?_,λD p H2 nD g so sm hD=>?_⟩
  ·refine Xqk (k:=0) (x := "plot") hf hc ⟨rfl,rfl,rfl,by decide +kernel,rfl,by decide +kernel,by decide +kernel⟩ hr (λu=>rfl) λA1 outer1 s1 H1 i hi sm hr1=>?_
   refine⟨_,Xbq (Xaa (Xan Xap (by rfl) B.len boot_len (Xaa (pv 0) Xac)) (Xaa (pv 0) Xac)),λQ1 kk=>?_⟩
   have hp:=sm _ _ (hT'.2 i hi)
   refine⟨_,rfl,ps.getD i 0,_,rfl,.inr (SqT.of hp),_,rfl,by show 2<=sizeLine;decide,λt nt=>?_⟩
   refine kk t _ ?_ (Same.upd0 nt)
   rw[Xab,Xzk]
  ·obtain⟨pm',so'⟩:=Xn7 (Ts:=Ts) (by rw[<-hT.1];exact g) (by rw[<-hT.1];exact so)
   refine k D _ _ H2 ?_ hD ((Xvr hT' g).same sm) pm' so' (SH.Xa6.same tab' sm) λb o e n=>sm _ _ (kp b o e n)
   cases e:H D with
   | none=>rfl
   | some o=>
    by_cases z:D=T
    ·rcases tab' with q | ⟨_,q,_⟩<;>(rw[<-z,nD] at q;cases q)
    ·rw[kp D o e z] at nD;cases nD
theorem Xs9:FnScope ["how", "off"] ["how", "off"] (defScope sAllows):=⟨rfl,rfl,rfl,by decide +kernel,rfl,by decide +kernel,by decide +kernel⟩
theorem Xrb{f:Addr}{fd:FuncData}(F:Fun K "allows" "allows" sAllows f fd):FnOk P w K mg base CX0 1 f fd ["how", "off"] spAllows:=by
 refine F.ok Xs9 (λvs H Q E h=>?_) (λcdv A outer s H vs Q E hr h=>?_)
 ·obtain⟨how,off,rfl,_⟩:=h
  rfl
 ·obtain⟨how,off,rfl,k⟩:=h
  refine⟨_,Xad (Xbn (Xaj Xb3 (pv 0) Xaq (nomark _)) (Xag (Xak (pv 1))) Xar)
   (Xag (Xak (Xyu (Xbo Xot (pv 0) Xaq (nomark _)) (Xl4 (Xwm (pv 1)))))),?_⟩
  refine⟨_,rfl,rfl,_,rfl,?_⟩
  rw[Xb1]
  unfold Xbp at k
  refine ite2b (λq=>?_) (λq=>?_)
  ·rw[X3i (X3l q)] at k
   exact⟨_,rfl,k⟩
  ·rw[X3h (X3m q)] at k
   refine⟨_,rfl,rfl,_,rfl,?_⟩
   rw[Xb1]
   refine ite2b (λq2=>?_) (λq2=>?_)
   ·rw[q2,Bool.true_or] at k
    exact k
   ·rw[q2,Bool.false_or] at k
    exact⟨_,rfl,off,rfl,k⟩
theorem Xna:FnScope NIp ["row", "plot"] (defScope sIsPlot):=⟨rfl,rfl,rfl,by decide +kernel,rfl,by decide +kernel,by decide +kernel⟩
theorem Xrc{f:Addr}{fd:FuncData}(F:Fun K "is_plot" "is_plot" sIsPlot f fd)(T:Bl mg)(FS:Fn P w K mg base CX0 3 "spans" ["row"] spSpans)(FO:Fn P w K mg base CX0 2 "lie_of" ["here", "there"] spLieOf)
  (FT:Fn P w K mg base CX0 1 "told" ["names"] (spTold K)) (FA:Fn P w K mg base CX0 1 "allows" ["how", "off"] spAllows):FnOk P w K mg base CX0 4 f fd ["row", "plot"] Xin:=by
 refine F.ok Xna (λvs H Q E h=>?_) (λcdv A outer s H vs Q E hr h=>?_)
 ·obtain⟨r,p,row,ss,rfl,_⟩:=h
  rfl
 ·obtain⟨r,p,row,ss,rfl,hR,R2,hP,hok,hsl,k⟩:=h
  have hu:=Xep hr
  have hr1:Room 1 _:=hr.mono (by decide)
  have hr2:Room 2 _:=hr.mono (by decide)
  refine⟨_,Xad (Xam (i:=2) Xna.nd rfl (Or.inr rfl) (Xao FS hr (by rfl) pass0 (Xaa (pv 0) Xac)))
   (Xad (Xbn (Xh2 (Xaj (Xj1 (hu3 hr)) (pv 1) (Xao FT hr1 (by rfl) pass0 (Xaa (pv 1) Xac)) (nomark _))
     (Xgh (Xdm (Xan (Xsf rfl) (by rfl) T.any (by rfl) (Xaa (Xcv (N:=NI1) (cap:=[none,some 2]) (CompScope.of (defScope sIsPlot) NIp rfl rfl rfl (by decide +kernel)) rfl
      (Xl5 (pv 1)) (λ_ _ _=>Xal (i:=0) (show NI1.Nodup by decide +kernel) rfl (Or.inl rfl) (Or.inr rfl)) (λ_ _ _=>Xbg) (λ_ _ _=>Xwl (Xo3 (by exact hu) (pv 0) (pv 1)) (by rfl))) Xac))))).pt
    (Xag (Xak Xhe)) Xar)
   (Xag (Xak (Xan (Xf2 rfl) (by rfl) T.all (by rfl) (Xaa (Xmp (N:=NI2) (cap:=[none,none,some 1,some 2]) (CompScope.of (defScope sIsPlot) NIp rfl rfl rfl (by decide +kernel)) rfl
    (Xl5 (pv 1)) (λ_ _ _=>Xal (i:=0) (show NI2.Nodup by decide +kernel) rfl (Or.inl rfl) (Or.inr rfl)) (λ_ _ _=>Xbg)
    (λ_ _ _=>Xdh (pv 3)) (λ_ _ _=>Xal (i:=1) (show NI2.Nodup by decide +kernel) rfl (Or.inl rfl) (Or.inr rfl)) (λ_ _ _=>Xbg)
    (λ_ _ _=>Xao (by exact FA) (by exact hr1) (by rfl) pass0 (Xaa (Xao (by exact FO) (by exact hr2) (by rfl) pass0 (Xaa (Xbw (by exact hu) (pv 3) (pv 0) (λ_ _=>rfl)) (Xaa (Xbw (by exact hu) (pv 3) (pv 1) (λ_ _=>rfl)) Xac)))
     (Xaa (Xbo (Xcr K (by rfl)) (pv 1) (pv 2) (by rfl)) Xac)))) Xac))))),?_⟩
  have hl:=R2.len
  have hdl:=Xcu row
  refine⟨_,rfl,r,row,rfl,hR,R2,λd kvs H1 nd hd sp s1=>?_⟩
  have hP1:=s1 _ _ hP
  refine⟨_,rfl,_,rfl,p,ss,rfl,.inr (SqT.of hP1),hsl,λt H2 nt ht s2=>?_⟩
  have s12:=s1.trans s2
  have hP2:=s2 _ _ hP1
  refine⟨_,_,Xbs hP2,Xbs ht,Xav _ (Xa7 hok),Xav _ (Xa7 (Xmv hok)),Xka _ _,_,rfl,?_⟩
  rw[Xfp hok (Xmv hok)]
  by_cases e1:ss=told ss
  ·rw[X3j e1]
   refine iteF ?_
   refine⟨_,rfl,p,rfl,⟨_,SqT.of hP2⟩,?_⟩
   have hd2:=s2 _ _ hd
   have sp2:=sp.mono s2
   refine Xla (n:=ss.length) (by rw[X3g];omega) (λi=>(ss.map V.str).getD i .non) (λi=>.bl (!decide (ss.getD i Str.empty∈row))) ?_ ?_ ?_ ?_
   ·intro i H3 hi s3
    exact Xmf (SqT.of (s3 _ _ hP2)) (by rw[Xzk];exact hi)
   ·intro H3 s3
    have:=Xmg (K:=K) (SqT.of (s3 _ _ hP2))
    rwa [Xzk] at this
   ·intro i H3 Q' hi s3 kk
    rw[Xaz V.str Str.empty ss hi]
    refine⟨_,rfl,_,rfl,d,_,rfl,.inl ⟨kvs,Sum.inr _,.inl (s3 _ _ hd2),rfl,rfl⟩,?_⟩
    rw[sp2.has]
    exact kk H3 (Same.refl _)
   ·intro D H3 nD s3 hD
    have hD':H3 D=some (.lst (((List.range ss.length).map λi => !decide (ss.getD i Str.empty∈row)).map V.bl)):=by rw[hD,X0f];rfl
    refine⟨D,_,rfl,hD',_,rfl,?_⟩
    rw[Xp3 Str.empty (λx => !decide (x∈row)) ss]
    have s13:=s12.trans s3
    have e2:(ss.any λx => !decide (x∈row)) = !(ss.all λx=>decide (x∈row)):=by rw[List.not_all_eq_any_not]
    rw[e2]
    cases e3:ss.all (λx=>decide (x∈row)) with
    | false=>
     refine iteT ?_
     have:=k H3 s13
     unfold isPlotB at this
     rw[e3,X24,X0w] at this
     exact this
    | true=>
     refine iteF ?_
     have hin:∀x∈ss,x∈row:=λx hx=>X3l (Xz8.mp e3 x hx)
     have hP3:=s3 _ _ hP2
     have hd3:=s3 _ _ hd2
     have sp3:=sp2.mono s3
     refine⟨_,rfl,p,rfl,⟨_,SqT.of hP3⟩,λD2 nD2=>?_⟩
     have kl:=sp3.len
     have npd:p≠d:=λz=>by rw[z,hd3] at hP3;cases hP3
     have nrd:D2≠d:=(Xaf hd3 nD2).symm
     have hH0D:hid d H3 D2=none:=by
      unfold hid
      rw[X3h nrd]
      exact nD2
     have hpin:hid d H3 p=some (.tup (ss.map V.str)):=Xcw hP3 npd
     let part:Nat->List Bool:=λi=>(dit row).map λy=>Xbp (lieR row (ss.getD i Str.empty) y) (decide (y∈ss))
     refine Xu5 (H0:=hid d H3) (xs0:=[]) (n:=ss.length) (λi=>.str (ss.getD i Str.empty)) (λi=>((List.range i).flatMap part).map PyData.bool) (λH4=>Rd H4 d (.dK kvs)) hH0D ((Xc2 d H3).trans ((Same.refl H3).step nD2)) (.inl (ku hd3 nD2)) Xab Xcj
      (fun σ1=>∃v0 v1, σ1=[v0,v1,some (.ref p),some (.ref d)]) ⟨none,none,rfl⟩ ?_ ?_ ?_ ?_
     ·intro i H4 hi s4
      have:=Xmf (K:=K) (SqT.of (s4 _ _ hpin)) (show i<(ss.map V.str).length by rw[Xzk];exact hi)
      rwa [Xaz V.str Str.empty ss hi] at this
     ·intro H4 s4
      have:=Xmg (K:=K) (SqT.of (s4 _ _ hpin))
      rwa [Xzk] at this
     ·rintro i σ1 xs H4 Q' hi ⟨v0,v1,rfl⟩ s4 g4 hD4 hal kk
      have hxr:ss.getD i Str.empty∈row:=hin _ (Xbb hi)
      have main:∀(te':TE) (o:Obj) (H5:Hp),(∀(j:Nat) (H6:Hp) (Q2:VK) (l1 l2:Addr),j<(dit row).length->DGet H6 d (.str (ss.getD i Str.empty)) (some (.ref l1))->H6 l1=some (.tup [.int (pl row (ss.getD i Str.empty)).1,.int (pl row (ss.getD i Str.empty)).2]) ->
        DGet H6 d (.str ((dit row).getD j Str.empty)) (some (.ref l2))->H6 l2=some (.tup [.int (pl row ((dit row).getD j Str.empty)).1,.int (pl row ((dit row).getD j Str.empty)).2])->H6 p=some (.tup (ss.map V.str))->(∀H',Same H6 H'->Q2 (.bl (Xbp (lieR row (ss.getD i Str.empty) ((dit row).getD j Str.empty)) (decide ((dit row).getD j Str.empty∈ss)))) H') ->
        te' [some (.str (ss.getD i Str.empty)),some (.str ((dit row).getD j Str.empty)),some (.ref p),some (.ref d)] H6 Q2)->H5 d=some (.frz o (.dK kvs))->Same (hid d H3) H5->H5 D2=some (.lst xs)->DAll (hid D2 H5) (((List.range i).flatMap part).map PyData.bool) xs ->
        tLp (Xbv 1) tYes (Xpn te' D2) (Itd d o kvs) ([some (.str (ss.getD i Str.empty)),v1,some (.ref p),some (.ref d)]:L2.St) H5 Q':=λte' o H5 hte hd5 s5 hD5 hal5=>by
       have hpl:∀j,(part j).length<=60:=λj=>by
        show (List.map _ _).length<=60
        rw[Xzk]
        omega
       have hacc:∀j,(((List.range j).flatMap part).map PyData.bool).length<=60 * j:=λj=>by
        rw[Xzk]
        induction j with
        | zero=>simp
        | succ j ih=>
         rw[X0q,X1w,Xzt,X1v,X2d,X0m]
         have:=hpl j
         omega
       have hdin:hid D2 H5 d=some (.frz o (.dK kvs)):=Xcw hd5 nrd.symm
       have hsp:Spn (hid D2 H5) kvs row (dit row):=⟨sp3.keys,λx hx=>let ⟨l,h1,h2⟩:=sp3.val x hx; ⟨l,h1,Xcw (s5 _ _ (Xcw h2 (λz=>by rw[z,hd3] at h2;cases h2))) (λz=>by rw[z,nD2] at h2;cases h2)⟩⟩
       have hpin5:hid D2 H5 p=some (.tup (ss.map V.str)):=Xcw (s5 _ _ hpin) (λz=>by rw[z,nD2] at hP3;cases hP3)
       refine Xlc (H0:=hid D2 H5) (n:=(dit row).length) (λj=>.str ((dit row).getD j Str.empty)) (λ_=>true) (λj=>.bool (Xbp (lieR row (ss.getD i Str.empty) ((dit row).getD j Str.empty)) (decide ((dit row).getD j Str.empty∈ss)))) (((List.range i).flatMap part).map PyData.bool)
        (X3i rfl) (Xc2 D2 H5) hD5 hal5 (by have:=hacc i;have h2:i<60:=(by omega);rw[X3g];omega) ?_ ?_ ?_ ?_ ?_
       ·intro j H6 hj s6
        have:=Xfe (kvs:=kvs) (s6 _ _ hdin) (by omega:j<kvs.length)
        rwa [hsp.at j hj] at this
       ·intro H6 s6
        have:=Xff (kvs:=kvs) (s6 _ _ hdin)
        rwa [kl] at this
       ·intro j H6 Q2 hj s6 k2
        exact k2 H6 (Same.refl _)
       ·intro j xs' H6 Q2 hj _ s6 hD6 k2
        have hyd:=Xbb hj
        obtain⟨l1,g1,t1⟩:=(hsp.mono s6).get (.inr ⟨o,s6 _ _ hdin⟩) (Xai.mpr hxr)
        obtain⟨l2,g2,t2⟩:=(hsp.mono s6).get (.inr ⟨o,s6 _ _ hdin⟩) hyd
        exact hte j H6 Q2 l1 l2 hj g1 t1 g2 t2 (s6 _ _ hpin5) λH' s'=>k2 _ _ s' (by unfold DAt;rfl)
       ·intro σ' H6 xs' e6 s6 hD6 hal6
        refine kk σ' H6 xs' ?_ (λb u e=>?_) (.inr ⟨o,s6 _ _ hdin⟩) hD6 ?_
        ·have l1 : σ'.length=4:=by
          have:=congrArg List.length (e6 none)
          simpa using this
         match σ',l1,e6 with
         | [w0,w1,w2,w3],_,e6=>
          have:=e6 none
          simp at this
          exact⟨w0,w1,by rw[this.2.1,this.2.2]⟩
        ·refine s6 _ _ (Xcw (s5 _ _ e) (λz=>?_))
         rw[z,hH0D] at e
         cases e
        ·rw[X0d.mpr (λ_ _=>rfl)] at hal6
         have em:(List.range (dit row).length).map (λj=>PyData.bool (Xbp (lieR row (ss.getD i Str.empty) ((dit row).getD j Str.empty)) (decide ((dit row).getD j Str.empty∈ss))))=(part i).map PyData.bool:=by
          show _=((dit row).map _).map _
          have this:=Xa0 Str.empty (λ_=>true) (dit row)
          rw[X0d.mpr (λ_ _=>rfl),X0d.mpr (λ_ _=>rfl)] at this
          conv=>rhs;rw[<-this]
          rw[X0f,X0f]
          rfl
         rw[em] at hal6
         rw[X0q,X1w,Xzq,X1v,X2d,X0m]
         exact hal6
      rcases g4 with g4 | ⟨o,g4⟩
      ·refine⟨_,rfl,d,kvs,rfl,.inl ⟨g4,λo=>?_⟩⟩
       refine main _ o _ (λj H6 Q2 l1 l2 hj g1 t1 g2 t2 hp6 k2=>⟨_,rfl,_,rfl,d,_,rfl,g1,_,rfl,_,rfl,d,_,rfl,g2,l1,l2,_,_,_,_,rfl,t1,t2,lie4 (R2.two _ hxr) (R2.two _ (Xai.mp (Xbb hj))),λH7 s7=>⟨_,rfl,_,rfl,p,_,rfl,.inr (SqT.of (s7 _ _ hp6)),rfl,Xbr ss,_,_,rfl,by rw[X3h (by decide),Xcg];exact k2 H7 s7⟩⟩) Xab (λb u e=>?_) (by rw[Xae nrd];exact hD4) ?_
       ·rw[Xae (λz=>by rw[z] at e;unfold hid at e;rw[X3i rfl] at e;cases e)]
        exact s4 _ _ e
       ·rw[Xc4 hal]
        have gb:∀bs:List Bool,DAll (hid D2 (upd H4 d (.frz o (.dK kvs)))) (bs.map PyData.bool) (bs.map V.bl):=λbs=>by
         induction bs with
         | nil=>exact Xcj
         | cons b bs ih=>exact Xdw (by unfold DAt;rfl) ih
        exact gb _
      ·exact⟨_,rfl,d,kvs,rfl,.inr ⟨o,g4,main _ o H4 (λj H6 Q2 l1 l2 hj g1 t1 g2 t2 hp6 k2=>⟨_,rfl,_,rfl,d,_,rfl,g1,_,rfl,_,rfl,d,_,rfl,g2,l1,l2,_,_,_,_,rfl,t1,t2,lie4 (R2.two _ hxr) (R2.two _ (Xai.mp (Xbb hj))),λH7 s7=>⟨_,rfl,_,rfl,p,_,rfl,.inr (SqT.of (s7 _ _ hp6)),rfl,Xbr ss,_,_,rfl,by rw[X3h (by decide),Xcg];exact k2 H7 s7⟩⟩) g4 s4 hD4 hal⟩⟩
     ·intro σ' H4 xs s4 g4 hD4 hal
      have hx:=Xc4 hal
      subst hx
      refine⟨D2,_,rfl,hD4,?_⟩
      have ef:((List.range ss.length).flatMap part).all id=ss.all λx=>(dit row).all λy=>Xbp (lieR row x y) (decide (y∈ss)):=by
       have e5:(List.range ss.length).flatMap part=ss.flatMap λx=>(dit row).map λy=>Xbp (lieR row x y) (decide (y∈ss)):=Xio Str.empty (λx=>(dit row).map λy=>Xbp (lieR row x y) (decide (y∈ss))) ss
       rw[e5,Xmw]
       congr 1
       funext x
       rw[List.all_map]
       rfl
      rw[ef]
      have s04:Same H H4:=λb u e=>s4 _ _ (Xcw (s13 _ _ e) (λz=>by rw[z,nd] at e;cases e))
      have:=k H4 s04
      unfold isPlotB at this
      rw[X3j e1,e3,X06,X06] at this
      exact this
  ·rw[X3k e1]
   refine iteT ?_
   have:=k H2 s12
   unfold isPlotB at this
   rw[X3k e1,X0w,X0w] at this
   exact this
theorem Xrd:FnScope ["row", "plot"] ["row", "plot"] (defScope s_ask_plot):=⟨rfl,rfl,rfl,by decide +kernel,rfl,by decide +kernel,by decide +kernel⟩
theorem Xoe{f C:Addr}{fd:FuncData}(F:Fun K "ask_plot" "ask_plot" s_ask_plot f fd)(hC:mg "NoPlot" = some (.ref C))(hc:PySem.W.excIn K C bmV "ValueError.__new__" = true)(FX:Fn P w K mg base CX0 4 "is_plot" ["row", "plot"] Xin):
  FnOk P w K mg base (CX1 P w) 5 f fd ["row", "plot"] (Xg2 C):=by
 refine F.ok1 Xrd (λvs H Q E h=>?_) (λcdv A outer s H vs Q E hr h=>?_)
 ·obtain⟨r,p,row,ss,rfl,_⟩:=h
  rfl
 ·obtain⟨r,p,row,ss,rfl,hR,R2,hP,hok,hsl,kq,ke⟩:=h
  refine⟨_,Xag (Xbn (Xiz (Xdm (Xao FX hr (by rfl) pass0 (Xaa (pv 0) (Xaa (pv 1) Xac)))))
   (Xag (Xh8 (C:=C) (E:=E) hc rfl leaves1 (by rfl) hC (Xaa (Xk3 (Xji (by decide +kernel) (Xsh hr (pv 1) (Xji (by decide +kernel) Xo9)))) Xac))) Xar),?_⟩
  refine⟨_,rfl,_,rfl,r,p,row,ss,rfl,hR,R2,hP,hok,by omega,λH1 s1=>⟨_,rfl,?_⟩⟩
  cases e:isPlotB row ss with
  | true=>exact iteF (kq e H1 s1)
  | false=>
   refine iteT ⟨_,rfl,p,ss,rfl,s1 _ _ hP,hsl,Xvh hok,λz=>?_⟩
   exact⟨by show 1<=sizeLine;decide,ke e H1 s1⟩
theorem Xe8:FnScope NPp ["row"] (defScope s_plots):=⟨rfl,rfl,rfl,by decide +kernel,rfl,by decide +kernel,by decide +kernel⟩
theorem Xre{f T:Addr}{fd:FuncData}(F:Fun K "plots" "plots" s_plots f fd)(FS:Fn P w K mg base CX0 3 "spans" ["row"] spSpans)(FO:Fn P w K mg base CX0 2 "lie_of" ["here", "there"] spLieOf)(FT:Fn P w K mg base CX0 1 "told" ["names"] (spTold K))(FC:Fn P w K mg base CX0 4 "crossings" ["row"] Xef)
  (FI:Fn P w K mg base CX0 4 "in_order" ["some"] (spInOrder T (lamPos s_in_order))):FnOk P w K mg base CX0 5 f fd ["row"] (Xit T (lamPos s_in_order)):=by
 refine F.ok Xe8 (λvs H Q E h=>?_) (λcdv A outer s H vs Q E hr h=>?_)
 ·obtain⟨r,row,rfl,_⟩:=h
  rfl
 ·obtain⟨r,row,rfl,hR,R2,h3,h14,tab,k⟩:=h
  have hu:=Xep hr
  have hr1:Room 1 _:=hr.mono (by decide)
  have hr2:Room 2 _:=hr.mono (by decide)
  have hr3:Room 3 _:=hr.mono (by decide)
  refine⟨_,Xad (Xam (i:=1) Xe8.nd rfl (Or.inr rfl) (Xao FS hr3 (by rfl) pass0 (Xaa (pv 0) Xac)))
   (Xad (Xam (i:=2) Xe8.nd rfl (Or.inr rfl) (Xig (N:=NPo) (cap:=[none,some 1]) (CompScope.of (defScope s_plots) NPp rfl rfl rfl (by decide +kernel)) rfl
    (Xdh (pv 1)) (λ_ _ _=>Xal (i:=0) (show NPo.Nodup by decide +kernel) rfl (Or.inr rfl) (Or.inl rfl)) (λ_ _ _=>Xbg) (λ_ _ _=>pv 0)
    (λs0 H0 ex=>Xcv (N:=NPi) (cap:=[none,some 0,some 1]) (CompScope.of _ NPo rfl rfl rfl (by kernel_rfl)) rfl
     (Xdh (pv 1)) (λ_ _ _=>Xal (i:=0) (show NPi.Nodup by decide +kernel) rfl (Or.inl rfl) (Or.inr rfl))
     (λ_ _ _=>Xbz (Xaj (Xcr K (by rfl)) (Xao (by exact FO) (by exact hr2) (by rfl) pass0 (Xaa (Xbw hu (pv 2) (pv 1) (λ_ _=>rfl)) (Xaa (Xbw hu (pv 2) (pv 0) (λ_ _=>rfl)) Xac))) (Xbq (Xaa Xaq (Xaa Xaq Xac))) (by rfl)))
     (λ_ _ _=>pv 0))))
   (Xad (Xm3 (i:=3) (N:=NPs) (cap:=[none,some 2]) (CompScope.of (defScope s_plots) NPp rfl rfl rfl (by decide +kernel)) rfl Xe8.nd rfl rfl
    (Xdh (pv 2)) (λ_ _ _=>Xal (i:=0) (show NPs.Nodup by decide +kernel) rfl (Or.inl rfl) (Or.inr rfl)) (λ_ _ _=>Xbg)
    (λ_ _ _=>Xao (by exact FT) (by exact hr1) (by rfl) pass0 (Xaa (Xbw hu (pv 1) (pv 0) (λ_ _=>rfl)) Xac)))
   (Xad (Xm3 (i:=4) (N:=NPd) (cap:=[none,none,some 2]) (CompScope.of (defScope s_plots) NPp rfl rfl rfl (by decide +kernel)) rfl Xe8.nd rfl rfl
    (Xa9 (Xao FC hr (by rfl) pass0 (Xaa (pv 0) Xac))) (λ_ _ _=>Xid K 2 rfl rfl (Xbe (Xal (i:=0) (show NPd.Nodup by decide +kernel) rfl (Or.inl rfl) (Or.inr rfl)) (Xbe (Xal (i:=1) (show NPd.Nodup by decide +kernel) rfl (Or.inl rfl) (Or.inr rfl)) Xeb))) (λ_ _ _=>Xbg)
    (λ_ _ _=>Xao (by exact FT) (by exact hr1) (by rfl) pass0 (Xaa (Xat Xbj (Xbw hu (pv 2) (pv 0) (λ_ _=>rfl)) (Xbw hu (pv 2) (pv 1) (λ_ _=>rfl))) Xac)))
   (Xag (Xak (Xao FI hr (by rfl) pass0 (Xaa (Xat Xbj (Xat Xbj (Xbd (Xaa (Xbq Xac) Xac)) (pv 3)) (pv 4)) Xac))))))),?_⟩
  have hl:=R2.len
  have hdl:=Xcu row
  refine⟨_,rfl,r,row,rfl,hR,R2,λd kvs H1 nd hd sp s1=>?_⟩
  refine⟨_,rfl,d,kvs,rfl,.inl ⟨hd,λo D nD=>?_⟩⟩
  generalize hH2:upd H1 d (.frz o (.dK kvs))=H2 at nD
  have s2:Same H H2:=λb u e=>by rw[<-hH2,Xae (Xaf e nd)];exact s1 b u e
  have hd2:H2 d=some (.frz o (.dK kvs)):=by rw[<-hH2];exact Xab
  have sp2:Spn H2 kvs row (dit row):=⟨sp.keys,λx hx=>let ⟨l,h1,h2⟩:=sp.val x hx; ⟨l,h1,by rw[<-hH2,Xae (λz=>by rw[z,hd] at h2;cases h2)];exact h2⟩⟩
  have kl:=sp2.len
  have go:∀i H3,i<(dit row).length->Same H2 H3->(Itd d o kvs).go i H3/\∀x H4,(Itd d o kvs).yld i H3 x H4->H4=H3/\x = .str ((dit row).getD i Str.empty):=λi H3 hi s3=>by
   have:=Xfe (kvs:=kvs) (s3 _ _ hd2) (by omega:i<kvs.length)
   rw[sp2.at i hi] at this
   exact this
  have stp:∀H3,Same H2 H3->(Itd d o kvs).stop (dit row).length H3:=λH3 s3=>by
   have:=Xff (kvs:=kvs) (s3 _ _ hd2)
   rwa [kl] at this
  refine⟨wN (dit row).length λi σ2 H3=>(∃v, σ2=[v,some (.ref d)])/\Same H2 H3/\∃kv2,H3 D=some (.dK kv2)/\Offs H3 kv2 row ((dit row).take i),⟨(dit row).length,by simp,X0k _,⟨none,rfl⟩,(Same.refl H2).step nD,[],Xab,⟨rfl,λx hx=>by simp at hx⟩⟩,?_⟩
  rintro i m σ1 H3 ⟨rfl,hi,⟨v,rfl⟩,s3,kv2,hD,ofs⟩
  by_cases hlt:i<(dit row).length
  ·obtain⟨g1,g2⟩:=go i H3 hlt s3
   refine .inr ⟨g1,λx H4 y=>?_⟩
   obtain⟨e1,e2⟩:=g2 x H4 y
   subst e1 e2
   generalize hx:(dit row).getD i Str.empty=x
   have hxd:x∈dit row:=by rw[<-hx];exact Xbb hlt
   have hxr:=Xai.mp hxd
   have htk:(dit row).take (i+1)=(dit row).take i++[x]:=by
    rw[Xzy hlt,<-hx]
    simp[List.getD,hlt]
   have hnx:x∉(dit row).take i:=by
    have nd:=Xgu row
    have h2:((dit row).take (i+1)).Nodup:=nd.sublist (X1j ..)
    rw[htk] at h2
    exact λz=>(X04.mp h2).2.2 x z x (by simp) rfl
   refine⟨_,rfl,_,rfl,d,kvs,rfl,.inr ⟨o,s3 _ _ hd2,?_⟩⟩
   refine Xc1 (n:=(dit row).length) (by rw[X3g];omega) (λj=>.str ((dit row).getD j Str.empty)) (λj=>upB row x ((dit row).getD j Str.empty)) (λj=>.str ((dit row).getD j Str.empty)) ?_ ?_ ?_ ?_ ?_
   ·exact λj H5 hj s5=>go j H5 hj (s3.trans s5)
   ·exact λH5 s5=>stp H5 (s3.trans s5)
   ·intro j H5 Q' hj s5 kk
    have s25:=s3.trans s5
    have hxj:=Xbb hj
    obtain⟨l1,gg1,t1⟩:=(sp2.mono s25).get (.inr ⟨o,s25 _ _ hd2⟩) hxd
    obtain⟨l2,gg2,t2⟩:=(sp2.mono s25).get (.inr ⟨o,s25 _ _ hd2⟩) hxj
    refine⟨_,rfl,_,rfl,d,_,rfl,gg1,_,rfl,_,rfl,d,_,rfl,gg2,l1,l2,_,_,_,_,rfl,t1,t2,lie4 (R2.two x hxr) (R2.two _ (Xai.mp hxj)),λH6 s6=>?_⟩
    refine⟨by show 2<=sizeLine;decide,λt nt=>?_⟩
    refine⟨t,[Str.ofString "same",Str.ofString "within"].map V.str,rfl,.inr (SqT.of Xab),rfl,Xbr _,_,rfl,?_⟩
    rw[X3h (by decide),Xcg]
    have e:=Xvs (row:=row) (x:=x) (y:=(dit row).getD j Str.empty) (R2.two x hxr) (R2.two _ (Xai.mp hxj))
    unfold lieR at e
    rw[e]
    exact kk _ (s6.step nt)
   ·intro j H5 Q' hj hk s5 kk
    exact⟨_,rfl,kk H5 (Same.refl _)⟩
   ·intro l H5 nl s5 hl5
    have hl5':H5 l=some (.lst (((dit row).filter (upB row x)).map V.str)):=by
     rw[hl5,<-Xa0 Str.empty (upB row x) (dit row),X0f]
     rfl
    have hD5:=s5 _ _ hD
    have kl2:kv2.length<=60:=by
     have:=ofs.len
     rw[Xz6] at this
     omega
    refine⟨kv2,Sum.inr x,rfl,hD5,by rw[X3g];omega,?_⟩
    refine wskip hlt ⟨⟨_,rfl⟩,λb u e=>?_,_,Xab,?_⟩
    ·rw[Xae (Xaf e nD)]
     exact s5 _ _ (s3 b u e)
    ·rw[htk]
     refine ofs.snoc hnx ?_ λb xs e=>?_
     ·rw[Xae (λz=>by rw[z,hD5] at hl5';cases hl5')]
      exact hl5'
     ·have e4:=s5 _ _ e
      rw[Xae (λz=>by rw[z,hD5] at e4;cases e4)]
      exact e4
  ·have ei:i=(dit row).length:=by omega
   subst ei
   refine .inl ⟨stp H3 s3,?_⟩
   rw[X0j] at ofs
   have s03:=s2.trans s3
   refine⟨_,rfl,D,kv2,rfl,.inl ⟨hD,λo2 L nL=>?_⟩⟩
   generalize hH4:upd H3 D (.frz o2 (.dK kv2))=H4 at nL
   have nD0:H D=none:=s2.free nD
   have s4:Same H H4:=λb u e=>by rw[<-hH4,Xae (Xaf e nD0)];exact s03 b u e
   have hD4:H4 D=some (.frz o2 (.dK kv2)):=by rw[<-hH4];exact Xab
   have of4:Offs H4 kv2 row (dit row):=⟨ofs.keys,λx hx=>let ⟨l,h1,h2⟩:=ofs.val x hx; ⟨l,h1,by rw[<-hH4,Xae (λz=>by rw[z,hD] at h2;cases h2)];exact h2⟩⟩
   have kl2:=of4.len
   have fl:∀x,((dit row).filter (upB row x)).length<=14:=λx=>X0c (X0i ..) (by omega)
   refine Xlc (H0:=H4) (xs0:=[]) (n:=(dit row).length) (λj=>.str ((dit row).getD j Str.empty)) (λ_=>true) (λj=>tupD ((dit row).filter (upB row ((dit row).getD j Str.empty)))) [] nL ((Same.refl H4).step nL) Xab Xcj (by rw[X3g,X1d];omega) ?_ ?_ ?_ ?_ ?_
   ·intro j H5 hj s5
    have:=Xfe (kvs:=kv2) (s5 _ _ hD4) (by omega:j<kv2.length)
    rw[of4.at j hj] at this
    exact this
   ·intro H5 s5
    have:=Xff (kvs:=kv2) (s5 _ _ hD4)
    rwa [kl2] at this
   ·exact λj H5 Q' hj s5 kk=>kk H5 (Same.refl _)
   ·intro j xs H5 Q' hj _ s5 hL5 kk
    obtain⟨l,gg,hl5⟩:=(of4.mono s5).get (.inr ⟨o2,s5 _ _ hD4⟩) (Xbb hj)
    refine⟨_,rfl,_,rfl,D,_,rfl,gg,l,_,rfl,.inl (SqL.of hl5),by have:=fl ((dit row).getD j Str.empty);omega,λt H6 nt ht s6=>?_⟩
    rw[Xil ((Xdt row).filter _)] at ht
    refine kk _ H6 s6 (Xbs ?_)
    have hL6:=s6 _ _ hL5
    unfold hid
    rw[X3h (λz=>by rw[z,hL6] at ht;cases ht)]
    exact ht
   ·intro σ' H5 xs e s5 hL5 hal
    have e1:([]:List PyData)++((List.range (dit row).length).filter λ_=>true).map (λj=>tupD ((dit row).filter (upB row ((dit row).getD j Str.empty))))=((dit row).map λa=>(dit row).filter (upB row a)).map tupD:=by
     have:=Xa0 Str.empty (λ_=>true) (dit row)
     rw[X0d.mpr (λ_ _=>rfl),X0d.mpr (λ_ _=>rfl)] at this
     have q:=congrArg (List.map λa=>tupD ((dit row).filter (upB row a))) this
     rw[X0f] at q
     rw[X12,X0d.mpr (λ_ _=>rfl),X0f]
     exact q
    rw[e1] at hal
    obtain⟨ps1,rfl,ht1⟩:=Xg8 hal
    have ht1:Tups H5 ps1 _:=ht1.same (Xc2 L H5)
    have s05:=s4.trans s5
    refine⟨_,rfl,r,row,rfl,s05 _ _ hR,R2,λcl xs2 H6 ncl hcl hal6 s6=>?_⟩
    refine⟨cl,rfl,⟨_,SqL.of hcl⟩,λM nM=>?_⟩
    have hxl:xs2.length=(crs row).length:=by
     have:=Xd4 hal6
     simpa using this
    have of6:=(of4.mono s5).mono s6
    have hD6:=s6 _ _ (s5 _ _ hD4)
    have c49:=Xtz R2.two h3 (by omega)
    refine⟨wN (crs row).length λi σ2 H7=>(∃u v, σ2=[u,v,some (.ref D)])/\Same H6 H7/\∃qs:List Addr,H7 M=some (.lst (qs.map V.ref))/\Tups H7 qs (((crs row).take i).map λq=>(dit row).filter λy=>upB row q.1 y||upB row q.2 y),⟨(crs row).length,by simp,X0k _,⟨none,none,rfl⟩,(Same.refl H6).step nM,[],Xab,Tups.nil _⟩,?_⟩
    rintro i m σ1 H7 ⟨rfl,hi,⟨u,v,rfl⟩,s7,qs,hM,htq⟩
    by_cases hlt:i<(crs row).length
    ·obtain⟨g1,g2⟩:=Xcd (K:=K) (SqL.of (s7 _ _ hcl)) (by omega:i<xs2.length)
     refine .inr ⟨g1,λx H8 y=>?_⟩
     obtain⟨e1,e2⟩:=g2 x H8 y
     subst e1 e2
     obtain⟨v1,hv,hdat⟩:=Xih (i:=i) (d:=prD ((crs row)[i])) hal6 (by rw[Xz1,Xzl hlt];rfl)
     have hq:=X0b hlt
     generalize hqe:(crs row)[i]=q at hdat hq
     obtain⟨hq1,hq2,_,_⟩:=Xkl hq
     have ev:xs2.getD i .non=v1:=by simp[List.getD,hv]
     rw[ev]
     unfold prD DAt at hdat
     obtain⟨pp,ys,rfl,hpp,hys⟩:=hdat
     obtain rfl:=Xb9 (ss:=[q.1,q.2]) hys
     have hpp6:=Xc2 cl H6 _ _ hpp
     have htk:(crs row).take (i+1)=(crs row).take i++[q]:=by
      rw[Xzy hlt,hqe]
     obtain⟨l1,gg1,hl1⟩:=(of6.mono s7).get (.inr ⟨o2,s7 _ _ hD6⟩) (Xai.mpr hq1)
     obtain⟨l2,gg2,hl2⟩:=(of6.mono s7).get (.inr ⟨o2,s7 _ _ hD6⟩) (Xai.mpr hq2)
     have f1:=fl q.1
     have f2:=fl q.2
     refine⟨pp,_,rfl,SqT.of (s7 _ _ hpp6),rfl,_,_,rfl,_,_,rfl,rfl,?_⟩
     refine⟨_,rfl,_,rfl,D,_,rfl,gg1,_,rfl,_,rfl,D,_,rfl,gg2,l1,l2,_,_,rfl,rfl,hl1,hl2,by rw[Xzk,Xzk,X3g];omega,λc nc=>?_⟩
     refine⟨c,(dit row).filter (upB row q.1)++(dit row).filter (upB row q.2),rfl,.inl (by rw[Xzq];exact SqL.of Xab),by rw[Xzt];omega,λt H9 nt ht s9=>?_⟩
     have s79:Same H8 H9:=((Same.refl H8).step nc).trans s9
     have hM9:=s79 _ _ hM
     have et:told ((dit row).filter (upB row q.1)++(dit row).filter (upB row q.2))=(dit row).filter λy=>upB row q.1 y||upB row q.2 y:=by
      refine Xlx (Xli _) ((Xdt row).filter _) λz=>?_
      rw[Xmt,Xzv,Xzu,Xzu,Xzu,X16,<-and_or_left]
     rw[et] at ht
     have hql:qs.length<=49:=by
      have:=htq.1
      rw[Xzk,Xz6] at this
      omega
     refine⟨_,hM9,by rw[Xzk,X3g];omega,?_⟩
     have keepM:∀b w,H9 b=some (.tup w)->upd H9 M (.lst (qs.map V.ref++[.ref t])) b=some (.tup w):=λb w e=>by
      rw[Xae (λz=>by rw[z,hM9] at e;cases e)]
      exact e
     refine wskip hlt ⟨⟨_,_,rfl⟩,λb w e=>?_,qs++[t],by rw[Xab,Xzq];rfl,?_⟩
     ·rw[Xae (Xaf e nM)]
      exact s79 _ _ (s7 b w e)
     ·rw[htk,Xzq]
      refine Tups.app ⟨htq.1,λj hj=>keepM _ _ (s79 _ _ (htq.2 j hj))⟩ (Tups.cons (keepM _ _ ht) (Tups.nil _))
    ·have ei:i=(crs row).length:=by omega
     subst ei
     refine .inl ⟨by have:=Xce (K:=K) (SqL.of (s7 _ _ hcl));rwa [hxl] at this,?_⟩
     rw[X0j] at htq
     have s57:=s6.trans s7
     have hL7:=s57 _ _ hL5
     have ht7:=ht1.same s57
     have s07:=s05.trans s57
     refine⟨X0k _,λe0 ne0=>⟨by show 1<=sizeLine;decide,λz nz=>?_⟩⟩
     generalize hHa:upd H7 e0 (.tup [])=Ha at nz
     have sa:Same H7 Ha:=by rw[<-hHa];exact(Same.refl H7).step ne0
     have he0:Ha e0=some (.tup (([]:List Str).map V.str)):=by rw[<-hHa];exact Xab
     generalize hHb:upd Ha z (.lst [.ref e0])=Hb
     have sb:Same Ha Hb:=by rw[<-hHb];exact(Same.refl Ha).step nz
     have hz:Hb z=some (.lst [.ref e0]):=by rw[<-hHb];exact Xab
     have l1:ps1.length=(dit row).length:=by have:=ht1.1;simpa using this
     have l2:qs.length=(crs row).length:=by have:=htq.1;simpa using this
     have s7b:=sa.trans sb
     refine⟨_,rfl,z,L,_,_,rfl,rfl,hz,s7b _ _ hL7,by rw[Xzk,X0o,X3g];omega,λc1 n1=>?_⟩
     generalize hHc:upd Hb c1 (.lst ([.ref e0]++ps1.map V.ref))=Hc
     have sc:Same Hb Hc:=by rw[<-hHc];exact(Same.refl Hb).step n1
     have hc1:Hc c1=some (.lst ([.ref e0]++ps1.map V.ref)):=by rw[<-hHc];exact Xab
     have s7c:=s7b.trans sc
     refine⟨_,rfl,c1,M,_,_,rfl,rfl,hc1,s7c _ _ hM,by rw[Xzt,Xzk,Xzk,X0o,X3g];omega,λc2 n2=>?_⟩
     generalize hHd:upd Hc c2 (.lst (([.ref e0]++ps1.map V.ref)++qs.map V.ref))=Hd
     have sd:Same Hc Hd:=by rw[<-hHd];exact(Same.refl Hc).step n2
     have hc2:Hd c2=some (.lst ((e0::(ps1++qs)).map V.ref)):=by
      rw[<-hHd,Xab,Xz9,Xzq]
      rfl
     have s7d:=s7c.trans sd
     have s0d:=s07.trans s7d
     have hTs:Tups Hd (e0::(ps1++qs)) ([]::cands row):=Tups.cons ((sb.trans (sc.trans sd)) _ _ he0) (Tups.app (ht7.same s7d) (htq.same s7d))
     refine⟨c2,e0::(ps1++qs),[]::cands row,rfl,hc2,hTs,Xx9 R2.two,by rw[X0a,Xzt];omega,SH.Xa6.same tab s0d,λD' ps' Ts' H' nD' hD' hT' pm so tab' bt=>?_⟩
     refine k D' ps' Ts' H' (s0d.free nD') hD' hT' (λS=>(pm.mem_iff).trans (Xqp R2.two h3 S)) so ?_ tab' λb w e n=>bt _ _ (s0d _ _ e) n
     rw[hT'.1,pm.length_eq,<-hTs.1,X0a,Xzt]
     omega
theorem Xta:FnScope ["plot", "name"] ["plot", "name"] (defScope s_bank_of):=⟨rfl,rfl,rfl,by decide +kernel,rfl,by decide +kernel,by decide +kernel⟩
theorem Xrf{f:Addr}{fd:FuncData}(F:Fun K "bank_of" "bank_of" s_bank_of f fd):FnOk P w K mg base CX0 1 f fd ["plot", "name"] spBankOf:=by
 refine F.ok Xta (λvs H Q E h=>?_) (λcdv A outer s H vs Q E hr h=>?_)
 ·obtain⟨p,ss,x,rfl,_⟩:=h
  rfl
 ·obtain⟨p,ss,x,rfl,hP,k⟩:=h
  refine⟨_,Xag (Xak (Xei (Xaj Xel (pv 1) (pv 0) (by rfl)) Xaq Xaq)),?_⟩
  refine⟨_,rfl,_,rfl,p,_,rfl,.inr (SqT.of hP),rfl,Xbr ss,_,rfl,?_⟩
  rw[X3h (by decide),Xcg]
  have:=k H (Same.refl H)
  by_cases z:x∈ss
  ·rw[X3i z] at this
   rw[X3j z]
   exact iteT this
  ·rw[X3h z] at this
   rw[X3k z]
   exact iteF this
theorem Xtb:FnScope ["plot", "kept"] ["plot", "kept"] (defScope s_lies_on):=⟨rfl,rfl,rfl,by decide +kernel,rfl,by decide +kernel,by decide +kernel⟩
theorem Xrg{f:Addr}{fd:FuncData}(F:Fun K "lies_on" "lies_on" s_lies_on f fd)(B:Bl mg)(FB:Fn P w K mg base CX0 1 "bank_of" ["plot", "name"] spBankOf):FnOk P w K mg base CX0 2 f fd ["plot", "kept"] spLiesOn:=by
 refine F.ok Xtb (λvs H Q E h=>?_) (λcdv A outer s H vs Q E hr h=>?_)
 ·obtain⟨p,kp,S,qs,kept,rfl,_⟩:=h
  rfl
 ·obtain⟨p,kp,S,qs,kept,rfl,hp,hk,hT,hl,k⟩:=h
  have hr1:Room 1 _:=hr.mono (by decide)
  refine⟨_,Xag (Xak (Xan (Xf2 rfl) (by rfl) B.all (by rfl) (Xaa (Xcv (N:=NLo1) (cap:=[none,none,some 0]) (CompScope.of (defScope s_lies_on) ["plot", "kept"] rfl rfl rfl (by decide +kernel)) rfl
   (Xa9 (pv 1)) (λ_ _ _=>Xid K 2 rfl rfl (Xbe (Xal (i:=0) (show NLo1.Nodup by decide +kernel) rfl (Or.inl rfl) (Or.inr rfl)) (Xbe (Xal (i:=1) (show NLo1.Nodup by decide +kernel) rfl (Or.inl rfl) (Or.inr rfl)) Xeb))) (λ_ _ _=>Xbg)
   (λ_ _ _=>Xbo Xb3 (Xao (by exact FB) (by exact hr1) (by rfl) pass0 (Xaa (pv 2) (Xaa (pv 0) Xac))) (pv 1) (nomark _))) Xac))),?_⟩
  refine⟨_,rfl,kp,rfl,⟨_,SqL.of hk⟩,?_⟩
  have hkl:kept.length=qs.length:=by
   have:=hT.1
   rw[Xzk] at this
   exact this.symm
  refine Xk4 (n:=qs.length) (λj=>.ref (qs.getD j 0)) (λD i σ2 H2=>(∃u v, σ2=[u,v,some (.ref p)])/\Same H H2/\H2 D=some (.lst (((kept.take i).map λq=>decide (bk S q.1=q.2)).map V.bl))) ?_ ?_ ?_ ?_ ?_
  ·intro D hD
   exact⟨⟨_,_,rfl⟩,(Same.refl H).step hD,Xab⟩
  ·rintro D i σ2 H2 hD hi ⟨_,s2,_⟩
   have:=Xcd (K:=K) (SqL.of (s2 _ _ hk)) (by rw[Xzk];exact hi)
   rw[Xaz V.ref 0 qs hi] at this
   exact this
  ·rintro D σ2 H2 hD ⟨_,s2,_⟩
   have:=Xce (K:=K) (SqL.of (s2 _ _ hk))
   rwa [Xzk] at this
  ·rintro D i σ2 H2 hD hi ⟨⟨u,v,rfl⟩,s2,hb⟩
   have hi':i<kept.length:=by rw[hkl];exact hi
   have ht:=s2 _ _ (hT.2 i hi)
   have eq:(kept.map pr2).getD i []=pr2 kept[i]:=by simp[List.getD,hi']
   rw[eq] at ht
   have htk:kept.take (i+1)=kept.take i++[kept[i]]:=Xzy hi'
   generalize kept[i]=q at ht htk
   refine⟨_,_,rfl,SqT.of ht,rfl,_,_,rfl,_,_,rfl,rfl,?_⟩
   dsimp only[tYes]
   rw[X3i rfl]
   refine⟨_,rfl,_,rfl,p,S,q.1,rfl,s2 _ _ hp,λH3 s3=>⟨_,rfl,rfl,?_⟩⟩
   rw[Xb1]
   refine⟨_,s3 _ _ hb,by rw[Xzk,Xzk,Xz6,X3g];omega,wskip hi ⟨⟨_,_,rfl⟩,λb o e=>?_,?_⟩⟩
   ·rw[Xae (Xaf e hD)]
    exact s3 _ _ (s2 _ _ e)
   ·rw[Xab,htk,Xzq,Xzq]
    rfl
  ·rintro D σ2 H2 hD ⟨_,s2,hb⟩
   rw[<-hkl,X0j] at hb
   refine⟨D,_,rfl,hb,?_⟩
   have e:(kept.map λq=>decide (bk S q.1=q.2)).all id=keeps kept S:=by
    unfold keeps
    rw[List.all_map]
    rfl
   rw[e]
   exact k H2 s2
theorem Xnb:FnScope NSh ["row", "some"] (defScope s_shared):=⟨rfl,rfl,rfl,by decide +kernel,rfl,by decide +kernel,by decide +kernel⟩
theorem Xrh{f:Addr}{fd:FuncData}(F:Fun K "shared" "shared" s_shared f fd)(B:Bl mg)(FD:Fn P w K mg base CX0 1 "ditches" ["row"] spDitches)(FB:Fn P w K mg base CX0 1 "bank_of" ["plot", "name"] spBankOf):
  FnOk P w K mg base CX0 2 f fd ["row", "some"] spShared:=by
 refine F.ok Xnb (λvs H Q E h=>?_) (λcdv A outer s H vs Q E hr h=>?_)
 ·obtain⟨r,c,row,ps,Ts,rfl,_⟩:=h
  rfl
 ·obtain⟨r,c,row,ps,Ts,rfl,hR,R2,hc,hT,hpl,k⟩:=h
  have hu:=Xep hr
  have hr1:Room 1 _:=hr.mono (by decide)
  refine⟨_,Xad (Xam (i:=2) Xnb.nd rfl (Or.inr rfl) (Xig (N:=NSh1) (cap:=[none,some 1]) (CompScope.of (defScope s_shared) NSh rfl rfl rfl (by decide +kernel)) rfl
    (Xa9 (Xao FD hr1 (by rfl) pass0 (Xaa (pv 0) Xac))) (λ_ _ _=>Xal (i:=0) (show NSh1.Nodup by decide +kernel) rfl (Or.inr rfl) (Or.inl rfl)) (λ_ _ _=>Xbg) (λ_ _ _=>pv 0)
    (λs0 H0 ex=>Xan (Xkm P w (by rfl) (by rfl) rfl) (by rfl) B.sorted (by rfl) (Xaa (Xqs (P:=P) (w:=w) (N:=NSh2) (cap:=[none,some 0]) (CompScope.of _ NSh1 rfl rfl rfl (by kernel_rfl)) rfl
     (Xsy K (by rfl) (pv 1)) (λ_ _ _=>Xal (i:=0) (show NSh2.Nodup by decide +kernel) rfl (Or.inl rfl) (Or.inr rfl)) (λ_ _ _=>Xbg)
     (λ_ _ _=>Xao (by exact FB) (by exact hr1) (by rfl) pass0 (Xaa (pv 0) (Xaa (pv 1) Xac)))) Xac))))
   (Xag (Xak (Xcv (N:=NSh3) (cap:=[none,some 2]) (CompScope.of (defScope s_shared) NSh rfl rfl rfl (by decide +kernel)) rfl
    (Xdh (pv 2)) (λ_ _ _=>Xal (i:=0) (show NSh3.Nodup by decide +kernel) rfl (Or.inl rfl) (Or.inr rfl))
    (λ_ _ _=>Xbz (Xaj Xb3 (Xan (Xpl K (by rfl)) (by rfl) B.len boot_len (Xaa (Xbw hu (pv 1) (pv 0) (λ_ _=>rfl)) Xac)) Xah (nomark _)))
    (λ_ _ _=>Xbq (Xaa (pv 0) (Xaa (Xa5 (Xsb K (by rfl)) (Xbw hu (pv 1) (pv 0) (λ_ _=>rfl)) Xah (λ_ _=>rfl)) Xac)))))),?_⟩
  have hl:=R2.len
  have hdl:=Xcu row
  refine⟨_,rfl,r,row,rfl,hR,by omega,λnl H1 nnl hnl s1=>?_⟩
  refine⟨nl,rfl,⟨_,SqL.of hnl⟩,λD nD=>?_⟩
  have go:∀i H3,i<(dit row).length->Same H1 H3->(Itl K nl).go i H3/\∀x H4,(Itl K nl).yld i H3 x H4->H4=H3/\x = .str ((dit row).getD i Str.empty):=λi H3 hi s3=>by
   have:=Xcd (K:=K) (SqL.of (s3 _ _ hnl)) (by rw[Xzk];exact hi)
   rw[Xaz V.str Str.empty (dit row) hi] at this
   exact this
  have hT1:=hT.same s1
  have hc1:=s1 _ _ hc
  refine⟨wN (dit row).length λi σ2 H3=>(∃v, σ2=[v,some (.ref c)])/\Same H1 H3/\∃kv2,H3 D=some (.dK kv2)/\Lsts H3 kv2 (Xby Ts) ((dit row).take i),⟨(dit row).length,by simp,X0k _,⟨none,rfl⟩,(Same.refl H1).step nD,[],Xab,⟨rfl,λx hx=>by simp at hx⟩⟩,?_⟩
  rintro i m σ1 H3 ⟨rfl,hi,⟨v,rfl⟩,s3,kv2,hD,ofs⟩
  by_cases hlt:i<(dit row).length
  ·obtain⟨g1,g2⟩:=go i H3 hlt s3
   refine .inr ⟨g1,λx H4 y=>?_⟩
   obtain⟨e1,e2⟩:=g2 x H4 y
   subst e1 e2
   generalize hx:(dit row).getD i Str.empty=x
   have htk:(dit row).take (i+1)=(dit row).take i++[x]:=by
    rw[Xzy hlt,<-hx]
    simp[List.getD,hlt]
   have hnx:x∉(dit row).take i:=by
    have nd:=Xgu row
    have h2:((dit row).take (i+1)).Nodup:=nd.sublist (X1j ..)
    rw[htk] at h2
    exact λz=>(X04.mp h2).2.2 x z x (by simp) rfl
   have hc3:=s3 _ _ hc1
   have hT3:=hT1.same s3
   refine⟨_,rfl,_,rfl,c,rfl,⟨_,SqL.of hc3⟩,?_⟩
   refine Xvu (P:=P) (w:=w) (n:=ps.length) (by unfold scanBound;omega) (λj=>.ref (ps.getD j 0)) (λj=>bk (Ts.getD j []) x) ?_ ?_ ?_ ?_
   ·intro j H5 hj s5
    have:=Xcd (K:=K) (SqL.of (s5 _ _ hc3)) (by rw[Xzk];exact hj)
    rw[Xaz V.ref 0 ps hj] at this
    exact this
   ·intro H5 s5
    have:=Xce (K:=K) (SqL.of (s5 _ _ hc3))
    rwa [Xzk] at this
   ·intro j H5 Q' hj s5 kk
    exact⟨_,rfl,_,rfl,_,Ts.getD j [],x,rfl,s5 _ _ (hT3.2 j hj),λH6 s6=>kk H6 s6⟩
   ·intro a H5 na s5 ha
    have eL:(List.range ps.length).map (λj=>bk (Ts.getD j []) x)=Ts.map λS=>bk S x:=by
     rw[hT.1]
     have:=Xa0 [] (λ_=>true) Ts
     rw[X0d.mpr (λ_ _=>rfl),X0d.mpr (λ_ _=>rfl)] at this
     have q:=congrArg (List.map λS=>bk S x) this
     rw[X0f] at q
     exact q
    rw[eL] at ha
    have dl:(ddup (Ts.map λS=>bk S x)).length<=2:=by
     have nd:=Xgs (Ts.map λS=>bk S x)
     refine X0c (Xp9 (b:=([("off" : Str),("home" : Str)]:List Str)) nd λz hz=>?_) (Xzn 2)
     obtain⟨S,_,e⟩:=Xz4.mp ((Xeq _ z).mp hz)
     rw[<-e]
     unfold bk
     by_cases h:x∈S
     ·rw[X3i h];simp
     ·rw[X3h h];simp
    refine⟨a,_,rfl,ha,by omega,λl ls nl' hp hs=>?_⟩
    have hD5:=s5 _ _ hD
    have kl2:kv2.length<=60:=by
     have:=ofs.len
     rw[Xz6] at this
     omega
    have hl6:upd H5 l (.lst (ls.map V.str)) l=some (.lst ((Xby Ts x).map V.str)):=by
     rw[Xab,Xho hp hs]
     rfl
    have s6:Same H5 (upd H5 l (.lst (ls.map V.str))):=(Same.refl H5).step nl'
    generalize upd H5 l (.lst (ls.map V.str))=H6 at hl6 s6
    have s36:=s5.trans s6
    have hD6:=s36 _ _ hD
    refine⟨kv2,Sum.inr x,rfl,hD6,by rw[X3g];omega,?_⟩
    refine wskip hlt ⟨⟨_,rfl⟩,λb u e=>?_,_,Xab,?_⟩
    ·rw[Xae (Xaf e nD)]
     exact s36 _ _ (s3 b u e)
    ·rw[htk]
     refine ofs.snoc hnx ?_ λb xs e=>?_
     ·rw[Xae (λz=>by rw[z,hD6] at hl6;cases hl6)]
      exact hl6
     ·have e4:=s36 _ _ e
      rw[Xae (λz=>by rw[z,hD6] at e4;cases e4)]
      exact e4
  ·have ei:i=(dit row).length:=by omega
   subst ei
   refine .inl ⟨by have:=Xce (K:=K) (SqL.of (s3 _ _ hnl));rwa [Xzk] at this,?_⟩
   rw[X0j] at ofs
   have s03:=s1.trans s3
   have nD0:H D=none:=s1.free nD
   refine⟨_,rfl,D,kv2,rfl,.inl ⟨hD,λo2=>?_⟩⟩
   generalize hH4:upd H3 D (.frz o2 (.dK kv2))=H4
   have s4:Same H H4:=λb u e=>by rw[<-hH4,Xae (Xaf e nD0)];exact s03 b u e
   have hD4:H4 D=some (.frz o2 (.dK kv2)):=by rw[<-hH4];exact Xab
   have of4:Lsts H4 kv2 (Xby Ts) (dit row):=⟨ofs.keys,λx hx=>let ⟨l,h1,h2⟩:=ofs.val x hx; ⟨l,h1,by rw[<-hH4,Xae (λz=>by rw[z,hD] at h2;cases h2)];exact h2⟩⟩
   have kl2:=of4.len
   refine Xqr (n:=(dit row).length) (by rw[X3g];omega) (λj=>.str ((dit row).getD j Str.empty)) (λj=>decide ((Xby Ts ((dit row).getD j Str.empty)).length=1)) (λj=>pr2 ((dit row).getD j Str.empty,(Xby Ts ((dit row).getD j Str.empty)).headD Str.empty)) ?_ ?_ ?_ ?_ ?_
   ·intro j H5 hj s5
    have:=Xfe (kvs:=kv2) (s5 _ _ hD4) (by omega:j<kv2.length)
    rw[of4.at j hj] at this
    exact this
   ·intro H5 s5
    have:=Xff (kvs:=kv2) (s5 _ _ hD4)
    rwa [kl2] at this
   ·intro j H5 Q' hj s5 kk
    obtain⟨l,gg,hl5⟩:=(of4.mono s5).get (.inr ⟨o2,s5 _ _ hD4⟩) (Xbb hj)
    refine⟨_,rfl,_,rfl,D,_,rfl,gg,l,_,rfl,.inl (SqL.of hl5),rfl,_,rfl,?_⟩
    rw[Xzk]
    have e:decide (V.int ((Xby Ts ((dit row).getD j Str.empty)).length:Int)=V.int 1)=decide ((Xby Ts ((dit row).getD j Str.empty)).length=1):=
     decide_eq_decide.mpr ⟨λh=>by injection h with h;omega,λh=>by rw[h];rfl⟩
    rw[e]
    exact kk H5 (Same.refl _)
   ·intro j H5 Q' hj hk s5 kk
    obtain⟨l,gg,hl5⟩:=(of4.mono s5).get (.inr ⟨o2,s5 _ _ hD4⟩) (Xbb hj)
    generalize (dit row).getD j Str.empty=x at gg hl5 hk kk
    obtain⟨b,hb⟩:=X2i.mp (X3l hk)
    rw[hb] at hl5 kk
    refine⟨_,rfl,_,rfl,_,rfl,D,_,rfl,gg,l,_,_,_,rfl,rfl,SqL.of hl5,rfl,by show 2<=sizeLine;decide,λt nt=>?_⟩
    exact kk t _ Xab ((Same.refl H5).step nt)
   ·intro L qs H5 nL s5 hL hq
    refine k L qs H5 (s4.free nL) hL ?_ (s4.trans s5)
    have e:((List.range (dit row).length).filter λj=>decide ((Xby Ts ((dit row).getD j Str.empty)).length=1)).map (λj=>pr2 ((dit row).getD j Str.empty,(Xby Ts ((dit row).getD j Str.empty)).headD Str.empty))=(Xbi row Ts).map pr2:=by
     have q:=congrArg (List.map λx=>pr2 (x,(Xby Ts x).headD Str.empty)) (Xa0 Str.empty (λx=>decide ((Xby Ts x).length=1)) (dit row))
     rw[X0f] at q
     unfold Xbi
     rw[X0f]
     exact q
    rw[e] at hq
    exact hq
theorem Xt7:FnScope NHe ["row", "kept"] (defScope s_held):=⟨rfl,rfl,rfl,by decide +kernel,rfl,by decide +kernel,by decide +kernel⟩
theorem Xv0{f B0 T:Addr}{fd:FuncData}(F:Fun K "held" "held" s_held f fd)(hB:mg "BadGround" = some (.ref B0))(hb:PySem.W.excIn K B0 bmV "ValueError.__new__" = true)(FP:Fn P w K mg base CX0 5 "plots" ["row"] (Xit T (lamPos s_in_order)))
  (FL:Fn P w K mg base CX0 2 "lies_on" ["plot", "kept"] spLiesOn) (FS:Fn P w K mg base CX0 2 "shared" ["row", "some"] spShared):FnOk P w K mg base (CX1 P w) 6 f fd ["row", "kept"] (spHeld B0 T (lamPos s_in_order)):=by
 refine F.ok1 Xt7 (λvs H Q E h=>?_) (λcdv A outer s H vs Q E hr h=>?_)
 ·obtain⟨r,kp,row,kept,rfl,_⟩:=h
  rfl
 ·obtain⟨r,kp,row,kept,rfl,⟨hR,R2,h3,hd,tab,⟨qs,hk,hq⟩,ko⟩,k1,k2⟩:=h
  have hr2:Room 2 _:=hr.mono (by decide)
  refine⟨_,Xad (Xfk (i:=2) (N:=["plot", "kept"]) (cap:=[none,some 1]) (CompScope.of (defScope s_held) NHe rfl rfl rfl (by decide +kernel)) rfl Xt7.nd rfl rfl (Xa9 (Xao FP hr (by rfl) pass0 (Xaa (pv 0) Xac)))
    (λ_ _ _=>Xal (i:=0) (show (["plot", "kept"]:List Str).Nodup by decide +kernel) rfl (Or.inl rfl) (Or.inr rfl)) (λ_ _ _=>Xbz (Xdm (Xao (by exact FL) (by exact hr2) (by rfl) pass0 (Xaa (pv 0) (Xaa (pv 1) Xac))))) (λ_ _ _=>pv 0))
   (Xad (Xbn (Xh2 (Xiz (Xrs (pv 2) (λ_=>rfl))) (Xgh (Xaj (Xj1 (hu3 hr)) (Xao FS hr2 (by rfl) pass0 (Xaa (pv 0) (Xaa (pv 2) Xac))) (pv 1) (nomark _)))).pt
    (Xag (Xh8 (C:=B0) (E:=E) hb rfl leaves1 (by rfl) hB (Xaa (Xk3 (Xji (by decide +kernel) (Xs2 hr (pv 1) Xo9))) Xac))) Xar)
   (Xag (Xak (pv 2)))),?_⟩
  refine⟨_,rfl,r,row,rfl,hR,R2,h3,hd,tab,λL ps Ts H1 nL hL hT hall pw hle tab1 bt=>?_⟩
  have keep:∀{b:Addr} {o:HO},H b=some o->(∀z,o ≠ .tbl z)->H1 b=some o:=λe n=>bt _ _ e (Xa6.ne tab e n)
  have hk1:=keep hk λz=>by simp
  have hq1:Tups H1 qs (kept.map pr2):=⟨hq.1,λi hi=>keep (hq.2 i hi) λz=>by simp⟩
  have hql:qs.length<=16:=by
   have:=hq.1
   rw[Xzk] at this
   have:=ko.len
   omega
  refine⟨L,rfl,⟨_,SqL.of hL⟩,?_⟩
  refine Xc1 (n:=ps.length) (by rw[X3g];omega) (λi=>.ref (ps.getD i 0)) (λi=>keeps kept (Ts.getD i [])) (λi=>.ref (ps.getD i 0)) ?_ ?_ ?_ ?_ ?_
  ·intro i H4 hi s4
   have:=Xcd (K:=K) (SqL.of (s4 _ _ hL)) (by rw[Xzk];exact hi)
   rw[Xaz V.ref 0 ps hi] at this
   exact this
  ·intro H4 s4
   have:=Xce (K:=K) (SqL.of (s4 _ _ hL))
   rwa [Xzk] at this
  ·intro i H4 Q' hi s4 kk
   exact⟨_,rfl,_,rfl,ps.getD i 0,kp,Ts.getD i [],qs,kept,rfl,s4 _ _ (hT.2 i hi),s4 _ _ hk1,hq1.same s4,by omega,λH5 s5=>⟨_,rfl,kk H5 s5⟩⟩
  ·intro i H4 Q' hi _ s4 kk
   exact⟨_,rfl,kk H4 (Same.refl _)⟩
  ·intro D H4 nD s4 hD
   have eT:(((List.range ps.length).filter λi=>keeps kept (Ts.getD i [])).map λi=>Ts.getD i [])=Ts.filter (keeps kept):=by
    rw[hT.1]
    exact Xa0 [] (keeps kept) Ts
   have tx:Tups H4 (((List.range ps.length).filter λi=>keeps kept (Ts.getD i [])).map λi=>ps.getD i 0) (Ts.filter (keeps kept)):=by
    rw[<-eT]
    exact Xq1 (hT.same s4) λi hi=>X0v.mp (Xzu.mp hi).1
   have hD':H4 D=some (.lst ((((List.range ps.length).filter λi=>keeps kept (Ts.getD i [])).map λi=>ps.getD i 0).map V.ref)):=by rw[hD,X0f];rfl
   have hle':(((List.range ps.length).filter λi=>keeps kept (Ts.getD i [])).map λi=>ps.getD i 0).length<=ps.length:=by
    rw[Xzk]
    exact X0c (X0i ..) (by rw[X0s];omega)
   generalize (((List.range ps.length).filter λi=>keeps kept (Ts.getD i [])).map λi=>ps.getD i 0)=us at hD' tx hle'
   have mem:∀S,S∈Ts.filter (keeps kept)↔isPlotB row S=true/\keeps kept S=true:=λS=>by rw[Xzu,hall]
   have gi:=Xm4 mem
   have isH:Xt5 row kept (Ts.filter (keeps kept)):=⟨mem,pw.filter _⟩
   have nD0:H D=none:=by
    cases e:H D with
    | none=>rfl
    | some o=>
     by_cases z:D=T
     ·rcases tab1 with q | ⟨_,q,_⟩<;>(rw[<-z,nD] at q;cases q)
     ·rw[bt _ _ e z] at nD;cases nD
   have tab4:=SH.Xa6.same tab1 s4
   have b4:But T H H4:=λb o e n=>s4 _ _ (bt _ _ e n)
   have bad:∀H5,Same H4 H5->¬Good row kept->Xxc (Xxb (Xt4 (tVar 1) Xxa)) [some (.ref r),some (.ref kp),some (.ref D)] H5 (λx H1=>[x].length<=sizeLine/\E (.ref B0) none H1):=λH5 s5 ng=>by
    refine⟨_,rfl,kp,qs,kept.map pr2,rfl,s5 _ _ (s4 _ _ hk1),(hq1.same s4).same s5,hql,λS hS=>?_,λz=>⟨by show 1<=sizeLine;decide,k2 ng H5 (SH.Xa6.same tab4 s5) λb o e n=>s5 _ _ (b4 _ _ e n)⟩⟩
    obtain⟨q,hq,rfl⟩:=Xz4.mp hS
    obtain⟨o1,o2,_,_⟩:=ko.ok q hq
    refine⟨by show 2<=3;decide,λz hz=>?_⟩
    rcases Xzw.mp hz with e | e
    ·rw[e];exact o1
    ·rw[Xzr.mp e];exact o2
   dsimp only[Xbv]
   refine⟨_,rfl,_,.inl ⟨_,SqL.of hD',rfl⟩,?_⟩
   by_cases e:Ts.filter (keeps kept)=[]
   ·have ep:us=[]:=X0g.mp (by rw[tx.1,e];rfl)
    subst ep
    exact iteT (bad H4 (Same.refl _) λg=>(gi.mp g).1 e)
   ·have np:(us.map V.ref).isEmpty=false:=by
     cases us with
     | nil=>exact absurd (X0g.mp tx.1.symm) e
     | cons _ _=>rfl
    rw[np]
    refine iteF ?_
    have hR4:=s4 _ _ (keep hR λz=>by simp)
    refine⟨_,rfl,_,rfl,r,D,row,us,_,rfl,hR4,R2,hD',tx,by omega,λG gs H5 nG hG hgs s5=>?_⟩
    have okS:=Xkn e R2.ok
    refine⟨_,rfl,.list ((Xbi row (Ts.filter (keeps kept))).map pr2 |>.map tupD),.list ((kept.map pr2).map tupD),Xdi hG hgs,Xdi (s5 _ _ (s4 _ _ hk1)) ((hq1.same s4).same s5),Xav _ (Xba okS),Xav _ (Xba ko.okL),Xdy _ _,_,rfl,?_⟩
    rw[Xe4 okS ko.okL]
    by_cases e2:Xbi row (Ts.filter (keeps kept))=kept
    ·rw[X3j (by rw[e2])]
     refine iteF ?_
     exact⟨_,rfl,k1 (gi.mpr ⟨e,e2⟩) D us _ H5 nD0 (s5 _ _ hD') (tx.same s5) isH (by omega) (SH.Xa6.same tab4 s5) λb o e n=>s5 _ _ (b4 _ _ e n)⟩
    ·rw[X3k (λz=>e2 (Xqv z))]
     exact iteT (bad H5 s5 λg=>e2 (gi.mp g).2)
theorem Xt8:FnScope NGa ["row", "kept", "plot"] (defScope s_gate):=⟨rfl,rfl,rfl,by decide +kernel,rfl,by decide +kernel,by decide +kernel⟩
theorem Xv1{f B0 C T:Addr}{fd:FuncData}(F:Fun K "gate" "gate" s_gate f fd)(B:Bl mg)(FH:Fn P w K mg base (CX1 P w) 6 "held" ["row", "kept"] (spHeld B0 T (lamPos s_in_order)))(FA:Fn P w K mg base (CX1 P w) 5 "ask_plot" ["row", "plot"] (Xg2 C))
  (FD:Fn P w K mg base CX0 1 "ditches" ["row"] spDitches) (FB:Fn P w K mg base CX0 1 "bank_of" ["plot", "name"] spBankOf):FnOk P w K mg base (CX1 P w) 7 f fd ["row", "kept", "plot"] (Xm6 B0 C T (lamPos s_in_order)):=by
 refine F.ok1 Xt8 (λvs H Q E h=>?_) (λcdv A outer s H vs Q E hr h=>?_)
 ·obtain⟨r,kp,p,row,kept,S,rfl,_⟩:=h
  rfl
 ·obtain⟨r,kp,p,row,kept,S,rfl,hA,hp,oS,lS,k1,k2,k3⟩:=h
  have hu:=Xep hr
  have hr1:Room 1 _:=hr.mono (by decide)
  have hr5:Room 5 _:=hr.mono (by decide)
  refine⟨_,Xad (Xea (Xao FH hr (by rfl) pass1 (Xaa (pv 0) (Xaa (pv 1) Xac))))
   (Xad (Xea (Xao FA hr5 (by rfl) pass1 (Xaa (pv 0) (Xaa (pv 2) Xac))))
   (Xad (Xam (i:=3) Xt8.nd rfl (Or.inr rfl) (Xau (Xhx rfl) (by rfl) B.dict (by rfl) (Xaa (pv 1) Xac)))
   (Xag (Xak (Xau Xb6 (by rfl) B.tuple (by rfl) (Xaa (Xcv (N:=NGa1) (cap:=[none,some 2,some 3]) (CompScope.of (defScope s_gate) NGa rfl rfl rfl (by decide +kernel)) rfl
    (Xa9 (Xao FD hr1 (by rfl) pass0 (Xaa (pv 0) Xac))) (λ_ _ _=>Xal (i:=0) (show NGa1.Nodup by decide +kernel) rfl (Or.inl rfl) (Or.inr rfl))
    (λ_ _ _=>Xbz (Xaj Xb3 (Xh5 hu (pv 2) (pv 0) (Xao (by exact FB) (by exact hr1) (by rfl) pass0 (Xaa (pv 1) (Xaa (pv 0) Xac))) ⟨rfl,rfl,rfl,rfl⟩) Xaq (nomark _))) (λ_ _ _=>pv 0)) Xac)))))),?_⟩
  refine⟨_,rfl,_,rfl,r,kp,row,kept,rfl,hA,λg D ps Ts H1 nD hD hT isH hle tab1 bt=>?_,k2⟩
  have R2:=hA.r2
  have hrl:=R2.len
  have hdl:=Xcu row
  have keep:∀{b:Addr} {o:HO},H b=some o->(∀z,o ≠ .tbl z)->H1 b=some o:=λe n=>bt _ _ e (Xa6.ne hA.tab e n)
  have hp1:=keep hp λz=>by simp
  have hR1:=keep hA.hr λz=>by simp
  refine⟨_,rfl,_,rfl,r,p,row,S,rfl,hR1,R2,hp1,oS,lS,λip H2 s2=>?_,λe H2 s2=>k3 g e H2 (SH.Xa6.same tab1 s2) λb o e n=>s2 _ _ (bt _ _ e n)⟩
  obtain⟨qs,hk,hq⟩:=hA.kp
  have hk2:=s2 _ _ (keep hk λz=>by simp)
  have hkl:qs.length=kept.length:=by
   have:=hq.1
   rwa [Xzk] at this
  have kl:=hA.ok.len
  refine⟨_,rfl,kp,qs,kvK kept,rfl,hk2,by unfold kvK;rw[Xzk];exact hkl,by unfold kvK;rw[Xzk];omega,λi hi=>?_,λd nd=>?_⟩
  ·have hi':i<kept.length:=by omega
   have e:=s2 _ _ (keep (hq.2 i hi) λz=>by simp)
   have e1:(kept.map pr2).getD i []=pr2 kept[i]:=by simp[List.getD,hi']
   have e2:(kvK kept).getD i dft0=((Sum.inr kept[i].1:Key),V.str kept[i].2):=by unfold kvK;simp[List.getD,hi']
   rw[e1] at e
   rw[e2]
   exact e
  have s3:Same H2 (upd H2 d (.dK (Xco (kvK kept)))):=(Same.refl H2).step nd
  have hd3:upd H2 d (.dK (Xco (kvK kept))) d=some (.dK (Xco (kvK kept))):=Xab
  dsimp only[Xbv]
  generalize upd H2 d (.dK (Xco (kvK kept)))=H3 at s3 hd3
  have s13:=s2.trans s3
  have b03:But T H H3:=λb o e n=>s13 _ _ (bt _ _ e n)
  have tab3:=SH.Xa6.same tab1 s13
  refine⟨_,rfl,r,row,rfl,s13 _ _ hR1,by omega,λl2 H4 nl2 hl2 s4=>?_⟩
  have s14:=s13.trans s4
  refine⟨l2,rfl,⟨_,SqL.of hl2⟩,?_⟩
  refine Xc1 (n:=(dit row).length) (by rw[X3g];omega) (λj=>.str ((dit row).getD j Str.empty)) (λj=>decide ((kept.lookup ((dit row).getD j Str.empty)).getD (bk S ((dit row).getD j Str.empty)) = "off")) (λj=>.str ((dit row).getD j Str.empty)) ?_ ?_ ?_ ?_ ?_
  ·intro j H5 hj s5
   have:=Xcd (K:=K) (SqL.of (s5 _ _ hl2)) (by rw[Xzk];exact hj)
   rw[Xaz V.str Str.empty (dit row) hj] at this
   exact this
  ·intro H5 s5
   have:=Xce (K:=K) (SqL.of (s5 _ _ hl2))
   rwa [Xzk] at this
  ·intro j H5 Q' hj s5 kk
   generalize (dit row).getD j Str.empty=x at kk
   have s35:=s4.trans s5
   have hd5:=s35 _ _ hd3
   refine⟨_,rfl,d,rfl,.inl ⟨_,.inl hd5⟩,_,rfl,_,rfl,_,rfl,p,S,x,rfl,s35 _ _ (s13 _ _ hp1),λH6 s6=>?_⟩
   refine⟨valV (Xco (kvK kept)) (Sum.inr x:Key),.inl ⟨_,_,.inl (s6 _ _ hd5),rfl,rfl⟩,?_⟩
   have e:((valV (Xco (kvK kept)) (Sum.inr x:Key)).getD (.str (if x∈S then Str.ofString "off" else Str.ofString "home"))) = .str ((kept.lookup x).getD (bk S x)):=by
    rw[Xkr kept g.nd x]
    cases kept.lookup x<;>rfl
   dsimp only
   rw[e]
   refine⟨rfl,_,rfl,?_⟩
   rw[Xb1]
   exact kk H6 s6
  ·intro j H5 Q' hj hk s5 kk
   exact⟨_,rfl,kk H5 (Same.refl _)⟩
  ·intro O H5 nO s5 hO
   have hO':H5 O=some (.lst ((Xbc row kept S).map V.str)):=by
    rw[hO]
    unfold Xbc
    rw[<-Xa0 Str.empty (λx=>decide ((kept.lookup x).getD (bk S x) = "off")) (dit row),X0f]
    rfl
   refine⟨O,_,rfl,.inl ⟨SqL.of hO',λt nt=>?_⟩⟩
   have s15:=s14.trans s5
   refine k1 g ip t _ ?_ Xab (SH.Xa6.same tab1 (s15.step nt)) λb o e n=>(s15.step nt) _ _ (bt _ _ e n)
   cases q:H t with
   | none=>rfl
   | some o=>
    by_cases z:t=T
    ·have t1:=SH.Xa6.same tab1 s15
     rcases t1 with t1 | ⟨_,t1,_⟩<;>(rw[<-z,nt] at t1;cases t1)
    ·rw[s15 _ _ (bt _ _ q z)] at nt;cases nt
theorem Xv2:FnScope ["_law_script"] ["_law_script"] (defScope sBegin):=⟨rfl,rfl,rfl,by decide +kernel,rfl,by decide +kernel,by decide +kernel⟩
theorem Xtc{f:Addr}{fd:FuncData}(F:Fun K "_law_begin" "_law_begin" sBegin f fd)(T:Bl mg):FnOk P w K mg base CX0 1 f fd ["_law_script"] (Xld K):=by
 refine F.ok Xv2 (λvs H Q E h=>?_) (λcdv A outer s H vs Q E hr h=>?_)
 ·obtain⟨a,ns,rfl,_⟩:=h
  rfl
 ·obtain⟨a,ns,rfl,hS,hl,k⟩:=h
  refine⟨_,Xag (Xak (Xbd (Xaa (Xau Xbt rfl T.list boot_list (Xaa (Xax Xbf (pv 0) Xa3 (Xa2 Xah)) Xac)) (Xaa Xah (Xaa Xah (Xaa Xah (Xaa Xah Xac))))))),?_⟩
  refine⟨_,rfl,_,rfl,a,_,rfl,hS,λp hp=>?_⟩
  have cut:cutV (ns.map V.int) none (some 63)=ns.map V.int:=by
   unfold cutV
   rw[HT.sIx_none,X25,show (some (63:Int))=some ((63:Nat):Int) from rfl,HT.sIx_nat]
   exact X1y (by rw[Xzk];omega)
  rw[cut]
  refine⟨p,_,rfl,.inl (SqL.of Xab),λq hq=>?_⟩
  refine⟨by show 5<=sizeLine;decide,λdr hdr=>?_⟩
  have npq:p≠q:=Xaf (o:=.lst (ns.map V.int)) Xab hq
  have nqd:q≠dr:=Xaf (o:=.lst (ns.map V.int)) Xab hdr
  have hqH:H q=none:=by rw[Xae npq.symm] at hq;exact hq
  have hpd:p≠dr:=Xaf (H:=upd (upd H p (.lst (ns.map V.int))) q (.lst (ns.map V.int))) (o:=.lst (ns.map V.int)) (by rw[Xae npq,Xab]) hdr
  have hdH:H dr=none:=by rw[Xae nqd.symm,Xae hpd.symm] at hdr;exact hdr
  refine k dr q _ hdH hqH ⟨⟨ns,0,0,1,0,Xab,by rw[Xae nqd,Xab],X0k _,hl,by decide,by decide⟩⟩ ((((Same.refl H).upd hp).upd hqH).upd hdH)
theorem Xri:FnScope NP ["_law_draw", "_law_many"] (defScope sPick):=⟨rfl,rfl,rfl,by decide +kernel,rfl,by decide +kernel,by decide +kernel⟩
theorem Xv3{f:Addr}{fd:FuncData}(F:Fun K "_law_pick" "_law_pick" sPick f fd)(T:Bl mg):FnOk P w K mg base CX0 1 f fd ["_law_draw", "_law_many"] Xtx:=by
 refine F.ok Xri (λvs H Q E h=>?_) (λcdv A outer s H vs Q E hr h=>?_)
 ·obtain⟨dr,sc,n,rfl,_⟩:=h
  rfl
 ·obtain⟨dr,sc,n,rfl,hn0,hn1,⟨ns,p,c,m,k,hd,hs,hp,hl,hm0,hm1⟩,kk⟩:=h
  have nds:dr≠sc:=by
   intro e
   subst e
   rw[hd] at hs
   cases ns with
   | nil=>cases hs
   | cons a r=>cases hs
  refine Xnv (fun σ' H'=>∃x y p c m, σ'=[some (.ref dr),some (.int n),x,y]/\H' dr=some (.lst [.ref sc,.int (p:Nat),.int c,.int m,.int k])/\p<=ns.length/\0<=m/\m<1000000007/\∀b o,H b=some o->b≠dr->H' b=some o) ?_ ?_
  ·-- the rest
   refine⟨_,Xad (Xbn (Xaj Xwr (Xa5 Xay (pv 0) Xah (λ_ _=>rfl)) (pv 1) (nomark _))
     (Xad (Xam (i:=3) Xri.nd rfl (Or.inl rfl) (Xat Xhj (Xa5 Xay (pv 0) Xah (λ_ _=>rfl)) (pv 1)))
     (Xad (Xej (Xat Xoo (Xa5 Xay (pv 0) Xah (λ_ _=>rfl)) (pv 1)) (Xgi (pv 0) Xah Xdc))
     (Xag (Xak (pv 3))))) Xar)
    (Xad (Xej (Xat Xb4 (Xa5 Xay (pv 0) Xah (λ_ _=>rfl)) Xah) (Xgi (pv 0) Xah Xdc))
    (Xad (Xej (Xat Xhj (Xat Xb4 (Xat Xb4 (Xat Xtn (Xa5 Xay (pv 0) Xah (λ_ _=>rfl)) Xah) (Xat Xtm Xah (Xa5 Xay (pv 0) Xah (λ_ _=>rfl)))) Xah) Xah) (Xgi (pv 0) Xah Xdc))
    (Xag (Xak (Xat Xhj (Xat Xoo (Xa5 Xay (pv 0) Xah (λ_ _=>rfl)) Xah) (pv 1)))))),?_⟩
   rintro σ' H' ⟨x,y,p,c,m,rfl,hd',hp',hm0',hm1',kp⟩
   refine⟨_,rfl,dr,_,_,_,rfl,rfl,SqL.of hd',rfl,_,rfl,_,_,rfl,rfl,_,rfl,?_⟩
   refine ite2b (λhc=>?_) (λhc=>?_)
   ·-- got
    refine⟨_,rfl,dr,_,_,_,rfl,rfl,SqL.of hd',rfl,_,rfl,_,_,rfl,rfl,hn0,?_⟩
    refine⟨_,rfl,dr,_,_,_,rfl,rfl,SqL.of hd',rfl,_,rfl,_,_,rfl,rfl,⟨hn0,by omega⟩,?_⟩
    refine⟨_,rfl,dr,_,_,2,rfl,rfl,hd',rfl,?_⟩
    refine⟨_,rfl,?_⟩
    refine kk _ _ (X2w _ (by omega)) (X2g _ hn0) ⟨⟨ns,p,c / n,m,k,Xab,?_,hp',hl,hm0',hm1'⟩⟩ λb o e hb=>by rw[Xae hb];exact kp b o e hb
    rw[Xae nds.symm]
    exact kp _ _ hs nds.symm
   ·refine⟨_,rfl,dr,_,_,_,rfl,rfl,SqL.of hd',rfl,_,_,rfl,rfl,?_⟩
    refine⟨_,rfl,dr,_,_,4,rfl,rfl,hd',rfl,?_⟩
    refine⟨_,rfl,dr,_,_,_,rfl,rfl,SqL.of Xab,rfl,_,_,rfl,rfl,cpow3 hm0' hm1',?_⟩
    refine⟨_,rfl,dr,_,_,_,rfl,rfl,SqL.of Xab,rfl,_,_,rfl,rfl,.inl ⟨by decide,by decide⟩,_,_,rfl,rfl,_,_,rfl,rfl,_,_,rfl,rfl,(by show (0:Int)<1000000007;decide),?_⟩
    refine⟨_,rfl,dr,_,_,3,rfl,rfl,Xab,rfl,?_⟩
    refine⟨_,rfl,dr,_,_,_,rfl,rfl,SqL.of Xab,rfl,_,_,rfl,rfl,⟨by decide,by decide⟩,_,rfl,_,_,rfl,rfl,hn0,?_⟩
    refine kk _ _ (X2w _ (by omega)) (X2g _ hn0) ⟨⟨ns,p,c,_,k+1,Xab,?_,hp',hl,X2w _ (by decide),X2g _ (by decide)⟩⟩ λb o e hb=>by rw[Xae hb,Xae hb];exact kp b o e hb
    rw[Xae nds.symm,Xae nds.symm]
    exact kp _ _ hs nds.symm
  ·intro nx hnx
   refine⟨_,Xbn (Xfu (Xaj Xfy (Xa5 Xay (pv 0) Xah (λ_ _=>rfl)) (pv 1) (nomark _)) (Xdn (Xaj Xfy (Xa5 Xay (pv 0) Xah (λ_ _=>rfl)) (Xan Xap (by rfl) T.len boot_len (Xaa (Xa5 Xay (pv 0) Xah (λ_ _=>rfl)) Xac)) (nomark _)))).pt
     (Xad (Xam (i:=2) Xri.nd rfl (Or.inl rfl) (Xa5 Xay (Xa5 Xay (pv 0) Xah (λ_ _=>rfl)) (Xa5 Xay (pv 0) Xah (λ_ _=>rfl)) (λ_ _=>rfl)))
     (Xad (Xej (Xat Xb4 (Xa5 Xay (pv 0) Xah (λ_ _=>rfl)) Xah) (Xgi (pv 0) Xah Xdc))
     (Xad (Xej Xah (Xgi (pv 0) Xah Xdc))
     (Xag (Xbn (Xaj Xwr (pv 2) (Xat Xtn Xah Xah) (nomark _))
      (Xag (Xej (pv 2) (Xgi (pv 0) Xah Xdc)))
      (Xag (Xej (Xat Xhj (Xat Xb4 (Xa5 Xay (pv 0) Xah (λ_ _=>rfl)) (pv 2)) Xah) (Xgi (pv 0) Xah Xdc)))))))) Xar,?_⟩
   refine⟨_,rfl,dr,_,_,_,rfl,rfl,SqL.of hd,rfl,_,rfl,_,_,rfl,rfl,_,rfl,?_⟩
   have skip:nx [some (.ref dr),some (.int n),none,none] H:=hnx _ _ ⟨none,none,p,c,m,rfl,hd,hp,hm0,hm1,λb o e _=>e⟩
   refine ite2b (λ_=>?_) (λ_=>iteF skip)
   refine⟨_,rfl,dr,_,_,_,rfl,rfl,SqL.of hd,rfl,_,rfl,dr,_,_,_,rfl,rfl,SqL.of hd,rfl,sc,_,rfl,.inl (SqL.of hs),_,_,rfl,rfl,_,rfl,?_⟩
   refine ite2b (λhlt=>?_) (λ_=>skip)
   have hlt':(p:Int)<((ns.map V.int).length:Nat):=X3l hlt
   rw[Xzk] at hlt'
   have hpl:p<ns.length:=by omega
   have hat:(ns.map V.int)[p]? = some (.int (ns[p]'hpl)):=by rw[Xz1,Xzl hpl];rfl
   refine⟨_,rfl,dr,_,_,_,rfl,rfl,SqL.of hd,rfl,_,rfl,dr,_,_,_,rfl,rfl,SqL.of hd,rfl,sc,_,_,_,rfl,rfl,SqL.of hs,Xdb hat,?_⟩
   refine⟨_,rfl,dr,_,_,_,rfl,rfl,SqL.of hd,rfl,_,_,rfl,rfl,?_⟩
   refine⟨_,rfl,dr,_,_,1,rfl,rfl,hd,rfl,?_⟩
   refine⟨_,rfl,dr,_,_,2,rfl,rfl,Xab,rfl,?_⟩
   refine⟨_,rfl,_,_,rfl,rfl,⟨by decide,by decide,by decide⟩,_,_,rfl,rfl,_,rfl,?_⟩
   refine ite2b (λ_=>?_) (λ_=>?_)
   ·refine⟨_,rfl,_,rfl,dr,_,_,2,rfl,rfl,Xab,rfl,?_⟩
    refine hnx _ _ ⟨_,none,p+1,_,m,rfl,Xab,hpl,hm0,hm1,λb o e hb=>by rw[Xae hb,Xae hb,Xae hb];exact e⟩
   ·refine⟨_,rfl,dr,_,_,_,rfl,rfl,SqL.of Xab,rfl,_,rfl,_,_,rfl,rfl,_,_,rfl,rfl,(by show (0:Int)<1000000007;decide),?_⟩
    refine⟨_,rfl,dr,_,_,3,rfl,rfl,Xab,rfl,?_⟩
    refine hnx _ _ ⟨_,none,p+1,_,_,rfl,Xab,hpl,X2w _ (by decide),X2g _ (by decide),λb o e hb=>by rw[Xae hb,Xae hb,Xae hb];exact e⟩
theorem Xyh:FnScope NPut ["_law_row_here", "_law_name", "_law_at", "_law_to"] (defScope sPut):=⟨rfl,rfl,rfl,by decide +kernel,rfl,by decide +kernel,by decide +kernel⟩
theorem Xyi{f:Addr}{fd:FuncData}(F:Fun K "_law_put" "_law_put" sPut f fd):FnOk P w K mg base CX0 1 f fd ["_law_row_here", "_law_name", "_law_at", "_law_to"] Xva:=by
 refine F.ok Xyh (λvs H Q E h=>?_) (λcdv A outer s H vs Q E hr h=>?_)
 ·obtain⟨r,row,x,a,b,rfl,_⟩:=h
  rfl
 ·obtain⟨r,row,x,a,b,rfl,hR,hl,hab,hb,k⟩:=h
  refine⟨_,Xad (Xam (i:=4) Xyh.nd rfl (Or.inl rfl) (Xat Xbj (Xat Xbj (Xax Xbf (pv 0) Xa3 (Xa2 (pv 2))) (Xbd (Xaa (pv 1) Xac))) (Xax Xbf (pv 0) (Xa2 (pv 2)) (Xa2 (pv 3)))))
   (Xag (Xak (Xat Xbj (Xat Xbj (pv 4) (Xbd (Xaa (pv 1) Xac))) (Xax Xbf (pv 0) (Xa2 (pv 3)) Xa3)))),?_⟩
  have h24:∀n,n<=100000->n<=sizeLine:=λn h=>by rw[X3g];omega
  refine⟨_,rfl,_,rfl,_,rfl,r,_,rfl,SqL.of hR,λp1 n1=>?_⟩
  rw[Xdu _ _ _ (by omega)]
  refine⟨_,rfl,by show 1<=sizeLine;decide,λp2 n2=>?_⟩
  refine⟨p1,p2,_,_,rfl,rfl,ku Xab n2,Xab,h24 _ (by simp;omega),λp3 n3=>?_⟩
  refine⟨_,rfl,_,rfl,_,rfl,_,rfl,_,rfl,r,_,rfl,SqL.of (ku (ku (ku hR n1) n2) n3),λp4 n4=>?_⟩
  rw[Xxh _ _ _ _ hab hb]
  refine⟨p3,p4,_,_,rfl,rfl,ku Xab n4,Xab,h24 _ (by simp;omega),λp5 n5=>?_⟩
  refine⟨_,rfl,_,rfl,by show 1<=sizeLine;decide,λp6 n6=>?_⟩
  refine⟨p5,p6,_,_,rfl,rfl,ku Xab n6,Xab,h24 _ (by simp;omega),λp7 n7=>?_⟩
  refine⟨_,rfl,_,rfl,_,rfl,r,_,rfl,SqL.of (ku (ku (ku (ku (ku (ku (ku hR n1) n2) n3) n4) n5) n6) n7),λp8 n8=>?_⟩
  rw[Xdv _ _ _ hb]
  refine⟨p7,p8,_,_,rfl,rfl,ku Xab n8,Xab,h24 _ (by simp;omega),λp9 n9=>?_⟩
  have s8:=((((((((Same.refl H).go n1 n2).go n2 n3).go n3 n4).go n4 n5).go n5 n6).go n6 n7).go n7 n8).go n8 n9
  refine k p9 _ (s8.free n9) (Xab.trans ?_) (s8.step n9)
  unfold putR
  simp
theorem Xl1:FnScope NWh ["_law_row_here"] (defScope sWhere):=⟨rfl,rfl,rfl,by decide +kernel,rfl,by decide +kernel,by decide +kernel⟩
theorem Xtd{f:Addr}{fd:FuncData}(F:Fun K "_law_where" "_law_where" sWhere f fd)(T:Bl mg):FnOk P w K mg base CX0 1 f fd ["_law_row_here"] Xik:=by
 refine F.ok Xl1 (λvs H Q E h=>?_) (λcdv A outer s H vs Q E hr h=>?_)
 ·obtain⟨r,row,rfl,_⟩:=h
  rfl
 ·obtain⟨r,row,rfl,hR,hl,k⟩:=h
  have hu:=Xep hr
  refine⟨_,Xad (Xam (i:=1) Xl1.nd rfl (Or.inl rfl) Xrw)
   (Xad (Xdk PassesOwn.never rfl (Xdo rfl T.range (Xaa (Xan Xap (by rfl) T.len boot_len (Xaa (pv 0) Xac)) Xac)) (Xal (i:=2) Xl1.nd rfl (Or.inl rfl))
    (Xag (Xur hu (pv 1) (Xa5 Xay (pv 0) (pv 2) (λ_ _=>rfl))
     (Xat Xbj (Xh5 hu (pv 1) (Xa5 Xay (pv 0) (pv 2) (λ_ _=>rfl)) (Xbd Xac) ⟨rfl,rfl,rfl,rfl⟩) (Xbd (Xaa (pv 2) Xac))) rfl)))
   (Xag (Xak (pv 1)))),?_⟩
  intro d nd
  have s0:Same H (upd H d (.dK [])):=(Same.refl H).step nd
  refine⟨_,rfl,r,_,rfl,.inl (SqL.of (s0 _ _ hR)),((row.map V.str).length:Int),rfl,by omega,by rw[Xzk];omega,?_⟩
  have hn:((row.map V.str).length:Int).toNat=row.length:=by rw[Xzk];simp
  rw[hn]
  refine Xek (lo:=0) (n:=row.length) (λi σ H2=>∃kvs v, σ=[some (.ref r),some (.ref d),v]/\Same H H2/\H2 d=some (.dK kvs)/\Wh H2 kvs (row.take i)) ?_ ?_ ?_
  ·exact⟨[],none,rfl,s0,Xab,⟨λk hk=>by simp at hk,λx hx=>by simp at hx,λ_ _=>rfl,by simp,by simp⟩⟩
  ·rintro i σ H2 hi ⟨kvs,v,rfl,s2,hd,wh⟩
   have hat:(row.map V.str)[i]? = some (.str (row[i]'hi)):=by rw[Xz1,Xzl hi];rfl
   have hat':atI (row.map V.str) (0+(i:Int))=some (.str (row[i]'hi)):=by rw[Int.zero_add];exact Xdb hat
   have tk:row.take (i+1)=row.take i++[row[i]'hi]:=by rw[Xzy hi]
   have kl:=wh.len
   rw[Xz6] at kl
   have ll:(plc (row.take i) (row[i]'hi)).length<=1000:=by
    rw[Xle]
    have:=List.count_le_length (a:=row[i]'hi) (l:=row.take i)
    rw[Xz6] at this
    omega
   have h24:∀n,n<=100000->n<=sizeLine:=λn h=>by rw[X3g];omega
   refine⟨_,rfl,d,rfl,.inl ⟨kvs,.inl hd⟩,_,rfl,_,rfl,r,_,_,_,rfl,rfl,SqL.of (s2 _ _ hR),hat',by show 0<=sizeLine;decide,λp1 n1=>?_⟩
   refine⟨_,DGet.k (k:=Sum.inr (row[i]'hi)) (ku hd n1),?_⟩
   obtain⟨q,xs,e1,hq,hxs⟩:∃q xs,(valV kvs (Sum.inr (row[i]'hi):Key)).getD (V.ref p1)=V.ref q/\upd H2 p1 (.lst []) q=some (.lst (xs.map V.int))/\plc (row.take i) (row[i]'hi)=xs:=by
    by_cases hx:row[i]'hi∈row.take i
    ·obtain⟨l,e1,e2⟩:=wh.val _ hx
     exact⟨l,_,by rw[e1];rfl,ku e2 n1,rfl⟩
    ·refine⟨p1,[],by rw[wh.none _ hx];rfl,Xab,?_⟩
     have:(plc (row.take i) (row[i]'hi)).length=0:=by rw[Xle];exact X10.mpr hx
     exact X0g.mp this
   have hlx:xs.length<=1000:=by rw[<-hxs];exact ll
   rw[e1]
   refine⟨_,rfl,by show 1<=sizeLine;decide,λp2 n2=>?_⟩
   refine⟨q,p2,_,_,rfl,rfl,ku hq n2,Xab,h24 _ (by simp;omega),λp3 n3=>?_⟩
   refine⟨_,rfl,_,rfl,_,rfl,r,_,_,_,rfl,rfl,SqL.of (ku (ku (ku (s2 _ _ hR) n1) n2) n3),hat',?_⟩
   have hd2:=ku (u:=.lst [V.int (0+(i:Int))]) (ku (u:=.lst []) hd n1) n2
   have hd3:=ku (u:=.lst (xs.map V.int++[V.int (0+(i:Int))])) hd2 n3
   refine⟨d,_,rfl,DPut.k (k:=Sum.inr (row[i]'hi)) hd3 (by rw[X3g];omega),_,_,rfl,?_,Xab,?_⟩
   ·have s3:=((s2.go n1 n2).go n2 n3).step (o:=.lst (xs.map V.int++[V.int (0+(i:Int))])) n3
    exact s3.upd nd
   ·rw[tk]
    refine wh.snoc _ p3 ?_ λb ys e=>?_
    ·have ne:p3≠d:=(Xaf hd2 n3).symm
     rw[Xae ne,Xab,Xij,X3i rfl,hxs,Xzq,Xz6,X15 (X2e hi)]
     simp
    ·have ne:b≠d:=λz=>by rw[z,hd] at e;cases e
     rw[Xae ne]
     exact ku (ku (ku e n1) n2) n3
  ·rintro σ H2 ⟨kvs,v,rfl,s2,hd,wh⟩
   rw[X0j] at wh
   exact⟨_,rfl,k d kvs H2 nd hd wh s2⟩
theorem Xnc:FnScope NWo ["_law_where_here", "_law_one_here", "_law_other"] (defScope sWord):=⟨rfl,rfl,rfl,by decide +kernel,rfl,by decide +kernel,by decide +kernel⟩
theorem Xv4{f:Addr}{fd:FuncData}(F:Fun K "_law_word" "_law_word" sWord f fd)(T:Bl mg):FnOk P w K mg base CX0 1 f fd ["_law_where_here", "_law_one_here", "_law_other"] spWord:=by
 refine F.ok Xnc (λvs H Q E h=>?_) (λcdv A outer s H vs Q E hr h=>?_)
 ·obtain⟨d,l1,l2,kvs,x,y,a,b,c,e,rfl,_⟩:=h
  rfl
 ·obtain⟨d,l1,l2,kvs,x,y,a,b,c,e,rfl,hd,v1,v2,h1,h2,k⟩:=h
  have hu:=Xep hr
  refine⟨_,Xad (Xej (Xbw hu (pv 0) (pv 1) (λ_ _=>rfl)) (Xuv rfl (Xbe (Xal (i:=3) Xnc.nd rfl (Or.inr rfl)) (Xbe (Xal (i:=4) Xnc.nd rfl (Or.inr rfl)) Xeb))))
   (Xad (Xfk (i:=5) (N:=["_law_at", "_law_high", "_law_low"]) (cap:=[none,some 4,some 3]) (CompScope.of (defScope sWord) NWo rfl rfl rfl (by decide +kernel)) rfl Xnc.nd rfl rfl
     (Xa9 (Xbw hu (pv 0) (pv 2) (λ_ _=>rfl))) (λ_ _ _=>Xal (i:=0) (show (["_law_at", "_law_high", "_law_low"]:List Str).Nodup by decide +kernel) rfl (Or.inl rfl) (Or.inr rfl))
     (λ_ _ _=>Xbz (Xfu (Xaj Xfy (pv 2) (pv 0) (nomark _)) (Xdn (Xaj Xfy (pv 0) (pv 1) (nomark _)))).pt) (λ_ _ _=>pv 0))
   (Xad (Xbn (Xh2 (Xaj Xb3 (pv 1) (pv 2) (nomark _)) (Xgh (Xaj Xyw (Xan Xap (by rfl) T.len boot_len (Xaa (pv 5) Xac)) Xah (nomark _)))).pt
    (Xag (Xak (Xa5 Xl8 (Xbq (Xaa Xaq (Xaa Xaq (Xaa Xaq Xac)))) (Xan Xap (by rfl) T.len boot_len (Xaa (pv 5) Xac)) (λ_ _=>rfl)))) Xar)
   (Xag (Xak (Xei (Xfu (Xaj Xfy (Xa5 Xay (Xbw hu (pv 0) (pv 2) (λ_ _=>rfl)) Xah (λ_ _=>rfl)) (pv 3) (nomark _)) (Xdn (Xaj Xfy (pv 4) (Xa5 Xay (Xbw hu (pv 0) (pv 2) (λ_ _=>rfl)) Xah (λ_ _=>rfl)) (nomark _)))).pt Xaq Xaq))))),?_⟩
  refine⟨_,rfl,_,rfl,d,_,rfl,DGet.rd hd v1,l1,_,rfl,SqL.of h1,rfl,?_⟩
  refine⟨_,_,rfl,_,_,rfl,rfl,?_⟩
  refine⟨_,rfl,_,rfl,d,_,rfl,DGet.rd hd v2,l2,rfl,⟨_,SqL.of h2⟩,?_⟩
  refine Xk4 (n:=2) (λi=>([V.int c,V.int e]:List V).getD i .non) (λD i σ2 H2=>∃v, σ2=[v,some (.int b),some (.int a)]/\Same H H2/\H2 D=some (.lst ((inn a b (([c,e]:List Int).take i)).map V.int))) ?_ ?_ ?_ ?_ ?_
  ·intro D hD
   exact⟨none,rfl,(Same.refl H).step hD,Xab⟩
  ·rintro D i σ2 H2 hD hi ⟨v,rfl,s2,hl⟩
   exact Xcd (SqL.of (s2 _ _ h2)) hi
  ·rintro D σ2 H2 hD ⟨v,rfl,s2,hl⟩
   exact Xce (SqL.of (s2 _ _ h2))
  ·rintro D i σ2 H2 hD hi ⟨v,rfl,s2,hl⟩
   obtain⟨t,ht1,ht2⟩:∃t,([V.int c,V.int e]:List V).getD i .non = .int t/\([c,e]:List Int).take (i+1)=([c,e]:List Int).take i++[t]:=by
    match i,hi with
    | 0,_=>exact⟨c,rfl,rfl⟩
    | 1,_=>exact⟨e,rfl,rfl⟩
   rw[ht1]
   have hil:(inn a b (([c,e]:List Int).take i)).length<=2:=X0c (Xpy ..) (by rw[Xz6];simp;omega)
   refine⟨_,rfl,_,rfl,_,_,rfl,rfl,_,rfl,?_⟩
   refine ite2b (λq1=>?_) (λq1=>iteF (wskip hi ⟨_,rfl,s2,?_⟩))
   ·refine⟨_,rfl,_,rfl,_,_,rfl,rfl,_,rfl,?_⟩
    refine ite2b (λq2=>?_) (λq2=>wskip hi ⟨_,rfl,s2,?_⟩)
    ·refine⟨_,rfl,wput hi hl (by rw[Xzk,X3g];omega) ⟨_,rfl,?_,?_⟩⟩
     ·intro b' o e'
      rw[Xae (Xaf e' hD)]
      exact s2 b' o e'
     ·rw[Xab,ht2]
      unfold inn
      rw[Xz7,Xzq,X0l,X3i (by rw[q1,q2];rfl)]
      rfl
    ·rw[hl,ht2]
     unfold inn
     rw[Xz7,X0l,X3h (by rw[q1,q2];decide)]
     simp
   ·rw[hl,ht2]
    unfold inn
    rw[Xz7,X0l,X3h (by rw[q1];simp)]
    simp
  ·rintro D σ2 H2 hD ⟨v,rfl,s2,hl⟩
   have hl':H2 D=some (.lst ((inn a b [c,e]).map V.int)):=hl
   have hil:(inn a b [c,e]).length<=2:=Xpy ..
   have three:∀p,H2 p=none->atI ([V.str "same",V.str "cross",V.str "around"]:List V) (((inn a b [c,e]).map V.int).length:Int)=some (.str (words3.getD (inn a b [c,e]).length "apart")):=λp _=>by
    rw[Xzk]
    generalize (inn a b [c,e]).length=n at hil
    match n,hil with
    | 0,_=>rfl
    | 1,_=>rfl
    | 2,_=>rfl
   have ret3:(decide (x=y)||decide (0<(inn a b [c,e]).length))=true->∀p,H2 p=none->∀H',Same H H'->Q (.str (words3.getD (inn a b [c,e]).length "apart")) H':=λhc p _ H' s'=>by
    have:=k H' s'
    unfold Xhg at this
    rw[X3i hc] at this
    exact this
   refine⟨_,rfl,_,rfl,rfl,_,rfl,?_⟩
   refine ite2b (λq1=>?_) (λq1=>?_)
   ·refine iteT ⟨by show 3<=sizeLine;decide,λp hp=>?_⟩
    refine⟨_,rfl,D,_,rfl,.inl (SqL.of (ku hl' hp)),p,_,_,_,rfl,rfl,SqT.of Xab,three p hp,?_⟩
    refine ret3 ?_ p hp _ (s2.step hp)
    have q1':decide (x=y)=true:=by
     have:=X3l q1
     injection this with this
     exact X3j this
    rw[q1']
    rfl
   ·refine⟨_,rfl,D,_,rfl,.inl (SqL.of hl'),_,_,rfl,rfl,_,rfl,?_⟩
    have q1':decide (x=y)=false:=by
     have:=X3m q1
     exact X3k λz=>this (by rw[z])
    refine ite2b (λq2=>?_) (λq2=>?_)
    ·have q2':0<(inn a b [c,e]).length:=by
      have:=X3l q2
      rw[Xzk] at this
      omega
     refine⟨by show 3<=sizeLine;decide,λp hp=>?_⟩
     refine⟨_,rfl,D,_,rfl,.inl (SqL.of (ku hl' hp)),p,_,_,_,rfl,rfl,SqT.of Xab,three p hp,?_⟩
     exact ret3 (by rw[X3j q2',X3d]) p hp _ (s2.step hp)
    ·have q2':¬ 0<(inn a b [c,e]).length:=by
      have:=X3m q2
      rw[Xzk] at this
      omega
     have last:∀z:Str,(if c<a/\b<e then ("within" : Str) else "apart")=z->Q (.str z) H2:=λz hz=>by
      have:=k H2 s2
      unfold Xhg at this
      rw[X3h (by rw[q1',X3k q2'];decide),hz] at this
      exact this
     refine⟨_,rfl,_,rfl,d,_,rfl,DGet.rd (Rd.same hd s2) v2,l2,_,_,_,rfl,rfl,SqL.of (s2 _ _ h2),rfl,_,rfl,_,_,rfl,rfl,_,rfl,?_⟩
     refine ite2b (λq3=>?_) (λq3=>?_)
     ·refine⟨_,rfl,_,rfl,_,rfl,d,_,rfl,DGet.rd (Rd.same hd s2) v2,l2,_,_,_,rfl,rfl,SqL.of (s2 _ _ h2),rfl,_,_,rfl,rfl,_,rfl,?_⟩
      refine ite2b (λq4=>?_) (λq4=>?_)
      ·exact last _ (X3i ⟨X3l q3,X3l q4⟩)
      ·exact last _ (X3h λz=>X3m q4 z.2)
     ·exact iteF (last _ (X3h λz=>X3m q3 z.1))
theorem Xe9:FnScope NBa ["_law_row_here", "_law_name"] (defScope sBarred):=⟨rfl,rfl,rfl,by decide +kernel,rfl,by decide +kernel,by decide +kernel⟩
theorem Xrj{f:Addr}{fd:FuncData}(F:Fun K "_law_barred" "_law_barred" sBarred f fd)(T:Bl mg)(FW:Fn P w K mg base CX0 1 "_law_where" ["_law_row_here"] Xik)
  (FO:Fn P w K mg base CX0 1 "_law_word" ["_law_where_here", "_law_one_here", "_law_other"] spWord):FnOk P w K mg base CX0 2 f fd ["_law_row_here", "_law_name"] spBarredN:=by
 refine F.ok Xe9 (λvs H Q E h=>?_) (λcdv A outer s H vs Q E hr h=>?_)
 ·obtain⟨r,row,x,rfl,_⟩:=h
  rfl
 ·obtain⟨r,row,x,rfl,hR,hl,h2,hx,k⟩:=h
  have hu:=Xep hr
  refine⟨_,Xad (Xam (i:=2) Xe9.nd rfl (Or.inr rfl) (Xao FW hr rfl pass0 (Xaa (pv 0) Xac)))
   (Xad (Xfk (i:=3) (N:=NBc) (cap:=[none,some 1,some 2]) (CompScope.of (defScope sBarred) NBa rfl rfl rfl (by decide +kernel)) rfl Xe9.nd rfl rfl
     (Xux (pv 2)) (λ_ _ _=>Xal (i:=0) (show NBc.Nodup by decide +kernel) rfl (Or.inl rfl) (Or.inr rfl))
     (λ_ _ _=>Xbz (Xaj Xb3 (Xao FO hr rfl pass0 (Xaa (pv 2) (Xaa (pv 1) (Xaa (pv 0) Xac)))) Xaq (nomark _))) (λ_ _ _=>pv 0))
   (Xad (Xdk PassesOwn.never rfl (Xdo rfl T.range (Xaa (Xan Xap (by rfl) T.len boot_len (Xaa (pv 3) Xac)) Xac)) (Xal (i:=4) Xe9.nd rfl (Or.inl rfl))
    (Xag (Xdk PassesOwn.never rfl (Xa9 (Xax Xbf (pv 3) (Xa2 (Xat Xb4 (pv 4) Xah)) Xa3)) (Xal (i:=5) Xe9.nd rfl (Or.inl rfl))
     (Xag (Xbn (Xaj Xb3 (Xao FO hr rfl pass0 (Xaa (pv 2) (Xaa (Xa5 Xay (pv 3) (pv 4) (λ_ _=>rfl)) (Xaa (pv 5) Xac)))) Xaq (nomark _)) (Xag (Xak Xhe)) Xar)))))
   (Xag (Xak Xhe)))),?_⟩
  refine⟨_,rfl,r,row,rfl,hR,hl,λd kvs H1 nd hd wh s1=>?_⟩
  refine⟨_,rfl,d,kvs,rfl,hd,λo=>?_⟩
  generalize hH2:upd H1 d (.frz o (.dK kvs))=H2
  have s2:Same H H2:=λb u e=>by rw[<-hH2,Xae (Xaf e nd)];exact s1 b u e
  have hd2:H2 d=some (.frz o (.dK kvs)):=by rw[<-hH2];exact Xab
  have wh2:Wh H2 kvs row:=⟨wh.keys,λy hy=>let ⟨l,e1,e2⟩:=wh.val y hy; ⟨l,e1,by rw[<-hH2,Xae (λz=>by rw[z,hd] at e2;cases e2)];exact e2⟩,wh.none,wh.nd,wh.len⟩
  have hkl:=wh.len
  refine Xk4 (n:=kvs.length) (λi=>(kvs.map λp=>kV p.1).getD i .non) (λD i σ2 H3=>∃(v:Option V) (ms:List Str), σ2=[v,some (.str x),some (.ref d)]/\Same H2 H3/\H3 D=some (.lst (ms.map V.str))/\(∀m∈ms,m∈row)/\ms.length<=i/\∀(j:Nat) (y:Str),j<i->(kvs.map λp=>kV p.1).getD j .non = .str y->Xa1 row x y->y∈ms) ?_ ?_ ?_ ?_ ?_
  ·intro D hD
   exact⟨none,[],rfl,(Same.refl H2).step hD,Xab,by simp,Xzn _,λj y h=>absurd h (X1e _)⟩
  ·rintro D i σ2 H3 hD hi ⟨v,ms,rfl,s3,hm,hin,hml,hall⟩
   exact Xfe (s3 _ _ hd2) hi
  ·rintro D σ2 H3 hD ⟨v,ms,rfl,s3,hm,hin,hml,hall⟩
   exact Xff (s3 _ _ hd2)
  ·rintro D i σ2 H3 hD hi ⟨v,ms,rfl,s3,hm,hin,hml,hall⟩
   obtain⟨y,hy1,hy2⟩:∃y,(kvs.map λp=>kV p.1).getD i .non = .str y/\y∈row:=by
    obtain⟨y,e1,e2⟩:=wh.keys (kvs[i]'hi).1 (Xz4.mpr ⟨kvs[i]'hi,X0b hi,rfl⟩)
    refine⟨y,?_,e2⟩
    simp only[List.getD,Xz1,Xzl hi,X1l,Option.getD_some]
    rw[e1]
    rfl
   rw[hy1]
   obtain⟨l1,e1,g1⟩:=wh2.pl hx (h2 x hx)
   obtain⟨l2,e2,g2⟩:=wh2.pl hy2 (h2 y hy2)
   refine⟨_,rfl,_,rfl,_,rfl,d,l1,l2,kvs,x,y,_,_,_,_,rfl,.inr ⟨o,s3 _ _ hd2⟩,e1,e2,s3 _ _ g1,s3 _ _ g2,λH4 s4=>?_⟩
   have s24:=s3.trans s4
   refine⟨rfl,_,rfl,?_⟩
   rw[<-Xc8 (h2 x hx) (h2 y hy2)]
   refine ite2b (λhc=>?_) (λhc=>wskip hi ⟨_,ms,rfl,s24,s4 _ _ hm,hin,by omega,λj z hj hz kz=>?_⟩)
   rotate_left
   ·by_cases ej:j=i
    ·subst ej
     rw[hy1] at hz
     injection hz with hz
     subst hz
     exact absurd (by rw[show lieR row x y = "cross" from kz]) (Xkd hc)
    ·exact hall j z (by omega) hz kz
   refine⟨_,rfl,wput hi (s4 _ _ hm) (by rw[Xzk,X3g];omega) ⟨_,ms++[y],rfl,?_,by rw[Xab,Xzq];rfl,?_,by rw[Xzt,X0o];omega,λj z hj hz kz=>?_⟩⟩
   ·intro b u e
    rw[Xae (Xaf e hD)]
    exact s24 b u e
   ·intro m hm
    rcases Xzv.mp hm with z | z
    ·exact hin m z
    ·rw[Xzr.mp z];exact hy2
   ·by_cases ej:j=i
    ·subst ej
     rw[hy1] at hz
     injection hz with hz
     subst hz
     simp
    ·exact X0z _ (hall j z (by omega) hz kz)
  ·rintro D σ2 H3 hD ⟨v,ms,rfl,s3,hm,hin,hml,hall⟩
   refine⟨_,rfl,D,_,rfl,.inl (SqL.of hm),((ms.map V.str).length:Int),rfl,by omega,by rw[Xzk];omega,?_⟩
   have hn:((ms.map V.str).length:Int).toNat=ms.length:=by rw[Xzk];simp
   rw[hn]
   refine Xek (lo:=0) (n:=ms.length) (λi σ H4=>∃v1 v2, σ=[some (.ref r),some (.str x),some (.ref d),some (.ref D),v1,v2]/\Same H3 H4/\∀(p q:Nat) (y z:Str),p<i->p<q->ms[p]? = some y->ms[q]? = some z->¬Xa1 row y z) ?_ ?_ ?_
   ·exact⟨none,none,rfl,Same.refl _,λp q y z h=>absurd h (X1e _)⟩
   ·rintro i σ H4 hi ⟨v1,v2,rfl,s4,ho⟩
    refine⟨_,rfl,_,rfl,_,_,rfl,rfl,_,rfl,D,_,rfl,SqL.of (s4 _ _ hm),λp np=>?_⟩
    have e0:(0:Int)+(i:Int)+1=((i+1:Nat):Int):=by omega
    rw[e0,Xdv _ _ _ (by omega)]
    have s5:Same H3 (upd H4 p (.lst ((ms.drop (i+1)).map V.str))):=s4.step np
    refine⟨p,rfl,⟨_,SqL.of Xab⟩,?_⟩
    refine Xcy (K:=K) (a:=p) (xs:=(ms.drop (i+1)).map V.str) (λj σ H5=>∃v2, σ=[some (.ref r),some (.str x),some (.ref d),some (.ref D),some (.int (0+(i:Int))),v2]/\Same (upd H4 p (.lst ((ms.drop (i+1)).map V.str))) H5/\∀(q:Nat) (z:Str),q<j->ms[i+1+q]? = some z->¬Xa1 row (ms[i]'hi) z) ?_ ?_ ?_ ?_
    ·exact⟨_,rfl,Same.refl _,λq z h=>absurd h (X1e _)⟩
    ·rintro j σ H5 _ ⟨v2,rfl,s6,hi2⟩
     exact SqL.of (s6 _ _ Xab)
    ·rintro j y σ H5 hj ⟨v2,rfl,s6,hi2⟩
     obtain⟨z,rfl,hz,hzj⟩:∃z,y=V.str z/\z∈ms/\ms[i+1+j]? = some z:=by
      rw[Xz1] at hj
      cases q:(ms.drop (i+1))[j]? with
      | none=>rw[q] at hj;cases hj
      | some z=>
       rw[q] at hj
       exact⟨z,(Xzx hj).symm,X1h (X19 q),by rw[<-q,X23]⟩
     have s36:=s5.trans s6
     have hat:(ms.map V.str)[i]? = some (.str (ms[i]'hi)):=by rw[Xz1,Xzl hi];rfl
     have hat':atI (ms.map V.str) (0+(i:Int))=some (.str (ms[i]'hi)):=by rw[Int.zero_add];exact Xdb hat
     obtain⟨l1,e1,g1⟩:=wh2.pl (hin _ (X0b hi)) (h2 _ (hin _ (X0b hi)))
     obtain⟨l2,e2,g2⟩:=wh2.pl (hin _ hz) (h2 _ (hin _ hz))
     have s26:=s3.trans s36
     refine⟨_,rfl,_,rfl,_,rfl,D,_,_,_,rfl,rfl,SqL.of (s36 _ _ hm),hat',_,rfl,d,l1,l2,kvs,_,z,_,_,_,_,rfl,.inr ⟨o,s26 _ _ hd2⟩,e1,e2,s26 _ _ g1,s26 _ _ g2,λH6 s7=>?_⟩
     refine⟨rfl,_,rfl,?_⟩
     rw[<-Xc8 (h2 _ (hin _ (X0b hi))) (h2 _ (hin _ hz))]
     refine ite2b (λ_=>?_) (λhc=>?_)
     ·exact k true H6 (λe=>by cases e) ((s2.trans s3).trans (s36.trans s7))
     ·refine⟨_,rfl,s6.trans s7,λq u hq hu=>?_⟩
      by_cases eq:q=j
      ·subst eq
       rw[hzj] at hu
       have hu:=Xzx hu
       subst hu
       exact λkz=>absurd (by rw[show lieR row (ms[i]'hi) z = "cross" from kz]) (Xkd hc)
      ·exact hi2 q u (by omega) hu
    ·rintro σ H5 ⟨v2,rfl,s6,hi2⟩
     refine⟨_,_,rfl,s5.trans s6,λp q y z hp hpq hy hz=>?_⟩
     by_cases ep:p=i
     ·subst ep
      rw[Xzl hi] at hy
      rw[<-Xzx hy]
      refine hi2 (q - (p+1)) z ?_ (by rw[show p+1+(q - (p+1))=q by omega];exact hz)
      have:=(Xz2.mp hz).1
      rw[Xzk,X05]
      omega
     ·exact ho p q y z (by omega) hpq hy hz
   ·rintro σ H4 ⟨v1,v2,rfl,s4,ho⟩
    refine k false H4 (λ_ y hy z hz k1 k2 k3=>?_) ((s2.trans s3).trans s4)
    have mem:∀u∈row,Xa1 row x u->u∈ms:=λu hu ku=>by
     obtain⟨l,e,_⟩:=wh.val u hu
     obtain⟨j,hj,ej⟩:=X0r.mp (Xfa e)
     rw[Xzk] at hj
     refine hall j u hj ?_ ku
     rw[X1p] at ej
     simp only[List.getD,Xz1,Xzl hj,X1l,Option.getD_some]
     rw[ej]
     rfl
    obtain⟨p,hp,ep⟩:=X0r.mp (mem y hy k1)
    obtain⟨q,hq,eq⟩:=X0r.mp (mem z hz k2)
    have ep':ms[p]? = some y:=by rw[Xzl hp,ep]
    have eq':ms[q]? = some z:=by rw[Xzl hq,eq]
    rcases Nat.lt_trichotomy p q with h | h | h
    ·exact ho p q y z hp h ep' eq' k3
    ·subst h
     rw[ep'] at eq'
     have e:=Xzx eq'
     subst e
     exact Xcn (h2 y hy) k3
    ·exact ho q p z y hq h eq' ep' (Xbk (h2 y hy) (h2 z hz) k3)
theorem Xix:FnScope NRo ["_law_draw", "_law_names_here"] (defScope sRow):=⟨rfl,rfl,rfl,by decide +kernel,rfl,by decide +kernel,by decide +kernel⟩
theorem Xyj{f:Addr}{fd:FuncData}(F:Fun K "_law_row" "_law_row" sRow f fd)(T:Bl mg)(FP:FnPick P w K mg base)(FPut:Fn P w K mg base CX0 1 "_law_put" ["_law_row_here", "_law_name", "_law_at", "_law_to"] Xva)
  (FB:Fn P w K mg base CX0 2 "_law_barred" ["_law_row_here", "_law_name"] spBarredN):FnOk P w K mg base CX0 3 f fd ["_law_draw", "_law_names_here"] spRowN:=by
 refine F.ok Xix (λvs H Q E h=>?_) (λcdv A outer s H vs Q E hr h=>?_)
 ·obtain⟨dr,sc,nl,ns,rfl,_⟩:=h
  rfl
 ·obtain⟨dr,sc,nl,ns,rfl,dk,hN,nnd,hnd,hnl,k⟩:=h
  have hr1:Room 1 _:=hr.mono (by decide)
  have h24:∀m,m<=100000->m<=sizeLine:=λm h=>by rw[X3g];omega
  refine⟨_,Xad (Xbn (Xaj Xb3 (Xao FP hr1 rfl pass0 (Xaa (pv 0) (Xaa Xah Xac))) Xah (nomark _))
    (Xad (Xam (i:=2) Xix.nd rfl (Or.inl rfl) (Xao FP hr1 rfl pass0 (Xaa (pv 0) (Xaa (Xat Xb4 (Xan Xap (by rfl) T.len boot_len (Xaa (pv 1) Xac)) Xah) Xac))))
    (Xag (Xak (Xat Xbj (Xat Xbj (pv 1) (Xo8 (Xax Xbf (pv 1) Xa3 (Xa2 (pv 2))))) (Xo8 (Xax Xbf (pv 1) (Xa2 (pv 2)) Xa3)))))) Xar)
   (Xad (Xam (i:=3) Xix.nd rfl (Or.inl rfl) (Xbd Xac))
   (Xad (Xdk PassesOwn.never rfl (Xa9 (pv 1)) (Xal (i:=4) Xix.nd rfl (Or.inl rfl))
    (Xad (Xam (i:=5) Xix.nd rfl (Or.inl rfl) (Xao FP hr1 rfl pass0 (Xaa (pv 0) (Xaa (Xat Xb4 (Xan Xap (by rfl) T.len boot_len (Xaa (pv 3) Xac)) Xah) Xac))))
    (Xad (Xam (i:=6) Xix.nd rfl (Or.inl rfl) (Xat Xb4 (pv 5) (Xao FP hr1 rfl pass0 (Xaa (pv 0) (Xaa (Xat Xwq (Xat Xb4 (Xan Xap (by rfl) T.len boot_len (Xaa (pv 3) Xac)) Xah) (pv 5)) Xac)))))
    (Xad (Xam (i:=7) Xix.nd rfl (Or.inl rfl) (Xao FPut hr1 rfl pass0 (Xaa (pv 3) (Xaa (pv 4) (Xaa (pv 5) (Xaa (pv 6) Xac))))))
    (Xad (Xbn (Xdm (Xao FB hr rfl pass0 (Xaa (pv 7) (Xaa (pv 4) Xac))))
     (Xag (Xam (i:=7) Xix.nd rfl (Or.inl rfl) (Xat Xbj (Xat Xbj (Xax Xbf (pv 3) Xa3 (Xa2 (pv 5))) (Xbd (Xaa (pv 4) (Xaa (pv 4) Xac)))) (Xax Xbf (pv 3) (Xa2 (pv 5)) Xa3)))) Xar)
    (Xag (Xam (i:=3) Xix.nd rfl (Or.inl rfl) (pv 7))))))))
   (Xag (Xak (pv 3))))),?_⟩
  refine⟨_,rfl,dr,sc,4,rfl,by decide,by decide,dk,λr1 H1 _ _ d1 b1=>?_⟩
  refine⟨rfl,_,rfl,?_⟩
  have b1:But dr H H1:=b1
  have hN1:=b1 _ _ hN nnd
  refine ite2b (λ_=>?_) (λ_=>?_)
  ·-- the grid
   refine⟨_,rfl,_,rfl,nl,_,rfl,.inl (SqL.of hN1),_,_,rfl,rfl,dr,sc,_,rfl,by omega,by rw[Xzk];omega,d1,λc H2 c0 c1 d2 b2=>?_⟩
   obtain⟨c,rfl⟩:=X0h c0
   rw[Xzk] at c1
   have hc:c<=ns.length:=by omega
   have b12:=But.trans b1 b2
   have hN2:=b2 _ _ hN1 nnd
   obtain⟨xs,hdr⟩:=d2.at
   refine⟨_,rfl,_,rfl,_,rfl,_,rfl,nl,_,rfl,SqL.of hN2,λp1 n1=>?_⟩
   rw[Xdu _ _ _ hc]
   refine⟨p1,_,rfl,SqL.of Xab,λp2 n2=>?_⟩
   refine⟨nl,p2,_,_,rfl,rfl,ku (ku hN2 n1) n2,Xab,h24 _ (by simp;omega),λp3 n3=>?_⟩
   refine⟨_,rfl,_,rfl,_,rfl,nl,_,rfl,SqL.of (ku (ku (ku hN2 n1) n2) n3),λp4 n4=>?_⟩
   rw[Xdv _ _ _ hc]
   refine⟨p4,_,rfl,SqL.of Xab,λp5 n5=>?_⟩
   refine⟨p3,p5,_,_,rfl,rfl,ku (ku Xab n4) n5,Xab,h24 _ (by simp;omega),λp6 n6=>?_⟩
   have s5:=(((((Same.refl H2).go n1 n2).go n2 n3).go n3 n4).go n4 n5).go n5 n6
   have f6:=s5.free n6
   have hpm:(ns++(ns.take c).reverse++(ns.drop c).reverse).Perm (ns++ns):=by
    rw[X18]
    refine List.Perm.append_left ns ?_
    refine((List.reverse_perm _).append (List.reverse_perm _)).trans ?_
    rw[X0u]
   refine k p6 (ns++(ns.take c).reverse++(ns.drop c).reverse) _ (b12.free hdr f6) (Xab.trans (by simp)) hpm (noThree_grid hnd c λz hz=>Xc7 hnd hpm z ?_) (d2.same (s5.step n6)) (b12.same (s5.step n6))
   exact hpm.mem_iff.mpr (X0z _ hz)
  ·-- dug one by one
   refine⟨by show 0<=sizeLine;decide,λp np=>?_⟩
   obtain⟨xs1,hdr1⟩:=d1.at
   have s0:Same H1 (upd H1 p (.lst [])):=(Same.refl H1).step np
   refine⟨_,rfl,nl,rfl,⟨_,SqL.of (s0 _ _ hN1)⟩,?_⟩
   refine Xcy (K:=K) (a:=nl) (xs:=ns.map V.str) (λi σ H2=>∃(v2 v4 v5 v6 v7:Option V) (q:Addr) (row:List Str), σ=[some (.ref dr),some (.ref nl),v2,some (.ref q),v4,v5,v6,v7]/\H2 q=some (.lst (row.map V.str))/\H q=none/\q≠dr/\row.Perm (ns.take i++ns.take i)/\Xbx row/\DrawOk H2 dr sc/\But dr H H2) ?_ ?_ ?_ ?_
   ·exact⟨_,_,_,_,_,p,[],rfl,Xab,b1.free hdr1 np,(Xaf hdr1 np).symm,by simp,Xlm,d1.same s0,b1.same s0⟩
   ·rintro i σ H2 _ ⟨v2,v4,v5,v6,v7,q,row,rfl,hq,nq,nqd,hp,hno,d2,b2⟩
    exact SqL.of (b2 _ _ hN nnd)
   ·rintro i y σ H2 hi ⟨v2,v4,v5,v6,v7,q,row,rfl,hq,nq,nqd,hp,hno,d2,b2⟩
    have hil:i<ns.length:=by
     have:=(Xz2.mp hi).1
     rwa [Xzk] at this
    obtain⟨x,rfl,hx⟩:∃x,y=V.str x/\ns[i]? = some x:=by
     rw[Xz1] at hi
     cases z:ns[i]? with
     | none=>rw[z] at hi;cases hi
     | some x=>rw[z] at hi;exact⟨x,(Xzx hi).symm,rfl⟩
    have tk:ns.take (i+1)=ns.take i++[x]:=by
     rw[Xzy hil]
     rw[Xzl hil] at hx
     rw[Xzx hx]
    have hrl:row.length<=28:=by
     have:=hp.length_eq
     rw[Xzt,Xz6] at this
     omega
    have ndT:(ns.take i++[x]).Nodup:=by rw[<-tk];exact hnd.sublist (X1j ..)
    refine⟨_,rfl,_,rfl,q,_,rfl,.inl (SqL.of hq),_,_,rfl,rfl,dr,sc,_,rfl,by omega,by rw[Xzk];omega,d2,λa H3 a0 a1 d3 b3=>?_⟩
    obtain⟨a,rfl⟩:=X0h a0
    rw[Xzk] at a1
    have hq3:=b3 _ _ hq nqd
    refine⟨_,rfl,_,rfl,_,rfl,q,_,rfl,.inl (SqL.of hq3),_,_,rfl,rfl,_,rfl,_,_,rfl,rfl,dr,sc,_,rfl,by rw[Xzk];omega,by rw[Xzk];omega,d3,λc H4 c0 c1 d4 b4=>?_⟩
    obtain⟨c,rfl⟩:=X0h c0
    rw[Xzk] at c1
    refine⟨_,_,rfl,rfl,?_⟩
    have eac:(a:Int)+(c:Int)=((a+c:Nat):Int):=by omega
    dsimp only
    rw[eac]
    have hac:a+c<=row.length:=by omega
    have hq4:=b4 _ _ hq3 nqd
    have b24:=But.trans b2 (But.trans b3 b4)
    obtain⟨xs4,hdr4⟩:=d4.at
    refine⟨_,rfl,_,rfl,_,rfl,_,rfl,q,row,x,a,a+c,rfl,hq4,by omega,by omega,hac,λl H5 nl5 hl5 s5=>?_⟩
    have d5:=d4.same s5
    have b25:=b24.same s5
    have nlH:=b24.free hdr4 nl5
    have nld:l≠dr:=(Xaf hdr4 nl5).symm
    have hperm:(putR row x a (a+c)).Perm ((ns.take i++[x])++(ns.take i++[x])):=Xj8 hp (Xj4 row x a (a+c) (by omega))
    have hll:(putR row x a (a+c)).length<=1000:=by
     have:=hperm.length_eq
     rw[Xzt,Xzt,Xz6,X0o] at this
     omega
    refine⟨_,rfl,_,rfl,l,_,x,rfl,hl5,hll,Xc7 ndT hperm,hperm.mem_iff.mpr (by simp),λbb H6 hbb s6=>?_⟩
    have d6:=d5.same s6
    have b26:=b25.same s6
    refine⟨bb,rfl,?_⟩
    have two0:∀y∈row,row.count y=2:=Xc7 (hnd.sublist (X1j ..)) hp
    refine ite2b (λ_=>?_) (λhbf=>?_)
    ·have hq6:=s6 _ _ (s5 _ _ hq4)
     refine⟨_,rfl,_,rfl,_,rfl,q,_,rfl,SqL.of hq6,λp1 n1=>?_⟩
     rw[Xdu _ _ _ (by omega)]
     refine⟨_,rfl,_,rfl,by show 2<=sizeLine;decide,λp2 n2=>?_⟩
     refine⟨p1,p2,_,_,rfl,rfl,ku Xab n2,Xab,h24 _ (by simp;omega),λp3 n3=>?_⟩
     refine⟨_,rfl,_,rfl,_,rfl,q,_,rfl,SqL.of (ku (ku (ku hq6 n1) n2) n3),λp4 n4=>?_⟩
     rw[Xdv _ _ _ (by omega)]
     refine⟨p3,p4,_,_,rfl,rfl,ku Xab n4,Xab,h24 _ (by simp;omega),λp5 n5=>?_⟩
     have s4':=((((Same.refl H6).go n1 n2).go n2 n3).go n3 n4).go n4 n5
     have f5:=s4'.free n5
     obtain⟨xs6,hdr6⟩:=d6.at
     have pN:(row.take a++[x,x]++row.drop a).Perm (x::x::row):=by
      have e:row.take a++[x,x]++row.drop a=row.take a++x::x::row.drop a:=by simp
      rw[e]
      refine X1x.trans (List.Perm.cons x (X1x.trans (List.Perm.cons x ?_)))
      rw[X0u]
     have pM:=Xj8 hp pN
     have twoN:=Xc7 ndT pM
     refine⟨_,rfl,_,_,_,_,_,p5,row.take a++[x,x]++row.drop a,rfl,Xab.trans (by simp),b26.free hdr6 f5,(Xaf hdr6 f5).symm,by rw[tk];exact pM,?_,d6.same (s4'.step n5),b26.same (s4'.step n5)⟩
     refine Xg4 (x:=x) hno two0 twoN (λy hy=>?_) (λp hp=>Xlo hp) (λy hy z hz ky=>absurd ky (Xsp (twoN x (by simp)) (twoN y hy)))
     have:=pN.mem_iff.mp hy
     simp only[Xzw] at this
     rcases this with h | h | h
     ·exact .inl h
     ·exact .inl h
     ·exact .inr h
    ·refine⟨_,rfl,_,_,_,_,_,l,_,rfl,s6 _ _ hl5,nlH,nld,by rw[tk];exact hperm,?_,d6,b26⟩
     refine Xg4 (x:=x) hno two0 (Xc7 ndT hperm) (λy hy=>?_) (λp hp=>Xln (by omega) hp) (hbb hbf)
     have:=(Xj4 row x a (a+c) (by omega)).mem_iff.mp hy
     simp only[Xzw] at this
     rcases this with h | h | h
     ·exact .inl h
     ·exact .inl h
     ·exact .inr h
   ·rintro σ H2 ⟨v2,v4,v5,v6,v7,q,row,rfl,hq,nq,nqd,hp,hno,d2,b2⟩
    rw[Xzk,X0j] at hp
    exact⟨_,rfl,k q row H2 nq hq hp hno d2 b2⟩
theorem Xdz:FnScope NNa ["_law_draw", "_law_many"] (defScope sNames):=⟨rfl,rfl,rfl,by decide +kernel,rfl,by decide +kernel,by decide +kernel⟩
theorem Xte{f:Addr}{fd:FuncData}(F:Fun K "_law_names" "_law_names" sNames f fd)(T:Bl mg)(FP:FnPick P w K mg base):FnOk P w K mg base CX0 2 f fd ["_law_draw", "_law_many"] Xlg:=by
 refine F.ok Xdz (λvs H Q E h=>?_) (λcdv A outer s H vs Q E hr h=>?_)
 ·obtain⟨dr,sc,n,rfl,_⟩:=h
  rfl
 ·obtain⟨dr,sc,n,rfl,hn,dk,k⟩:=h
  refine⟨_,Xad (Xam (i:=2) Xdz.nd rfl (Or.inl rfl) Xaq)
   (Xad (Xam (i:=3) Xdz.nd rfl (Or.inl rfl) (Xao FP hr rfl pass0 (Xaa (pv 0) (Xaa Xah Xac))))
   (Xad (Xam (i:=4) Xdz.nd rfl (Or.inl rfl) (Xbo Xb3 (Xao FP hr rfl pass0 (Xaa (pv 0) (Xaa Xah Xac))) Xah (nomark _)))
   (Xad (Xam (i:=5) Xdz.nd rfl (Or.inl rfl) (Xbd Xac))
   (Xad (Xdk PassesOwn.never rfl (Xdo rfl T.range (Xaa (pv 1) Xac)) (Xal (i:=6) Xdz.nd rfl (Or.inl rfl))
    (Xad (Xam (i:=7) Xdz.nd rfl (Or.inl rfl) (Xa5 Xwx (pv 2) (Xat Xhj (Xat Xb4 (pv 3) (pv 6)) Xah) (λ_ _=>rfl)))
    (Xad (Xam (i:=8) Xdz.nd rfl (Or.inl rfl) (Xat Xnp Xaq (Xat Xhj (Xat Xb4 (pv 3) (Xat Xtm (pv 6) (pv 6))) Xah)))
    (Xag (Xea (Xru PySem.F.plainAttrs_list PySem.F.slot_list_append PySem.F.type_list_append Xem (pv 5)
     (Xaa (Xei (Xdm (pv 4)) (Xat Xd1 (Xat Xd1 (pv 8) (pv 7)) Xaq) (Xat Xd1 (pv 7) (pv 8))) Xac)))))))
   (Xag (Xak (pv 5))))))),?_⟩
  refine⟨_,rfl,dr,sc,26,rfl,by decide,by decide,dk,λr1 H1 r10 r11 d1 b1=>?_⟩
  refine⟨_,rfl,dr,sc,2,rfl,by decide,by decide,d1,λr2 H2 r20 r21 d2 b2=>?_⟩
  refine⟨rfl,?_⟩
  refine⟨by show 0<=sizeLine;decide,λl nl=>?_⟩
  obtain⟨st,rfl⟩:=X0h r10
  have hst:st<26:=by omega
  generalize hlt:decide (V.int r2=V.int 1)=late
  have b12:But dr H H2:=But.trans b1 b2
  obtain⟨xs,hdr⟩:=d2.at
  have nlH:H l=none:=b12.free hdr nl
  obtain⟨nld,nls⟩:=d2.ne nl
  refine⟨_,rfl,(n:Int),rfl,by omega,by omega,?_⟩
  rw[X17]
  refine Xek (lo:=0) (n:=n) (λi σ H3=>∃v1 v2 v3, σ=[some (.ref dr),some (.int n),some (.str Xlf),some (.int st),some (.bl late),some (.ref l),v1,v2,v3]/\H3 l=some (.lst ((Xaw st late i).map V.str))/\DrawOk H3 dr sc/\But dr H H3) ?_ ?_ ?_
  ·exact⟨none,none,none,rfl,Xab,d2.upd nld nls,b12.upd nlH⟩
  ·rintro i σ H3 hi ⟨v1,v2,v3,rfl,hl3,d3,b3⟩
   have e26:((st:Int)+(0+(i:Int))) % 26=(((st+i) % 26:Nat):Int):=by omega
   have h26:(st+i) % 26<26:=Nat.mod_lt _ (by decide)
   have eii:((0:Int)+(i:Int)) * (0+(i:Int))=((i * i:Nat):Int):=by rw[Int.zero_add];exact(Int.natCast_mul i i).symm
   have h7:(st+i * i) % 7<7:=Nat.mod_lt _ (by decide)
   have e7:((st:Int)+((i * i:Nat):Int)) % 7=(((st+i * i) % 7:Nat):Int):=by
    generalize i * i=j
    omega
   refine⟨_,rfl,_,rfl,_,rfl,_,_,rfl,rfl,_,_,rfl,rfl,(by show (0:Int)<26;decide),_,_,_,rfl,rfl,(by show 26<=sizeLine;decide),by rw[e26];exact Xvc h26,?_⟩
   refine⟨_,rfl,_,rfl,_,rfl,_,_,rfl,rfl,.inl ⟨by omega,by omega⟩,_,_,rfl,rfl,_,_,rfl,rfl,(by show (0:Int)<7;decide),?_⟩
   have e77:((st:Int)+((0:Int)+(i:Int)) * (0+(i:Int))) % 7=(((st+i * i) % 7:Nat):Int):=by rw[eii,e7]
   refine⟨_,_,rfl,rfl,by rw[e77];omega,by rw[e77];omega,by show 1<=1000;decide,?_⟩
   rw[e77,X17]
   have hrl:(repS "m" ((st+i * i) % 7)).length<=6:=by
    rw[Xia]
    have:(Str.ofString "m").length=1:=rfl
    rw[this]
    omega
   have hsl:(signOf ((st+i) % 26)).length=1:=rfl
   have hnl:(Xaw st late i).length=i:=by unfold Xaw;simp
   have hsnoc:Xaw st late (i+1)=Xaw st late i++[Xj7 st late i]:=by unfold Xaw;rw[X0q,Xzq];rfl
   have h24:∀m,m<=100000->m<=sizeLine:=λm h=>by rw[X3g];omega
   have fin:∀z:Str,Xj7 st late i=z->Xk0 (.ref l) [.str z] H3 λ_ H4=>∃v1 v2 v3,[some (V.ref dr),some (.int n),some (.str Xlf),some (.int st),some (.bl late),some (.ref l),some (.int (0+(i:Int))),some (.str (signOf ((st+i) % 26))),some (.str (repS "m" ((st+i * i) % 7)))]=[some (.ref dr),some (.int n),some (.str Xlf),some (.int st),some (.bl late),some (.ref l),v1,v2,v3]/\H4 l=some (.lst ((Xaw st late (i+1)).map V.str))/\DrawOk H4 dr sc/\But dr H H4:=λz hz=>by
    refine⟨l,_,_,rfl,rfl,hl3,by rw[Xzk,hnl,X3g];omega,_,_,_,rfl,?_,d3.upd nld nls,b3.upd nlH⟩
    rw[Xab,hsnoc,Xzq,<-hz]
    rfl
   refine⟨_,rfl,.inl ⟨rfl,_,SqL.of hl3⟩,_,rfl,late,rfl,?_⟩
   refine ite2b (λhL=>?_) (λhL=>?_)
   ·refine⟨_,rfl,_,rfl,_,_,rfl,rfl,h24 _ (by show (repS "m" ((st+i * i) % 7)).length+1<=100000;omega),_,_,rfl,rfl,h24 _ ?_,fin _ (by unfold Xj7;rw[X3i hL];rfl)⟩
    rw[Xct]
    show (repS "m" ((st+i * i) % 7)).length+1+1<=100000
    omega
   ·exact⟨_,rfl,_,rfl,_,_,rfl,rfl,h24 _ (by show 1+(repS "m" ((st+i * i) % 7)).length<=100000;omega),fin _ (by unfold Xj7;rw[X3h (by rw[hL];decide)];rfl)⟩
  ·rintro σ H3 ⟨v1,v2,v3,rfl,hl3,d3,b3⟩
   exact⟨_,rfl,k l st late H3 nlH hst hl3 nls d3 b3⟩
theorem Xiy:FnScope NIsF ["_law_draw", "_law_most"] (defScope sIsland):=⟨rfl,rfl,rfl,by decide +kernel,rfl,by decide +kernel,by decide +kernel⟩
theorem Xrk{f:Addr}{fd:FuncData}(F:Fun K "_law_island" "_law_island" sIsland f fd)(T:Bl mg)(FP:FnPick P w K mg base)(FN:Fn P w K mg base CX0 2 "_law_names" ["_law_draw", "_law_many"] Xlg)
  (FR:Fn P w K mg base CX0 3 "_law_row" ["_law_draw", "_law_names_here"] spRowN):FnOk P w K mg base CX0 4 f fd ["_law_draw", "_law_most"] spIslandN:=by
 refine F.ok Xiy (λvs H Q E h=>?_) (λcdv A outer s H vs Q E hr h=>?_)
 ·obtain⟨dr,sc,m,rfl,_⟩:=h
  rfl
 ·obtain⟨dr,sc,m,rfl,hm,dk,k⟩:=h
  have hr1:Room 1 _:=hr.mono (by decide)
  have hr2:Room 2 _:=hr.mono (by decide)
  refine⟨_,Xad (Xam (i:=2) Xiy.nd rfl (Or.inl rfl) (Xat Xb4 Xah (Xao FP hr1 rfl pass0 (Xaa (pv 0) (Xaa Xah Xac)))))
   (Xad (Xam (i:=3) Xiy.nd rfl (Or.inl rfl) (Xa5 Xl8 (Xbq (Xaa (Xao FP hr1 rfl pass0 (Xaa (pv 0) (Xaa Xah Xac))) (Xaa (pv 2) (Xaa (Xao FP hr1 rfl pass0 (Xaa (pv 0) (Xaa (Xat Xb4 (pv 1) Xah) Xac))) Xac))))
    (Xao FP hr1 rfl pass0 (Xaa (pv 0) (Xaa Xah Xac))) (λ_ _=>rfl)))
   (Xag (Xak (Xao FR hr rfl pass0 (Xaa (pv 0) (Xaa (Xao FN hr2 rfl pass0 (Xaa (pv 0) (Xaa (Xan (Xov rfl) (by rfl) T.min boot_min (Xaa (pv 3) (Xaa (pv 1) Xac))) Xac))) Xac)))))),?_⟩
  refine⟨_,rfl,dr,sc,5,rfl,by decide,by decide,dk,λr1 H1 r10 _ d1 b1=>⟨_,_,rfl,rfl,?_⟩⟩
  refine⟨_,rfl,dr,sc,5,rfl,by decide,by decide,d1,λr2 H2 r20 _ d2 b2=>?_⟩
  refine⟨_,rfl,_,rfl,_,rfl,_,_,rfl,rfl,dr,sc,_,rfl,by omega,by omega,d2,λr3 H3 r30 _ d3 b3=>?_⟩
  have b1:But dr H H1:=b1
  have b13:But dr H H3:=But.trans b1 (But.trans b2 b3)
  refine⟨by show 3<=sizeLine;decide,λp np=>?_⟩
  obtain⟨ne1,ne2⟩:=d3.ne np
  obtain⟨xs3,hdr3⟩:=d3.at
  have npH:=b13.free hdr3 np
  refine⟨_,rfl,dr,sc,3,rfl,by decide,by decide,d3.upd ne1 ne2,λr4 H4 r40 r41 d4 b4=>?_⟩
  have b4:But dr (L2.upd H3 p (.tup [.int r2,.int (2+r1),.int r3])) H4:=b4
  have hp4:=b4 p _ Xab ne1
  have b14:But dr H H4:=But.trans (b13.upd npH) b4
  obtain⟨mm,hmm0,hmm⟩:∃mm:Int,0<=mm/\atI ([.int r2,.int (2+r1),.int r3]:List V) r4=some (.int mm):=by
   obtain⟨i,rfl⟩:=X0h r40
   have hi:i<3:=by omega
   match i,hi with
   | 0,_=>exact⟨r2,r20,rfl⟩
   | 1,_=>exact⟨2+r1,by omega,rfl⟩
   | 2,_=>exact⟨r3,r30,rfl⟩
  refine⟨p,_,_,_,rfl,rfl,SqT.of hp4,hmm,?_⟩
  obtain⟨n,hn,hnm⟩:∃n:Nat,(if (m:Int)<mm then (m:Int) else mm)=(n:Int)/\n<=m:=by
   obtain⟨j,rfl⟩:=X0h hmm0
   by_cases hj:(m:Int)<(j:Int)
   ·exact⟨m,X3i hj,Xzn _⟩
   ·exact⟨j,X3h hj,by omega⟩
  refine⟨_,rfl,_,rfl,_,rfl,_,rfl,_,_,rfl,?_⟩
  rw[hn]
  refine⟨dr,sc,n,rfl,by omega,d4,λl st late H5 nl hst hl5 nls d5 b5=>?_⟩
  obtain⟨xs4,hdr4⟩:=d4.at
  have nld:l≠dr:=(Xaf hdr4 nl).symm
  have b15:=But.trans b14 b5
  refine⟨dr,sc,l,_,rfl,d5,hl5,nld,Xf5 hst (by omega),by unfold Xaw;simp;omega,λl2 row H6 nl2 hl6 hp hno d6 b6=>?_⟩
  obtain⟨xs5,hdr5⟩:=d5.at
  exact k l2 row n st late H6 (b15.free hdr5 nl2) hnm hst hl6 hp hno d6 (But.trans b15 b6)
theorem Xhy:FnScope NBr ["_law_row_here"] (defScope s__law_bars):=⟨rfl,rfl,rfl,by decide +kernel,rfl,by decide +kernel,by decide +kernel⟩
theorem Xv5{f:Addr}{fd:FuncData}(F:Fun K "_law_bars" "_law_bars" s__law_bars f fd)(T:Bl mg)(FW:Fn P w K mg base CX0 1 "_law_where" ["_law_row_here"] Xik)
  (FO:Fn P w K mg base CX0 1 "_law_word" ["_law_where_here", "_law_one_here", "_law_other"] spWord):FnOk P w K mg base CX0 2 f fd ["_law_row_here"] spBars:=by
 refine F.ok Xhy (λvs H Q E h=>?_) (λcdv A outer s H vs Q E hr h=>?_)
 ·obtain⟨r,row,rfl,_⟩:=h
  rfl
 ·obtain⟨r,row,rfl,hR,R2,k⟩:=h
  refine⟨_,Xad (Xam (i:=1) Xhy.nd rfl (Or.inl rfl) (Xao FW hr (by rfl) pass0 (Xaa (pv 0) Xac)))
   (Xad (Xam (i:=2) Xhy.nd rfl (Or.inl rfl) (Xbd Xac))
   (Xad (Xdk PassesOwn.never rfl (Xa9 (Xan (Xfw rfl) (by rfl) T.sorted (by rfl) (Xaa (pv 1) Xac))) (Xal (i:=3) Xhy.nd rfl (Or.inl rfl))
    (Xag (Xdk PassesOwn.never rfl (Xa9 (Xan (Xfw rfl) (by rfl) T.sorted (by rfl) (Xaa (pv 1) Xac))) (Xal (i:=4) Xhy.nd rfl (Or.inl rfl))
     (Xad (Xam (i:=5) Xhy.nd rfl (Or.inl rfl) (Xao FO hr (by rfl) pass0 (Xaa (pv 1) (Xaa (pv 3) (Xaa (pv 4) Xac)))))
     (Xag (Xbn (Xh2 (Xaj Xb3 (pv 5) Xaq (nomark _)) (Xgh (Xfu (Xaj Xb3 (pv 5) Xaq (nomark _)) (Xdn (Xaj Xi1 (pv 3) (pv 4) (nomark _)))).pt)).pt
      (Xag (Xea (Xru PySem.F.plainAttrs_list PySem.F.slot_list_append PySem.F.type_list_append Xem (pv 2) (Xaa (Xbq (Xaa (pv 3) (Xaa (pv 4) (Xaa (pv 5) Xac)))) Xac)))) Xar))))))
   (Xag (Xak (pv 2))))),?_⟩
  have hrl:=R2.len
  have hdl:=Xcu row
  refine⟨_,rfl,r,row,rfl,hR,by omega,λd kvs H1 nd hd wh s1=>?_⟩
  obtain⟨ss,hss,hsn,hsm⟩:=wh.names
  have hsl:ss.length<=60:=by
   have h1:=congrArg List.length hss
   rw[Xzk,Xzk] at h1
   have:=wh.len
   omega
  refine⟨by show 0<=sizeLine;decide,λu nu=>?_⟩
  refine⟨_,rfl,d,kvs,ss,rfl,.inl (ku hd nu),hss,by omega,λsn ls nsn hp1 hs1=>?_⟩
  rw[Xtu hp1 hs1 hsn hsm]
  have hnu:∀{xs:List V},upd (upd H1 u (.lst [])) sn (.lst xs) u=some (.lst []):=λ{xs}=>ku Xab nsn
  have s2:Same H1 (upd (upd H1 u (.lst [])) sn (.lst ((dit row).map V.str))):=((Same.refl H1).step nu).step nsn
  have hsn2:upd (upd H1 u (.lst [])) sn (.lst ((dit row).map V.str)) sn=some (.lst ((dit row).map V.str)):=Xab
  have nsu:sn≠u:=(Xaf (H:=upd H1 u (.lst [])) Xab nsn).symm
  have hu2:upd (upd H1 u (.lst [])) sn (.lst ((dit row).map V.str)) u=some (.lst []):=hnu
  generalize upd (upd H1 u (.lst [])) sn (.lst ((dit row).map V.str))=H2 at s2 hsn2 hu2
  have hlq:∀(i j:Nat),i<=60->∀x,((Xcp row i++Xch row x ((dit row).take j)).map trD).length<=5000:=λi j hi x=>by
   rw[Xzk,Xzt]
   have h1:=Xlk row i
   have h2:=Xg1 row x ((dit row).take j)
   rw[Xz6] at h2
   have h3:i * (dit row).length<=60 * 60:=Nat.mul_le_mul hi (by omega)
   omega
  have hbase:∀b o,H1 b=some o->hid u H2 b=some o:=λb o e=>Xcw (s2 _ _ e) (Xaf e nu)
  refine⟨sn,rfl,⟨_,SqL.of hsn2⟩,?_⟩
  refine Xcy (K:=K) (a:=sn) (xs:=(dit row).map V.str) (λi σ H9=>∃v3 v4 v5, σ=[some (.ref r),some (.ref d),some (.ref u),v3,v4,v5]/\Same (hid u H2) H9/\∃xs,H9 u=some (.lst xs)/\DAll (hid u H9) ((Xcp row i).map trD) xs) ?_ ?_ ?_ ?_
  ·exact⟨none,none,none,rfl,Xc2 u H2,[],hu2,Xcj⟩
  ·rintro i σ H9 _ ⟨v3,v4,v5,rfl,s9,_⟩
   exact SqL.of (s9 _ _ (Xcw hsn2 nsu))
  ·rintro i y σ H9 hi ⟨v3,v4,v5,rfl,s9,xs,hu9,hal⟩
   have hil:i<(dit row).length:=by
    have:=(Xz2.mp hi).1
    rwa [Xzk] at this
   obtain⟨x,rfl,hx⟩:∃x,y=V.str x/\(dit row).getD i Str.empty=x:=by
    rw[Xz1,Xzl hil] at hi
    exact⟨_,(Xzx hi).symm,by simp[List.getD,hil]⟩
   have hxr:x∈row:=Xai.mp (by rw[<-hx];exact Xbb hil)
   refine⟨_,rfl,d,kvs,ss,rfl,.inl (s9 _ _ (hbase _ _ hd)),hss,by omega,λsn2 ls2 nsn2 hp2 hs2=>?_⟩
   rw[Xtu hp2 hs2 hsn hsm]
   have s10:Same H9 (upd H9 sn2 (.lst ((dit row).map V.str))):=(Same.refl H9).step nsn2
   have hsn10:upd H9 sn2 (.lst ((dit row).map V.str)) sn2=some (.lst ((dit row).map V.str)):=Xab
   have nsu2:sn2≠u:=(Xaf hu9 nsn2).symm
   generalize upd H9 sn2 (.lst ((dit row).map V.str))=H10 at s10 hsn10
   have hal10:=DAll.same (Xeu (D:=u) s10) _ _ hal
   have hu10:=s10 _ _ hu9
   have b10:=s9.trans s10
   refine⟨sn2,rfl,⟨_,SqL.of hsn10⟩,?_⟩
   refine Xcy (K:=K) (a:=sn2) (xs:=(dit row).map V.str) (λj σ H11=>∃v4 v5, σ=[some (.ref r),some (.ref d),some (.ref u),some (.str x),v4,v5]/\Same (hid u H10) H11/\∃xs,H11 u=some (.lst xs)/\DAll (hid u H11) ((Xcp row i++Xch row x ((dit row).take j)).map trD) xs) ?_ ?_ ?_ ?_
   ·exact⟨v4,v5,rfl,Xc2 u H10,xs,hu10,by simpa [Xch] using hal10⟩
   ·rintro j σ H11 _ ⟨v4,v5,rfl,s11,_⟩
    exact SqL.of (s11 _ _ (Xcw hsn10 nsu2))
   ·rintro j z σ H11 hj ⟨v4,v5,rfl,s11,xs,hu11,hal11⟩
    have hjl:j<(dit row).length:=by
     have:=(Xz2.mp hj).1
     rwa [Xzk] at this
    obtain⟨y,rfl,hy⟩:∃x,z=V.str x/\(dit row).getD j Str.empty=x:=by
     rw[Xz1,Xzl hjl] at hj
     exact⟨_,(Xzx hj).symm,by simp[List.getD,hjl]⟩
    have hyr:y∈row:=Xai.mp (by rw[<-hy];exact Xbb hjl)
    have c1:=R2.two x hxr
    have c2:=R2.two y hyr
    have bb:∀b o,H1 b=some o->H11 b=some o:=λb o e=>s11 _ _ (Xcw (b10 _ _ (hbase b o e)) (Xaf e nu))
    obtain⟨l1,e1,g1⟩:=wh.two' hxr c1
    obtain⟨l2,e2,g2⟩:=wh.two' hyr c2
    refine⟨_,rfl,_,rfl,_,rfl,d,l1,l2,kvs,x,y,_,_,_,_,rfl,.inl (bb _ _ hd),e1,e2,bb _ _ g1,bb _ _ g2,λH12 s12=>?_⟩
    rw[<-Xc8 c1 c2]
    have hu12:=s12 _ _ hu11
    have hal12:=DAll.same (Xeu (D:=u) s12) _ _ hal11
    have b12:=s11.trans s12
    have hps:=Xkc row x hjl
    rw[hy] at hps
    have stay:barB row x y=false->∃v4 v5,[some (V.ref r),some (.ref d),some (.ref u),some (.str x),some (.str y),some (.str (lieR row x y))]=[some (.ref r),some (.ref d),some (.ref u),some (.str x),v4,v5]/\Same (hid u H10) H12/\∃xs,H12 u=some (.lst xs)/\DAll (hid u H12) ((Xcp row i++Xch row x ((dit row).take (j+1))).map trD) xs:=λhk=>by
     refine⟨_,_,rfl,b12,xs,hu12,?_⟩
     rw[hps,hk,X3h Xz0,X0m]
     exact hal12
    have app:barB row x y=true->Xwn (tBM K "list" Xk0 (tVar 2) (Xi2 (tTup (Xi2 (tVar 3) (Xi2 (tVar 4) (Xi2 (tVar 5) tNil)))) tNil)) {nx:=fun σ H=>∃v4 v5, σ=[some (.ref r),some (.ref d),some (.ref u),some (.str x),v4,v5]/\Same (hid u H10) H/\∃xs,H u=some (.lst xs)/\DAll (hid u H) ((Xcp row i++Xch row x ((dit row).take (j+1))).map trD) xs,rt:=Q} [some (V.ref r),some (.ref d),some (.ref u),some (.str x),some (.str y),some (.str (lieR row x y))] H12:=λhk=>by
     refine⟨_,rfl,.inl ⟨rfl,_,SqL.of hu12⟩,_,rfl,_,rfl,_,rfl,by show 3<=sizeLine;decide,λp np=>?_⟩
     have hxl:xs.length<=5000:=by
      rw[Xd4 hal12]
      exact hlq i j (by omega) x
     refine⟨u,_,_,rfl,rfl,ku hu12 np,by rw[X3g];omega,?_⟩
     refine⟨_,_,rfl,?_,xs++[.ref p],Xab,?_⟩
     ·intro b o e
      have nb:b≠u:=λz=>by rw[z] at e;unfold hid at e;rw[X3i rfl] at e;cases e
      rw[Xae nb,Xae (Xaf (b12 _ _ e) np)]
      exact b12 _ _ e
     ·rw[Xpu,hps,hk,X3i rfl,<-X18,Xzq]
      refine Xet (DAll.same (Xeu (D:=u) ((Same.refl H12).step np)) _ _ hal12) ?_
      exact Xpv hu12 np (Xdx [x,y,lieR row x y])
    refine⟨_,rfl,rfl,_,rfl,?_⟩
    rw[Xb1]
    refine ite2b (λq1=>?_) (λq1=>?_)
    ·exact iteT (app (by unfold barB;rw[q1];rfl))
    ·refine⟨_,rfl,rfl,_,rfl,?_⟩
     rw[Xb1]
     refine ite2b (λq2=>?_) (λq2=>?_)
     ·refine⟨_,rfl,_,rfl,_,_,rfl,rfl,_,rfl,?_⟩
      refine ite2b (λq3=>?_) (λq3=>?_)
      ·refine app ?_
       unfold barB
       have q3':decide (ltS x y)=true:=q3
       rw[q2,q3',Bool.and_self,X3d]
      ·refine stay ?_
       unfold barB
       have q3':decide (ltS x y)=false:=q3
       rw[q1,q3',X24,X27]
     ·refine iteF (stay ?_)
      unfold barB
      rw[q1,q2,X0w,X27]
   ·rintro σ H11 ⟨v4,v5,rfl,s11,xs,hu11,hal11⟩
    rw[Xzk,X0j] at hal11
    refine⟨_,_,_,rfl,λb o e=>?_,xs,hu11,?_⟩
    ·have nb:b≠u:=λz=>by rw[z] at e;unfold hid at e;rw[X3i rfl] at e;cases e
     exact s11 _ _ (Xcw (b10 _ _ e) nb)
    ·rw[Xkb row hil,hx]
     exact hal11
  ·rintro σ H9 ⟨v3,v4,v5,rfl,s9,xs,hu9,hal⟩
   rw[Xzk,Xlj] at hal
   refine⟨_,rfl,k u xs H9 (s1.free nu) hu9 (DAll.same (Xc2 u H9) _ _ hal) (λb o e=>s9 _ _ (hbase _ _ (s1 _ _ e)))⟩
theorem Xnd:FnScope NFi ["_law_bars_here", "_law_plot"] (defScope s__law_fits):=⟨rfl,rfl,rfl,by decide +kernel,rfl,by decide +kernel,by decide +kernel⟩
theorem Xv6{f:Addr}{fd:FuncData}(F:Fun K "_law_fits" "_law_fits" s__law_fits f fd):FnOk P w K mg base CX0 1 f fd ["_law_bars_here", "_law_plot"] Xmx:=by
 refine F.ok Xnd (λvs H Q E h=>?_) (λcdv A outer s H vs Q E hr h=>?_)
 ·obtain⟨b,p,xs,bs,ss,rfl,_⟩:=h
  rfl
 ·obtain⟨b,p,xs,bs,ss,rfl,hB,hal,hP,k⟩:=h
  refine⟨_,Xad (Xdk PassesOwn.never rfl (Xa9 (pv 0)) (Xol (n:=3) rfl (Xbe (Xal (i:=2) Xnd.nd rfl (Or.inl rfl)) (Xbe (Xal (i:=3) Xnd.nd rfl (Or.inl rfl)) (Xbe (Xal (i:=4) Xnd.nd rfl (Or.inl rfl)) Xeb))))
    (Xag (Xbn (Xfu (Xaj Xel (pv 2) (pv 1) (by rfl)) (Xdn (Xaj Xot (Xbo Xel (pv 3) (pv 1) (by rfl)) (Xbo Xb3 (pv 4) Xaq (nomark _)) (nomark _)))).pt (Xag (Xak Xhe)) Xar)))
   (Xag (Xak Xhe)),?_⟩
  refine⟨_,rfl,b,rfl,⟨_,SqL.of hB⟩,?_⟩
  have hxl:xs.length=bs.length:=by rw[Xd4 hal,Xzk]
  refine Xcy (K:=K) (a:=b) (xs:=xs) (λi σ H2=>∃v2 v3 v4, σ=[some (.ref b),some (.ref p),v2,v3,v4]/\Same H H2/\Xfo (bs.take i) ss=true) ?_ ?_ ?_ ?_
  ·exact⟨none,none,none,rfl,Same.refl H,rfl⟩
  ·rintro i σ H2 _ ⟨v2,v3,v4,rfl,s2,_⟩
   exact SqL.of (s2 _ _ hB)
  ·rintro i y σ H2 hi ⟨v2,v3,v4,rfl,s2,hf⟩
   have hil:i<xs.length:=(Xz2.mp hi).1
   have hib:i<bs.length:=by omega
   obtain⟨v,hv,dv⟩:=Xih hal (show (bs.map trD)[i]? = some (trD bs[i]) by rw[Xz1,Xzl hib];rfl)
   rw[hi] at hv
   cases hv
   obtain⟨q,rfl,hq⟩:=Xvf dv
   have htk:bs.take (i+1)=bs.take i++[bs[i]]:=Xzy hib
   generalize bs[i]=t at *
   have hfs:Xfo (bs.take (i+1)) ss = !(decide (t.1∈ss) && !decide (decide (t.2.1∈ss)=decide (t.2.2 = "within"))):=by
    rw[htk]
    unfold Xfo at hf ⊢
    rw[List.all_append,hf,X06]
    simp
   have bad:(decide (t.1∈ss) && !decide (decide (t.2.1∈ss)=decide (t.2.2 = "within")))=true->Xfo bs ss=false:=λhb=>by
    rw[X1s]
    intro z
    have hz:Xfo (bs.take (i+1)) ss=true:=by
     unfold Xfo at z ⊢
     rw[Xz8] at z ⊢
     exact λx hx=>z x (X1a hx)
    rw[hfs,hb] at hz
    cases hz
   refine⟨q,_,rfl,SqT.of (s2 _ _ hq),rfl,_,_,rfl,_,_,rfl,_,_,rfl,rfl,?_⟩
   refine⟨_,rfl,_,rfl,p,_,rfl,.inr (SqT.of (s2 _ _ hP)),rfl,Xbr ss,_,rfl,?_⟩
   rw[X3h (by decide),Xcg]
   refine ite2b (λq1=>?_) (λq1=>?_)
   ·refine⟨_,rfl,_,rfl,p,_,rfl,.inr (SqT.of (s2 _ _ hP)),rfl,Xbr ss,_,rfl,rfl,rfl,_,rfl,?_⟩
    rw[X3h (by decide),Xcg,Xb1]
    have eb:(!decide (V.bl (decide (t.2.1∈ss))=V.bl (decide (t.2.2 = "within")))) = !decide (decide (t.2.1∈ss)=decide (t.2.2 = "within")):=by
     congr 1
     rw[X01,decide_eq_true_eq,decide_eq_true_eq]
     exact⟨λz=>by injection z,λz=>by rw[z]⟩
    rw[eb]
    refine ite2b (λq2=>?_) (λq2=>?_)
    ·have:=k H2 s2
     rw[bad (by rw[q1,q2];rfl)] at this
     exact this
    ·exact⟨_,_,_,rfl,s2,by rw[hfs,q1,q2];rfl⟩
   ·exact iteF ⟨_,_,_,rfl,s2,by rw[hfs,q1];rfl⟩
  ·rintro σ H2 ⟨v2,v3,v4,rfl,s2,hf⟩
   rw[hxl,X0j] at hf
   have:=k H2 s2
   rw[hf] at this
   exact this
theorem Xci:FnScope NPl ["_law_row_here"] (defScope s__law_plots):=⟨rfl,rfl,rfl,by decide +kernel,rfl,by decide +kernel,by decide +kernel⟩
theorem Xtf{f:Addr}{fd:FuncData}(F:Fun K "_law_plots" "_law_plots" s__law_plots f fd)(T:Bl mg)(FFi:Fn P w K mg base CX0 1 "_law_fits" ["_law_bars_here", "_law_plot"] Xmx)
  (FBr:Fn P w K mg base CX0 2 "_law_bars" ["_law_row_here"] spBars):FnOk P w K mg base CX0 3 f fd ["_law_row_here"] spPlotsO:=by
 refine F.ok Xci (λvs H Q E h=>?_) (λcdv A outer s H vs Q E hr h=>?_)
 ·obtain⟨r,row,rfl,_⟩:=h
  rfl
 ·obtain⟨r,row,rfl,hR,R2,h3,h14,k⟩:=h
  have hu4:_+4<cLine:=X20 (Nat.add_le_add_left (by decide:4<=64) _) hr.units
  have hr1:Room 1 _:=hr.mono (by decide)
  have hr2:Room 2 _:=hr.mono (by decide)
  refine⟨_,Xad (Xam (i:=1) Xci.nd rfl (Or.inl rfl) (Xao FBr hr2 (by rfl) pass0 (Xaa (pv 0) Xac)))
   (Xad (Xam (i:=2) Xci.nd rfl (Or.inl rfl) (Xf8 (i:=0) rfl (by rfl) T.sorted (by rfl) T.set (pv 0)))
   (Xad (Xam (i:=3) Xci.nd rfl (Or.inl rfl) (Xbd (Xaa (Xbq Xac) Xac)))
   (Xad (Xam (i:=4) Xci.nd rfl (Or.inl rfl) (Xbd (Xaa (Xbq Xac) Xac)))
   (Xad (Xdk PassesOwn.never rfl (Xdo rfl T.range (Xaa (Xan Xap (by rfl) T.len boot_len (Xaa (pv 2) Xac)) Xac)) (Xal (i:=5) Xci.nd rfl (Or.inl rfl))
    (Xad (Xam (i:=6) Xci.nd rfl (Or.inl rfl) (Xbd Xac))
    (Xad (Xdk PassesOwn.never rfl (Xa9 (pv 4)) (Xal (i:=7) Xci.nd rfl (Or.inl rfl))
     (Xag (Xdk PassesOwn.never rfl (Xa9 (pv 2)) (Xal (i:=8) Xci.nd rfl (Or.inl rfl))
      (Xad (Xam (i:=9) Xci.nd rfl (Or.inl rfl) (Xau Xb6 (by rfl) T.tuple (by rfl) (Xaa (Xan Xiq (by rfl) T.sorted (by rfl) (Xaa (Xat Xev (pv 7) (Xbq (Xaa (pv 8) Xac))) Xac)) Xac)))
      (Xag (Xbn (Xfu (Xaj Xdq (pv 8) (pv 7) (by rfl)) (Xdn (Xaj (Xkg hu4) (pv 9) (pv 6) (by rfl)))).pt
       (Xag (Xam (i:=6) Xci.nd rfl (Or.inl rfl) (Xat Xbj (pv 6) (Xat Xtq (Xbd (Xaa (pv 9) Xac)) (Xau Xdp (by rfl) T.int (by rfl) (Xaa (Xao FFi hr1 (by rfl) pass0 (Xaa (pv 1) (Xaa (pv 9) Xac))) Xac))))))
       Xar))))))
    (Xad (Xam (i:=4) Xci.nd rfl (Or.inl rfl) (Xan Xkh (by rfl) T.sorted (by rfl) (Xaa (pv 6) Xac)))
    (Xag (Xam (i:=3) Xci.nd rfl (Or.inl rfl) (Xat Xbj (pv 3) (pv 4))))))))
   (Xag (Xak (pv 3))))))),?_⟩
  have hrl:=R2.len
  have hdl:=Xcu row
  refine⟨_,rfl,r,row,rfl,hR,R2,λb xs0 H1 nb hb hall s1=>?_⟩
  refine⟨_,rfl,r,row,rfl,.inl (SqL.of (s1 _ _ hR)),R2.len,λnl H2 nn hn2 s2=>?_⟩
  have hb2:=s2 _ _ hb
  have hall2:=DAll.same s2 _ _ hall
  have s12:=s1.trans s2
  refine⟨by show 0<=sizeLine;decide,λe1 ne1=>?_⟩
  refine⟨by show 1<=sizeLine;decide,λtl0 ntl0=>?_⟩
  refine⟨by show 0<=sizeLine;decide,λe2 ne2=>?_⟩
  refine⟨by show 1<=sizeLine;decide,λly0 nly0=>?_⟩
  generalize hH3:upd (upd (upd (upd H2 e1 (.tup [])) tl0 (.lst [.ref e1])) e2 (.tup [])) ly0 (.lst [.ref e2])=H3
  have f1:Same H2 H3:=by
   rw[<-hH3]
   exact((((Same.refl H2).step ne1).step ntl0).step ne2).step nly0
  have ht3:H3 tl0=some (.lst ([e1].map V.ref)):=by
   rw[<-hH3]
   exact ku (ku Xab ne2) nly0
  have hy3:H3 ly0=some (.lst ([e2].map V.ref)):=by
   rw[<-hH3]
   exact Xab
  have hP1:Tups H3 [e1] [[]]:=Tups.cons (by rw[<-hH3];exact ku (ku (ku Xab ntl0) ne2) nly0) (Tups.nil _)
  have hP2:Tups H3 [e2] [[]]:=Tups.cons (by rw[<-hH3];exact ku Xab nly0) (Tups.nil _)
  have ntl:H tl0=none:=s12.free (((Same.refl H2).step ne1).free ntl0)
  clear hH3
  have hn3:=f1 _ _ hn2
  refine⟨_,rfl,nl,_,rfl,.inl (SqL.of hn3),(((dit row).map V.str).length:Int),rfl,by omega,by rw[Xzk];omega,?_⟩
  have hnn:(((dit row).map V.str).length:Int).toNat=(dit row).length:=by rw[Xzk];simp
  rw[hnn]
  refine Xek (lo:=0) (n:=(dit row).length) (λi σ H4=>∃(v5 v6 v7 v8 v9:Option V) (tl ly:Addr) (ps qs:List Addr) (Vs Us:List (List Str)), σ=[some (.ref r),some (.ref b),some (.ref nl),some (.ref tl),some (.ref ly),v5,v6,v7,v8,v9]/\Same H3 H4/\H tl=none/\H4 tl=some (.lst (ps.map V.ref))/\H4 ly=some (.lst (qs.map V.ref))/\ps.length<=1+63 * i/\Tups H4 ps Vs/\Upto row i Vs/\Tups H4 qs Us/\SH.Lay row i Us) ?_ ?_ ?_
  ·exact⟨_,_,_,_,_,tl0,ly0,[e1],[e2],[[]],[[]],rfl,Same.refl _,ntl,ht3,hy3,by simp,hP1,Xyd row,hP2,Xzg row⟩
  ·rintro i σ H4 hi ⟨v5,v6,v7,v8,v9,tl,ly,ps,qs,Vs,Us,rfl,s4,nt4,ht4,hy4,hpl,hPs,hVs,hQs,hUs⟩
   refine⟨by show 0<=sizeLine;decide,λf0 nf0=>?_⟩
   have g1:Same H4 (upd H4 f0 (.lst [])):=(Same.refl H4).step nf0
   have hf0:Fresh row (upd H4 f0 (.lst [])) f0 [] []:=⟨Xab,rfl,.nil,λ_ h=>by cases h⟩
   generalize upd H4 f0 (.lst [])=H5 at g1 hf0
   have s35:=s4.trans g1
   have hn5:=s35 _ _ hn3
   have hb5:=s35 _ _ (f1 _ _ hb2)
   have ha5:=DAll.same s35 _ _ (DAll.same f1 _ _ hall2)
   have hQ5:=hQs.same g1
   refine⟨_,rfl,ly,rfl,⟨_,SqL.of (g1 _ _ hy4)⟩,?_⟩
   refine Xcy (K:=K) (a:=ly) (xs:=qs.map V.ref) (λj σ H6=>∃(v7 v8 v9:Option V) (f:Addr) (xs:List V) (Ts:List (List Str)), σ=[some (.ref r),some (.ref b),some (.ref nl),some (.ref tl),some (.ref ly),some (.int (0+(i:Int))),some (.ref f),v7,v8,v9]/\Same H5 H6/\Fresh row H6 f xs Ts/\(∀T∈Ts,T.length=i+1)/\Cov row Us j Ts) ?_ ?_ ?_ ?_
   ·exact⟨_,_,_,f0,[],[],rfl,Same.refl _,hf0,(λ_ h=>by cases h),λj hj=>absurd hj (X1e _)⟩
   ·rintro j σ H6 _ ⟨v7,v8,v9,f,xs,Ts,rfl,s6,hf,hfl,hcv⟩
    exact SqL.of (s6 _ _ (g1 _ _ hy4))
   ·rintro j y σ H6 hj ⟨v7,v8,v9,f,xs,Ts,rfl,s6,hf,hfl,hcv⟩
    obtain⟨q,rfl,hjl,hqj⟩:∃q,y=V.ref q/\j<qs.length/\qs.getD j 0=q:=by
     rw[Xz1] at hj
     cases z:qs[j]? with
     | none=>rw[z] at hj;cases hj
     | some q=>rw[z] at hj;exact⟨q,(Xzx hj).symm,(Xz2.mp z).1,by simp[List.getD,z]⟩
    have hqs:=hQ5.2 j hjl
    rw[hqj] at hqs
    have hjU:j<Us.length:=by rw[<-hQ5.1];exact hjl
    have hUj:Us.getD j []∈Us:=by
     have:Us.getD j []=Us[j]:=by simp[List.getD,hjU]
     rw[this];exact X0b hjU
    obtain⟨hip,hil⟩:=(hUs.mem _).mp hUj
    generalize hss:Us.getD j []=ss at hqs hip hil
    have hssl:=Xir hip
    obtain⟨hsr,hslt⟩:=Xck hip
    refine⟨_,rfl,nl,rfl,⟨_,SqL.of (s6 _ _ hn5)⟩,?_⟩
    refine Xcy (K:=K) (a:=nl) (xs:=(dit row).map V.str) (λm σ H7=>∃(v8 v9:Option V) (f:Addr) (xs:List V) (Ts:List (List Str)), σ=[some (.ref r),some (.ref b),some (.ref nl),some (.ref tl),some (.ref ly),some (.int (0+(i:Int))),some (.ref f),some (.ref q),v8,v9]/\Same H5 H7/\Fresh row H7 f xs Ts/\(∀T∈Ts,T.length=i+1)/\Cov row Us j Ts/\∀m',m'<m->(dit row).getD m' Str.empty∉ss->isPlotB row (srt (ss++[(dit row).getD m' Str.empty]))=true->srt (ss++[(dit row).getD m' Str.empty])∈Ts) ?_ ?_ ?_ ?_
    ·exact⟨_,_,f,xs,Ts,rfl,s6,hf,hfl,hcv,λm' hm'=>absurd hm' (X1e _)⟩
    ·rintro m σ H7 _ ⟨v8,v9,f,xs,Ts,rfl,s7,hf,hfl,hcv,hcm⟩
     exact SqL.of (s7 _ _ hn5)
    ·rintro m y σ H7 hm ⟨v8,v9,f,xs,Ts,rfl,s7,hf,hfl,hcv,hcm⟩
     obtain⟨x,rfl,hx,hxm⟩:∃x,y=V.str x/\x∈row/\(dit row).getD m Str.empty=x:=by
      rw[Xz1] at hm
      cases z:(dit row)[m]? with
      | none=>rw[z] at hm;cases hm
      | some x=>rw[z] at hm;exact⟨x,(Xzx hm).symm,Xai.mp (X19 z),by simp[List.getD,z]⟩
     have step:∀Ts':List (List Str),(∀T∈Ts,T∈Ts')->(x∉ss->isPlotB row (srt (ss++[x]))=true->srt (ss++[x])∈Ts')->∀m',m'<m+1->(dit row).getD m' Str.empty∉ss->isPlotB row (srt (ss++[(dit row).getD m' Str.empty]))=true->srt (ss++[(dit row).getD m' Str.empty])∈Ts':=λTs' sub new m' hm' a1 a2=>by
      by_cases e:m'=m
      ·subst e
       rw[hxm] at a1 a2 ⊢
       exact new a1 a2
      ·exact sub _ (hcm m' (by omega) a1 a2)
     refine⟨_,rfl,_,rfl,by show 1<=sizeLine;decide,λt1 nt1=>?_⟩
     have s8:Same H5 (upd H7 t1 (.tup [.str x])):=s7.step nt1
     have k78:Same H7 (upd H7 t1 (.tup [.str x])):=(Same.refl H7).step nt1
     refine⟨q,t1,_,_,rfl,rfl,s8 _ _ hqs,Xab,by rw[Xzk,X3g];show ss.length+1<=_;omega,λp1 H9 s9 hp1=>?_⟩
     have hp1':H9 p1=some (.tup ((ss++[x]).map V.str)):=by rw[hp1,Xzq];rfl
     refine⟨p1,_,rfl,hp1',by rw[Xzt];show ss.length+1<64;omega,λl2 nl2=>?_⟩
     refine⟨l2,_,rfl,.inl ⟨SqL.of Xab,λov nov=>?_⟩⟩
     have k7:Same H7 (upd (upd H9 l2 (.lst ((srt (ss++[x])).map V.str))) ov (.tup ((srt (ss++[x])).map V.str))):=((k78.trans s9).step nl2).step nov
     have hov:upd (upd H9 l2 (.lst ((srt (ss++[x])).map V.str))) ov (.tup ((srt (ss++[x])).map V.str)) ov=some (.tup ((srt (ss++[x])).map V.str)):=Xab
     generalize upd (upd H9 l2 (.lst ((srt (ss++[x])).map V.str))) ov (.tup ((srt (ss++[x])).map V.str))=HA at k7 hov
     have s5A:=s7.trans k7
     have hfA:=hf.same k7
     have okr:∀y∈srt (ss++[x]),okN y:=λy hy=>by
      rcases Xzv.mp (Xfi.mp hy) with z | z
      ·exact R2.ok y (hsr y z)
      ·rw[Xzr.mp z];exact R2.ok x hx
     have okT:∀T∈Ts,∀y∈T,okN y:=λT hT y hy=>R2.ok y ((Xck (hf.ok T hT).2).1 y hy)
     have dep:PyData.depth (tupD (srt (ss++[x])))<=3:=by
      have:=Xka (srt (ss++[x])) (srt (ss++[x]))
      rwa [Nat.min_self] at this
     have xsl:xs.length=Ts.length:=by rw[Xd4 hfA.all,Xzk]
     have hlt:=Xip R2.two h3 h14 hf.nd hf.ok
     dsimp only[Xbv]
     refine⟨_,rfl,_,rfl,q,_,rfl,.inr (SqT.of (s5A _ _ hqs)),rfl,Xbr ss,_,rfl,?_⟩
     rw[X3i rfl,Xcg]
     refine ite2b (λhc=>?_) (λhc=>iteF ⟨_,_,f,xs,Ts,rfl,s5A,hfA,hfl,hcv,step Ts (λ_ h=>h) λz=>absurd (by simpa using hc) z⟩)
     have hxs:x∉ss:=by simpa using hc
     refine⟨_,rfl,_,rfl,tupD (srt (ss++[x])),Ts.map tupD,Xbs hov,Xfl hfA.at' hfA.all,Xav _ (Xa7 okr),Xcm _ (plainAll_map tupD Ts λT hT=>Xa7 (okT T hT)),dep,_,rfl,?_⟩
     refine ite2b (λhd=>?_) (λhd=>⟨_,_,f,xs,Ts,rfl,s5A,hfA,hfl,hcv,step Ts (λ_ h=>h) λ_ _=>?_⟩)
     rotate_left
     ·have hd:((Ts.map tupD).any λe=>PyData.eqv e (tupD (srt (ss++[x]))))=true:=by simpa using hd
      rw[X1g] at hd
      obtain⟨e,he,hq⟩:=hd
      obtain⟨T,hT,rfl⟩:=Xz4.mp he
      have hq:PyData.eqv (.tuple (T.map PyData.str)) (.tuple ((srt (ss++[x])).map PyData.str))=true:=hq
      rw[Xfp (okT T hT) okr] at hq
      rw[<-X3l hq]
      exact hT
     have hnew:srt (ss++[x])∉Ts:=λhm=>by
      have:((Ts.map tupD).any λe=>PyData.eqv e (tupD (srt (ss++[x]))))=true:=by
       rw[X1g]
       refine⟨_,Xz4.mpr ⟨_,hm,rfl⟩,?_⟩
       show PyData.eqv (.tuple _) (.tuple _)=true
       rw[Xfp okr okr]
       exact X3j rfl
      rw[this] at hd
      exact absurd hd (by decide)
     refine⟨_,rfl,_,rfl,by show 1<=sizeLine;decide,λc nc=>?_⟩
     have kA:Same HA (upd HA c (.lst [.ref ov])):=(Same.refl HA).step nc
     refine⟨_,rfl,_,rfl,b,ov,xs0,bars row,srt (ss++[x]),rfl,kA _ _ (s5A _ _ hb5),DAll.same kA _ _ (DAll.same s5A _ _ ha5),kA _ _ hov,λHB sB=>?_⟩
     have hcB:=sB _ _ (show upd HA c (.lst [.ref ov]) c=_ from Xab)
     refine .inr ⟨_,rfl,?_⟩
     cases hfit:Xfo (bars row) (srt (ss++[x])) with
     | false=>
      refine⟨c,_,_,rfl,rfl,hcB,by simp,by simp,by simp,λc2 nc2=>?_⟩
      have e0:(if True then (List.replicate ((if (false:Bool)=true then (1:Int) else 0)).toNat [V.ref ov]).flatten else ([]:List V))=[]:=by simp
      have kB:Same HA (upd HB c2 (.lst [])):=(kA.trans sB).step nc2
      refine⟨f,c2,xs,[],rfl,rfl,kB _ _ hfA.at',Xab,by rw[X3g];simp;omega,λg ng=>?_⟩
      have kC:Same HA (upd (upd HB c2 (.lst [])) g (.lst (xs++[]))):=kB.step ng
      refine⟨_,_,g,xs++[],Ts,rfl,s5A.trans kC,⟨Xab,?_,hf.nd,hf.ok⟩,hfl,hcv,step Ts (λ_ h=>h) λ_ z=>absurd ((Xvq R2.two z).symm.trans hfit) (by decide)⟩
      exact(congrArg (DAll _ _) (X0m xs)).mpr (DAll.same kC _ _ hfA.all)
     | true=>
      refine⟨c,_,_,rfl,rfl,hcB,by simp,by simp,by show 1 * 1<=sizeLine;decide,λc2 nc2=>?_⟩
      have kB:Same HA (upd HB c2 (.lst [V.ref ov])):=(kA.trans sB).step nc2
      refine⟨f,c2,xs,[V.ref ov],rfl,rfl,kB _ _ hfA.at',Xab,by rw[X3g];simp;omega,λg ng=>?_⟩
      have kC:Same HA (upd (upd HB c2 (.lst [V.ref ov])) g (.lst (xs++[V.ref ov]))):=kB.step ng
      refine⟨_,_,g,xs++[V.ref ov],Ts++[srt (ss++[x])],rfl,s5A.trans kC,⟨Xab,?_,?_,?_⟩,?_,λi' hi' z hz a1 a2=>X0z _ (hcv i' hi' z hz a1 a2),step _ (λ_ h=>X0z _ h) λ_ _=>by simp⟩
      ·rw[Xzq]
       exact Xet (DAll.same kC _ _ hfA.all) (Xbs (kC _ _ hov))
      ·rw[X04]
       exact⟨hf.nd,by simp,λa ha b hb e=>hnew (by rw[Xzr.mp hb] at e;exact e ▸ ha)⟩
      ·intro T hT
       rcases Xzv.mp hT with z | z
       ·exact hf.ok T z
       ·rw[Xzr.mp z]
        exact⟨Xxy,Xqc R2.two hip hx hxs hfit⟩
      ·intro T hT
       rcases Xzv.mp hT with z | z
       ·exact hfl T z
       ·rw[Xzr.mp z,(Xbh _).length_eq,Xzt,hil]
        rfl
    ·rintro σ H7 ⟨v8,v9,f,xs,Ts,rfl,s7,hf,hfl,hcv,hcm⟩
     refine⟨_,_,_,f,xs,Ts,rfl,s7,hf,hfl,λi' hi' z hz a1 a2=>?_⟩
     by_cases e:i'=j
     ·subst e
      rw[hss] at a1 a2 ⊢
      obtain⟨m',hm',e'⟩:=X0r.mp (Xai.mpr hz)
      have e2:(dit row).getD m' Str.empty=z:=by rw[<-e'];simp[List.getD,hm']
      have:=hcm m' (by rw[Xzk];exact hm')
      rw[e2] at this
      exact this a1 a2
     ·exact hcv i' (by omega) z hz a1 a2
   ·rintro σ H6 ⟨v7,v8,v9,f,xs,Ts,rfl,s6,hf,hfl,hcv⟩
    have hlt:=Xip R2.two h3 h14 hf.nd hf.ok
    obtain⟨fs,rfl,hfs⟩:=Xg8 hf.all
    have hfl0:=hfs.1
    refine⟨_,rfl,f,fs,Ts,rfl,hf.at',hfs,λz=>(hf.ok _ z).1 rfl,hf.nd,by omega,λly' fs' Ts' nly' hfs' hpm hpw=>?_⟩
    have g6:Same H6 (upd H6 ly' (.lst (fs'.map V.ref))):=(Same.refl H6).step nly'
    have s46:=(g1.trans s6).trans g6
    rw[Xzk,hQ5.1] at hcv
    have hL':=Xs6 R2.two hUs hcv (λT hT=>⟨(hf.ok T hT).2,hfl T hT⟩) hpm hpw
    have hP':=hfs'.same g6
    have hly':upd H6 ly' (.lst (fs'.map V.ref)) ly'=some (.lst (fs'.map V.ref)):=Xab
    generalize upd H6 ly' (.lst (fs'.map V.ref))=H8 at g6 s46 hP' hly'
    have hfl1:=hfs'.1
    have hfl':=hpm.length_eq
    refine⟨_,rfl,_,rfl,tl,ly',_,_,rfl,rfl,s46 _ _ ht4,hly',by rw[Xzk,Xzk,X3g];omega,λtl' ntl'=>?_⟩
    have g8:Same H8 (upd H8 tl' (.lst (ps.map V.ref++fs'.map V.ref))):=(Same.refl H8).step ntl'
    have e8:upd H8 tl' (.lst (ps.map V.ref++fs'.map V.ref)) tl'=some (.lst ((ps++fs').map V.ref)):=by rw[Xab,Xzq]
    refine⟨_,_,_,_,_,tl',ly',ps++fs',fs',Vs++Ts',Ts',rfl,(s4.trans s46).trans g8,?_,e8,g8 _ _ hly',by rw[Xzt];omega,(hPs.same (s46.trans g8)).app (hP'.same g8),hVs.next hL',hP'.same g8,hL'⟩
    exact s12.free (f1.free (s4.free (s46.free ntl')))
  ·rintro σ H4 ⟨v5,v6,v7,v8,v9,tl,ly,ps,qs,Vs,Us,rfl,s4,nt4,ht4,hy4,hpl,hPs,hVs,hQs,hUs⟩
   exact⟨_,rfl,k tl ps Vs H4 nt4 ht4 hPs hVs.all ((s12.trans f1).trans s4)⟩
abbrev NKt:List Str:=["_law_row_here", "_law_crowd", "_law_told", "_law_name", "_law_banks"]
abbrev NKt1:List Str:=["_law_plot", "_law_name"]
theorem Xne:FnScope NKt ["_law_row_here", "_law_crowd"] (defScope s__law_kept):=⟨rfl,rfl,rfl,by decide +kernel,rfl,by decide +kernel,by decide +kernel⟩
theorem Xv7{f:Addr}{fd:FuncData}(F:Fun K "_law_kept" "_law_kept" s__law_kept f fd)(B:Bl mg):FnOk P w K mg base CX0 1 f fd ["_law_row_here", "_law_crowd"] Xiv:=by
 refine F.ok Xne (λvs H Q E h=>?_) (λcdv A outer s H vs Q E hr h=>?_)
 ·obtain⟨r,c,row,ps,Ts,rfl,_⟩:=h
  rfl
 ·obtain⟨r,c,row,ps,Ts,rfl,hR,R2,hc,hT,hpl,ne,k⟩:=h
  refine⟨_,Xad (Xam (i:=2) Xne.nd rfl (Or.inl rfl) (Xbd Xac))
   (Xad (Xdk PassesOwn.never rfl (Xa9 (Xf8 (i:=0) rfl (by rfl) B.sorted (by rfl) B.set (pv 0))) (Xal (i:=3) Xne.nd rfl (Or.inr rfl))
    (Xad (Xfk (i:=4) (N:=NKt1) (cap:=[none,some 3]) (CompScope.of (defScope s__law_kept) NKt rfl rfl rfl (by decide +kernel)) rfl Xne.nd rfl rfl (Xa9 (pv 1)) (λ_ _ _=>Xal (i:=0) (show NKt1.Nodup by decide +kernel) rfl (Or.inl rfl) (Or.inr rfl)) (λ_ _ _=>Xbg)
     (λ_ _ _=>Xa5 (Xcf K (by rfl)) (Xbq (Xaa Xaq (Xaa Xaq Xac))) (Xau Xdp (by rfl) B.int (by rfl) (Xaa (Xbo (Xcr K (by rfl)) (pv 1) (pv 0) (by rfl)) Xac)) (λ_ _=>rfl)))
    (Xag (Xbn (Xaj Xb3 (Xp4 K (by rfl) PySem.F.plainAttrs_list PySem.F.slot_list_count PySem.F.type_list_count Xmq (pv 4) (Xaa (Xa5 Xay (pv 4) Xah (λ_ _=>rfl)) Xac)) (Xan Xap (by rfl) B.len boot_len (Xaa (pv 4) Xac)) (nomark _))
     (Xag (Xea (Xru PySem.F.plainAttrs_list PySem.F.slot_list_append PySem.F.type_list_append Xem (pv 2) (Xaa (Xbq (Xaa (pv 3) (Xaa (Xa5 Xay (pv 4) Xah (λ_ _=>rfl)) Xac))) Xac)))) Xar))))
   (Xag (Xak (pv 2)))),?_⟩
  have hrl:=R2.len
  have hdl:=Xcu row
  refine⟨by show 0<=sizeLine;decide,λu nu=>?_⟩
  have s1:Same H (upd H u (.lst [])):=(Same.refl H).step nu
  have hu1:upd H u (.lst []) u=some (.lst []):=Xab
  dsimp only[Xbv]
  generalize upd H u (.lst [])=H1 at s1 hu1
  refine⟨_,rfl,r,row,rfl,.inl (SqL.of (s1 _ _ hR)),R2.len,λnl H2 nnl hnl s2=>?_⟩
  have hu2:=s2 _ _ hu1
  have s02:=s1.trans s2
  have nlu:nl≠u:=(Xaf hu1 nnl).symm
  have base2:∀b o,H b=some o->hid u H2 b=some o:=λb o e=>Xcw (s02 _ _ e) (Xaf e nu)
  have hnl2:hid u H2 nl=some (.lst ((dit row).map V.str)):=Xcw hnl nlu
  refine⟨nl,rfl,⟨_,SqL.of hnl⟩,?_⟩
  refine Xcy (K:=K) (a:=nl) (xs:=(dit row).map V.str) (λi σ H4=>(∃v3 v4, σ=[some (.ref r),some (.ref c),some (.ref u),v3,v4])/\Same (hid u H2) H4/\∃qs:List Addr,H4 u=some (.lst (qs.map V.ref))/\Tups H4 qs ((Xdj ((dit row).take i) Ts).map pr2)) ?_ ?_ ?_ ?_
  ·exact⟨⟨_,_,rfl⟩,Xc2 u H2,[],hu2,Tups.nil _⟩
  ·rintro i σ H4 _ ⟨⟨v3,v4,rfl⟩,s4,_⟩
   exact SqL.of (s4 _ _ hnl2)
  ·rintro i v σ H4 hi ⟨⟨v3,v4,rfl⟩,s4,qs,hu4,ht4⟩
   obtain⟨x,rfl,hx1⟩:=Xyc hi
   have hlt:i<(dit row).length:=(Xz2.mp hx1).1
   have htk:(dit row).take (i+1)=(dit row).take i++[x]:=by
    rw[List.take_succ,hx1]
    rfl
   have bb:∀b o,H b=some o->H4 b=some o:=λb o e=>s4 _ _ (base2 b o e)
   have hc4:=bb _ _ hc
   have hT4:Tups H4 ps Ts:=⟨hT.1,λj hj=>bb _ _ (hT.2 j hj)⟩
   refine⟨_,rfl,c,rfl,⟨_,SqL.of hc4⟩,?_⟩
   refine Xla (n:=ps.length) (by rw[X3g];omega) (λj=>.ref (ps.getD j 0)) (λj=>.str (bk (Ts.getD j []) x)) ?_ ?_ ?_ ?_
   ·intro j H5 hj s5
    have:=Xcd (K:=K) (SqL.of (s5 _ _ hc4)) (by rw[Xzk];exact hj)
    rw[Xaz V.ref 0 ps hj] at this
    exact this
   ·intro H5 s5
    have:=Xce (K:=K) (SqL.of (s5 _ _ hc4))
    rwa [Xzk] at this
   ·intro j H5 Q' hj s5 kk
    have hp5:=s5 _ _ (hT4.2 j hj)
    generalize Ts.getD j []=S at hp5 kk
    refine⟨by show 2<=sizeLine;decide,λt nt=>?_⟩
    have s6:Same H5 (upd H5 t (.tup [.str "home",.str "off"])):=(Same.refl H5).step nt
    have ht6:upd H5 t (.tup [.str "home",.str "off"]) t=some (.tup [.str "home",.str "off"]):=Xab
    dsimp only
    generalize upd H5 t (.tup [.str "home",.str "off"])=H6 at s6 ht6
    refine⟨_,rfl,_,rfl,ps.getD j 0,_,rfl,.inr (SqT.of (s6 _ _ hp5)),rfl,Xbr S,.inr ⟨_,rfl,?_⟩⟩
    have ei:(if false=true then !inV (.str x) (S.map V.str) else inV (.str x) (S.map V.str))=decide (x∈S):=by rw[X3h (by decide),Xcg]
    rw[ei]
    have hat:atI [V.str "home",V.str "off"] (if decide (x∈S)=true then (1:Int) else 0)=some (.str (bk S x)):=by
     unfold bk
     by_cases z:x∈S
     ·rw[X3j z,X3i rfl,X3i z];rfl
     ·rw[X3k z,X3h (by decide),X3h z];rfl
    exact⟨t,_,_,_,rfl,rfl,SqT.of ht6,hat,kk H6 s6⟩
   ·intro D H5 nD s5 hD
    have eL:(List.range ps.length).map (λj=>V.str (bk (Ts.getD j []) x))=(Ts.map λS=>bk S x).map V.str:=by
     rw[hT.1]
     have:=Xa0 [] (λ_=>true) Ts
     rw[X0d.mpr (λ_ _=>rfl),X0d.mpr (λ_ _=>rfl)] at this
     have q:=congrArg (List.map λS=>V.str (bk S x)) this
     rw[X0f] at q
     rw[X0f]
     exact q
    rw[eL] at hD
    have hl0:0<Ts.length:=X2x.mpr ne
    have hat0:atI ((Ts.map λS=>bk S x).map V.str) 0=some (.str (bk (Ts.headD []) x)):=by
     cases Ts with
     | nil=>exact absurd rfl ne
     | cons S r=>exact Xdb (j:=0) rfl
    have hu5:=s5 _ _ hu4
    have ht5:=ht4.same s5
    dsimp only[Xbv]
    refine⟨_,rfl,.inl ⟨rfl,_,SqL.of hD⟩,_,rfl,D,_,_,_,rfl,rfl,SqL.of hD,hat0,D,_,_,rfl,rfl,hD,rfl,Xbr _,?_⟩
    refine⟨_,rfl,D,_,rfl,.inl (SqL.of hD),rfl,_,rfl,?_⟩
    have eb:decide (V.int (((Ts.map λS=>bk S x).map V.str).countP (λz=>eqV z (.str (bk (Ts.headD []) x))):Nat)=V.int (((Ts.map λS=>bk S x).map V.str).length:Nat))=decide ((Xby Ts x).length=1):=by
     rw[Xq3,Xzk,Xzk]
     refine decide_eq_decide.mpr ?_
     rw[<-Xs5 ne x]
     exact⟨λh=>by injection h with h;exact Int.ofNat.inj h,λh=>by rw[h]⟩
    rw[eb]
    refine ite2b (λq=>?_) (λq=>?_)
    ·have h1:=X3l q
     refine⟨_,rfl,.inl ⟨rfl,_,SqL.of hu5⟩,_,rfl,_,rfl,D,_,_,_,rfl,rfl,SqL.of hD,hat0,by show 2<=sizeLine;decide,λp np=>?_⟩
     have hql:qs.length<=60:=by
      have:=ht4.1
      rw[Xzk] at this
      have h2:(Xdj ((dit row).take i) Ts).length<=i:=by
       unfold Xdj
       rw[Xzk]
       exact X0c (X0i ..) (by rw[Xz6];omega)
      omega
     refine⟨u,_,_,rfl,rfl,ku hu5 np,by rw[Xzk,X3g];omega,?_⟩
     have hu6:upd H5 p (.tup [.str x,.str (bk (Ts.headD []) x)]) u=some (.lst (qs.map V.ref)):=ku hu5 np
     have hp6:upd H5 p (.tup [.str x,.str (bk (Ts.headD []) x)]) p=some (.tup ((pr2 (x,bk (Ts.headD []) x)).map V.str)):=Xab
     have s6:Same H5 (upd H5 p (.tup [.str x,.str (bk (Ts.headD []) x)])):=(Same.refl H5).step np
     dsimp only
     generalize upd H5 p (.tup [.str x,.str (bk (Ts.headD []) x)])=H6 at hu6 hp6 s6
     have keep:∀b w,H6 b=some (.tup w)->upd H6 u (.lst (qs.map V.ref++[.ref p])) b=some (.tup w):=λb w e=>by
      rw[Xae (λz=>by rw[z,hu6] at e;cases e)]
      exact e
     refine⟨⟨_,_,rfl⟩,λb o e=>?_,qs++[p],by rw[Xab,Xzq];rfl,?_⟩
     ·have nb:b≠u:=λz=>by rw[z] at e;unfold hid at e;rw[X3i rfl] at e;cases e
      rw[Xae nb]
      exact s6 _ _ (s5 _ _ (s4 _ _ e))
     ·rw[htk,Xe7,X3i h1,Xq4 ne h1,Xzq]
      exact Tups.app ⟨ht5.1,λj hj=>keep _ _ (s6 _ _ (ht5.2 j hj))⟩ (Tups.cons (keep _ _ hp6) (Tups.nil _))
    ·refine⟨⟨_,_,rfl⟩,s4.trans s5,qs,hu5,?_⟩
     rw[htk,Xe7,X3h (X3m q),X0m]
     exact ht5
  ·rintro σ H4 ⟨⟨v3,v4,rfl⟩,s4,qs,hu4,ht4⟩
   rw[Xzk,X0j,Xkt] at ht4
   exact⟨_,rfl,k u qs H4 nu hu4 ht4 λb o e=>s4 _ _ (base2 b o e)⟩
theorem Xzi:FnScope ["_law_draw", "_law_some"] ["_law_draw", "_law_some"] (defScope s__law_one):=⟨rfl,rfl,rfl,by decide +kernel,rfl,by decide +kernel,by decide +kernel⟩
theorem Xyk{f:Addr}{fd:FuncData}(F:Fun K "_law_one" "_law_one" s__law_one f fd)(T:Bl mg)(FP:FnPick P w K mg base):FnOk P w K mg base CX0 2 f fd ["_law_draw", "_law_some"] spOne:=by
 refine F.ok Xzi (λvs H Q E h=>?_) (λcdv A outer s H vs Q E hr h=>?_)
 ·obtain⟨dr,sc,l,xs,rfl,_⟩:=h
  rfl
 ·obtain⟨dr,sc,l,xs,rfl,d,hl,nld,h0,h1,k⟩:=h
  have hr1:Room 1 _:=hr.mono (by decide)
  refine⟨_,Xag (Xak (Xa5 Xay (pv 1) (Xao FP hr1 (by rfl) pass0 (Xaa (pv 0) (Xaa (Xan Xap (by rfl) T.len boot_len (Xaa (pv 1) Xac)) Xac))) (λ_ _=>rfl))),?_⟩
  refine⟨_,rfl,_,rfl,_,rfl,l,_,rfl,.inl (SqL.of hl),dr,sc,_,rfl,by omega,by omega,d,λgi H4 g0 g1 d4 b4=>?_⟩
  have b4:But dr H H4:=b4
  obtain⟨gi,rfl⟩:=X0h g0
  have hgi:gi<xs.length:=by omega
  have hat:atI xs (gi:Int)=some (xs.getD gi .non):=Xdb (by rw[Xzl hgi];simp[List.getD,hgi])
  exact⟨l,_,_,_,rfl,rfl,SqL.of (b4 _ _ hl nld),hat,k gi H4 hgi d4 b4⟩
theorem Xzj:FnScope ["_law_draw", "_law_some"] ["_law_draw", "_law_some"] (defScope s__law_few):=⟨rfl,rfl,rfl,by decide +kernel,rfl,by decide +kernel,by decide +kernel⟩
theorem Xyl{f:Addr}{fd:FuncData}(F:Fun K "_law_few" "_law_few" s__law_few f fd)(B:Bl mg)(FP:FnPick P w K mg base)(FO:Fn P w K mg base CX0 2 "_law_one" ["_law_draw", "_law_some"] spOne):FnOk P w K mg base CX0 3 f fd ["_law_draw", "_law_some"] spFew:=by
 refine F.ok Xzj (λvs H Q E h=>?_) (λcdv A outer s H vs Q E hr h=>?_)
 ·obtain⟨dr,sc,l,ps,rfl,_⟩:=h
  rfl
 ·obtain⟨dr,sc,l,ps,rfl,d,hl,nld,h0,h1,k⟩:=h
  have hr1:Room 1 _:=hr.mono (by decide)
  refine⟨_,Xag (Xak (Xcv (N:=NFw) (cap:=[none,some 0,some 1]) (CompScope.of (defScope s__law_few) ["_law_draw", "_law_some"] rfl rfl rfl (by decide +kernel)) rfl
   (Xdo (by rfl) B.range (Xaa (Xat Xb4 Xah (Xao FP hr1 (by rfl) pass0 (Xaa (pv 0) (Xaa Xah Xac)))) Xac)) (λ_ _ _=>Xal (i:=0) (show NFw.Nodup by decide +kernel) rfl (Or.inl rfl) (Or.inr rfl)) (λ_ _ _=>Xbg)
   (λ_ _ _=>Xao (by exact FO) (by exact hr) (by rfl) pass0 (Xaa (pv 1) (Xaa (pv 2) Xac))))),?_⟩
  refine⟨_,rfl,dr,sc,4,rfl,by decide,by decide,d,λm H1 m0 m1 d1 b1=>?_⟩
  have b1:But dr H H1:=b1
  obtain⟨m,rfl⟩:=X0h m0
  refine⟨1,(m:Int),rfl,rfl,_,rfl,by omega,by omega,?_⟩
  have hn:((1:Int)+(m:Int)).toNat=1+m:=by omega
  rw[hn]
  have hl1:=b1 _ _ hl nld
  refine Xxi (n:=1+m) (λi=>.int (0+(i:Int))) (λD i σ2 H2=>(∃v, σ2=[v,some (.ref dr),some (.ref l)])/\DrawOk H2 dr sc/\But dr H1 H2/\∃qs:List Addr,H2 D=some (.lst (qs.map V.ref))/\qs.length=i/\∀q∈qs,q∈ps) ?_ ?_ ?_ ?_ ?_
  ·intro D hD
   obtain⟨n1,n2⟩:=d1.ne hD
   exact⟨⟨_,rfl⟩,d1.upd n1 n2,(But.refl dr H1).upd hD,[],Xab,rfl,λq hq=>by simp at hq⟩
  ·rintro D i σ2 H2 hD hi _
   refine⟨hi,λx H3 y=>?_⟩
   obtain⟨e1,e2⟩:=y
   exact⟨e1,e2⟩
  ·rintro D σ2 H2 hD _
   exact Xzn _
  ·rintro D i σ2 H2 hD hi ⟨⟨v,rfl⟩,d2,b2,qs,hq,hl2,hm⟩
   obtain⟨n1,n2⟩:=d1.ne hD
   have nlD:l≠D:=Xaf hl1 hD
   refine⟨_,rfl,_,rfl,dr,sc,l,_,rfl,d2,b2 _ _ hl1 nld,nld,by rw[Xzk];exact h0,by rw[Xzk];exact h1,λgi H3 hgi d3 b3=>?_⟩
   have b3:But dr H2 H3:=b3
   rw[Xzk] at hgi
   rw[Xaz V.ref 0 ps hgi]
   have hq3:=b3 _ _ hq n1
   refine wput hi hq3 (by rw[Xzk,X3g];omega) ⟨⟨_,rfl⟩,d3.upd n1 n2,λb o e n=>?_,qs++[ps.getD gi 0],by rw[Xab,Xzq];rfl,by rw[Xzt,hl2];rfl,λq hq=>?_⟩
   ·rw[Xae (Xaf e hD)]
    exact b3 _ _ (b2 _ _ e n) n
   ·rcases Xzv.mp hq with z | z
    ·exact hm q z
    ·rw[Xzr.mp z]
     have:ps.getD gi 0=ps[gi]:=by simp[List.getD,hgi]
     rw[this]
     exact X0b hgi
  ·rintro D σ2 H2 hD ⟨_,d2,b2,qs,hq,hl2,hm⟩
   obtain⟨xs,hdr⟩:=d1.at
   exact k D qs H2 (b1.free hdr hD) hq hm (by omega) (by omega) d2 (b1.trans b2)
theorem Xof:FnScope ["_law_row_here"] ["_law_row_here"] (defScope s__law_stranger):=⟨rfl,rfl,rfl,by decide +kernel,rfl,by decide +kernel,by decide +kernel⟩
theorem Xl2{f:Addr}{fd:FuncData}(F:Fun K "_law_stranger" "_law_stranger" s__law_stranger f fd):FnOk P w K mg base CX0 1 f fd ["_law_row_here"] Xc9:=by
 refine F.ok Xof (λvs H Q E h=>?_) (λcdv A outer s H vs Q E hr h=>?_)
 ·obtain⟨r,row,rfl,_⟩:=h
  rfl
 ·obtain⟨r,row,rfl,hR,hl,k⟩:=h
  have hu:=Xep hr
  refine⟨_,Xag (Xak (Xei (Xaj (Xtt (X2k hu)) (pv 0) (Xbd Xac) (nomark _))
   (Xat Xd1 (Xax Xxe (Xa5 Xay (pv 0) Xah (λ_ _=>rfl)) Xa3 (Xa2 Xah)) Xaq) Xaq)),?_⟩
  refine⟨_,rfl,by show 0<=sizeLine;decide,λp np=>?_⟩
  have s1:Same H (upd H p (.lst [])):=(Same.refl H).step np
  refine⟨r,p,_,_,rfl,rfl,SqL.of (s1 _ _ hR),SqL.of Xab,Xsk row,by simp,_,rfl,?_⟩
  have e:eqVL (row.map V.str) []=decide (row=[]):=Xh9 row []
  rw[e]
  cases row with
  | nil=>exact k _ s1
  | cons y r'=>
   refine iteT ?_
   refine⟨_,rfl,r,_,_,_,rfl,rfl,SqL.of (s1 _ _ hR),(show atI ((y::r').map V.str) ((0:Nat):Int)=some (.str y) from Xdb rfl),_,rfl,y,rfl,rfl,⟨_,rfl⟩,by have:=hl y Xzp;omega,?_⟩
   refine⟨_,_,rfl,rfl,?_,k _ s1⟩
   have h1:=Txt.slice_le y none (some 7)
   have h2:=hl y Xzp
   have h3:(Str.ofString "q").length=1:=rfl
   rw[X3g,h3]
   omega
theorem Xhd:FnScope NOk ["_law_draw", "_law_row_here", "_law_kept_here"] (defScope s__law_odd_kept):=⟨rfl,rfl,rfl,by decide +kernel,rfl,by decide +kernel,by decide +kernel⟩
theorem Xv8{f:Addr}{fd:FuncData}(F:Fun K "_law_odd_kept" "_law_odd_kept" s__law_odd_kept f fd)(B:Bl mg)(FP:FnPick P w K mg base)(FS:Fn P w K mg base CX0 1 "_law_stranger" ["_law_row_here"] Xc9)
  (FO:Fn P w K mg base CX0 2 "_law_one" ["_law_draw", "_law_some"] spOne):FnOk P w K mg base CX0 3 f fd ["_law_draw", "_law_row_here", "_law_kept_here"] spOddK:=by
 refine F.ok Xhd (λvs H Q E h=>?_) (λcdv A outer s H vs Q E hr h=>?_)
 ·obtain⟨dr,sc,r,kp,row,qs,kept,rfl,_⟩:=h
  rfl
 ·obtain⟨dr,sc,r,kp,row,qs,kept,rfl,d0,hR,nrd,hI,hk,nkd,hq,g,k⟩:=h
  have hu:=X2k (Xep hr)
  have hu1:=Xep hr
  have hr1:Room 1 _:=hr.mono (by decide)
  have h24:∀m,m<=100000->m<=sizeLine:=λm h=>by rw[X3g];omega
  refine⟨_,Xad (Xam (i:=2) Xhd.nd rfl (Or.inl rfl) (Xau Xbt (by rfl) B.list (by rfl) (Xaa (pv 2) Xac)))
   (Xad (Xam (i:=3) Xhd.nd rfl (Or.inl rfl) (Xao FP hr1 (by rfl) pass0 (Xaa (pv 0) (Xaa Xah Xac))))
   (Xad (Xam (i:=4) Xhd.nd rfl (Or.inl rfl) (Xao FP hr1 (by rfl) pass0 (Xaa (pv 0) (Xaa (Xat Xb4 (Xan Xap (by rfl) B.len boot_len (Xaa (pv 2) Xac)) Xah) Xac))))
   (Xad (Xbn (Xh2 (Xaj Xb3 (pv 3) Xah (nomark _)) (Xgh (Xaj (Xts hu) (pv 1) (Xbd Xac) (nomark _)))).pt
    (Xag (Xak (Xat Xbj (Xat Xbj (Xax Xbf (pv 2) Xa3 (Xa2 (pv 4))) (Xbd (Xaa (Xbq (Xaa (Xao FS hr1 (by rfl) pass0 (Xaa (pv 1) Xac)) (Xaa Xaq Xac))) Xac))) (Xax Xbf (pv 2) (Xa2 (pv 4)) Xa3)))) Xar)
   (Xad (Xbn (Xaj Xb3 (pv 3) Xah (nomark _))
    (Xag (Xak (Xat Xbj (Xat Xbj (Xax Xbf (pv 2) Xa3 (Xa2 (pv 4))) (Xbd (Xaa (Xbq (Xaa (Xao FO hr (by rfl) pass0 (Xaa (pv 0) (Xaa (pv 1) Xac))) (Xaa (Xa5 Xl8 (Xbq (Xaa Xaq (Xaa Xaq Xac))) (Xao FP hr1 (by rfl) pass0 (Xaa (pv 0) (Xaa Xah Xac))) (λ_ _=>rfl)) Xac))) Xac))) (Xax Xbf (pv 2) (Xa2 (pv 4)) Xa3)))) Xar)
   (Xad (Xbn (Xaj (Xhp (hu3 hr)) (pv 2) (Xbd Xac) (nomark _)) (Xag (Xak (pv 2))) Xar)
   (Xad (Xam (i:=4) Xhd.nd rfl (Or.inl rfl) (Xao FP hr1 (by rfl) pass0 (Xaa (pv 0) (Xaa (Xan Xap (by rfl) B.len boot_len (Xaa (pv 2) Xac)) Xac))))
   (Xad (Xej (Xa5 Xay (pv 2) (pv 4) (λ_ _=>rfl)) (Xol (n:=2) rfl (Xbe (Xal (i:=5) Xhd.nd rfl (Or.inl rfl)) (Xbe (Xal (i:=6) Xhd.nd rfl (Or.inl rfl)) Xeb))))
   (Xad (Xbn (Xaj Xb3 (pv 3) Xah (nomark _)) (Xag (Xak (Xat Xbj (Xax Xbf (pv 2) Xa3 (Xa2 (pv 4))) (Xax Xbf (pv 2) (Xa2 (Xat Xb4 (pv 4) Xah)) Xa3)))) Xar)
   (Xad (Xbn (Xaj Xb3 (pv 3) Xah (nomark _))
    (Xag (Xak (Xat Xbj (Xat Xbj (Xax Xbf (pv 2) Xa3 (Xa2 (pv 4))) (Xbd (Xaa (Xbq (Xaa (pv 5) (Xaa (Xbw hu1 (Xut (Xmb Xaq Xaq (Xmb Xaq Xaq Xus)) rfl rfl (by simp) (by decide)) (pv 6) (λ_ _=>rfl)) Xac))) Xac))) (Xax Xbf (pv 2) (Xa2 (Xat Xb4 (pv 4) Xah)) Xa3)))) Xar)
   (Xad (Xbn (Xaj Xb3 (pv 3) Xah (nomark _))
    (Xag (Xak (Xat Xbj (Xat Xbj (Xax Xbf (pv 2) Xa3 (Xa2 (pv 4))) (Xbd (Xaa (Xbq (Xaa (pv 5) (Xaa Xaq Xac))) Xac))) (Xax Xbf (pv 2) (Xa2 (Xat Xb4 (pv 4) Xah)) Xa3)))) Xar)
   (Xag (Xak (Xo8 (pv 2)))))))))))))),?_⟩
  have ko:=g.kp hI
  have hkl:qs.length=kept.length:=by
   have:=hq.1
   rwa [Xzk] at this
  have kl:kept.length<=14:=X0c g.len hI.dlen
  refine⟨_,rfl,kp,_,rfl,.inl (SqL.of hk),λkl' nkl=>?_⟩
  have s1:Same H (upd H kl' (.lst (qs.map V.ref))):=(Same.refl H).step nkl
  have hk1:upd H kl' (.lst (qs.map V.ref)) kl'=some (.lst (qs.map V.ref)):=Xab
  have nk1:kl'≠dr:=(d0.ne nkl).1
  dsimp only[Xbv]
  generalize upd H kl' (.lst (qs.map V.ref))=H1 at s1 hk1
  have d1:=d0.same s1
  have bB1:But dr H H1:=λb o e _=>s1 _ _ e
  refine⟨_,rfl,dr,sc,6,rfl,by decide,by decide,d1,λwy H2 w0 w1 d2 b2=>?_⟩
  have b2:But dr H1 H2:=b2
  dsimp only[Xbv]
  refine⟨_,rfl,_,rfl,kl',_,rfl,.inl (SqL.of (b2 _ _ hk1 nk1)),_,_,rfl,rfl,dr,sc,_,rfl,by omega,by rw[Xzk];omega,d2,λat_ H3 a0 a1 d3 b3=>?_⟩
  have b3:But dr H2 H3:=b3
  obtain⟨at_,rfl⟩:=X0h a0
  rw[Xzk] at a1
  have hat:at_<=qs.length:=by omega
  have b13:=b2.trans b3
  have b03:=bB1.trans b13
  have fin:∀{H4:Hp} {k':Addr} {qs':List Addr} {kept':List (Str×Str)},But dr H H4->DrawOk H4 dr sc->k'≠dr->H4 k'=some (.lst (qs'.map V.ref))->Tups H4 qs' (kept'.map pr2)->KpOk kept'->Q (.ref k') H4:=λb d n h t o=>k _ _ _ _ n h t o d b
  have tq:∀{H4:Hp},But dr H H4->Tups H4 qs (kept.map pr2):=λb=>⟨hq.1,λi hi=>b _ _ (hq.2 i hi) (d0.ntup _ _ (hq.2 i hi))⟩
  have hk3:=b13 _ _ hk1 nk1
  dsimp only[Xbv]
  refine Xye (decide ((wy:Int)=0)) (decide (row=[])) (λQ' hQ=>?_) (λH4 Q' s4 hQ=>?_) (λ_ H4 s4=>?_) (λhne H4 s4=>?_)
  ·refine⟨_,rfl,rfl,_,rfl,?_⟩
   have e:decide (V.int wy=V.int 0)=decide (wy=0):=decide_eq_decide.mpr ⟨λh=>by injection h,λh=>by rw[h]⟩
   rw[e]
   exact hQ H3 (Same.refl _)
  ·refine⟨_,rfl,by show 0<=sizeLine;decide,λe ne=>?_⟩
   refine⟨r,e,_,[],rfl,rfl,SqL.of (ku (s4 _ _ (b03 _ _ hR nrd)) ne),SqL.of Xab,λv hv=>?_,λv hv=>absurd hv (by simp),_,rfl,?_⟩
   ·obtain⟨x,_,rfl⟩:=Xz4.mp hv
    rfl
   ·have ee:id (eqVL (row.map V.str) [])=decide (row=[]):=by cases row<;>rfl
    rw[ee]
    exact hQ _ ((Same.refl H4).step ne)
  ·-- a stranger
   have b04:=b03.same s4
   have d4:=d3.same s4
   have hk4:=s4 _ _ hk3
   refine⟨_,rfl,_,rfl,_,rfl,kl',_,rfl,SqL.of hk4,λp1 n1=>?_⟩
   rw[Xdu _ _ _ hat]
   have s5:Same H4 (upd H4 p1 (.lst ((qs.take at_).map V.ref))):=(Same.refl H4).step n1
   have hp5:upd H4 p1 (.lst ((qs.take at_).map V.ref)) p1=some (.lst ((qs.take at_).map V.ref)):=Xab
   dsimp only
   generalize upd H4 p1 (.lst ((qs.take at_).map V.ref))=H5 at s5 hp5
   refine⟨_,rfl,r,row,rfl,s5 _ _ (b04 _ _ hR nrd),λy hy=>(hI.ok y hy).1,λH6 s6=>⟨by show 2<=sizeLine;decide,λt nt=>⟨by show 1<=sizeLine;decide,λp2 n2=>?_⟩⟩⟩
   refine⟨p1,p2,_,[.ref t],rfl,rfl,ku (ku (s6 _ _ hp5) nt) n2,Xab,h24 _ (by simp;omega),λp3 n3=>?_⟩
   refine⟨_,rfl,_,rfl,_,rfl,kl',_,rfl,SqL.of (ku (ku (ku (s6 _ _ (s5 _ _ hk4)) nt) n2) n3),λp4 n4=>?_⟩
   rw[Xdv _ _ _ hat]
   refine⟨p3,p4,_,_,rfl,rfl,ku Xab n4,Xab,h24 _ (by simp;omega),λp5 n5=>?_⟩
   have s7:=((((((Same.refl H6).go nt n2).go n2 n3).go n3 n4).go n4 n5)).step (o:=.lst ((qs.take at_).map V.ref++[.ref t]++(qs.drop at_).map V.ref)) n5
   have b07:=b04.same (s5.trans (s6.trans s7))
   refine fin (qs':=qs.take at_++t::qs.drop at_) (kept':=kept.take at_++(Xb5 row,("home" : Str))::kept.drop at_) b07 (d4.same (s5.trans (s6.trans s7))) ?_ (by rw[Xab];simp) (SH.Tups.mid (tq b07) (ku (ku (ku (ku Xab n2) n3) n4) n5) at_ at_) (ko.mid kl _ _ (Xzn _) ⟨hI.stranger9,(Xft (.inr rfl)).1,hI.stranger.1,(Xft (.inr rfl)).2⟩)
   obtain⟨xs,hdr⟩:=(d4.same (s5.trans s6)).at
   exact λz=>by rw[z] at n5;rw[ku (ku (ku (ku hdr nt) n2) n3) n4] at n5;cases n5
  ·have b04:=b03.same s4
   have d4:=d3.same s4
   have hk4:=s4 _ _ hk3
   have hR4:=b04 _ _ hR nrd
   clear s4
   refine⟨_,rfl,rfl,_,rfl,?_⟩
   refine ite2b (λ_=>?_) (λ_=>?_)
   ·-- a name of the row
    have nr:row≠[]:=λz=>by rw[z] at hne;simp at hne
    have rl:0<row.length:=X2x.mpr nr
    have rl2:=hI.len
    obtain⟨xs4,hdr4⟩:=d4.at
    refine⟨_,rfl,_,rfl,_,rfl,kl',_,rfl,SqL.of hk4,λp1 n1=>?_⟩
    rw[Xdu _ _ _ hat]
    have s5:Same H4 (upd H4 p1 (.lst ((qs.take at_).map V.ref))):=(Same.refl H4).step n1
    have hp5:upd H4 p1 (.lst ((qs.take at_).map V.ref)) p1=some (.lst ((qs.take at_).map V.ref)):=Xab
    have np1:p1≠dr:=λz=>by rw[z,hdr4] at n1;cases n1
    dsimp only
    generalize upd H4 p1 (.lst ((qs.take at_).map V.ref))=H5 at s5 hp5
    have d5:=d4.same s5
    have b05:=b04.same s5
    refine⟨_,rfl,_,rfl,dr,sc,r,_,rfl,d5,s5 _ _ hR4,nrd,by rw[Xzk];exact rl,by rw[Xzk];omega,λgi H6 hgi d6 b6=>?_⟩
    have b6:But dr H5 H6:=b6
    rw[Xzk] at hgi
    rw[Xaz V.str Str.empty row hgi]
    have hx:row.getD gi Str.empty∈row:=Xbb hgi
    generalize row.getD gi Str.empty=x at hx
    refine⟨by show 2<=sizeLine;decide,λu nu=>?_⟩
    have s7:Same H6 (upd H6 u (.tup [.str "home",.str "off"])):=(Same.refl H6).step nu
    have hu7:upd H6 u (.tup [.str "home",.str "off"]) u=some (.tup [.str "home",.str "off"]):=Xab
    dsimp only
    generalize upd H6 u (.tup [.str "home",.str "off"])=H7 at s7 hu7
    have d7:=d6.same s7
    refine⟨_,rfl,dr,sc,2,rfl,by decide,by decide,d7,λbb H8 c0 c1 d8 b8=>?_⟩
    have b8:But dr H7 H8:=b8
    obtain⟨bb,rfl⟩:=X0h c0
    have hbb:∃y:Str,atI [V.str "home",V.str "off"] (bb:Int)=some (.str y)/\(y = "off" \/ y = "home"):=by
     have:bb<2:=by omega
     match bb,this with
     | 0,_=>exact⟨"home",rfl,.inr rfl⟩
     | 1,_=>exact⟨"off",rfl,.inl rfl⟩
    obtain⟨y,hy,hyb⟩:=hbb
    have hp8:H8 p1=some (.lst ((qs.take at_).map V.ref)):=b8 _ _ (s7 _ _ (b6 _ _ hp5 np1)) np1
    have hk8:H8 kl'=some (.lst (qs.map V.ref)):=b8 _ _ (s7 _ _ (b6 _ _ (s5 _ _ hk4) nk1)) nk1
    have b08:=((b05.trans b6).same s7).trans b8
    obtain⟨xs8,hdr8⟩:=d8.at
    refine⟨u,_,_,_,rfl,rfl,SqT.of (b8 _ _ hu7 (d7.ntup _ _ hu7)),hy,by show 2<=sizeLine;decide,λt nt=>⟨by show 1<=sizeLine;decide,λp2 n2=>?_⟩⟩
    refine⟨p1,p2,_,[.ref t],rfl,rfl,ku (ku hp8 nt) n2,Xab,h24 _ (by simp;omega),λp3 n3=>?_⟩
    refine⟨_,rfl,_,rfl,_,rfl,kl',_,rfl,SqL.of (ku (ku (ku hk8 nt) n2) n3),λp4 n4=>?_⟩
    rw[Xdv _ _ _ hat]
    refine⟨p3,p4,_,_,rfl,rfl,ku Xab n4,Xab,h24 _ (by simp;omega),λp5 n5=>?_⟩
    have s9:=(((((Same.refl H8).go nt n2).go n2 n3).go n3 n4).go n4 n5).step (o:=.lst ((qs.take at_).map V.ref++[.ref t]++(qs.drop at_).map V.ref)) n5
    have b09:=b08.same s9
    have oy:=Xft hyb
    exact fin (qs':=qs.take at_++t::qs.drop at_) (kept':=kept.take at_++(x,y)::kept.drop at_) b09 (d8.same s9) (λz=>by rw[z] at n5;rw[ku (ku (ku (ku hdr8 nt) n2) n3) n4] at n5;cases n5) (by rw[Xab];simp) (SH.Tups.mid (tq b09) (ku (ku (ku (ku Xab n2) n3) n4) n5) at_ at_) (ko.mid kl _ _ (Xzn _) ⟨hI.r9 x hx,oy.1,hI.ok x hx,oy.2⟩)
   ·refine⟨_,rfl,by show 0<=sizeLine;decide,λe ne=>?_⟩
    have s5:Same H4 (upd H4 e (.lst [])):=(Same.refl H4).step ne
    have he5:upd H4 e (.lst []) e=some (.lst []):=Xab
    dsimp only
    generalize upd H4 e (.lst [])=H5 at s5 he5
    have b05:=b04.same s5
    have d5:=d4.same s5
    have hk5:=s5 _ _ hk4
    refine⟨.list ((kept.map pr2).map tupD),.list (([]:List (List Str)).map tupD),Xdi hk5 (tq b05),Xfl he5 Xcj,Xav _ (Xba ko.okL),rfl,Xdy _ [],_,rfl,?_⟩
    rw[Xe4 ko.okL (λS hS=>absurd hS (by simp))]
    refine ite2b (λ_=>?_) (λq0=>?_)
    ·exact⟨_,rfl,fin b05 d5 nk1 hk5 (tq b05) ko⟩
    have kn:0<kept.length:=by
     have:=X3m q0
     cases kept with
     | nil=>exact absurd rfl this
     | cons _ _=>exact Nat.succ_pos _
    clear s5 he5
    refine⟨_,rfl,_,rfl,kl',_,rfl,.inl (SqL.of hk5),dr,sc,_,rfl,by rw[Xzk];omega,by rw[Xzk];omega,d5,λi H6 i0 i1 d6 b6=>?_⟩
    have b6:But dr H5 H6:=b6
    obtain⟨i,rfl⟩:=X0h i0
    rw[Xzk] at i1
    have hi:i<kept.length:=by omega
    have hiq:i<qs.length:=by omega
    have b06:=b05.trans b6
    have hk6:=b6 _ _ hk5 nk1
    have ht6:=(tq b06).2 i hiq
    have e1:(kept.map pr2).getD i []=pr2 kept[i]:=by simp[List.getD,hi]
    rw[e1] at ht6
    have hm:=X0b hi
    generalize kept[i]=q at ht6 hm
    obtain⟨o1,o2,o3,o4⟩:=ko.ok q hm
    have hs:=(g.row q hm).2
    have hat6:atI (qs.map V.ref) (i:Int)=some (.ref (qs.getD i 0)):=Xdb (by rw[Xz1,Xzl hiq];simp[List.getD,hiq])
    have ii:(i:Int)+1=((i+1:Nat):Int):=by simp
    have hc1:i<=qs.length:=by omega
    have hc2:i+1<=qs.length:=by omega
    obtain⟨xs6,hdr6⟩:=d6.at
    dsimp only[Xbv]
    refine⟨_,rfl,_,rfl,kl',_,_,_,rfl,rfl,SqL.of hk6,hat6,_,_,rfl,SqT.of ht6,rfl,_,_,rfl,_,_,rfl,rfl,?_⟩
    refine⟨_,rfl,rfl,_,rfl,?_⟩
    refine ite2b (λ_=>?_) (λ_=>?_)
    ·-- one less
     refine⟨_,rfl,_,rfl,_,rfl,kl',_,rfl,SqL.of hk6,λp1 n1=>?_⟩
     rw[Xdu _ _ _ hc1]
     refine⟨_,rfl,_,rfl,_,_,rfl,rfl,_,rfl,kl',_,rfl,SqL.of (ku hk6 n1),λp2 n2=>?_⟩
     rw[ii,Xdv _ _ _ hc2]
     refine⟨p1,p2,_,_,rfl,rfl,ku Xab n2,Xab,h24 _ (by simp;omega),λp3 n3=>?_⟩
     have s7:=(((Same.refl H6).go n1 n2).go n2 n3).step (o:=.lst ((qs.take i).map V.ref++(qs.drop (i+1)).map V.ref)) n3
     have b07:=b06.same s7
     refine fin (qs':=qs.take i++qs.drop (i+1)) (kept':=kept.take i++kept.drop (i+1)) b07 (d6.same s7) (λz=>by rw[z] at n3;rw[ku (ku hdr6 n1) n2] at n3;cases n3) (by rw[Xab];simp) ?_ (ko.cut kl _ _ (X00 _))
     have ek:(kept.take i++kept.drop (i+1)).map pr2=(kept.map pr2).take i++(kept.map pr2).drop (i+1):=by rw[Xzq,X29,X3a]
     rw[ek]
     exact Tups.app (Xm8 (tq b07) i) (Xm9 (tq b07) (i+1))
    refine⟨_,rfl,rfl,_,rfl,?_⟩
    refine ite2b (λ_=>?_) (λ_=>?_)
    ·-- the other bank
     have hfl:∃y:Str,valV (mergeK [] [((Sum.inr "home" : Key),V.str "off"),(Sum.inr "off",V.str "home")]) (Sum.inr q.2:Key)=some (.str y)/\(y = "off" \/ y = "home"):=by
      rcases hs with e | e
      ·rw[e];exact⟨"home",rfl,.inr rfl⟩
      ·rw[e];exact⟨"off",rfl,.inl rfl⟩
     obtain⟨y,hy,hyb⟩:=hfl
     refine⟨_,rfl,_,rfl,_,rfl,kl',_,rfl,SqL.of hk6,λp1 n1=>?_⟩
     rw[Xdu _ _ _ hc1]
     refine⟨_,rfl,λdd ndd=>⟨Xab,[((Sum.inr "home" : Key),V.str "off"),(Sum.inr "off",V.str "home")],rfl,by show 2<=15;decide,?_⟩⟩
     have s7:Same (upd H6 p1 (.lst ((qs.take i).map V.ref))) (upd (upd (upd H6 p1 (.lst ((qs.take i).map V.ref))) dd (.dK [])) dd (.dK (mergeK [] [((Sum.inr "home" : Key),V.str "off"),(Sum.inr "off",V.str "home")]))):=λb o e=>by
      rw[Xae (Xaf e ndd),Xae (Xaf e ndd)]
      exact e
     have hd7:upd (upd (upd H6 p1 (.lst ((qs.take i).map V.ref))) dd (.dK [])) dd (.dK (mergeK [] [((Sum.inr "home" : Key),V.str "off"),(Sum.inr "off",V.str "home")])) dd=some (.dK (mergeK [] [((Sum.inr "home" : Key),V.str "off"),(Sum.inr "off",V.str "home")])):=Xab
     have hp7:=s7 p1 _ Xab
     have s67:=((Same.refl H6).step (o:=.lst ((qs.take i).map V.ref)) n1).trans s7
     dsimp only
     generalize upd (upd (upd H6 p1 (.lst ((qs.take i).map V.ref))) dd (.dK [])) dd (.dK (mergeK [] [((Sum.inr "home" : Key),V.str "off"),(Sum.inr "off",V.str "home")]))=H7 at hd7 hp7 s67
     refine⟨_,rfl,dd,_,rfl,.inl ⟨_,_,.inl hd7,rfl,hy.symm⟩,by show 2<=sizeLine;decide,λt nt=>⟨by show 1<=sizeLine;decide,λp2 n2=>?_⟩⟩
     have hdr7:=s67 _ _ hdr6
     refine⟨p1,p2,_,[.ref t],rfl,rfl,ku (ku hp7 nt) n2,Xab,h24 _ (by simp;omega),λp3 n3=>?_⟩
     refine⟨_,rfl,_,rfl,_,_,rfl,rfl,_,rfl,kl',_,rfl,SqL.of (ku (ku (ku (s67 _ _ hk6) nt) n2) n3),λp4 n4=>?_⟩
     rw[ii,Xdv _ _ _ hc2]
     refine⟨p3,p4,_,_,rfl,rfl,ku Xab n4,Xab,h24 _ (by simp;omega),λp5 n5=>?_⟩
     have s8:=(((((Same.refl H7).go nt n2).go n2 n3).go n3 n4).go n4 n5).step (o:=.lst ((qs.take i).map V.ref++[.ref t]++(qs.drop (i+1)).map V.ref)) n5
     have s68:=s67.trans s8
     have b08:=b06.same s68
     have oy:=Xft hyb
     exact fin (qs':=qs.take i++t::qs.drop (i+1)) (kept':=kept.take i++(q.1,y)::kept.drop (i+1)) b08 (d6.same s68) (λz=>by rw[z] at n5;rw[ku (ku (ku (ku hdr7 nt) n2) n3) n4] at n5;cases n5) (by rw[Xab];simp) (SH.Tups.mid (tq b08) (ku (ku (ku (ku Xab n2) n3) n4) n5) i (i+1)) (ko.mid kl _ _ (X00 _) ⟨o1,oy.1,o3,oy.2⟩)
    refine⟨_,rfl,rfl,_,rfl,?_⟩
    refine ite2b (λ_=>?_) (λ_=>?_)
    ·-- no bank
     refine⟨_,rfl,_,rfl,_,rfl,kl',_,rfl,SqL.of hk6,λp1 n1=>?_⟩
     rw[Xdu _ _ _ hc1]
     refine⟨_,rfl,by show 2<=sizeLine;decide,λt nt=>⟨by show 1<=sizeLine;decide,λp2 n2=>?_⟩⟩
     refine⟨p1,p2,_,[.ref t],rfl,rfl,ku (ku Xab nt) n2,Xab,h24 _ (by simp;omega),λp3 n3=>?_⟩
     refine⟨_,rfl,_,rfl,_,_,rfl,rfl,_,rfl,kl',_,rfl,SqL.of (ku (ku (ku (ku hk6 n1) nt) n2) n3),λp4 n4=>?_⟩
     rw[ii,Xdv _ _ _ hc2]
     refine⟨p3,p4,_,_,rfl,rfl,ku Xab n4,Xab,h24 _ (by simp;omega),λp5 n5=>?_⟩
     have s7:=(((((Same.refl H6).go n1 nt).go nt n2).go n2 n3).go n3 n4).go n4 n5
     have s8:=s7.step (o:=.lst ((qs.take i).map V.ref++[.ref t]++(qs.drop (i+1)).map V.ref)) n5
     have b08:=b06.same s8
     exact fin (qs':=qs.take i++t::qs.drop (i+1)) (kept':=kept.take i++(q.1,("bank" : Str))::kept.drop (i+1)) b08 (d6.same s8) (λz=>by rw[z] at n5;rw[ku (ku (ku (ku (ku hdr6 n1) nt) n2) n3) n4] at n5;cases n5) (by rw[Xab];simp) (SH.Tups.mid (tq b08) (ku (ku (ku (ku Xab n2) n3) n4) n5) i (i+1)) (ko.mid kl _ _ (X00 _) ⟨o1,Xm7.1,o3,Xm7.2⟩)
    ·refine⟨_,rfl,kl',_,rfl,SqL.of hk6,λp1 n1=>?_⟩
     have s7:=(Same.refl H6).step (o:=.lst (qs.map V.ref).reverse) n1
     have b07:=b06.same s7
     refine fin (qs':=qs.reverse) (kept':=kept.reverse) b07 (d6.same s7) (λz=>by rw[z,hdr6] at n1;cases n1) (by rw[Xab,List.map_reverse]) ?_ ko.rev
     have ek:kept.reverse.map pr2=(kept.map pr2).reverse:=List.map_reverse
     rw[ek]
     exact Xq5 (tq b07)
theorem Xym:FnScope NFl ["_law_plot", "_law_name"] (defScope s__law_flip):=⟨rfl,rfl,rfl,by decide +kernel,rfl,by decide +kernel,by decide +kernel⟩
theorem Xv9{f:Addr}{fd:FuncData}(F:Fun K "_law_flip" "_law_flip" s__law_flip f fd)(T:Bl mg):FnOk P w K mg base CX0 1 f fd ["_law_plot", "_law_name"] spFlip:=by
 refine F.ok Xym (λvs H Q E h=>?_) (λcdv A outer s H vs Q E hr h=>?_)
 ·obtain⟨p,ss,x,rfl,_⟩:=h
  rfl
 ·obtain⟨p,ss,x,rfl,hP,hl,k⟩:=h
  refine⟨_,Xag (Xak (Xau Xb6 (by rfl) T.tuple (by rfl) (Xaa (Xan Xj2 (by rfl) T.sorted (by rfl) (Xaa (Xat Xbj
   (Xcv (N:=NFl1) (cap:=[none,some 1]) (CompScope.of (defScope s__law_flip) NFl rfl rfl rfl (by decide +kernel)) rfl
    (Xl5 (pv 0)) (λ_ _ _=>Xal (i:=0) (show NFl1.Nodup by decide +kernel) rfl (Or.inl rfl) (Or.inr rfl)) (λ_ _ _=>Xbz (Xaj Xot (pv 0) (pv 1) (nomark _))) (λ_ _ _=>pv 0))
   (Xat Xtq (Xbd (Xaa (pv 1) Xac)) (Xau Xdp (by rfl) T.int (by rfl) (Xaa (Xbo Xdq (pv 1) (pv 0) (by rfl)) Xac)))) Xac)) Xac))),?_⟩
  refine⟨_,rfl,p,rfl,⟨_,SqT.of hP⟩,?_⟩
  refine Xc1 (n:=ss.length) (by rw[X3g];omega) (λi=>(ss.map V.str).getD i .non) (λi=>decide (ss.getD i Str.empty≠x)) (λi=>.str (ss.getD i Str.empty)) ?_ ?_ ?_ ?_ ?_
  ·intro i H2 hi s2
   exact Xmf (SqT.of (s2 _ _ hP)) (by rw[Xzk];exact hi)
  ·intro H2 s2
   have:=Xmg (K:=K) (SqT.of (s2 _ _ hP))
   rwa [Xzk] at this
  ·intro i H2 Q' hi s2 kk
   rw[Xaz V.str Str.empty _ hi]
   refine⟨_,rfl,_,rfl,rfl,_,rfl,?_⟩
   rw[Xb1]
   have:=kk H2 (Same.refl _)
   have e:(!decide (ss.getD i Str.empty=x))=decide (ss.getD i Str.empty≠x):=by
    by_cases z:ss.getD i Str.empty=x
    ·simp[z]
    ·simp[z]
   rw[e]
   exact this
  ·intro i H2 Q' hi hk s2 kk
   rw[Xaz V.str Str.empty _ hi]
   exact⟨_,rfl,kk H2 (Same.refl _)⟩
  ·intro D H2 nD s2 hD
   have hD':H2 D=some (.lst ((ss.filter λy=>decide (y≠x)).map V.str)):=by
    rw[hD,<-Xa0 Str.empty (λy=>decide (y≠x)) ss,X0f]
    rfl
   have hfl:=X0i (λy=>decide (y≠x)) ss
   refine⟨_,rfl,by show 1<=sizeLine;decide,λb nb=>?_⟩
   refine⟨_,rfl,_,rfl,p,_,rfl,.inr (SqT.of (ku (s2 _ _ hP) nb)),rfl,Xbr ss,.inr ⟨_,rfl,?_⟩⟩
   rw[Xcg]
   show rRep _ _ _ _
   have eint:(if (!decide (x∈ss))=true then (1:Int) else 0).toNat=(if x∈ss then 0 else 1):=by
    by_cases hx:x∈ss
    ·simp[hx]
    ·simp[hx]
   have erep:(List.replicate (if x∈ss then 0 else 1) [V.str x]).flatten=(if x∈ss then ([]:List Str) else [x]).map V.str:=by
    by_cases hx:x∈ss
    ·simp[hx]
    ·simp[hx]
   refine⟨b,_,_,rfl,rfl,Xab,?_,?_,?_,λc nc=>?_⟩
   ·by_cases hx:x∈ss<;>simp[hx]
   ·by_cases hx:x∈ss<;>simp[hx]
   ·rw[X3i rfl,eint,X3g]
    by_cases hx:x∈ss<;>simp[hx]
   ·rw[X3i rfl,eint,erep]
    have hone:(if x∈ss then ([]:List Str) else [x]).length<=1:=by by_cases hx:x∈ss<;>simp[hx]
    have s3:=(s2.step (o:=.lst [V.str x]) nb)
    refine⟨D,c,_,_,rfl,rfl,ku (ku hD' nb) nc,Xab,by rw[Xzk,Xzk,X3g];omega,λe ne=>?_⟩
    have s4:=s3.step (o:=.lst ((if x∈ss then ([]:List Str) else [x]).map V.str)) nc
    rw[<-Xzq]
    refine⟨e,_,rfl,Xab,by rw[Xzt];omega,λt nt=>?_⟩
    have s5:=s4.step (o:=.lst ((ss.filter (λy=>decide (y≠x))++(if x∈ss then [] else [x])).map V.str)) ne
    refine⟨t,_,rfl,.inl ⟨SqL.of Xab,λq nq=>?_⟩⟩
    have s6:=s5.step (o:=.lst ((srt (ss.filter (λy=>decide (y≠x))++(if x∈ss then [] else [x]))).map V.str)) nt
    exact k q _ (s6.free nq) Xab (s6.step nq)
theorem Xtg:FnScope NOd ["_law_draw", "_law_row_here", "_law_plot"] (defScope s__law_odd_plot):=⟨rfl,rfl,rfl,by decide +kernel,rfl,by decide +kernel,by decide +kernel⟩
theorem Xyn{f:Addr}{fd:FuncData}(F:Fun K "_law_odd_plot" "_law_odd_plot" s__law_odd_plot f fd)(T:Bl mg)(FP:FnPick P w K mg base)(FS:Fn P w K mg base CX0 1 "_law_stranger" ["_law_row_here"] Xc9)
  (FF:Fn P w K mg base CX0 1 "_law_flip" ["_law_plot", "_law_name"] spFlip):FnOk P w K mg base CX0 2 f fd ["_law_draw", "_law_row_here", "_law_plot"] spOdd:=by
 refine F.ok Xtg (λvs H Q E h=>?_) (λcdv A outer s H vs Q E hr h=>?_)
 ·obtain⟨dr,sc,r,p,row,ss,rfl,_⟩:=h
  rfl
 ·obtain⟨dr,sc,r,p,row,ss,rfl,dk,hR,nrd,hI,hP,hok,hsl,k⟩:=h
  have hu:=X2k (Xep hr)
  have h24:∀m,m<=100000->m<=sizeLine:=λm h=>by rw[X3g];omega
  refine⟨_,Xad (Xam (i:=3) Xtg.nd rfl (Or.inl rfl) (Xao FP hr (by rfl) pass0 (Xaa (pv 0) (Xaa Xah Xac))))
   (Xad (Xam (i:=4) Xtg.nd rfl (Or.inl rfl) (Xao FP hr (by rfl) pass0 (Xaa (pv 0) (Xaa (Xat Xb4 (Xan Xap (by rfl) T.len boot_len (Xaa (pv 2) Xac)) Xah) Xac))))
   (Xad (Xbn (Xh2 (Xaj Xb3 (pv 3) Xah (nomark _)) (Xgh (Xaj (Xts hu) (pv 1) (Xbd Xac) (nomark _)))).pt
    (Xag (Xak (Xat Xev (Xat Xev (Xax Xgx (pv 2) Xa3 (Xa2 (pv 4))) (Xbq (Xaa (Xao FS hr (by rfl) pass0 (Xaa (pv 1) Xac)) Xac))) (Xax Xgx (pv 2) (Xa2 (pv 4)) Xa3)))) Xar)
   (Xad (Xam (i:=5) Xtg.nd rfl (Or.inl rfl) (Xa5 Xay (pv 1) (Xao FP hr (by rfl) pass0 (Xaa (pv 0) (Xaa (Xan Xap (by rfl) T.len boot_len (Xaa (pv 1) Xac)) Xac))) (λ_ _=>rfl)))
   (Xad (Xbn (Xaj Xb3 (pv 3) Xah (nomark _)) (Xag (Xak (Xat Xev (Xat Xev (Xax Xgx (pv 2) Xa3 (Xa2 (pv 4))) (Xbq (Xaa (pv 5) Xac))) (Xax Xgx (pv 2) (Xa2 (pv 4)) Xa3)))) Xar)
   (Xad (Xbn (Xaj Xb3 (pv 3) Xah (nomark _)) (Xag (Xak (Xu7 (pv 2)))) Xar)
   (Xad (Xbn (Xaj Xb3 (pv 3) Xah (nomark _)) (Xag (Xak (Xau Xb6 (by rfl) T.tuple (by rfl) (Xaa (Xat Xbj (Xau Xbt (by rfl) T.list boot_list (Xaa (pv 2) Xac)) (Xau Xbt (by rfl) T.list boot_list (Xaa (Xax Xgx (pv 2) Xa3 (Xa2 Xah)) Xac))) Xac)))) Xar)
   (Xag (Xak (Xao FF hr (by rfl) pass0 (Xaa (pv 2) (Xaa (pv 5) Xac))))))))))),?_⟩
  refine⟨_,rfl,dr,sc,5,rfl,by decide,by decide,dk,λwy H1 w0 w1 d1 b1=>?_⟩
  have npd:∀{H0:Hp} {q:Addr} {xs:List V},DrawOk H0 dr sc->H0 q=some (.tup xs)->q≠dr:=λ{H0 q xs} d e z=>by
   obtain⟨ys,h⟩:=d.at
   rw[z,h] at e
   cases e
  have b1:But dr H H1:=b1
  have hP1:=b1 _ _ hP (npd dk hP)
  have hR1:=b1 _ _ hR nrd
  refine⟨_,rfl,_,rfl,p,_,rfl,.inr (SqT.of hP1),_,_,rfl,rfl,dr,sc,_,rfl,by omega,by rw[Xzk];omega,d1,λat_ H2 a0 a1 d2 b2=>?_⟩
  obtain⟨at_,rfl⟩:=X0h a0
  rw[Xzk] at a1
  have hat:at_<=ss.length:=by omega
  have b2:But dr H1 H2:=b2
  have b12:=b1.trans b2
  have hP2:=b2 _ _ hP1 (npd d1 hP1)
  have hR2:=b2 _ _ hR1 nrd
  have put:∀(x:Str) (H3:Hp),okN x->DrawOk H3 dr sc->But dr H H3->H3 p=some (.tup (ss.map V.str))->∀(q:Addr) (H4:Hp),Same H3 H4->H4 q=some (.tup ((ss.take at_++[x]++ss.drop at_).map V.str))->Q (.ref q) H4:=λx H3 hx d3 b3 _ q H4 s4 hq=>by
   refine k q _ H4 hq (λy hy=>?_) ?_ (d3.same s4) (b3.same s4)
   ·rcases Xzv.mp hy with hy | hy
    ·rcases Xzv.mp hy with hy | hy
     ·exact hok y (X1a hy)
     ·rw[Xzr.mp hy];exact hx
    ·exact hok y (X1h hy)
   ·rw[Xzt,Xzt,Xz6,X05,X0o]
    omega
  have strange:∀H3,DrawOk H3 dr sc->But dr H H3->H3 p=some (.tup (ss.map V.str))->H3 r=some (.lst (row.map V.str)) ->
    ∀(q:Addr) (H4:Hp),Same H3 H4->H4 q=some (.tup ((ss.take at_++[Xb5 row]++ss.drop at_).map V.str))->Q (.ref q) H4:=λH3 d3 b3 hP3 _=>put _ H3 hI.stranger.1 d3 b3 hP3
  have tailS:∀H3,DrawOk H3 dr sc->But dr H H3->H3 p=some (.tup (ss.map V.str))->H3 r=some (.lst (row.map V.str)) ->
    tSl Xu6 (tVar 2) Xky (Xuj (tVar 4)) [some (.ref dr),some (.ref r),some (.ref p),some (.int wy),some (.int at_),none] H3 λx H4=>tTup (Xi2 (Xuf Xc9 [] E0 (Xi2 (tVar 1) tNil)) tNil) [some (.ref dr),some (.ref r),some (.ref p),some (.int wy),some (.int at_),none] H4 λy H5=>Xpw x y H5 λz H6=>
     tSl Xu6 (tVar 2) (Xuj (tVar 4)) Xky [some (.ref dr),some (.ref r),some (.ref p),some (.int wy),some (.int at_),none] H6 λu H7=>Xpw z u H7 Q:=λH3 d3 b3 hP3 hR3=>by
   refine⟨_,rfl,_,rfl,_,rfl,p,_,rfl,hP3,λq1 H4 s4 hq1=>?_⟩
   rw[Xdu _ _ _ hat] at hq1
   refine⟨_,rfl,r,row,rfl,s4 _ _ hR3,λy hy=>(hI.ok y hy).1,λH5 s5=>⟨by show 1<=sizeLine;decide,λq2 n2=>?_⟩⟩
   have s35:=(s4.trans s5).step (o:=.tup [.str (Xb5 row)]) n2
   refine⟨q1,q2,_,[.str (Xb5 row)],rfl,rfl,ku (s5 _ _ hq1) n2,Xab,h24 _ (by simp;omega),λq3 H6 s6 hq3=>?_⟩
   have s36:=s35.trans s6
   refine⟨_,rfl,_,rfl,_,rfl,p,_,rfl,s36 _ _ hP3,λq4 H7 s7 hq4=>?_⟩
   rw[Xdv _ _ _ hat] at hq4
   refine⟨q3,q4,_,_,rfl,rfl,s7 _ _ hq3,hq4,h24 _ (by simp;omega),λq5 H8 s8 hq5=>?_⟩
   refine strange H3 d3 b3 hP3 hR3 q5 H8 (s36.trans (s7.trans s8)) (hq5.trans ?_)
   rw[Xzq,Xzq]
   rfl
  refine⟨_,rfl,rfl,_,rfl,?_⟩
  refine ite2b (λ_=>?_) (λ_=>?_)
  ·exact iteT (tailS H2 d2 b12 hP2 hR2)
  ·refine⟨_,rfl,by show 0<=sizeLine;decide,λe ne=>?_⟩
   have s3:Same H2 (upd H2 e (.lst [])):=(Same.refl H2).step ne
   refine⟨r,e,_,_,rfl,rfl,SqL.of (s3 _ _ hR2),SqL.of Xab,Xsk row,by simp,_,rfl,?_⟩
   generalize upd H2 e (.lst [])=H3 at s3
   have d3:=d2.same s3
   have b13:=b12.same s3
   have hP3:=s3 _ _ hP2
   have hR3:=s3 _ _ hR2
   have ee:eqVL (row.map V.str) []=decide (row=[]):=Xh9 row []
   rw[ee]
   refine ite2b (λ_=>tailS H3 d3 b13 hP3 hR3) (λhne=>?_)
   have hne:=X3m hne
   have hrl:=hI.len
   have hpos:0<row.length:=X2x.mpr hne
   refine⟨_,rfl,_,rfl,_,rfl,r,_,rfl,.inl (SqL.of hR3),dr,sc,_,rfl,by rw[Xzk];omega,by rw[Xzk];omega,d3,λi H4 i0 i1 d4 b4=>?_⟩
   obtain⟨i,rfl⟩:=X0h i0
   rw[Xzk] at i1
   have hi:i<row.length:=by omega
   have b4:But dr H3 H4:=b4
   have b14:=b13.trans b4
   have hP4:=b4 _ _ hP3 (npd d3 hP3)
   have hR4:=b4 _ _ hR3 nrd
   refine⟨r,_,_,_,rfl,rfl,SqL.of hR4,Xxs V.str Str.empty row hi,?_⟩
   have hx:row.getD i Str.empty∈row:=Xbb hi
   generalize row.getD i Str.empty=x at hx
   have hxo:=hI.ok x hx
   refine⟨_,rfl,rfl,_,rfl,?_⟩
   refine ite2b (λ_=>?_) (λ_=>?_)
   ·refine⟨_,rfl,_,rfl,_,rfl,p,_,rfl,hP4,λq1 H5 s5 hq1=>?_⟩
    rw[Xdu _ _ _ hat] at hq1
    refine⟨_,rfl,by show 1<=sizeLine;decide,λq2 n2=>?_⟩
    have s46:=s5.step (o:=.tup [.str x]) n2
    refine⟨q1,q2,_,[.str x],rfl,rfl,ku hq1 n2,Xab,h24 _ (by simp;omega),λq3 H6 s6 hq3=>?_⟩
    have s47:=s46.trans s6
    refine⟨_,rfl,_,rfl,_,rfl,p,_,rfl,s47 _ _ hP4,λq4 H7 s7 hq4=>?_⟩
    rw[Xdv _ _ _ hat] at hq4
    refine⟨q3,q4,_,_,rfl,rfl,s7 _ _ hq3,hq4,h24 _ (by simp;omega),λq5 H8 s8 hq5=>?_⟩
    refine put x H4 hxo d4 b14 hP4 q5 H8 (s47.trans (s7.trans s8)) (hq5.trans ?_)
    rw[Xzq,Xzq]
    rfl
   ·refine⟨_,rfl,rfl,_,rfl,?_⟩
    refine ite2b (λ_=>?_) (λ_=>?_)
    ·refine⟨_,rfl,p,_,rfl,hP4,λq nq=>?_⟩
     have s5:Same H4 (upd H4 q (.tup (ss.map V.str).reverse)):=(Same.refl H4).step nq
     refine k q ss.reverse _ (Xab.trans (by rw[List.map_reverse])) (λy hy=>hok y (List.mem_reverse.mp hy)) (by rw[X08];omega) (d4.same s5) (b14.same s5)
    ·refine⟨_,rfl,rfl,_,rfl,?_⟩
     refine ite2b (λ_=>?_) (λ_=>?_)
     ·refine⟨_,rfl,p,_,rfl,.inr (SqT.of hP4),λl1 n1=>?_⟩
      have s5:Same H4 (upd H4 l1 (.lst (ss.map V.str))):=(Same.refl H4).step n1
      refine⟨_,rfl,_,rfl,p,_,rfl,s5 _ _ hP4,λq1 H6 s6 hq1=>?_⟩
      have e1:(some (1:Int))=some ((1:Nat):Int):=rfl
      rw[e1,Xvg] at hq1
      refine⟨q1,_,rfl,.inr (SqT.of hq1),λl2 n2=>?_⟩
      have s7:=(s5.trans s6).step (o:=.lst ((ss.take 1).map V.str)) n2
      refine⟨l1,l2,_,_,rfl,rfl,ku (s6 _ _ Xab) n2,Xab,h24 _ (by simp;omega),λl3 n3=>?_⟩
      have s8:=s7.step (o:=.lst (ss.map V.str++(ss.take 1).map V.str)) n3
      refine⟨l3,_,rfl,.inl ⟨SqL.of Xab,λq nq=>?_⟩⟩
      have s9:=s8.step (o:=.tup (ss.map V.str++(ss.take 1).map V.str)) nq
      refine k q (ss++ss.take 1) _ (Xab.trans (by rw[Xzq])) (λy hy=>?_) (by rw[Xzt,Xz6];omega) (d4.same s9) (b14.same s9)
      rcases Xzv.mp hy with hy | hy
      ·exact hok y hy
      ·exact hok y (X1a hy)
     ·refine⟨_,rfl,_,rfl,p,ss,x,rfl,hP4,by omega,λq H5 nq hq s5=>?_⟩
      refine k q _ H5 hq (λy hy=>?_) (Xso ss x) (d4.same s5) (b14.same s5)
      rcases Xsn hy with h | h
      ·exact hok y h
      ·rw[h];exact hxo
abbrev NKp:List Str:=["_law_name", "_law_side", "_law_plot"]
theorem Xwa:FnScope ["_law_kept_here", "_law_plot"] ["_law_kept_here", "_law_plot"] (defScope s__law_keeps):=⟨rfl,rfl,rfl,by decide +kernel,rfl,by decide +kernel,by decide +kernel⟩
theorem Xth{f:Addr}{fd:FuncData}(F:Fun K "_law_keeps" "_law_keeps" s__law_keeps f fd)(B:Bl mg):FnOk P w K mg base CX0 1 f fd ["_law_kept_here", "_law_plot"] spKeepsL:=by
 refine F.ok Xwa (λvs H Q E h=>?_) (λcdv A outer s H vs Q E hr h=>?_)
 ·obtain⟨p,kp,S,qs,kept,rfl,_⟩:=h
  rfl
 ·obtain⟨p,kp,S,qs,kept,rfl,hp,hk,hT,hl,k⟩:=h
  refine⟨_,Xag (Xak (Xan (Xf2 rfl) (by rfl) B.all (by rfl) (Xaa (Xcv (N:=NKp) (cap:=[none,none,some 1]) (CompScope.of (defScope s__law_keeps) ["_law_kept_here", "_law_plot"] rfl rfl rfl (by decide +kernel)) rfl
   (Xa9 (pv 0)) (λ_ _ _=>Xid K 2 rfl rfl (Xbe (Xal (i:=0) (show NKp.Nodup by decide +kernel) rfl (Or.inl rfl) (Or.inr rfl)) (Xbe (Xal (i:=1) (show NKp.Nodup by decide +kernel) rfl (Or.inl rfl) (Or.inr rfl)) Xeb))) (λ_ _ _=>Xbg)
   (λ_ _ _=>Xbo Xb3 (Xa5 (Xcf K (by rfl)) (Xbq (Xaa Xaq (Xaa Xaq Xac))) (Xau Xdp (by rfl) B.int (by rfl) (Xaa (Xbo (Xcr K (by rfl)) (pv 0) (pv 2) (by rfl)) Xac)) (λ_ _=>rfl)) (pv 1) (nomark _))) Xac))),?_⟩
  refine⟨_,rfl,kp,rfl,⟨_,SqL.of hk⟩,?_⟩
  have hkl:kept.length=qs.length:=by
   have:=hT.1
   rw[Xzk] at this
   exact this.symm
  refine Xk4 (n:=qs.length) (λj=>.ref (qs.getD j 0)) (λD i σ2 H2=>(∃u v, σ2=[u,v,some (.ref p)])/\Same H H2/\H2 D=some (.lst (((kept.take i).map λq=>decide (bk S q.1=q.2)).map V.bl))) ?_ ?_ ?_ ?_ ?_
  ·intro D hD
   exact⟨⟨_,_,rfl⟩,(Same.refl H).step hD,Xab⟩
  ·rintro D i σ2 H2 hD hi ⟨_,s2,_⟩
   have:=Xcd (K:=K) (SqL.of (s2 _ _ hk)) (by rw[Xzk];exact hi)
   rw[Xaz V.ref 0 qs hi] at this
   exact this
  ·rintro D σ2 H2 hD ⟨_,s2,_⟩
   have:=Xce (K:=K) (SqL.of (s2 _ _ hk))
   rwa [Xzk] at this
  ·rintro D i σ2 H2 hD hi ⟨⟨u,v,rfl⟩,s2,hb⟩
   have hi':i<kept.length:=by rw[hkl];exact hi
   have ht:=s2 _ _ (hT.2 i hi)
   have eq:(kept.map pr2).getD i []=pr2 kept[i]:=by simp[List.getD,hi']
   rw[eq] at ht
   have htk:kept.take (i+1)=kept.take i++[kept[i]]:=Xzy hi'
   generalize kept[i]=q at ht htk
   refine⟨_,_,rfl,SqT.of ht,rfl,_,_,rfl,_,_,rfl,rfl,?_⟩
   dsimp only[tYes]
   rw[X3i rfl]
   refine⟨by show 2<=sizeLine;decide,λt nt=>?_⟩
   have s3:Same H2 (upd H2 t (.tup [.str "home",.str "off"])):=(Same.refl H2).step nt
   have ht3:upd H2 t (.tup [.str "home",.str "off"]) t=some (.tup [.str "home",.str "off"]):=Xab
   dsimp only
   generalize upd H2 t (.tup [.str "home",.str "off"])=H3 at s3 ht3
   refine⟨_,rfl,_,rfl,p,_,rfl,.inr (SqT.of ((s2.trans s3) _ _ hp)),rfl,Xbr S,.inr ⟨_,rfl,?_⟩⟩
   have ei:(if false=true then !inV (.str q.1) (S.map V.str) else inV (.str q.1) (S.map V.str))=decide (q.1∈S):=by rw[X3h (by decide),Xcg]
   rw[ei]
   have hat:atI [V.str "home",V.str "off"] (if decide (q.1∈S)=true then (1:Int) else 0)=some (.str (bk S q.1)):=by
    unfold bk
    by_cases z:q.1∈S
    ·rw[X3j z,X3i rfl,X3i z];rfl
    ·rw[X3k z,X3h (by decide),X3h z];rfl
   refine⟨t,_,_,_,rfl,rfl,SqT.of ht3,hat,_,rfl,rfl,?_⟩
   rw[Xb1]
   refine⟨_,s3 _ _ hb,by rw[Xzk,Xzk,Xz6,X3g];omega,wskip hi ⟨⟨_,_,rfl⟩,λb o e=>?_,?_⟩⟩
   ·rw[Xae (Xaf e hD)]
    exact s3 _ _ (s2 _ _ e)
   ·rw[Xab,htk,Xzq,Xzq]
    rfl
  ·rintro D σ2 H2 hD ⟨_,s2,hb⟩
   rw[<-hkl,X0j] at hb
   refine⟨D,_,rfl,hb,?_⟩
   have e:(kept.map λq=>decide (bk S q.1=q.2)).all id=keeps kept S:=by
    unfold keeps
    rw[List.all_map]
    rfl
   rw[e]
   exact k H2 s2
theorem Xwb:FnScope ["_law_some", "_law_kept_here"] ["_law_some", "_law_kept_here"] (defScope s__law_held):=⟨rfl,rfl,rfl,by decide +kernel,rfl,by decide +kernel,by decide +kernel⟩
theorem Xti{f:Addr}{fd:FuncData}(F:Fun K "_law_held" "_law_held" s__law_held f fd)(FK:Fn P w K mg base CX0 1 "_law_keeps" ["_law_kept_here", "_law_plot"] spKeepsL):FnOk P w K mg base CX0 2 f fd ["_law_some", "_law_kept_here"] spHeldL:=by
 refine F.ok Xwb (λvs H Q E h=>?_) (λcdv A outer s H vs Q E hr h=>?_)
 ·obtain⟨l,kp,ps,Ts,qs,kept,rfl,_⟩:=h
  rfl
 ·obtain⟨l,kp,ps,Ts,qs,kept,rfl,hl,hT,hlp,hk,hq,hql,k⟩:=h
  have hr1:Room 1 _:=hr.mono (by decide)
  refine⟨_,Xag (Xak (Xcv (N:=["_law_plot", "_law_kept_here"]) (cap:=[none,some 1]) (CompScope.of (defScope s__law_held) ["_law_some", "_law_kept_here"] rfl rfl rfl (by decide +kernel)) rfl
   (Xa9 (pv 0)) (λ_ _ _=>Xal (i:=0) (show (["_law_plot", "_law_kept_here"]:List Str).Nodup by decide +kernel) rfl (Or.inl rfl) (Or.inr rfl)) (λ_ _ _=>Xbz (Xdm (Xao (by exact FK) (by exact hr1) (by rfl) pass0 (Xaa (pv 1) (Xaa (pv 0) Xac))))) (λ_ _ _=>pv 0))),?_⟩
  refine⟨_,rfl,l,rfl,⟨_,SqL.of hl⟩,?_⟩
  refine Xc1 (n:=ps.length) (by rw[X3g];omega) (λi=>.ref (ps.getD i 0)) (λi=>keeps kept (Ts.getD i [])) (λi=>.ref (ps.getD i 0)) ?_ ?_ ?_ ?_ ?_
  ·intro i H4 hi s4
   have:=Xcd (K:=K) (SqL.of (s4 _ _ hl)) (by rw[Xzk];exact hi)
   rw[Xaz V.ref 0 ps hi] at this
   exact this
  ·intro H4 s4
   have:=Xce (K:=K) (SqL.of (s4 _ _ hl))
   rwa [Xzk] at this
  ·intro i H4 Q' hi s4 kk
   exact⟨_,rfl,_,rfl,ps.getD i 0,kp,Ts.getD i [],qs,kept,rfl,s4 _ _ (hT.2 i hi),s4 _ _ hk,hq.same s4,hql,λH5 s5=>⟨_,rfl,kk H5 s5⟩⟩
  ·intro i H4 Q' hi _ s4 kk
   exact⟨_,rfl,kk H4 (Same.refl _)⟩
  ·intro D H4 nD s4 hD
   have eT:(((List.range ps.length).filter λi=>keeps kept (Ts.getD i [])).map λi=>Ts.getD i [])=Ts.filter (keeps kept):=by
    rw[hT.1]
    exact Xa0 [] (keeps kept) Ts
   have tx:Tups H4 (((List.range ps.length).filter λi=>keeps kept (Ts.getD i [])).map λi=>ps.getD i 0) (Ts.filter (keeps kept)):=by
    rw[<-eT]
    exact Xq1 (hT.same s4) λi hi=>X0v.mp (Xzu.mp hi).1
   refine k D _ H4 nD (by rw[hD,X0f];rfl) tx ?_ s4
   rw[Xzk]
   exact X0c (X0i ..) (by rw[X0s];omega)
theorem Xrl:FnScope ["_law_row_here", "_law_some", "_law_kept_here", "_law_of"] ["_law_row_here", "_law_some", "_law_kept_here"] (defScope s__law_good_kept):=⟨rfl,rfl,rfl,by decide +kernel,rfl,by decide +kernel,by decide +kernel⟩
theorem Xtj{f:Addr}{fd:FuncData}(F:Fun K "_law_good_kept" "_law_good_kept" s__law_good_kept f fd)(FH:Fn P w K mg base CX0 2 "_law_held" ["_law_some", "_law_kept_here"] spHeldL)(FK:Fn P w K mg base CX0 1 "_law_kept" ["_law_row_here", "_law_crowd"] Xiv):
  FnOk P w K mg base CX0 3 f fd ["_law_row_here", "_law_some", "_law_kept_here"] Xly:=by
 refine F.ok Xrl (λvs H Q E h=>?_) (λcdv A outer s H vs Q E hr h=>?_)
 ·obtain⟨r,l,kp,row,ps,Ts,qs,kept,rfl,_⟩:=h
  rfl
 ·obtain⟨r,l,kp,row,ps,Ts,qs,kept,rfl,hR,R2,hl,hT,hlp,hPL,hk,hq,ko,k⟩:=h
  have hr1:Room 1 _:=hr.mono (by decide)
  have hr2:Room 2 _:=hr.mono (by decide)
  refine⟨_,Xad (Xam (i:=3) Xrl.nd rfl (Or.inl rfl) (Xao FH hr2 (by rfl) pass0 (Xaa (pv 1) (Xaa (pv 2) Xac))))
   (Xag (Xak (Xok (Xbo (Xj1 (hu3 hr)) (pv 3) (Xbd Xac) (nomark _)) (Xl4 (Xbo (Xhp (hu3 hr)) (Xao FK hr1 (by rfl) pass0 (Xaa (pv 0) (Xaa (pv 3) Xac))) (pv 2) (nomark _)))))),?_⟩
  have hql:qs.length<=16:=by
   have:=hq.1
   rw[Xzk] at this
   have:=ko.len
   omega
  have mem:∀S,S∈Ts.filter (keeps kept)↔isPlotB row S=true/\keeps kept S=true:=λS=>by rw[Xzu,hPL]
  have gi:=Xm4 mem
  have okT:∀S∈Ts.filter (keeps kept),∀y∈S,okN y:=λS hS y hy=>R2.ok y ((Xck ((mem S).mp hS).1).1 y hy)
  refine⟨_,rfl,_,rfl,l,kp,ps,Ts,qs,kept,rfl,hl,hT,by omega,hk,hq,by omega,λD us H1 nD hD tx hle s1=>?_⟩
  dsimp only[Xbv]
  refine⟨_,rfl,by show 0<=sizeLine;decide,λe ne=>?_⟩
  have s2:Same H1 (upd H1 e (.lst [])):=(Same.refl H1).step ne
  have he2:upd H1 e (.lst []) e=some (.lst []):=Xab
  dsimp only
  generalize upd H1 e (.lst [])=H2 at s2 he2
  refine⟨.list ((Ts.filter (keeps kept)).map tupD),.list (([]:List (List Str)).map tupD),Xdi (s2 _ _ hD) (tx.same s2),Xfl he2 Xcj,Xav _ (Xba okT),rfl,Xdy _ [],_,rfl,?_⟩
  rw[Xe4 okT (λS hS=>absurd hS (by simp))]
  have s12:=s1.trans s2
  by_cases n:Ts.filter (keeps kept)=[]
  ·rw[X3j n]
   exact iteF (k false H2 ⟨λz=>absurd z (by decide),λg=>absurd n (gi.mp g).1⟩ s12)
  ·rw[X3k n]
   refine iteT ?_
   refine⟨_,rfl,_,rfl,r,D,row,us,_,rfl,s12 _ _ hR,R2,s2 _ _ hD,tx.same s2,by omega,n,λG gs H3 nG hG hgs s3=>?_⟩
   have okS:=Xkn n R2.ok
   have s13:=s12.trans s3
   refine⟨_,rfl,_,_,Xdi hG hgs,Xdi (s13 _ _ hk) (hq.same s13),Xav _ (Xba okS),Xav _ (Xba ko.okL),Xdy _ _,?_⟩
   rw[Xe4 okS ko.okL]
   refine k _ H3 ?_ s13
   rw[decide_eq_true_eq,gi]
   exact⟨λz=>⟨n,Xqv z⟩,λz=>by rw[z.2]⟩
theorem Xyo:FnScope NGo ["_law_row_here", "_law_plot"] (defScope s__law_good_plot):=⟨rfl,rfl,rfl,by decide +kernel,rfl,by decide +kernel,by decide +kernel⟩
theorem Xwc{f:Addr}{fd:FuncData}(F:Fun K "_law_good_plot" "_law_good_plot" s__law_good_plot f fd)(T:Bl mg)(FF:Fn P w K mg base CX0 1 "_law_fits" ["_law_bars_here", "_law_plot"] Xmx)
    (FB:Fn P w K mg base CX0 2 "_law_bars" ["_law_row_here"] spBars):FnOk P w K mg base CX0 3 f fd ["_law_row_here", "_law_plot"] spGood:=by
  refine F.ok Xyo (λvs H Q E h=>?_) (λcdv A outer s H vs Q E hr h=>?_)
  . obtain⟨r,p,row,ss,rfl,_⟩:=h
    rfl
  . obtain⟨r,p,row,ss,rfl,hR,R2,hP,hok,hsl,k⟩:=h
    have hu:=X2k (Xep hr)
    have hr1:Room 1 _:=hr.mono (by decide)
    refine⟨_,Xad (Xbn (Xaj (Xtt hu) (Xau Xbt (by rfl) T.list boot_list (Xaa (pv 1) Xac)) (Xcv (N:=NGo1) (cap:=[none,some 1]) (CompScope.of (defScope s__law_good_plot) NGo rfl rfl rfl (by decide +kernel)) rfl
          (Xa9 (Xf8 (i:=0) rfl (by rfl) T.sorted (by rfl) T.set (pv 0))) (λ_ _ _=>Xal (i:=0) (show NGo1.Nodup by decide +kernel) rfl (Or.inl rfl) (Or.inr rfl))
          (λ_ _ _=>Xbz (Xaj (Xcr K (by rfl)) (pv 0) (pv 1) (by rfl))) (λ_ _ _=>pv 0)) (nomark _)) (Xag (Xak Xhe)) Xar)
      (Xag (Xak (Xao FF hr1 (by rfl) pass0 (Xaa (Xao FB hr (by rfl) pass0 (Xaa (pv 0) Xac)) (Xaa (pv 1) Xac))))),?_⟩
    have hrl:=R2.len
    have hdl:=Xcu row
    refine⟨_,rfl,p,_,rfl,.inr (SqT.of hP),λl1 n1=>?_⟩
    have s1:Same H (upd H l1 (.lst (ss.map V.str))):=(Same.refl H).step n1
    have h1:upd H l1 (.lst (ss.map V.str)) l1=some (.lst (ss.map V.str)):=Xab
    generalize upd H l1 (.lst (ss.map V.str))=H1 at s1 h1
    refine⟨_,rfl,r,row,rfl,.inl (SqL.of (s1 _ _ hR)),hrl,λl H2 nl hl2 s2=>?_⟩
    have hP2:=s2 _ _ (s1 _ _ hP)
    refine⟨l,rfl,⟨_,SqL.of hl2⟩,?_⟩
    refine Xc1 (n:=(dit row).length) (by rw[X3g];omega) (λi=>((dit row).map V.str).getD i .non) (λi=>decide ((dit row).getD i Str.empty∈ss)) (λi=>.str ((dit row).getD i Str.empty)) ?_ ?_ ?_ ?_ ?_
    . intro i H3 hi s3
      exact Xcd (SqL.of (s3 _ _ hl2)) (by rw[Xzk];exact hi)
    . intro H3 s3
      have:=Xce (K:=K) (SqL.of (s3 _ _ hl2))
      rwa [Xzk] at this
    . intro i H3 Q' hi s3 kk
      rw[Xaz V.str Str.empty _ hi]
      refine⟨_,rfl,_,rfl,p,_,rfl,.inr (SqT.of (s3 _ _ hP2)),rfl,Xbr ss,_,rfl,?_⟩
      rw[X3h (by decide),Xcg]
      exact kk H3 (Same.refl _)
    . intro i H3 Q' hi hk s3 kk
      rw[Xaz V.str Str.empty _ hi]
      exact⟨_,rfl,kk H3 (Same.refl _)⟩
    . intro D H3 nD s3 hD
      have hD':H3 D=some (.lst (((dit row).filter λy=>decide (y∈ss)).map V.str)):=by
        rw[hD,<-Xa0 Str.empty (λy=>decide (y∈ss)) (dit row),X0f]
        rfl
      have s13:=s1.trans (s2.trans s3)
      refine⟨l1,D,_,_,rfl,rfl,SqL.of (s3 _ _ (s2 _ _ h1)),SqL.of hD',Xsk _,Xsk _,_,rfl,?_⟩
      rw[Xh9]
      by_cases e:ss=(dit row).filter λy=>decide (y∈ss)
      . rw[X3j e]
        refine iteF ?_
        refine⟨_,rfl,r,row,rfl,s13 _ _ hR,R2,λb xs H4 nb hb hal s4=>?_⟩
        refine⟨_,rfl,b,p,xs,bars row,ss,rfl,hb,hal,s4 _ _ (s13 _ _ hP),λH5 s5=>?_⟩
        have:=k H5 (s13.trans (s4.trans s5))
        unfold Xj9 at this
        rw[X3j e,X06] at this
        exact this
      . rw[X3k e]
        refine iteT ?_
        have:=k H3 s13
        unfold Xj9 at this
        rw[X3k e,X0w] at this
        exact this
theorem Xwd:FnScope ["_law_found"] ["_law_found"] (defScope s__law_tuple):=⟨rfl,rfl,rfl,by decide +kernel,rfl,by decide +kernel,by decide +kernel⟩
theorem Xtk{f:Addr}{fd:FuncData}(F:Fun K "_law_tuple" "_law_tuple" s__law_tuple f fd)(T:Bl mg):FnOk P w K mg base CX0 1 f fd ["_law_found"] spTuple:=by
 refine F.ok Xwd (λvs H Q E h=>?_) (λcdv A outer s H vs Q E hr h=>?_)
 ·obtain⟨v,ss,rfl,_⟩:=h
  rfl
 ·obtain⟨v,ss,rfl,hv,hl,k⟩:=h
  obtain⟨a,xs,rfl,hR,hs⟩:=Xps hv
  rw[Xb9 hs] at hR
  refine⟨_,Xag (Xak (Xok (Xan Xgq (by rfl) T.isi boot_isinstance (Xaa (pv 0) (Xaa (Xkx (v:=.ty "tuple") (by rfl) T.tuple (by rfl) rfl) Xac)))
   (Xl4 (Xan (Xf2 rfl) (by rfl) T.all (by rfl) (Xaa (Xcv (N:=["_law_one_here"]) (cap:=[none]) (CompScope.of (defScope s__law_tuple) ["_law_found"] rfl rfl rfl (by decide +kernel)) rfl
    (Xl5 (pv 0)) (λ_ _ _=>Xal (i:=0) (show (["_law_one_here"]:List Str).Nodup by decide +kernel) rfl (Or.inl rfl) (Or.inr rfl)) (λ_ _ _=>Xbg)
    (λ_ _ _=>Xan (Xjy K rfl) (by rfl) T.isi boot_isinstance (Xaa (pv 0) (Xaa (Xkx (v:=.ty "str") (by rfl) T.str boot_str rfl) Xac)))) Xac))))),?_⟩
  refine⟨_,rfl,_,_,_,_,true,rfl,.tup hR,rfl,Xms K "tuple",true,rfl,iteT ?_⟩
  refine⟨_,rfl,a,rfl,⟨_,SqT.of hR⟩,?_⟩
  refine Xla (n:=ss.length) (by rw[X3g];omega) (λi=>(ss.map V.str).getD i .non) (λ_=>.bl true) ?_ ?_ ?_ ?_
  ·intro i H2 hi s2
   exact Xmf (SqT.of (s2 _ _ hR)) (by rw[Xzk];exact hi)
  ·intro H2 s2
   have:=Xmg (K:=K) (SqT.of (s2 _ _ hR))
   rwa [Xzk] at this
  ·intro i H2 Q' hi s2 kk
   rw[Xaz V.str Str.empty ss hi]
   exact⟨_,rfl,_,_,_,_,true,rfl,.str _,rfl,Xms K "str",kk H2 (Same.refl _)⟩
  ·intro D H2 nD s2 hD
   refine⟨D,List.replicate ss.length true,rfl,?_,?_⟩
   ·rw[hD,List.map_const',X0s,List.map_replicate]
   ·have e:(List.replicate ss.length true).all id=true:=by
     rw[Xz8]
     intro b hb
     rw[(List.mem_replicate.mp hb).2]
     rfl
    rw[e]
    exact k H2 s2
theorem Xhz:FnScope NSd ["_law_row_here", "_law_kept_here", "_law_plot"] (defScope s__law_said):=⟨rfl,rfl,rfl,by decide +kernel,rfl,by decide +kernel,by decide +kernel⟩
theorem Xnf(K:PySem.W.Frag)(C:Addr):PySem.W.kitOne K (.ref C) (.ref C)=some true:=by
 unfold PySem.W.kitOne
 rw[X3i (beq_self_eq_true _)]
theorem Xwe{f C D S T fa:Addr}{fd fda:FuncData}(F:Fun K "_law_said" "_law_said" s__law_said f fd)(B:Bl mg)(hS:mg "ShoreError" = some (.ref S))(hC:mg "BadGround" = some (.ref C))(hD:mg "NoPlot" = some (.ref D))
  (hma:mg "gate" = some (.ref fa)) (hka:PySem.W.keepIn K (.ref fa)=true) (hba:Binds K fda ["row", "kept", "plot"] []) (FA:FnOk P w K mg base (CX1 P w) 7 fa fda ["row", "kept", "plot"] (Xm6 C D T (lamPos s_in_order)))
  (xC:ExcF K C) (xD:ExcF K D) (e1:PySem.W.exmOne K (.ref C) (.ref S)=some true) (e2:PySem.W.exmOne K (.ref D) (.ref S)=some true) (v1:PySem.W.kitOne K (.ref C) (.type "ValueError")=some true) (v2:PySem.W.kitOne K (.ref D) (.type "ValueError")=some true)
  (n1:PySem.W.kitOne K (.ref C) (.ref D)=some false) (n2:PySem.W.kitOne K (.ref D) (.ref C)=some false):
  FnOk P w K mg base CX0 8 f fd ["_law_row_here", "_law_kept_here", "_law_plot"] (Xiw T (lamPos s_in_order)):=by
 refine F.ok Xhz (λvs H Q E h=>?_) (λcdv A outer s H vs Q E hr h=>?_)
 ·obtain⟨r,kp,p,row,kept,S1,rfl,_⟩:=h
  rfl
 ·obtain⟨r,kp,p,row,kept,S1,rfl,hA,hp,oS,lS,h⟩:=h
  refine⟨_,Xad (Xam (i:=3) Xhz.nd rfl (Or.inl rfl) Xaq)
   (Xad (Xw8 (i:=4) (Cc:=S) rfl rfl rfl Xhz.nd rfl rfl (by rfl) hS
     (λpn R=>Xag (Xea (Xrz FA hr (by rfl) hma hka hba .nil (Xaa (pv 0) (Xaa (pv 1) (Xaa (pv 2) Xac))))))
     (λpn ex=>Xad (Xam (i:=5) Xhz.nd rfl (Or.inl rfl) (Xbd (Xaa (Xan (Xed K rfl) (by rfl) B.isi boot_isinstance (Xaa (pv 4) (Xaa (Xoj (v:=.ref C) (by rfl) hC rfl) Xac)))
       (Xaa (Xan (Xed K rfl) (by rfl) B.isi boot_isinstance (Xaa (pv 4) (Xaa (Xoj (v:=.ref D) (by rfl) hD rfl) Xac))) Xac))))
      (Xad (Xam (i:=3) Xhz.nd rfl (Or.inl rfl) Xaq)
      (Xag (Xbn (Xfu (Xaj Xb3 (Xp4 K (by rfl) PySem.F.plainAttrs_list PySem.F.slot_list_count PySem.F.type_list_count Xmq (pv 5) (Xaa Xhe Xac)) Xah (nomark _))
        (Xdn (Xdm (Xan (Xed K rfl) (by rfl) B.isi boot_isinstance (Xaa (pv 4) (Xaa (Xkx (v:=.ty "ValueError") (by rfl) B.val (by rfl) rfl) Xac)))))).pt
       (Xag (Xam (i:=3) Xhz.nd rfl (Or.inl rfl) (Xa5 (Xcf K (by rfl)) (Xbq (Xaa Xaq (Xaa Xaq Xac))) (Xp4 K (by rfl) PySem.F.plainAttrs_list PySem.F.slot_list_index PySem.F.type_list_index Xsi (pv 5) (Xaa Xhe Xac)) (λ_ _=>rfl)))) Xar)))))
   (Xag (Xak (pv 3)))),?_⟩
  refine⟨λC1 σ1 H1=>∃b:Bool,C1=(if b=true then C else D) /\ σ1=[some (.ref r),some (.ref kp),some (.ref p),some (.str "told"),none,none]/\∀H',Q (.str (if b=true then "ground" else "plot")) H',?_,?_⟩
  ·refine⟨_,rfl,_,rfl,_,rfl,r,kp,p,row,kept,S1,rfl,hA,hp,oS,lS,?_,?_,?_⟩
   ·rcases h with ⟨g,k⟩ | ⟨g1,g2,k⟩
    ·exact λz=>absurd z g
    ·exact λ_ z=>by rw[g2] at z;cases z
   ·rcases h with ⟨g,k⟩ | ⟨g1,g2,k⟩
    ·exact λ_ H' _ _=>⟨C,rfl,true,rfl,rfl,k⟩
    ·exact λz=>absurd g1 z
   ·rcases h with ⟨g,k⟩ | ⟨g1,g2,k⟩
    ·exact λz=>absurd z g
    ·exact λ_ _ H' _ _=>⟨D,rfl,false,rfl,rfl,k⟩
  ·rintro C1 σ1 H1 ⟨b,rfl,rfl,k⟩
   cases b with
   | true=>
    refine⟨e1,λex hex=>?_⟩
    refine⟨_,rfl,ex,C,_,_,true,rfl,Xab,xC,rfl,Xnf K C,?_⟩
    refine⟨_,rfl,ex,C,_,_,false,rfl,Xab,xC,rfl,n1,by show 2<=sizeLine;decide,λl nl=>?_⟩
    have hex2:upd (upd H1 ex (ExcO ex C)) l (.lst [.bl true,.bl false]) ex=some (ExcO ex C):=ku Xab nl
    refine⟨_,rfl,.inl ⟨rfl,_,SqL.of Xab⟩,l,_,_,rfl,rfl,Xab,rfl,rfl,rfl,_,rfl,?_⟩
    refine iteT ?_
    refine⟨_,rfl,ex,C,_,_,true,rfl,hex2,xC,rfl,v1,true,rfl,iteT ?_⟩
    refine⟨by show 2<=sizeLine;decide,λt nt=>?_⟩
    refine⟨_,rfl,.inl ⟨rfl,_,SqL.of (ku Xab nt)⟩,l,_,_,0,rfl,rfl,ku Xab nt,rfl,rfl,by show 2<=1000;decide,⟨_,rfl,rfl⟩,λm z hm _=>absurd hm (X1e m),?_⟩
    refine⟨t,_,_,_,rfl,rfl,SqT.of Xab,rfl,?_⟩
    exact⟨_,rfl,k _⟩
   | false=>
    refine⟨e2,λex hex=>?_⟩
    refine⟨_,rfl,ex,D,_,_,false,rfl,Xab,xD,rfl,n2,?_⟩
    refine⟨_,rfl,ex,D,_,_,true,rfl,Xab,xD,rfl,Xnf K D,by show 2<=sizeLine;decide,λl nl=>?_⟩
    have hex2:upd (upd H1 ex (ExcO ex D)) l (.lst [.bl false,.bl true]) ex=some (ExcO ex D):=ku Xab nl
    refine⟨_,rfl,.inl ⟨rfl,_,SqL.of Xab⟩,l,_,_,rfl,rfl,Xab,rfl,rfl,rfl,_,rfl,?_⟩
    refine iteT ?_
    refine⟨_,rfl,ex,D,_,_,true,rfl,hex2,xD,rfl,v2,true,rfl,iteT ?_⟩
    refine⟨by show 2<=sizeLine;decide,λt nt=>?_⟩
    refine⟨_,rfl,.inl ⟨rfl,_,SqL.of (ku Xab nt)⟩,l,_,_,1,rfl,rfl,ku Xab nt,rfl,rfl,by show 2<=1000;decide,⟨_,rfl,rfl⟩,λm z hm hz=>?_,?_⟩
    ·have:m=0:=by omega
     subst this
     cases (Xzx hz)
     rfl
    ·refine⟨t,_,_,_,rfl,rfl,SqT.of Xab,rfl,?_⟩
     exact⟨_,rfl,k _⟩
end
end K33
set_option maxHeartbeats 8000000
namespace K33
open PySem PySem.Spec PyProof.Rows L2 SH
def Xng (K:PySem.W.Frag) (T:Addr):Sp:=λvs H Q _=>∃(a:Addr) (ns:List Int),vs=[.ref a]/\SqL K H a (ns.map V.int)/\ns.length<=63/\H T=some (.tbl #[])/\∀H',Q (.bl true) H'
theorem Xrm{H:Hp}{row:List Str}:∀(qs:List Addr),(∀q∈qs,∃t,H q=some (.tup (t.map V.str))/\isPlotB row t=true)->∃Ts,Tups H qs Ts/\∀S∈Ts,isPlotB row S=true
 | [],_=>⟨[],Tups.nil H,λS hS=>by simp at hS⟩
 | q::qs,h=>by
  obtain⟨t,h1,h2⟩:=h q Xzp
  obtain⟨Ts,g1,g2⟩:=Xrm qs λq' hq=>h q' (Xzo _ hq)
  refine⟨t::Ts,Tups.cons h1 g1,λS hS=>?_⟩
  rcases Xzw.mp hS with e | e
  ·rw[e];exact h2
  ·exact g2 S e
section
variable {P:Program}{w:World}{K:PySem.W.Frag}{mg:Str->Option Value}{base:Heap}
abbrev NLw:List Str:=["_law_script", "_law_draw", "_law_row_here", "_law_some", "_law_kept_here", "_law_plot", "_law_stays", "_law_due", "_law_handed", "_law_found"]
abbrev NLw1:List Str:=["_law_name", "_law_plot", "_law_stays"]
theorem Xf0:FnScope NLw ["_law_script"] (defScope s_law):=⟨rfl,rfl,rfl,by decide +kernel,rfl,by decide +kernel,by decide +kernel⟩
theorem Xyp{f B0 C T:Addr}{fd:FuncData}(F:Fun K "law" "law" s_law f fd)(B:Bl mg)(FB:Fn P w K mg base CX0 1 "_law_begin" ["_law_script"] (Xld K))(FP:FnPick P w K mg base)
  (FI:Fn P w K mg base CX0 4 "_law_island" ["_law_draw", "_law_most"] spIslandN) (FPl:Fn P w K mg base CX0 3 "_law_plots" ["_law_row_here"] spPlotsO) (FOn:Fn P w K mg base CX0 2 "_law_one" ["_law_draw", "_law_some"] spOne)
  (FF:Fn P w K mg base CX0 3 "_law_few" ["_law_draw", "_law_some"] spFew) (FK:Fn P w K mg base CX0 1 "_law_keeps" ["_law_kept_here", "_law_plot"] spKeepsL) (FKt:Fn P w K mg base CX0 1 "_law_kept" ["_law_row_here", "_law_crowd"] Xiv)
  (FOk:Fn P w K mg base CX0 3 "_law_odd_kept" ["_law_draw", "_law_row_here", "_law_kept_here"] spOddK) (FO:Fn P w K mg base CX0 2 "_law_odd_plot" ["_law_draw", "_law_row_here", "_law_plot"] spOdd) (FGk:Fn P w K mg base CX0 3 "_law_good_kept" ["_law_row_here", "_law_some", "_law_kept_here"] Xly)
  (FG:Fn P w K mg base CX0 3 "_law_good_plot" ["_law_row_here", "_law_plot"] spGood) (FT:Fn P w K mg base CX0 1 "_law_tuple" ["_law_found"] spTuple) (FSd:Fn P w K mg base CX0 8 "_law_said" ["_law_row_here", "_law_kept_here", "_law_plot"] (Xiw T (lamPos s_in_order)))
  (FGa:Fn P w K mg base (CX1 P w) 7 "gate" ["row", "kept", "plot"] (Xm6 B0 C T (lamPos s_in_order))):
  FnOk P w K mg base CX0 9 f fd ["_law_script"] (Xng K T):=by
 refine F.ok Xf0 (λvs H Q E h=>?_) (λcdv A outer s H vs Q E hr h=>?_)
 ·obtain⟨a,ns,rfl,_⟩:=h
  rfl
 ·obtain⟨a,ns,rfl,hS,hlen,hTb,k⟩:=h
  have hu:=Xep hr
  have hr1:Room 1 _:=hr.mono (by decide)
  have hr2:Room 2 _:=hr.mono (by decide)
  have hr3:Room 3 _:=hr.mono (by decide)
  have hr4:Room 4 _:=hr.mono (by decide)
  have hr7:Room 7 _:=hr.mono (by decide)
  refine⟨_,Xad (Xam (i:=1) Xf0.nd rfl (Or.inl rfl) (Xao FB hr1 (by rfl) pass0 (Xaa (pv 0) Xac)))
   (Xad (Xam (i:=2) Xf0.nd rfl (Or.inl rfl) (Xao FI hr4 (by rfl) pass0 (Xaa (pv 1) (Xaa Xah Xac))))
   (Xad (Xam (i:=3) Xf0.nd rfl (Or.inl rfl) (Xao FPl hr3 (by rfl) pass0 (Xaa (pv 2) Xac)))
   (Xad (Xam (i:=4) Xf0.nd rfl (Or.inl rfl) (Xao FKt hr1 (by rfl) pass0 (Xaa (pv 2) (Xaa (Xao FF hr3 (by rfl) pass0 (Xaa (pv 1) (Xaa (pv 3) Xac))) Xac))))
   (Xad (Xam (i:=5) Xf0.nd rfl (Or.inr rfl) (Xao FOn hr2 (by rfl) pass0 (Xaa (pv 1) (Xaa (pv 3) Xac))))
   (Xad (Xbn (Xaj Xb3 (Xao FP hr1 (by rfl) pass0 (Xaa (pv 1) (Xaa Xah Xac))) Xah (nomark _)) (Xag (Xam (i:=4) Xf0.nd rfl (Or.inl rfl) (Xao FOk hr3 (by rfl) pass0 (Xaa (pv 1) (Xaa (pv 2) (Xaa (pv 4) Xac)))))) Xar)
   (Xad (Xbn (Xaj Xb3 (Xao FP hr1 (by rfl) pass0 (Xaa (pv 1) (Xaa Xah Xac))) Xah (nomark _)) (Xag (Xam (i:=5) Xf0.nd rfl (Or.inr rfl) (Xao FO hr2 (by rfl) pass0 (Xaa (pv 1) (Xaa (pv 2) (Xaa (pv 5) Xac)))))) Xar)
   (Xad (Xbn (Xiz (Xdm (Xao FGk hr3 (by rfl) pass0 (Xaa (pv 2) (Xaa (pv 3) (Xaa (pv 4) Xac)))))) (Xag (Xak (Xbo Xb3 (Xao FSd hr (by rfl) pass0 (Xaa (pv 2) (Xaa (pv 4) (Xaa (pv 5) Xac)))) Xaq (nomark _)))) Xar)
   (Xad (Xbn (Xiz (Xdm (Xao FG hr3 (by rfl) pass0 (Xaa (pv 2) (Xaa (pv 5) Xac))))) (Xag (Xak (Xbo Xb3 (Xao FSd hr (by rfl) pass0 (Xaa (pv 2) (Xaa (pv 4) (Xaa (pv 5) Xac)))) Xaq (nomark _)))) Xar)
   (Xad (Xam (i:=6) Xf0.nd rfl (Or.inr rfl) (Xau (Xhx rfl) (by rfl) B.dict (by rfl) (Xaa (pv 4) Xac)))
   (Xad (Xfk (i:=7) (N:=NLw1) (cap:=[none,some 5,some 6]) (CompScope.of (defScope s_law) NLw rfl rfl rfl (by decide +kernel)) rfl Xf0.nd rfl rfl (Xa9 (Xf8 (i:=2) rfl (by rfl) B.sorted (by rfl) B.set (pv 2))) (λ_ _ _=>Xal (i:=0) (show NLw1.Nodup by decide +kernel) rfl (Or.inl rfl) (Or.inr rfl))
    (λ_ _ _=>Xbz (Xaj Xb3 (Xh5 hu (pv 2) (pv 0) (Xa5 (Xcf K (by rfl)) (Xbq (Xaa Xaq (Xaa Xaq Xac))) (Xau Xdp (by rfl) B.int (by rfl) (Xaa (Xbo (Xcr K (by rfl)) (pv 0) (pv 1) (by rfl)) Xac)) (λ_ _=>rfl)) ⟨rfl,rfl,rfl,rfl⟩) Xaq (nomark _))) (λ_ _ _=>pv 0))
   (Xad (Xam (i:=8) Xf0.nd rfl (Or.inl rfl) (Xau Xbt (by rfl) B.list (by rfl) (Xaa (pv 4) Xac)))
   (Xad (Xam (i:=9) Xf0.nd rfl (Or.inl rfl) (Xao FGa hr7 (by rfl) Xsc (Xaa (pv 2) (Xaa (pv 8) (Xaa (pv 5) Xac)))))
   (Xad (Xbn (Xh2 (Xiz (Xdm (Xao FT hr1 (by rfl) pass0 (Xaa (pv 9) Xac)))) (Xh2 (Xaj (Xj1 (hu3 hr)) (Xau Xbt (by rfl) B.list (by rfl) (Xaa (pv 9) Xac)) (pv 7) (nomark _)) (Xh2 (Xaj (Xkg (hu4 hr)) (pv 9) (pv 3) (by rfl)) (Xgh (Xaj (Xj1 (hu3 hr)) (pv 8) (pv 4) (nomark _)))))).pt (Xag (Xak Xhe)) Xar)
   (Xad (Xbn (Xaj Xot (Xbo (Xhp (hu3 hr)) (pv 9) (pv 5) (nomark _)) (Xao FK hr1 (by rfl) pass0 (Xaa (pv 4) (Xaa (pv 5) Xac))) (nomark _)) (Xag (Xak Xhe)) Xar)
   (Xag (Xak (Xok (Xbo (Xhp (hu3 hr)) (Xao FGa hr7 (by rfl) Xsc (Xaa (pv 2) (Xaa (pv 8) (Xaa (pv 9) Xac)))) (pv 9) (nomark _)) (Xl4 (Xbo (Xhp (hu3 hr)) (Xao FGa hr7 (by rfl) Xsc (Xaa (pv 2) (Xaa (pv 4) (Xaa (pv 5) Xac)))) (pv 9) (nomark _)))))))))))))))))))),?_⟩
  have nT:∀{H':Hp} {b:Addr} {o:HO},Xa6 T (lamPos s_in_order) qIn H'->H' b=some o->(∀z,o ≠ .tbl z)->b≠T:=λtb e n z=>by
   rcases tb with q | ⟨_,q,_⟩<;>(rw[z,q] at e;cases e;exact n _ rfl)
  have tu:∀{H' H'':Hp},(∀{b:Addr} {o:HO},H' b=some o->(∀z,o ≠ .tbl z)->H'' b=some o)->∀{ps:List Addr} {Ts:List (List Str)},Tups H' ps Ts->Tups H'' ps Ts:=λkk _ _ h=>⟨h.1,λi hi=>kk (h.2 i hi) λz=>by simp⟩
  refine⟨_,rfl,a,ns,rfl,hS,hlen,λdr sc H1 ndr nsc d1 s1=>?_⟩
  have tab1:Xa6 T (lamPos s_in_order) qIn H1:=.inl (s1 _ _ hTb)
  refine⟨_,rfl,dr,sc,12,rfl,by decide,d1,λr row n st late H2 nr hn hst hR hp hno d2 b2=>?_⟩
  have tab2:Xa6 T (lamPos s_in_order) qIn H2:=by
   obtain⟨xs1,h1⟩:=d1.at
   exact SH.Xa6.but tab1 h1 b2
  have hI:Isl row:=⟨n,st,late,by omega,hst,hp⟩
  have R2:=hI.row2
  have hd12:(dit row).length<=12:=by
   have hp':(dit row).Perm (Xaw st late n):=Xfj (Xgu row) (Xf5 hst (by omega)) λx=>by
    rw[Xai,hp.mem_iff,Xzv,or_self]
   rw[hp'.length_eq]
   unfold Xaw
   rw[Xzk,X0s]
   exact hn
  have hrl:=R2.len
  have hdl:=Xcu row
  have nrd:r≠dr:=(d1.ne nr).1
  refine⟨_,rfl,r,row,rfl,hR,R2,hno,by omega,λl ps Ts H3 nl hl3 hTp gP s3=>?_⟩
  have hPL:=gP.mem
  have hps64:ps.length<=64:=by rw[hTp.1];exact gP.len R2.two hno (by omega)
  have d3:=d2.same s3
  have hR3:=s3 _ _ hR
  have tab3:=SH.Xa6.same tab2 s3
  have nld:l≠dr:=(d2.ne nl).1
  have hlp:0<ps.length:=by rw[hTp.1];exact List.length_pos_of_mem ((hPL []).mpr (Xgd row))
  have hps:=hTp.1
  have okp:∀t,isPlotB row t=true->(∀y∈t,okN y)/\t.length<=14:=λt ht=>⟨λy hy=>R2.ok y ((Xck ht).1 y hy),X0c (Xir ht) (by omega)⟩
  have atp:∀{H':Hp} {p:Addr} {t:List Str},But dr H3 H'->H3 p=some (.tup (t.map V.str))->H' p=some (.tup (t.map V.str)):=λb h=>b _ _ h (d3.ntup _ _ h)
  have tps:∀{H':Hp},But dr H3 H'->Tups H' ps Ts:=λb=>⟨hTp.1,λi hi=>atp b (hTp.2 i hi)⟩
  have tabB:∀{H':Hp},But dr H3 H'->Xa6 T (lamPos s_in_order) qIn H':=λb=>by
   obtain⟨xs,h⟩:=d3.at
   exact SH.Xa6.but tab3 h b
  refine⟨_,rfl,_,rfl,_,rfl,dr,sc,l,ps,rfl,d3,hl3,nld,hlp,by omega,λc qs H4 nc hc hsub hq0 hq4 d4 b4=>?_⟩
  have b4:But dr H3 H4:=b4
  obtain⟨Us,hU,hUp⟩:∃Us,Tups H4 qs Us/\∀S∈Us,isPlotB row S=true:=Xrm qs λq hq=>by
   obtain⟨i,hi,e⟩:=X0r.mp (hsub q hq)
   have hi':i<Ts.length:=by rw[<-hps];exact hi
   refine⟨Ts.getD i [],?_,(hPL _).mp ?_⟩
   ·have:=hTp.2 i hi
    rw[show ps.getD i 0=q by rw[<-e];simp[List.getD,hi]] at this
    exact atp b4 this
   ·have:Ts.getD i []=Ts[i]:=by simp[List.getD,hi']
    rw[this];exact X0b hi'
  have hUn:Us≠[]:=λe=>by
   have:=hU.1
   rw[e] at this
   rw[this] at hq0
   exact absurd hq0 (X0n _)
  refine⟨r,c,row,qs,Us,rfl,b4 _ _ hR3 nrd,R2,hc,hU,by omega,hUn,λkp ks H5 nkp hkp hks s5=>?_⟩
  have g0:Good row (Xbi row Us):=⟨Us,hUn,hUp,rfl⟩
  generalize Xbi row Us=kept0 at hks g0
  have d5:=d4.same s5
  have b35:=b4.same s5
  have nkd:kp≠dr:=(d4.ne nkp).1
  dsimp only[Xbv]
  refine⟨_,rfl,_,rfl,dr,sc,l,_,rfl,d5,b35 _ _ hl3 nld,nld,by rw[Xzk];exact hlp,by rw[Xzk];omega,λi1 H6 hi1 d6 b6=>?_⟩
  have b6:But dr H5 H6:=b6
  rw[Xzk] at hi1
  rw[Xaz V.ref 0 ps hi1]
  have b36:=b35.trans b6
  have hp6:=(tps b36).2 i1 hi1
  have ip0:isPlotB row (Ts.getD i1 [])=true:=(hPL _).mp (by
   have hi':i1<Ts.length:=by rw[<-hps];exact hi1
   have:Ts.getD i1 []=Ts[i1]:=by simp[List.getD,hi']
   rw[this];exact X0b hi')
  generalize Ts.getD i1 []=S0 at hp6 ip0
  generalize ps.getD i1 0=p0 at hp6
  have hk6:=b6 _ _ hkp nkd
  have hks6:Tups H6 ks (kept0.map pr2):=⟨hks.1,λi hi=>b6 _ _ (hks.2 i hi) (d5.ntup _ _ (hks.2 i hi))⟩
  dsimp only[Xbv]
  refine Xhu (t:=tIfS _ _ _) (fun σ' H'=>∃(kq:Addr) (kqs:List Addr) (kept:List (Str×Str)), σ'=[some (.ref a),some (.ref dr),some (.ref r),some (.ref l),some (.ref kq),some (.ref p0),none,none,none,none]/\kq≠dr/\H' kq=some (.lst (kqs.map V.ref))/\Tups H' kqs (kept.map pr2)/\KpOk kept/\DrawOk H' dr sc/\But dr H3 H'/\H' p0=some (.tup (S0.map V.str))) ?_ ?_
  rotate_left
  ·intro nx hnx
   refine⟨_,rfl,dr,sc,8,rfl,by decide,by decide,d6,λq4 H7 q40 q41 d7 b7=>⟨rfl,_,rfl,?_⟩⟩
   have b7:But dr H6 H7:=b7
   have hk7:=b7 _ _ hk6 nkd
   have hks7:Tups H7 ks (kept0.map pr2):=⟨hks6.1,λi hi=>b7 _ _ (hks6.2 i hi) (d6.ntup _ _ (hks6.2 i hi))⟩
   have hp7:=b7 _ _ hp6 (d6.ntup _ _ hp6)
   have b37:=b36.trans b7
   refine ite2b (λ_=>?_) (λ_=>hnx _ _ ⟨kp,ks,kept0,rfl,nkd,hk7,hks7,g0.kp hI,d7,b37,hp7⟩)
   refine⟨_,rfl,_,rfl,_,rfl,dr,sc,r,kp,row,ks,kept0,rfl,d7,b37 _ _ hR3 nrd,nrd,hI,hk7,nkd,hks7,g0,λk' qs' kept' H8 nk' hk' ht' ko' d8 b8=>?_⟩
   have b8:But dr H7 H8:=b8
   exact hnx _ _ ⟨k',qs',kept',rfl,nk',hk',ht',ko',d8,b37.trans b8,b8 _ _ hp7 (d7.ntup _ _ hp7)⟩
  rintro σ' H7 ⟨kq,kqs,kept,rfl,nkq,hk7,hks7,ko,d7,b37,hp7⟩
  clear hkp hks hk6 hks6 hp6 d6 b6 d5 s5 b36
  refine Xhu (t:=tIfS _ _ _) (fun σ' H'=>∃(p:Addr) (S:List Str), σ'=[some (.ref a),some (.ref dr),some (.ref r),some (.ref l),some (.ref kq),some (.ref p),none,none,none,none]/\H' kq=some (.lst (kqs.map V.ref))/\Tups H' kqs (kept.map pr2)/\But dr H3 H'/\H' p=some (.tup (S.map V.str))/\(∀y∈S,okN y)/\S.length<=24) ?_ ?_
  rotate_left
  ·intro nx hnx
   refine⟨_,rfl,dr,sc,8,rfl,by decide,by decide,d7,λq4 H8 q40 q41 d8 b8=>⟨rfl,_,rfl,?_⟩⟩
   have b8:But dr H7 H8:=b8
   have b38:=b37.trans b8
   have hk8:=b8 _ _ hk7 nkq
   have hks8:Tups H8 kqs (kept.map pr2):=⟨hks7.1,λi hi=>b8 _ _ (hks7.2 i hi) (d7.ntup _ _ (hks7.2 i hi))⟩
   have hp8:=b8 _ _ hp7 (d7.ntup _ _ hp7)
   obtain⟨o0,l0⟩:=okp S0 ip0
   refine ite2b (λ_=>?_) (λ_=>hnx _ _ ⟨p0,S0,rfl,hk8,hks8,b38,hp8,o0,by omega⟩)
   refine⟨_,rfl,_,rfl,_,rfl,dr,sc,r,p0,row,S0,rfl,d8,b38 _ _ hR3 nrd,nrd,hI,hp8,o0,by omega,λq ss H9 hq hok' hl' d9 b9=>?_⟩
   have b9:But dr H8 H9:=b9
   exact hnx _ _ ⟨q,ss,rfl,b9 _ _ hk8 nkq,⟨hks8.1,λi hi=>b9 _ _ (hks8.2 i hi) (d8.ntup _ _ (hks8.2 i hi))⟩,b38.trans b9,hq,hok',by omega⟩
  rintro σ' H8 ⟨p,S,rfl,hk8,hks8,b38,hp8,oS,lS⟩
  clear hk7 hks7 hp7 d7 b37
  have tab8:=tabB b38
  have hR8:=b38 _ _ hR3 nrd
  have hl8:=b38 _ _ hl3 nld
  have hT8:=tps b38
  refine⟨_,rfl,_,rfl,_,rfl,r,l,kq,row,ps,Ts,kqs,kept,rfl,hR8,R2,hl8,hT8,hps64,hPL,hk8,hks8,ko,λb H9 hb s9=>⟨_,rfl,?_⟩⟩
  have b39:=b38.same s9
  have tab9:=SH.Xa6.same tab8 s9
  have hR9:=s9 _ _ hR8
  have hk9:=s9 _ _ hk8
  have hks9:=hks8.same s9
  have hp9:=s9 _ _ hp8
  have HA:∀{H':Hp},Same H9 H'->HeldAt H' T (lamPos s_in_order) r kq row kept:=λs=>⟨s _ _ hR9,R2,hno,by omega,SH.Xa6.same tab9 s,⟨kqs,s _ _ hk9,hks9.same s⟩,ko⟩
  cases b with
  | false=>
   refine iteT ?_
   refine⟨_,rfl,_,rfl,_,rfl,r,kq,p,row,kept,S,rfl,HA (Same.refl _),hp9,oS,lS,.inl ⟨λg=>absurd (hb.mpr g) (by decide),λHE=>⟨rfl,?_⟩⟩⟩
   rw[X3j rfl]
   exact k _
  | true=>
   refine iteF ?_
   have g:Good row kept:=hb.mp rfl
   refine⟨_,rfl,_,rfl,r,p,row,S,rfl,hR9,R2,hp9,oS,by omega,λHB sB=>⟨_,rfl,?_⟩⟩
   rw[Xim R2.two]
   cases ipS:isPlotB row S with
   | false=>
    refine iteT ?_
    refine⟨_,rfl,_,rfl,_,rfl,r,kq,p,row,kept,S,rfl,HA sB,sB _ _ hp9,oS,lS,.inr ⟨g,ipS,λHE=>⟨rfl,?_⟩⟩⟩
    rw[X3j rfl]
    exact k _
   | true=>
    refine iteF ?_
    have hkl:kqs.length=kept.length:=by
     have:=hks8.1
     rwa [Xzk] at this
    have kl:=ko.len
    have hkB:=sB _ _ hk9
    have hksB:=hks9.same sB
    refine⟨_,rfl,kq,kqs,kvK kept,rfl,hkB,by unfold kvK;rw[Xzk];exact hkl,by unfold kvK;rw[Xzk];omega,λi hi=>?_,λd nd=>?_⟩
    ·have hi':i<kept.length:=by omega
     have e:=hksB.2 i hi
     have e1:(kept.map pr2).getD i []=pr2 kept[i]:=by simp[List.getD,hi']
     have e2:(kvK kept).getD i dft0=((Sum.inr kept[i].1:Key),V.str kept[i].2):=by unfold kvK;simp[List.getD,hi']
     rw[e1] at e
     rw[e2]
     exact e
    have sC:Same HB (upd HB d (.dK (Xco (kvK kept)))):=(Same.refl HB).step nd
    have hdC:upd HB d (.dK (Xco (kvK kept))) d=some (.dK (Xco (kvK kept))):=Xab
    dsimp only[Xbv]
    generalize upd HB d (.dK (Xco (kvK kept)))=HC at sC hdC
    have s9C:=sB.trans sC
    refine⟨_,rfl,r,row,rfl,.inl (SqL.of (s9C _ _ hR9)),R2.len,λnl2 HD nnl hnl sD=>?_⟩
    have s9D:=s9C.trans sD
    refine⟨nl2,rfl,⟨_,SqL.of hnl⟩,?_⟩
    refine Xc1 (n:=(dit row).length) (by rw[X3g];omega) (λj=>.str ((dit row).getD j Str.empty)) (λj=>decide ((kept.lookup ((dit row).getD j Str.empty)).getD (bk S ((dit row).getD j Str.empty)) = "off")) (λj=>.str ((dit row).getD j Str.empty)) ?_ ?_ ?_ ?_ ?_
    ·intro j H' hj s'
     have:=Xcd (K:=K) (SqL.of (s' _ _ hnl)) (by rw[Xzk];exact hj)
     rw[Xaz V.str Str.empty (dit row) hj] at this
     exact this
    ·intro H' s'
     have:=Xce (K:=K) (SqL.of (s' _ _ hnl))
     rwa [Xzk] at this
    ·intro j H' Q' hj s' kk
     generalize (dit row).getD j Str.empty=x at kk
     have sCH:=sD.trans s'
     have hd':=sCH _ _ hdC
     have hp':=s' _ _ (s9D _ _ hp9)
     refine⟨_,rfl,d,rfl,.inl ⟨_,.inl hd'⟩,_,rfl,by show 2<=sizeLine;decide,λt nt=>?_⟩
     have st:Same H' (upd H' t (.tup [.str "home",.str "off"])):=(Same.refl H').step nt
     have ht:upd H' t (.tup [.str "home",.str "off"]) t=some (.tup [.str "home",.str "off"]):=Xab
     dsimp only
     generalize upd H' t (.tup [.str "home",.str "off"])=H'' at st ht
     refine⟨_,rfl,_,rfl,p,_,rfl,.inr (SqT.of (st _ _ hp')),rfl,Xbr S,.inr ⟨_,rfl,?_⟩⟩
     have ei:(if false=true then !inV (.str x) (S.map V.str) else inV (.str x) (S.map V.str))=decide (x∈S):=by rw[X3h (by decide),Xcg]
     rw[ei]
     have hat:atI [V.str "home",V.str "off"] (if decide (x∈S)=true then (1:Int) else 0)=some (.str (bk S x)):=by
      unfold bk
      by_cases z:x∈S
      ·rw[X3j z,X3i rfl,X3i z];rfl
      ·rw[X3k z,X3h (by decide),X3h z];rfl
     refine⟨t,_,_,_,rfl,rfl,SqT.of ht,hat,valV (Xco (kvK kept)) (Sum.inr x:Key),.inl ⟨_,_,.inl (st _ _ hd'),rfl,rfl⟩,?_⟩
     have e:((valV (Xco (kvK kept)) (Sum.inr x:Key)).getD (.str (bk S x))) = .str ((kept.lookup x).getD (bk S x)):=by
      rw[Xkr kept g.nd x]
      cases kept.lookup x<;>rfl
     rw[e]
     refine⟨rfl,_,rfl,?_⟩
     rw[Xb1]
     exact kk H'' st
    ·intro j H' Q' hj hk s' kk
     exact⟨_,rfl,kk H' (Same.refl _)⟩
    ·intro O HE nO sE hO
     have hO':HE O=some (.lst ((Xbc row kept S).map V.str)):=by
      rw[hO]
      unfold Xbc
      rw[<-Xa0 Str.empty (λx=>decide ((kept.lookup x).getD (bk S x) = "off")) (dit row),X0f]
      rfl
     have s9E:=s9D.trans sE
     have hkE:=s9E _ _ hk9
     dsimp only[Xbv]
     refine⟨_,rfl,kq,_,rfl,.inl (SqL.of hkE),λhl nhl=>?_⟩
     have sF:Same HE (upd HE hl (.lst (kqs.map V.ref))):=(Same.refl HE).step nhl
     have hhF:upd HE hl (.lst (kqs.map V.ref)) hl=some (.lst (kqs.map V.ref)):=Xab
     dsimp only[Xbv]
     generalize upd HE hl (.lst (kqs.map V.ref))=HF at sF hhF
     have s9F:=s9E.trans sF
     have tabF:=SH.Xa6.same tab9 s9F
     have hksF:=hks9.same s9F
     have HAF:HeldAt HF T (lamPos s_in_order) r hl row kept:=⟨s9F _ _ hR9,R2,hno,by omega,tabF,⟨kqs,hhF,hksF⟩,ko⟩
     have ipG:=Xq2 g ipS
     obtain⟨oG,lG⟩:=okp _ ipG
     refine⟨_,rfl,_,rfl,_,rfl,r,hl,p,row,kept,S,rfl,HAF,s9F _ _ hp9,oS,lS,λ_ _ gt HG ngt hgt tabG btG=>?_,λz=>absurd g z,λ_ z=>by rw[ipS] at z;cases z⟩
     have btG:But T HF HG:=btG
     have kG:∀{b:Addr} {o:HO},HF b=some o->(∀z,o ≠ .tbl z)->HG b=some o:=λe n=>btG _ _ e (nT tabF e n)
     have hOG:=kG (sF _ _ hO') λz=>by simp
     have hhG:=kG hhF λz=>by simp
     have hkG:=kG (s9F _ _ hk9) λz=>by simp
     have hksG:=tu kG hksF
     have hpG:=kG (s9F _ _ hp9) λz=>by simp
     have hRG:=kG (s9F _ _ hR9) λz=>by simp
     have hlG:=kG (s9F _ _ (s9 _ _ hl8)) λz=>by simp
     have hTG:=tu kG ((hT8.same s9).same s9F)
     have okT:∀W∈Ts,∀y∈W,okN y:=λW hW=>(okp W ((hPL W).mp hW)).1
     dsimp only[Xbv]
     refine⟨_,rfl,_,Xbc row kept S,rfl,Xbs hgt,by omega,λHH sH=>⟨_,rfl,iteF ?_⟩⟩
     refine⟨_,rfl,gt,_,rfl,.inr (SqT.of (sH _ _ hgt)),λlg nlg=>?_⟩
     have sI:Same HH (upd HH lg (.lst ((Xbc row kept S).map V.str))):=(Same.refl HH).step nlg
     have hlI:upd HH lg (.lst ((Xbc row kept S).map V.str)) lg=some (.lst ((Xbc row kept S).map V.str)):=Xab
     dsimp only
     generalize upd HH lg (.lst ((Xbc row kept S).map V.str))=HI at sI hlI
     have sGI:=sH.trans sI
     refine⟨_,rfl,.list ((Xbc row kept S).map PyData.str),.list ((Xbc row kept S).map PyData.str),Xfl hlI (Xdx _),Xfl (sGI _ _ hOG) (Xdx _),Xav _ (Xez oG),Xav _ (Xez oG),?_,_,rfl,?_⟩
     ·show min (PyData.depthAll ((Xbc row kept S).map PyData.str)+1) _<=3
      rw[Xcs];omega
     rw[(Xii _ _ (Xez oG) (Xez oG)).mpr rfl]
     refine iteF ?_
     refine⟨_,rfl,_,rfl,tupD (Xbc row kept S),Ts.map tupD,Xbs (sGI _ _ hgt),Xdi (sGI _ _ hlG) (hTG.same sGI),Xav _ (Xa7 oG),Xcm _ (Xhw okT),by show PyData.depthAll ((Xbc row kept S).map PyData.str)+1<=3;rw[Xcs];decide,_,rfl,?_⟩
     rw[isin okT oG,X3j ((hPL _).mpr ipG)]
     refine iteF ?_
     refine⟨_,rfl,_,rfl,.list ((kept.map pr2).map tupD),.list ((kept.map pr2).map tupD),Xdi (sGI _ _ hhG) (hksG.same sGI),Xdi (sGI _ _ hkG) (hksG.same sGI),Xav _ (Xba ko.okL),Xav _ (Xba ko.okL),Xdy _ _,_,rfl,?_⟩
     rw[Xe4 ko.okL ko.okL,X3j rfl]
     refine iteF ?_
     have dep1:∀A B:List Str,min (PyData.depth (tupD A)) (PyData.depth (tupD B))<=3:=λA B=>by
      show min (PyData.depthAll (A.map PyData.str)+1) _<=3
      rw[Xcs];omega
     have eqT:∀{A B:List Str},(∀y∈A,okN y)->(∀y∈B,okN y)->PyData.eqv (tupD A) (tupD B)=decide (A=B):=λh1 h2=>Xfp h1 h2
     refine⟨_,rfl,_,rfl,tupD (Xbc row kept S),tupD S,Xbs (sGI _ _ hgt),Xbs (sGI _ _ hpG),Xav _ (Xa7 oG),Xav _ (Xa7 oS),dep1 _ _,?_⟩
     refine⟨_,rfl,_,rfl,p,kq,S,kqs,kept,rfl,sGI _ _ hpG,sGI _ _ hkG,hksG.same sGI,by omega,λHJ sJ=>⟨rfl,_,rfl,?_⟩⟩
     have eb:PyData.eqv (tupD (Xbc row kept S)) (tupD S)=keeps kept S:=(eqT oG oS).trans (Xq7 g ipS)
     rw[eb,X3j rfl]
     refine iteF ?_
     have sGJ:=sGI.trans sJ
     have tabJ:=SH.Xa6.same tabG sGJ
     have HAJ:HeldAt HJ T (lamPos s_in_order) r hl row kept:=⟨sGJ _ _ hRG,R2,hno,by omega,tabJ,⟨kqs,sGJ _ _ hhG,hksG.same sGJ⟩,ko⟩
     refine⟨_,rfl,_,rfl,_,rfl,r,hl,gt,row,kept,_,rfl,HAJ,sGJ _ _ hgt,oG,by omega,λ_ _ g2 HK ng2 hg2 tabK btK=>?_,λz=>absurd g z,λ_ z=>by rw[ipG] at z;cases z⟩
     have btK:But T HJ HK:=btK
     have kK:∀{b:Addr} {o:HO},HJ b=some o->(∀z,o ≠ .tbl z)->HK b=some o:=λe n=>btK _ _ e (nT tabJ e n)
     rw[Xq6 g] at hg2
     have hgK:=kK (sGJ _ _ hgt) λz=>by simp
     refine⟨_,rfl,tupD (Xbc row kept S),tupD (Xbc row kept S),Xbs hg2,Xbs hgK,Xav _ (Xa7 oG),Xav _ (Xa7 oG),dep1 _ _,?_⟩
     rw[eqT oG oG,X3j rfl]
     refine⟨_,rfl,iteT ?_⟩
     have HAK:HeldAt HK T (lamPos s_in_order) r kq row kept:=⟨kK (sGJ _ _ hRG) λz=>by simp,R2,hno,by omega,tabK,⟨kqs,kK (sGJ _ _ hkG) λz=>by simp,tu kK (hksG.same sGJ)⟩,ko⟩
     refine⟨_,rfl,_,rfl,_,rfl,r,kq,p,row,kept,S,rfl,HAK,kK (sGJ _ _ hpG) (λz=>by simp),oS,lS,λ_ _ g3 HL ng3 hg3 tabL btL=>?_,λz=>absurd g z,λ_ z=>by rw[ipS] at z;cases z⟩
     have btL:But T HK HL:=btL
     have hgL:=btL _ _ hgK (nT tabK hgK λz=>by simp)
     refine⟨_,rfl,tupD (Xbc row kept S),tupD (Xbc row kept S),Xbs hg3,Xbs hgL,Xav _ (Xa7 oG),Xav _ (Xa7 oG),dep1 _ _,?_⟩
     rw[eqT oG oG,X3j rfl]
     exact k _
end
end K33
set_option maxHeartbeats 4000000
namespace PySem.OldK
theorem of_tab{h₀ h:Heap}{T:Addr}(ht:isCodeTable h₀ T)(hT:h₀.get? T=some (PySem.W.tabObj #[]))(hT':∃ps,h.get? T=some (PySem.W.tabObj ps))(k:∀b o,b≠T->h₀.get? b=some o->h.get? b=some o):OldK h₀ h:=by
 obtain⟨ps,hps⟩:=hT'
 refine⟨λb o e=>?_,λb o e=>?_⟩
 ·by_cases z:b=T
  ·subst z
   rw[hT] at e
   cases e
   exact .inr (.inl ⟨ht,rfl, #[],ps,rfl,by simpa using hps⟩)
  ·exact .inl (k b o z e)
 ·by_cases z:b=T
  ·exact⟨_,z ▸ hps⟩
  ·exact⟨o,k b o z e⟩
end PySem.OldK
namespace L2
open PySem PySem.Spec PyProof.Rows
theorem Xrn{P:Program}{w:World}{K:PySem.W.Frag}{mg mb:Str->Option Value}{CX:CXT}{k:Nat}{fa a:Addr}{fd:FuncData}{x:Str}{sp:Sp}{s₁ : Shared}{vs:List Value}{ns:List Int}{T c0:Addr}
  (hT:s₁.heap.get? T=some (PySem.W.tabObj #[])) (hTK:K.lookup T=none) (hhd:PySem.W.codeHdIn K c0 T=true) (hbm:BmOk mg s₁.heap)
  (KX:K.In s₁.heap) (hns:s₁.heap.Ns mainGlobals mg) (hb:s₁.heap.Ns builtinsNs mb) (hbb:∀x:Str,x ≠ "__name__" -> mb x=bootBuiltins x) (hlim:s₁.heap.NoLimit) (hg:s₁.gens = #[])
  (ha:s₁.heap.get? a=some {cls:=.type "list",data:=.seq vs.toArray}) (hi:IntsAre vs ns) (hl:ns.length<=sizeLine) (hr:Room k callerA)
  (F:∀base:Heap,K.In base->base.Ns mainGlobals mg->BmOk mg base->FnOk P w K mg base CX k fa fd [x] sp) (hbind:∀(s:Shared) (u:Value),BindsTo s fd ⟨[u],[]⟩ [(x,u)])
  (hsp:∀H:Hp,H T=some (.tbl #[])->SqL K H a (ns.map V.int)->sp [.ref a] H (λv _=>v = .bl true) λ_ _ _=>False)
  (hCX:∀H e s',CX [] H s₁ (λ_ _ _=>False) e s'->False):
  codeAny (model P w) callerA (.call (.ref fa) ⟨[.ref a],[]⟩) (λr s'=>r = .ok (.ret (.bool true))/\OldK s₁.heap s'.heap/\s'.os=s₁.os/\AllBare s'.gens) s₁:=by
 have rv:=Xje hi
 have lenV:=hi.length
 have core:∀H:Hp,H T=some (.tbl #[])->(∀b,b≠T->H b=none \/ ∃o xs,H b=some (.frz o (.lst xs)))->SqL K H a (ns.map V.int)->HOk P w H s₁.heap->(∀b,H b≠none->b=a\/b=T)->(H a≠none->K.lookup a=none) ->
   codeAny (model P w) callerA (.call (.ref fa) ⟨[.ref a],[]⟩) (λr s'=>r = .ok (.ret (.bool true))/\OldK s₁.heap s'.heap/\s'.os=s₁.os/\AllBare s'.gens) s₁:=by
  intro H hHT hO hS hok hA hK
  have base_of:∀{b:Addr} {o:Obj},s₁.heap.get? b=some o->H b=none->(hidT s₁.heap H).get? b=some o:=λe n=>Xro e n
  have noA:∀{b:Addr} {o:Obj} {es:Array DictEntry} {ep:Nat},s₁.heap.get? b=some o->o.data = .dict es ep->H b=none:=λ{b o es ep} e d=>by
   cases q:H b with
   | none=>rfl
   | some u=>
    rcases hA b (by rw[q];simp) with e' | e'
    ·subst e'
     rw[ha] at e;cases e
     have d':Data.seq vs.toArray _=Data.dict es ep:=d
     cases d'
    ·subst e'
     rw[hT] at e;cases e
     cases d
  have nsK:∀{b:Addr} {m:Str->Option Value},s₁.heap.Ns b m->(hidT s₁.heap H).Ns b m:=λ{b m} ⟨o,es,ep,e,d,r⟩=>⟨o,es,ep,base_of e (noA e d),d,r⟩
  have hKb:K.In (hidT s₁.heap H):=λb o e=>base_of (KX b o e) (by
   cases q:H b with
   | none=>rfl
   | some u=>
    rcases hA b (by rw[q];simp) with e' | e'
    ·subst e'
     rw[hK (by rw[q];simp)] at e;cases e
    ·subst e'
     rw[hTK] at e;cases e)
  have hbm':BmOk mg (hidT s₁.heap H):=by
   obtain⟨bm,ob,b1,b2,b3,b4,b5,b6⟩:=hbm
   refine⟨bm,ob,b1,b2,base_of b3 ?_,b4,b5,b6⟩
   cases q:H bm with
   | none=>rfl
   | some u=>
    rcases hA bm (by rw[q];simp) with e' | e'
    ·subst e'
     rw[ha] at b3;cases b3
     exact absurd (show Value.type "list" = Value.type "module" from b4) (by decide)
    ·subst e'
     rw[hT] at b3;cases b3
     cases b4
  have hM:Mod K mg (hidT s₁.heap H):=⟨hKb,nsK hns,⟨mb,nsK hb,hbb⟩,let ⟨mc,h1,h2⟩:=hlim; ⟨mc,nsK h1,h2⟩⟩
  have e0:Env0 P w K mg (hidT s₁.heap H) callerA [] s₁ H:=⟨rfl,hM,λb o e=>Xt9 e,Nat.le_of_eq (Xoi _ _),trivial,λb hb=>absurd (show b∈([]:List Addr) from hb) (by simp),hok,.of_eq hg⟩
  refine codeAny_mono ((F _ hKb (nsK hns) hbm').run callerA [] s₁ H ⟨[.ref a],[]⟩ [.ref a] [.ref a] _ _ hr e0 (hbind s₁ (.ref a)) (.cons rfl .nil) (hsp H hHT hS)) λr s' h=>?_
  cases r with
  | error e=>exact(hCX H e s' h).elim
  | ok fl=>
   cases fl with
   | next=>exact False.elim h
   | brk=>exact False.elim h
   | cont=>exact False.elim h
   | ret u=>
    obtain⟨v,H',os,bare,un,hok',r',q⟩:=h
    have q':v = .bl true:=q
    subst q'
    obtain rfl:u=Value.bool true:=r'
    refine⟨rfl,OldK.of_tab (T:=T) (by have C:=PySem.W.codeHd_of_K KX hhd;exact(C.tab hT).isCodeTable) hT ?_ λb o nb e=>?_,os,bare⟩
    ·obtain⟨more,hm⟩:=un.tbls T #[] hHT
     exact⟨#[]++more,hok' T _ hm⟩
    cases q:H b with
    | none=>exact un.keep b o e q (by intro z;exact absurd (show b∈([]:List Addr) from z) (by simp)) (by simp)
    | some u=>
     rcases hO b nb with z | ⟨ob,xs,z⟩
     ·rw[q] at z;cases z
     ·have z2:=un.frzs b ob _ z
      obtain⟨e1,_⟩:=hok b _ z
      obtain⟨e2,_⟩:=hok' b _ z2
      rw[e] at e1;cases e1
      exact e2
 cases hk:K.lookup a with
 | some o=>
  have e:=KX a o hk
  rw[ha] at e
  cases e
  have naT:a≠T:=λz=>by rw[z,hTK] at hk;cases hk
  refine core (λb=>if b=T then some (.tbl #[]) else none) (X3i rfl) (λb n=>.inl (X3h n)) (.inr ⟨_,vs.toArray,_,hk,rfl,rfl,rfl,by rw[Xzm,lenV];exact hl,by simpa using rv⟩) (λb u z=>?_) (λb z=>.inr (Classical.byContradiction λn=>z (X3h n))) λz=>absurd (X3h naT) z
  by_cases hb:b=T
  ·have z':=(X3i hb).symm.trans z
   cases z'
   rw[hb]
   exact hT
  ·have z':=(X3h hb).symm.trans z
   cases z'
 | none=>
  have naT:T≠a:=λz=>by rw[z,ha] at hT;cases hT
  refine core (λb=>if b=T then some (.tbl #[]) else if b=a then some (.frz {cls:=.type "list",data:=.seq vs.toArray} (.lst (ns.map V.int))) else none) (X3i rfl) (λb n=>?_) (.inl (.inr ⟨{cls:=.type "list",data:=.seq vs.toArray},(X3h naT.symm).trans (X3i rfl)⟩)) (λb u z=>?_) (λb z=>?_) λ_=>hk
  ·by_cases hb:b=a
   ·exact .inr ⟨_,_,(X3h n).trans (X3i hb)⟩
   ·exact .inl ((X3h n).trans (X3h hb))
  ·by_cases hb:b=T
   ·have z':=(X3i hb).symm.trans z
    cases z'
    rw[hb]
    exact hT
   ·have z1:=(X3h hb).symm.trans z
    by_cases hb:b=a
    ·have z':=(X3i hb).symm.trans z1
     cases z'
     subst hb
     exact⟨ha,by rw[Xzk];exact hl,vs,_,rv,ha⟩
    ·have z':=(X3h hb).symm.trans z1
     cases z'
  ·by_cases hb:b=T
   ·exact .inr hb
   ·by_cases hc:b=a
    ·exact .inl hc
    ·exact absurd ((X3h hb).trans (X3h hc)) z
theorem Xtl{l:PySem.W.OpenLaw}{n k:Nat}{q:Program}{loose:List Str}{XP:(Str->Option Value)->Heap->Prop}{YP:World->Heap->Prop}{d:DefRec}{K:Params->PySem.W.Frag}{CX:World->CXT}{sp:World->Sp}{x:Str}{T c0:Addr}
  (hn:l.most=some n) (hn2:n<=sizeLine) (hdf:d.params.defaults=[]) (hr:Room k callerA)
  (hY:∀(w:World) (h:Heap),YP w h->(K w.params).In h) (hYT:∀(w:World) (h:Heap),YP w h->h.get? T=some (PySem.W.tabObj #[])) (hTK:∀P,(K P).lookup T=none) (hhd:∀P,PySem.W.codeHdIn (K P) c0 T=true)
  (F:∀(w:World) (mg:Str->Option Value) (fa:Addr) (h:Heap),(K w.params).In h->h.Ns mainGlobals mg->mg d.name=some (.ref fa) ->
   ∃fd:FuncData,(∀(s:Shared) (u:Value),BindsTo s fd ⟨[u],[]⟩ [(x,u)]) /\
    ∀base:Heap,(K w.params).In base->base.Ns mainGlobals mg->BmOk mg base->FnOk l.prog w (K w.params) mg base (CX w) k fa fd [x] (sp w))
  (hsp:∀(w:World) (H:Hp) (a:Addr) (ns:List Int),ns.length<=n->H T=some (.tbl #[])->SqL (K w.params) H a (ns.map V.int)->sp w [.ref a] H (λv _=>v = .bl true) λ_ _ _=>False)
  (hCX:∀(w:World) (H:Hp) (s:Shared) (e:Value) (s':Shared),CX w [] H s (λ_ _ _=>False) e s'->False):
  PySem.W.WalkO q loose XP YP l.row.toRowW d [] (λf vs=>PySem.call f vs):=by
 refine Att.attach_call hn hdf λw s₀ s₁ mg mb fa o pm cd doc a vs ns G Y ho hd hcd hmg hobj hints hlen hg=>?_
 have KX:=hY w _ Y
 obtain⟨fd,hb,hF⟩:=F w mg fa _ KX G.T.g hmg
 exact Xrn (hYT w _ Y) (hTK _) (hhd _) G.T.bmain KX G.T.g G.T.b G.T.builtins G.T.nolimit hg hobj hints (X0c hlen hn2) hr hF hb (λH hO hS=>hsp w H a ns hlen hO hS) λH e s'=>hCX w H s₁ e s'
theorem Fn.ofT{P:Program}{w:World}{K:PySem.W.Frag}{h:Heap}{mg:Str->Option Value}{base:Heap}{CX:CXT}{k:Nat}{x:Str}{st:Stmt}{ps:List Str}{sp:Sp}{T:Addr}(X:K.In h)(G:h.Ns mainGlobals mg)(D:DefT K x st T)
  (hb:∀(kV doc pm:Value) (an:Option Addr) (cdv ct:Value) (us:List Value),us.length=ps.length->bindArgs (PySem.W.fnOf x x (Xdf st) (Xcc st) (defScope st) .none kV doc pm an cdv ct) ⟨us,[]⟩=pure (ps.zip us))
  (ok:∀f fd,FunT K x st f fd T->FnOk P w K mg base CX k f fd ps sp):Fn P w K mg base CX k x ps sp:=by
 obtain⟨f,fd,a,hk,F,F'⟩:=D.ex
 exact⟨⟨f,fd,PySem.W.mg_of X G a,hk,F'.binds hb,ok f fd F⟩⟩
end L2
namespace L2
open PySem
theorem len1{us:List Value}(h:us.length=1):∃a,us=[a]:=X2i.mp h
theorem len2{us:List Value}(h:us.length=2):∃a b,us=[a,b]:=by
 cases us with
 | nil=>cases h
 | cons a r=>
  obtain⟨b,rfl⟩:=len1 (Nat.succ.inj h)
  exact⟨a,b,rfl⟩
theorem len3{us:List Value}(h:us.length=3):∃a b c,us=[a,b,c]:=by
 cases us with
 | nil=>cases h
 | cons a r=>
  obtain⟨b,c,rfl⟩:=len2 (Nat.succ.inj h)
  exact⟨a,b,c,rfl⟩
theorem len4{us:List Value}(h:us.length=4):∃a b c d,us=[a,b,c,d]:=by
 cases us with
 | nil=>cases h
 | cons a r=>
  obtain⟨b,c,d,rfl⟩:=len3 (Nat.succ.inj h)
  exact⟨a,b,c,d,rfl⟩
end L2
namespace K33
open PySem PySem.Spec PyProof.Rows L2 SH
theorem Xyq{P:Program}{w:World}{K:PySem.W.Frag}{h:Heap}{mg:Str->Option Value}{fa C_NoDitch C_NoPlot C_BadGround C_ShoreError T_:Addr}(X:K.In h)(G:h.Ns mainGlobals mg)(hfa:mg "law" = some (.ref fa))
  (d_ask_ditch:DefAt K "ask_ditch" sAsk)
  (d_ditches:DefAt K "ditches" sDitches)
  (d_ends:DefAt K "ends" sEnds)
  (d_spans:DefAt K "spans" sSpans)
  (d_lie_of:DefAt K "lie_of" sLieOf)
  (d_crossings:DefAt K "crossings" sCross)
  (d_told:DefAt K "told" sTold)
  (d_in_order:DefT K "in_order" s_in_order T_)
  (d_allows:DefAt K "allows" sAllows)
  (d_is_plot:DefAt K "is_plot" sIsPlot)
  (d_ask_plot:DefAt K "ask_plot" s_ask_plot)
  (d_plots:DefAt K "plots" s_plots)
  (d_bank_of:DefAt K "bank_of" s_bank_of)
  (d_lies_on:DefAt K "lies_on" s_lies_on)
  (d_shared:DefAt K "shared" s_shared)
  (d_held:DefAt K "held" s_held)
  (d_gate:DefAt K "gate" s_gate)
  (d__law_begin:DefAt K "_law_begin" sBegin)
  (d__law_pick:DefAt K "_law_pick" sPick)
  (d__law_put:DefAt K "_law_put" sPut)
  (d__law_where:DefAt K "_law_where" sWhere)
  (d__law_word:DefAt K "_law_word" sWord)
  (d__law_barred:DefAt K "_law_barred" sBarred)
  (d__law_row:DefAt K "_law_row" sRow)
  (d__law_names:DefAt K "_law_names" sNames)
  (d__law_island:DefAt K "_law_island" sIsland)
  (d__law_bars:DefAt K "_law_bars" s__law_bars)
  (d__law_fits:DefAt K "_law_fits" s__law_fits)
  (d__law_plots:DefAt K "_law_plots" s__law_plots)
  (d__law_kept:DefAt K "_law_kept" s__law_kept)
  (d__law_one:DefAt K "_law_one" s__law_one)
  (d__law_few:DefAt K "_law_few" s__law_few)
  (d__law_stranger:DefAt K "_law_stranger" s__law_stranger)
  (d__law_odd_kept:DefAt K "_law_odd_kept" s__law_odd_kept)
  (d__law_flip:DefAt K "_law_flip" s__law_flip)
  (d__law_odd_plot:DefAt K "_law_odd_plot" s__law_odd_plot)
  (d__law_keeps:DefAt K "_law_keeps" s__law_keeps)
  (d__law_held:DefAt K "_law_held" s__law_held)
  (d__law_good_kept:DefAt K "_law_good_kept" s__law_good_kept)
  (d__law_good_plot:DefAt K "_law_good_plot" s__law_good_plot)
  (d__law_tuple:DefAt K "_law_tuple" s__law_tuple)
  (d__law_said:DefAt K "_law_said" s__law_said)
  (d_law:DefAt K "law" s_law)
  (x_NoDitch:ExcAt K "NoDitch" C_NoDitch)
  (x_NoPlot:ExcAt K "NoPlot" C_NoPlot)
  (x_BadGround:ExcAt K "BadGround" C_BadGround)
  (x_ShoreError:ClsAt K "ShoreError" C_ShoreError)
  (q_BadGround_ShoreError:PySem.W.subIn K (.ref C_BadGround) (.ref C_ShoreError)=some true) (n_BadGround_ShoreError:C_BadGround≠C_ShoreError)
  (q_NoPlot_ShoreError:PySem.W.subIn K (.ref C_NoPlot) (.ref C_ShoreError)=some true) (n_NoPlot_ShoreError:C_NoPlot≠C_ShoreError)
  (q_BadGround_NoPlot:PySem.W.subIn K (.ref C_BadGround) (.ref C_NoPlot)=some false) (n_BadGround_NoPlot:C_BadGround≠C_NoPlot)
  (q_NoPlot_BadGround:PySem.W.subIn K (.ref C_NoPlot) (.ref C_BadGround)=some false) (n_NoPlot_BadGround:C_NoPlot≠C_BadGround)
  (sS:PySem.W.subIn K (.ref C_ShoreError) (.type "BaseException")=some true)
  (z_len:PySem.W.nsIn K mainGlobals "len" = some none)
  (z_range:PySem.W.nsIn K mainGlobals "range" = some none)
  (z_list:PySem.W.nsIn K mainGlobals "list" = some none)
  (z_min:PySem.W.nsIn K mainGlobals "min" = some none)
  (z_isinstance:PySem.W.nsIn K mainGlobals "isinstance" = some none)
  (z_all:PySem.W.nsIn K mainGlobals "all" = some none)
  (z_str:PySem.W.nsIn K mainGlobals "str" = some none)
  (z_ValueError:PySem.W.nsIn K mainGlobals "ValueError" = some none)
  (z_sorted:PySem.W.nsIn K mainGlobals "sorted" = some none)
  (z_set:PySem.W.nsIn K mainGlobals "set" = some none)
  (z_enumerate:PySem.W.nsIn K mainGlobals "enumerate" = some none)
  (z_int:PySem.W.nsIn K mainGlobals "int" = some none)
  (z_bool:PySem.W.nsIn K mainGlobals "bool" = some none)
  (z_tuple:PySem.W.nsIn K mainGlobals "tuple" = some none)
  (z_any:PySem.W.nsIn K mainGlobals "any" = some none)
  (z_dict:PySem.W.nsIn K mainGlobals "dict" = some none)
  (z_sum:PySem.W.nsIn K mainGlobals "sum" = some none)
  (z_max:PySem.W.nsIn K mainGlobals "max" = some none)
  : ∃fd:FuncData,(∀(s:Shared) (v:Value),BindsTo s fd ⟨[v],[]⟩ [("_law_script",v)])/\∀base:Heap,K.In base->base.Ns mainGlobals mg->BmOk mg base->FnOk P w K mg base CX0 9 fa fd ["_law_script"] (Xng K T_):=by
 have T:Bl mg:=⟨PySem.W.mg_none_of X G z_len,PySem.W.mg_none_of X G z_range,PySem.W.mg_none_of X G z_list,PySem.W.mg_none_of X G z_min,PySem.W.mg_none_of X G z_isinstance,PySem.W.mg_none_of X G z_all,PySem.W.mg_none_of X G z_str,PySem.W.mg_none_of X G z_ValueError,PySem.W.mg_none_of X G z_sorted,PySem.W.mg_none_of X G z_set,PySem.W.mg_none_of X G z_enumerate,PySem.W.mg_none_of X G z_int,PySem.W.mg_none_of X G z_bool,PySem.W.mg_none_of X G z_tuple,PySem.W.mg_none_of X G z_any,PySem.W.mg_none_of X G z_dict,PySem.W.mg_none_of X G z_sum,PySem.W.mg_none_of X G z_max⟩
 obtain⟨f,fd,a,hk,F⟩:=d_law.ex
 have e:=hfa.symm.trans (PySem.W.mg_of X G a)
 cases e
 refine⟨fd,?_,λbase hB hG hbm=>?_⟩
 ·obtain⟨oc,od,kV,doc,pm,an,cdv,ct,osl,rfl,lk,hcd⟩:=F.ex
  exact λs v=>.of_eq rfl
 ·have FB:Fn P w K mg base CX0 1 "_law_begin" ["_law_script"] (Xld K):=Fn.of X G d__law_begin (λ_ _ _ _ _ _ us hl=>by obtain⟨a,rfl⟩:=L2.len1 hl;rfl) λf fd F=>Xtc F T
  have FP:FnPick P w K mg base:=Fn.of X G d__law_pick (λ_ _ _ _ _ _ us hl=>by obtain⟨a,b,rfl⟩:=L2.len2 hl;rfl) λf fd F=>Xv3 F T
  have FU:Fn P w K mg base CX0 1 "_law_put" ["_law_row_here", "_law_name", "_law_at", "_law_to"] Xva:=Fn.of X G d__law_put (λ_ _ _ _ _ _ us hl=>by obtain⟨a,b,c,d,rfl⟩:=L2.len4 hl;rfl) λf fd F=>Xyi F
  have FW:Fn P w K mg base CX0 1 "_law_where" ["_law_row_here"] Xik:=Fn.of X G d__law_where (λ_ _ _ _ _ _ us hl=>by obtain⟨a,rfl⟩:=L2.len1 hl;rfl) λf fd F=>Xtd F T
  have FO:Fn P w K mg base CX0 1 "_law_word" ["_law_where_here", "_law_one_here", "_law_other"] spWord:=Fn.of X G d__law_word (λ_ _ _ _ _ _ us hl=>by obtain⟨a,b,c,rfl⟩:=L2.len3 hl;rfl) λf fd F=>Xv4 F T
  have FA:Fn P w K mg base CX0 2 "_law_barred" ["_law_row_here", "_law_name"] spBarredN:=Fn.of X G d__law_barred (λ_ _ _ _ _ _ us hl=>by obtain⟨a,b,rfl⟩:=L2.len2 hl;rfl) λf fd F=>Xrj F T FW FO
  have FR:Fn P w K mg base CX0 3 "_law_row" ["_law_draw", "_law_names_here"] spRowN:=Fn.of X G d__law_row (λ_ _ _ _ _ _ us hl=>by obtain⟨a,b,rfl⟩:=L2.len2 hl;rfl) λf fd F=>Xyj F T FP FU FA
  have FN:Fn P w K mg base CX0 2 "_law_names" ["_law_draw", "_law_many"] Xlg:=Fn.of X G d__law_names (λ_ _ _ _ _ _ us hl=>by obtain⟨a,b,rfl⟩:=L2.len2 hl;rfl) λf fd F=>Xte F T FP
  have FI:Fn P w K mg base CX0 4 "_law_island" ["_law_draw", "_law_most"] spIslandN:=Fn.of X G d__law_island (λ_ _ _ _ _ _ us hl=>by obtain⟨a,b,rfl⟩:=L2.len2 hl;rfl) λf fd F=>Xrk F T FP FN FR
  have FK:Fn P w K mg base (CX1 P w) 1 "ask_ditch" ["row", "name"] (Xvd C_NoDitch):=Fn.of X G d_ask_ditch (λ_ _ _ _ _ _ us hl=>by obtain⟨a,b,rfl⟩:=L2.len2 hl;rfl) λf fd F=>Xyf F (PySem.W.mg_of X G x_NoDitch.a) x_NoDitch.e
  have FD:Fn P w K mg base CX0 1 "ditches" ["row"] spDitches:=Fn.of X G d_ditches (λ_ _ _ _ _ _ us hl=>by obtain⟨a,rfl⟩:=L2.len1 hl;rfl) λf fd F=>Xoc F T
  have FE:Fn P w K mg base (CX1 P w) 2 "ends" ["row", "name"] (Xpz C_NoDitch):=Fn.of X G d_ends (λ_ _ _ _ _ _ us hl=>by obtain⟨a,b,rfl⟩:=L2.len2 hl;rfl) λf fd F=>Xvx F T FK
  have FSp:Fn P w K mg base CX0 3 "spans" ["row"] spSpans:=Fn.of X G d_spans (λ_ _ _ _ _ _ us hl=>by obtain⟨a,rfl⟩:=L2.len1 hl;rfl) λf fd F=>Xs7 F FD FE
  have FLo:Fn P w K mg base CX0 2 "lie_of" ["here", "there"] spLieOf:=Fn.of X G d_lie_of (λ_ _ _ _ _ _ us hl=>by obtain⟨a,b,rfl⟩:=L2.len2 hl;rfl) λf fd F=>Xs8 F
  have FCr:Fn P w K mg base CX0 4 "crossings" ["row"] Xef:=Fn.of X G d_crossings (λ_ _ _ _ _ _ us hl=>by obtain⟨a,rfl⟩:=L2.len1 hl;rfl) λf fd F=>Xku F FSp FLo
  have FTo:Fn P w K mg base CX0 1 "told" ["names"] (spTold K):=Fn.of X G d_told (λ_ _ _ _ _ _ us hl=>by obtain⟨a,rfl⟩:=L2.len1 hl;rfl) λf fd F=>Xvz F T
  have FAl:Fn P w K mg base CX0 1 "allows" ["how", "off"] spAllows:=Fn.of X G d_allows (λ_ _ _ _ _ _ us hl=>by obtain⟨a,b,rfl⟩:=L2.len2 hl;rfl) λf fd F=>Xrb F
  have FIp:Fn P w K mg base CX0 4 "is_plot" ["row", "plot"] Xin:=Fn.of X G d_is_plot (λ_ _ _ _ _ _ us hl=>by obtain⟨a,b,rfl⟩:=L2.len2 hl;rfl) λf fd F=>Xrc F T FSp FLo FTo FAl
  have FIo:Fn P w K mg base CX0 4 "in_order" ["some"] (spInOrder T_ (lamPos s_in_order)):=Fn.ofT X G d_in_order (λ_ _ _ _ _ _ us hl=>by obtain⟨a,rfl⟩:=L2.len1 hl;rfl) λf fd F=>Xod F T hbm
  have FPl:Fn P w K mg base CX0 5 "plots" ["row"] (Xit T_ (lamPos s_in_order)):=Fn.of X G d_plots (λ_ _ _ _ _ _ us hl=>by obtain⟨a,rfl⟩:=L2.len1 hl;rfl) λf fd F=>Xre F FSp FLo FTo FCr FIo
  have FAp:Fn P w K mg base (CX1 P w) 5 "ask_plot" ["row", "plot"] (Xg2 C_NoPlot):=Fn.of X G d_ask_plot (λ_ _ _ _ _ _ us hl=>by obtain⟨a,b,rfl⟩:=L2.len2 hl;rfl) λf fd F=>Xoe F (PySem.W.mg_of X G x_NoPlot.a) x_NoPlot.e FIp
  have FBo:Fn P w K mg base CX0 1 "bank_of" ["plot", "name"] spBankOf:=Fn.of X G d_bank_of (λ_ _ _ _ _ _ us hl=>by obtain⟨a,b,rfl⟩:=L2.len2 hl;rfl) λf fd F=>Xrf F
  have FLn:Fn P w K mg base CX0 2 "lies_on" ["plot", "kept"] spLiesOn:=Fn.of X G d_lies_on (λ_ _ _ _ _ _ us hl=>by obtain⟨a,b,rfl⟩:=L2.len2 hl;rfl) λf fd F=>Xrg F T FBo
  have FSh:Fn P w K mg base CX0 2 "shared" ["row", "some"] spShared:=Fn.of X G d_shared (λ_ _ _ _ _ _ us hl=>by obtain⟨a,b,rfl⟩:=L2.len2 hl;rfl) λf fd F=>Xrh F T FD FBo
  have FHe:Fn P w K mg base (CX1 P w) 6 "held" ["row", "kept"] (spHeld C_BadGround T_ (lamPos s_in_order)):=Fn.of X G d_held (λ_ _ _ _ _ _ us hl=>by obtain⟨a,b,rfl⟩:=L2.len2 hl;rfl) λf fd F=>Xv0 F (PySem.W.mg_of X G x_BadGround.a) x_BadGround.e FPl FLn FSh
  have FGa:Fn P w K mg base (CX1 P w) 7 "gate" ["row", "kept", "plot"] (Xm6 C_BadGround C_NoPlot T_ (lamPos s_in_order)):=Fn.of X G d_gate (λ_ _ _ _ _ _ us hl=>by obtain⟨a,b,c,rfl⟩:=L2.len3 hl;rfl) λf fd F=>Xv1 F T FHe FAp FD FBo
  have FFi:Fn P w K mg base CX0 1 "_law_fits" ["_law_bars_here", "_law_plot"] Xmx:=Fn.of X G d__law_fits (λ_ _ _ _ _ _ us hl=>by obtain⟨a,b,rfl⟩:=L2.len2 hl;rfl) λf fd F=>Xv6 F
  have FBr:Fn P w K mg base CX0 2 "_law_bars" ["_law_row_here"] spBars:=Fn.of X G d__law_bars (λ_ _ _ _ _ _ us hl=>by obtain⟨a,rfl⟩:=L2.len1 hl;rfl) λf fd F=>Xv5 F T FW FO
  have FLp:Fn P w K mg base CX0 3 "_law_plots" ["_law_row_here"] spPlotsO:=Fn.of X G d__law_plots (λ_ _ _ _ _ _ us hl=>by obtain⟨a,rfl⟩:=L2.len1 hl;rfl) λf fd F=>Xtf F T FFi FBr
  have FOn:Fn P w K mg base CX0 2 "_law_one" ["_law_draw", "_law_some"] spOne:=Fn.of X G d__law_one (λ_ _ _ _ _ _ us hl=>by obtain⟨a,b,rfl⟩:=L2.len2 hl;rfl) λf fd F=>Xyk F T FP
  have FFw:Fn P w K mg base CX0 3 "_law_few" ["_law_draw", "_law_some"] spFew:=Fn.of X G d__law_few (λ_ _ _ _ _ _ us hl=>by obtain⟨a,b,rfl⟩:=L2.len2 hl;rfl) λf fd F=>Xyl F T FP FOn
  have FKp:Fn P w K mg base CX0 1 "_law_keeps" ["_law_kept_here", "_law_plot"] spKeepsL:=Fn.of X G d__law_keeps (λ_ _ _ _ _ _ us hl=>by obtain⟨a,b,rfl⟩:=L2.len2 hl;rfl) λf fd F=>Xth F T
  have FS:Fn P w K mg base CX0 1 "_law_stranger" ["_law_row_here"] Xc9:=Fn.of X G d__law_stranger (λ_ _ _ _ _ _ us hl=>by obtain⟨a,rfl⟩:=L2.len1 hl;rfl) λf fd F=>Xl2 F
  have FT:Fn P w K mg base CX0 1 "_law_tuple" ["_law_found"] spTuple:=Fn.of X G d__law_tuple (λ_ _ _ _ _ _ us hl=>by obtain⟨a,rfl⟩:=L2.len1 hl;rfl) λf fd F=>Xtk F T
  have FFl:Fn P w K mg base CX0 1 "_law_flip" ["_law_plot", "_law_name"] spFlip:=Fn.of X G d__law_flip (λ_ _ _ _ _ _ us hl=>by obtain⟨a,b,rfl⟩:=L2.len2 hl;rfl) λf fd F=>Xv9 F T
  have FOd:Fn P w K mg base CX0 2 "_law_odd_plot" ["_law_draw", "_law_row_here", "_law_plot"] spOdd:=Fn.of X G d__law_odd_plot (λ_ _ _ _ _ _ us hl=>by obtain⟨a,b,c,rfl⟩:=L2.len3 hl;rfl) λf fd F=>Xyn F T FP FS FFl
  have FGo:Fn P w K mg base CX0 3 "_law_good_plot" ["_law_row_here", "_law_plot"] spGood:=Fn.of X G d__law_good_plot (λ_ _ _ _ _ _ us hl=>by obtain⟨a,b,rfl⟩:=L2.len2 hl;rfl) λf fd F=>Xwc F T FFi FBr
  have FKt:Fn P w K mg base CX0 1 "_law_kept" ["_law_row_here", "_law_crowd"] Xiv:=Fn.of X G d__law_kept (λ_ _ _ _ _ _ us hl=>by obtain⟨a,b,rfl⟩:=L2.len2 hl;rfl) λf fd F=>Xv7 F T
  have FHl:Fn P w K mg base CX0 2 "_law_held" ["_law_some", "_law_kept_here"] spHeldL:=Fn.of X G d__law_held (λ_ _ _ _ _ _ us hl=>by obtain⟨a,b,rfl⟩:=L2.len2 hl;rfl) λf fd F=>Xti F FKp
  have FGk:Fn P w K mg base CX0 3 "_law_good_kept" ["_law_row_here", "_law_some", "_law_kept_here"] Xly:=Fn.of X G d__law_good_kept (λ_ _ _ _ _ _ us hl=>by obtain⟨a,b,c,rfl⟩:=L2.len3 hl;rfl) λf fd F=>Xtj F FHl FKt
  have FOk:Fn P w K mg base CX0 3 "_law_odd_kept" ["_law_draw", "_law_row_here", "_law_kept_here"] spOddK:=Fn.of X G d__law_odd_kept (λ_ _ _ _ _ _ us hl=>by obtain⟨a,b,c,rfl⟩:=L2.len3 hl;rfl) λf fd F=>Xv8 F T FP FS FOn
  have FSd:Fn P w K mg base CX0 8 "_law_said" ["_law_row_here", "_law_kept_here", "_law_plot"] (Xiw T_ (lamPos s_in_order)):=Fn.of X G d__law_said (λ_ _ _ _ _ _ us hl=>by obtain⟨a,b,c,rfl⟩:=L2.len3 hl;rfl) λf fd F=>by
   obtain⟨fa,fda,hma,hka,hba,hFa⟩:=FGa.ex
   exact Xwe F T (PySem.W.mg_of X G x_ShoreError.a) (PySem.W.mg_of X G x_BadGround.a) (PySem.W.mg_of X G x_NoPlot.a) hma hka hba hFa x_BadGround.f x_NoPlot.f (Xtw x_BadGround.sb sS x_ShoreError.ic x_ShoreError.ty q_BadGround_ShoreError) (Xtw x_NoPlot.sb sS x_ShoreError.ic x_ShoreError.ty q_NoPlot_ShoreError) x_BadGround.val x_NoPlot.val (Xtv n_BadGround_NoPlot x_NoPlot.ic x_NoPlot.ty q_BadGround_NoPlot) (Xtv n_NoPlot_BadGround x_BadGround.ic x_BadGround.ty q_NoPlot_BadGround)
  exact Xyp F T FB FP FI FLp FOn FFw FKp FKt FOk FOd FGk FGo FT FSd FGa
theorem walk{l:PySem.W.OpenLaw}{q:Program}{loose:List Str}{XP:(Str->Option Value)->Heap->Prop}{YP:World->Heap->Prop}{d:DefRec}{K:Params->PySem.W.Frag}{T c0:Addr}(hn:l.most=some 63)(hdf:d.params.defaults=[])
  (hY:∀(w:World) (h:Heap),YP w h->(K w.params).In h) (hYT:∀(w:World) (h:Heap),YP w h->h.get? T=some (PySem.W.tabObj #[])) (hTK:∀P,(K P).lookup T=none) (hhd:∀P,PySem.W.codeHdIn (K P) c0 T=true)
  (F:∀(w:World) (mg:Str->Option Value) (fa:Addr) (h:Heap),(K w.params).In h->h.Ns mainGlobals mg->mg d.name=some (.ref fa) ->
   ∃fd:FuncData,(∀(s:Shared) (u:Value),BindsTo s fd ⟨[u],[]⟩ [("_law_script",u)])/\∀base:Heap,(K w.params).In base->base.Ns mainGlobals mg->BmOk mg base->FnOk l.prog w (K w.params) mg base CX0 9 fa fd ["_law_script"] (Xng (K w.params) T)):
  PySem.W.WalkO q loose XP YP l.row.toRowW d [] (λf vs=>PySem.call f vs):=
 L2.Xtl (n:=63) (k:=9) (x := "_law_script") (CX:=λ_=>CX0) (sp:=λw=>Xng (K w.params) T) hn (by decide) hdf ⟨rfl,by decide,by decide,rfl⟩ hY hYT hTK hhd F (λ_ _ a ns hl hT hS=>⟨a,ns,rfl,hS,hl,hT,λ_=>rfl⟩) λ_ _ _ _ _ z=>z
end K33
open PySem PySem.W PyProof.Rows
namespace HD
open PySem PySem.W PySem.Calls PyProof.Rows
abbrev O := Option SharedT
noncomputable abbrev B (a b:O) (c:Bool):O := @Bool.rec (fun _=>O) a b c
noncomputable def go (F:SharedT→Thread→Option (SharedT×Thread)) (ok:Thread→Bool) (n:Nat):SharedT→Thread→O := @Nat.rec (fun _=>SharedT→Thread→O) (fun _ _=>none) (fun _ ih s t=>B (B none (@Option.rec (SharedT×Thread) (fun _=>O) none (fun x=>@Prod.rec SharedT Thread (fun _=>O) ih x) (F s t)) (ok t)) (some s) (through t)) n
theorem go_spec {tb p w m a z}:∀ n s t,go (stepT (denote tb) p w) (stepOk m a) n s t=some z→topRun tb p w m a n s.abs t=some z.abs := by
 intro n
 induction n with
 | zero=>intro s t h;cases h
 | succ n ih=>
  intro s t h
  unfold topRun
  have h':B (B none (@Option.rec (SharedT×Thread) (fun _=>O) none (fun x=>@Prod.rec SharedT Thread (fun _=>O) (go (stepT (denote tb) p w) (stepOk m a) n) x) (stepT (denote tb) p w s t)) (stepOk m a t)) (some s) (through t)=some z := h
  cases ht:through t with
  | true=>rw [ht] at h';cases h';rfl
  | false=>
   cases hk:stepOk m a t with
   | false=>rw [ht,hk] at h';cases h'
   | true=>
    cases hs:stepT (denote tb) p w s t with
    | none=>rw [ht,hk,hs] at h';cases h'
    | some x=>
     rw [ht,hk,hs] at h'
     rw [stepT_spec hs]
     exact ih _ _ h'
noncomputable def tree (P:Params):BT := ((boot_heap P).objs.toList.foldl (fun (x:BT×Nat) o=>(x.1.ins x.2 o,x.2+1)) (.nil,0)).1
theorem tree_abs (P):absHeap (tree P) 11 {}=boot_heap P := by kernel_rfl
theorem boot_is (P):((boot_heap P).isNs mainGlobals,(boot_heap P).objs.size,(boot_heap P).nsMap mainGlobals "__annotations__")=(true,11,some (.ref 6)) := by kernel_rfl
abbrev ck (p:Program) (g h:Heap) (z:Shared) := staticsOk (importedModules p.main.body) g h&&namesBound p h&&gensDone z&&laidKept g h
theorem left {p q loose Xt α} {Yf:Shared→α} {Ya N g} (e:opening p=plainProg p.main.scope.names) (hN:Nat.ble 600 N=true) (f:∀ s,fenceModules? p s=some s)
 (h:∀ w:World,(fun os=>(go (Fast.tw10156331382660048174 (Fast.tw11892475500146522536 Fast.tw14364793385576792824) p w) (Fast.tw6613529449190102663 11 (some (.ref 6))) N ⟨tree w.params,11,{},#[],boot_drawn,boot_toks,os⟩ (topStub p)).map fun z=>(ck p (boot_heap w.params) z.abs.heap z.abs,Fast.tw4187177175401517315 q loose (importedModules p.main.body) Xt g z.abs,Yf z.abs))=fun _=>some (true,openGood q loose,Ya w)):LeftO p q loose Xt Yf Ya N g := fun w=>by
 rw [←Fast.te10156331382660048174,←Fast.te11892475500146522536,←Fast.te14364793385576792824,←Fast.te6613529449190102663,←Fast.te4187177175401517315] at h
 obtain ⟨⟨hp,gs,d,k,os⟩,e1,e2⟩ := Option.map_eq_some_iff.mp (boot_open e hN f w)
 obtain ⟨rfl,rfl,rfl,rfl⟩:hp=boot_heap w.params∧gs=#[]∧d=boot_drawn∧k=boot_toks := by simpa using e2
 obtain ⟨z1,z2,z3⟩:_∧_∧_ := by simpa only [Prod.mk.injEq] using boot_is w.params
 obtain ⟨z,hz,l⟩ := Option.map_eq_some_iff.mp (congrFun (h w) os)
 obtain ⟨l1,l2,l3⟩:_∧_∧_ := by simpa only [Prod.mk.injEq] using l
 have r := go_spec _ _ _ hz
 rw [show (SharedT.mk (tree w.params) 11 {} #[] boot_drawn boot_toks os).abs=⟨boot_heap w.params,#[],boot_drawn,boot_toks,os⟩ by show Shared.mk (absHeap (tree w.params) 11 {}) _ _ _ _=_;rw [tree_abs]] at r
 unfold openEnds
 rw [e1]
 show (topFrom treeTable p w N _).map _=_
 rw [show topFrom treeTable p w N ⟨boot_heap w.params,#[],boot_drawn,boot_toks,os⟩=some z.abs by
  unfold topFrom
  dsimp only
  rw [z1,z2,z3,r]
  show (match ck p (boot_heap w.params) z.abs.heap z.abs with | true=>_ | false=>_)=_
  rw [l1]]
 exact congrArg some (Prod.ext l2 l3)
def isDef:Stmt→Bool
 | .Assign _ (.Constant (.str _) _ _) _=>false
 | _=>true
def q:Program := {PySem.Challenge.pw_shoretold_k33_gates_of_a_ground with main:={PySem.Challenge.pw_shoretold_k33_gates_of_a_ground.main with body:=PySem.Challenge.pw_shoretold_k33_gates_of_a_ground.main.body.filter isDef}}
theorem said:PySem.Challenge.rw_shoretold_k33_gates_of_a_ground.wellSaid=true := by
 rw [Fast.te9446332074065402090]
 kernel_rfl
end HD
local macro_rules | `(tactic| o_head $H) => `(tactic| refine PySem.W.holds_open (q:=HD.q) (loose:=[]) (Xt:=fun s=>xlAt HD.q [] s&&recOk [] s) (XP:=XL HD.q []) (N:=1000000) ?hl (Hook.of $H) (Hook.keeps $H) (fun s e=>xl_of s (Bool.and_eq_true_iff.mp e).1) XL.keeps (by rfl) (by rfl) (by rfl) (fun s e=>recFacts_of (Bool.and_eq_true_iff.mp e).2) (by rfl) (by assumption) (by decide +kernel) ⟨rfl,rfl,rfl,rfl,rfl,by decide +kernel⟩ ?hw ?hc)
set_option maxRecDepth 100000 in
set_option maxHeartbeats 0 in
theorem PySem.Challenge.cw_shoretold_k33_gates_of_a_ground_holds : PySem.Challenge.rw_shoretold_k33_gates_of_a_ground.Holds := by
 w_on
 refine holds_law HD.said fun said=>?_
 k_head
 case hw=>w_witness2
 case hl=>exact HD.left (by kernel_rfl) (by kernel_rfl) (fun s=>by kernel_rfl) (fun w=>by kernel_rfl)
 k_fill
 refine K33.walk (l:=PySem.Challenge.rw_shoretold_k33_gates_of_a_ground) (T:=108) (c0:=112) rfl rfl (λw h Y=>PySem.W.km_in_of Y) (λw h Y=>PySem.W.km_tabs_of Y _ (Xzr.mpr rfl)) ?hTK ?hhd ?F
 case hTK=>intro P;kernel_rfl
 case hhd=>intro P;kernel_rfl
 case F=>
  intro w mg fa h KX G hmg
  refine' K33.Xyq KX G hmg ?d_ask_ditch ?d_ditches ?d_ends ?d_spans ?d_lie_of ?d_crossings ?d_told ?d_in_order ?d_allows ?d_is_plot ?d_ask_plot ?d_plots ?d_bank_of ?d_lies_on ?d_shared ?d_held ?d_gate ?d__law_begin ?d__law_pick ?d__law_put ?d__law_where ?d__law_word ?d__law_barred ?d__law_row ?d__law_names ?d__law_island ?d__law_bars ?d__law_fits ?d__law_plots ?d__law_kept ?d__law_one ?d__law_few ?d__law_stranger ?d__law_odd_kept ?d__law_flip ?d__law_odd_plot ?d__law_keeps ?d__law_held ?d__law_good_kept ?d__law_good_plot ?d__law_tuple ?d__law_said ?d_law ?x_NoDitch ?x_NoPlot ?x_BadGround ?x_ShoreError ?q_BadGround_ShoreError ?n_BadGround_ShoreError ?q_NoPlot_ShoreError ?n_NoPlot_ShoreError ?q_BadGround_NoPlot ?n_BadGround_NoPlot ?q_NoPlot_BadGround ?n_NoPlot_BadGround ?sS ?z_len ?z_range ?z_list ?z_min ?z_isinstance ?z_all ?z_str ?z_ValueError ?z_sorted ?z_set ?z_enumerate ?z_int ?z_bool ?z_tuple ?z_any ?z_dict ?z_sum ?z_max
  (case d_ask_ditch=>(refine' L2.DefAt.of ?a ?l ?c ?k;(case a=>k_is);(case l=>k_is);(case c=>k_is);(case k=>k_is)))
  (case d_ditches=>(refine' L2.DefAt.of ?a ?l ?c ?k;(case a=>k_is);(case l=>k_is);(case c=>k_is);(case k=>k_is)))
  (case d_ends=>(refine' L2.DefAt.of ?a ?l ?c ?k;(case a=>k_is);(case l=>k_is);(case c=>k_is);(case k=>k_is)))
  (case d_spans=>(refine' L2.DefAt.of ?a ?l ?c ?k;(case a=>k_is);(case l=>k_is);(case c=>k_is);(case k=>k_is)))
  (case d_lie_of=>(refine' L2.DefAt.of ?a ?l ?c ?k;(case a=>k_is);(case l=>k_is);(case c=>k_is);(case k=>k_is)))
  (case d_crossings=>(refine' L2.DefAt.of ?a ?l ?c ?k;(case a=>k_is);(case l=>k_is);(case c=>k_is);(case k=>k_is)))
  (case d_told=>(refine' L2.DefAt.of ?a ?l ?c ?k;(case a=>k_is);(case l=>k_is);(case c=>k_is);(case k=>k_is)))
  (case d_in_order=>(refine' L2.DefT.of ?a ?l ?c ?k ?t;(case a=>k_is);(case l=>k_is);(case c=>k_is);(case k=>k_is);(case t=>kernel_rfl)))
  (case d_allows=>(refine' L2.DefAt.of ?a ?l ?c ?k;(case a=>k_is);(case l=>k_is);(case c=>k_is);(case k=>k_is)))
  (case d_is_plot=>(refine' L2.DefAt.of ?a ?l ?c ?k;(case a=>k_is);(case l=>k_is);(case c=>k_is);(case k=>k_is)))
  (case d_ask_plot=>(refine' L2.DefAt.of ?a ?l ?c ?k;(case a=>k_is);(case l=>k_is);(case c=>k_is);(case k=>k_is)))
  (case d_plots=>(refine' L2.DefAt.of ?a ?l ?c ?k;(case a=>k_is);(case l=>k_is);(case c=>k_is);(case k=>k_is)))
  (case d_bank_of=>(refine' L2.DefAt.of ?a ?l ?c ?k;(case a=>k_is);(case l=>k_is);(case c=>k_is);(case k=>k_is)))
  (case d_lies_on=>(refine' L2.DefAt.of ?a ?l ?c ?k;(case a=>k_is);(case l=>k_is);(case c=>k_is);(case k=>k_is)))
  (case d_shared=>(refine' L2.DefAt.of ?a ?l ?c ?k;(case a=>k_is);(case l=>k_is);(case c=>k_is);(case k=>k_is)))
  (case d_held=>(refine' L2.DefAt.of ?a ?l ?c ?k;(case a=>k_is);(case l=>k_is);(case c=>k_is);(case k=>k_is)))
  (case d_gate=>(refine' L2.DefAt.of ?a ?l ?c ?k;(case a=>k_is);(case l=>k_is);(case c=>k_is);(case k=>k_is)))
  (case d__law_begin=>(refine' L2.DefAt.of ?a ?l ?c ?k;(case a=>k_is);(case l=>k_is);(case c=>k_is);(case k=>k_is)))
  (case d__law_pick=>(refine' L2.DefAt.of ?a ?l ?c ?k;(case a=>k_is);(case l=>k_is);(case c=>k_is);(case k=>k_is)))
  (case d__law_put=>(refine' L2.DefAt.of ?a ?l ?c ?k;(case a=>k_is);(case l=>k_is);(case c=>k_is);(case k=>k_is)))
  (case d__law_where=>(refine' L2.DefAt.of ?a ?l ?c ?k;(case a=>k_is);(case l=>k_is);(case c=>k_is);(case k=>k_is)))
  (case d__law_word=>(refine' L2.DefAt.of ?a ?l ?c ?k;(case a=>k_is);(case l=>k_is);(case c=>k_is);(case k=>k_is)))
  (case d__law_barred=>(refine' L2.DefAt.of ?a ?l ?c ?k;(case a=>k_is);(case l=>k_is);(case c=>k_is);(case k=>k_is)))
  (case d__law_row=>(refine' L2.DefAt.of ?a ?l ?c ?k;(case a=>k_is);(case l=>k_is);(case c=>k_is);(case k=>k_is)))
  (case d__law_names=>(refine' L2.DefAt.of ?a ?l ?c ?k;(case a=>k_is);(case l=>k_is);(case c=>k_is);(case k=>k_is)))
  (case d__law_island=>(refine' L2.DefAt.of ?a ?l ?c ?k;(case a=>k_is);(case l=>k_is);(case c=>k_is);(case k=>k_is)))
  (case d__law_bars=>(refine' L2.DefAt.of ?a ?l ?c ?k;(case a=>k_is);(case l=>k_is);(case c=>k_is);(case k=>k_is)))
  (case d__law_fits=>(refine' L2.DefAt.of ?a ?l ?c ?k;(case a=>k_is);(case l=>k_is);(case c=>k_is);(case k=>k_is)))
  (case d__law_plots=>(refine' L2.DefAt.of ?a ?l ?c ?k;(case a=>k_is);(case l=>k_is);(case c=>k_is);(case k=>k_is)))
  (case d__law_kept=>(refine' L2.DefAt.of ?a ?l ?c ?k;(case a=>k_is);(case l=>k_is);(case c=>k_is);(case k=>k_is)))
  (case d__law_one=>(refine' L2.DefAt.of ?a ?l ?c ?k;(case a=>k_is);(case l=>k_is);(case c=>k_is);(case k=>k_is)))
  (case d__law_few=>(refine' L2.DefAt.of ?a ?l ?c ?k;(case a=>k_is);(case l=>k_is);(case c=>k_is);(case k=>k_is)))
  (case d__law_stranger=>(refine' L2.DefAt.of ?a ?l ?c ?k;(case a=>k_is);(case l=>k_is);(case c=>k_is);(case k=>k_is)))
  (case d__law_odd_kept=>(refine' L2.DefAt.of ?a ?l ?c ?k;(case a=>k_is);(case l=>k_is);(case c=>k_is);(case k=>k_is)))
  (case d__law_flip=>(refine' L2.DefAt.of ?a ?l ?c ?k;(case a=>k_is);(case l=>k_is);(case c=>k_is);(case k=>k_is)))
  (case d__law_odd_plot=>(refine' L2.DefAt.of ?a ?l ?c ?k;(case a=>k_is);(case l=>k_is);(case c=>k_is);(case k=>k_is)))
  (case d__law_keeps=>(refine' L2.DefAt.of ?a ?l ?c ?k;(case a=>k_is);(case l=>k_is);(case c=>k_is);(case k=>k_is)))
  (case d__law_held=>(refine' L2.DefAt.of ?a ?l ?c ?k;(case a=>k_is);(case l=>k_is);(case c=>k_is);(case k=>k_is)))
  (case d__law_good_kept=>(refine' L2.DefAt.of ?a ?l ?c ?k;(case a=>k_is);(case l=>k_is);(case c=>k_is);(case k=>k_is)))
  (case d__law_good_plot=>(refine' L2.DefAt.of ?a ?l ?c ?k;(case a=>k_is);(case l=>k_is);(case c=>k_is);(case k=>k_is)))
  (case d__law_tuple=>(refine' L2.DefAt.of ?a ?l ?c ?k;(case a=>k_is);(case l=>k_is);(case c=>k_is);(case k=>k_is)))
  (case d__law_said=>(refine' L2.DefAt.of ?a ?l ?c ?k;(case a=>k_is);(case l=>k_is);(case c=>k_is);(case k=>k_is)))
  (case d_law=>(refine' L2.DefAt.of ?a ?l ?c ?k;(case a=>k_is);(case l=>k_is);(case c=>k_is);(case k=>k_is)))
  (case x_NoDitch=>(refine' ⟨?a,?e,?ga,?gn,?cl,?sb,?so,?sv,?ss,?ic,?ty⟩;(case a=>k_is);(case e=>k_exc);(case ga=>k_is);(case gn=>k_is);(case cl=>k_is);(case sb=>k_is);(case so=>k_is);(case sv=>k_is);(case ss=>k_is);(case ic=>k_is);(case ty=>k_is)))
  (case x_NoPlot=>(refine' ⟨?a,?e,?ga,?gn,?cl,?sb,?so,?sv,?ss,?ic,?ty⟩;(case a=>k_is);(case e=>k_exc);(case ga=>k_is);(case gn=>k_is);(case cl=>k_is);(case sb=>k_is);(case so=>k_is);(case sv=>k_is);(case ss=>k_is);(case ic=>k_is);(case ty=>k_is)))
  (case x_BadGround=>(refine' ⟨?a,?e,?ga,?gn,?cl,?sb,?so,?sv,?ss,?ic,?ty⟩;(case a=>k_is);(case e=>k_exc);(case ga=>k_is);(case gn=>k_is);(case cl=>k_is);(case sb=>k_is);(case so=>k_is);(case sv=>k_is);(case ss=>k_is);(case ic=>k_is);(case ty=>k_is)))
  (case x_ShoreError=>(refine' ⟨?a,?ic,?ty⟩;(case a=>k_is);(case ic=>k_is);(case ty=>k_is)))
  (case q_BadGround_ShoreError=>k_is);(case n_BadGround_ShoreError=>decide)
  (case q_NoPlot_ShoreError=>k_is);(case n_NoPlot_ShoreError=>decide)
  (case q_BadGround_NoPlot=>k_is);(case n_BadGround_NoPlot=>decide)
  (case q_NoPlot_BadGround=>k_is);(case n_NoPlot_BadGround=>decide)
  (case sS=>k_is)
  (case z_len=>k_is);(case z_range=>k_is);(case z_list=>k_is);(case z_min=>k_is);(case z_isinstance=>k_is);(case z_all=>k_is);(case z_str=>k_is);(case z_ValueError=>k_is);(case z_sorted=>k_is);(case z_set=>k_is);(case z_enumerate=>k_is);(case z_int=>k_is);(case z_bool=>k_is);(case z_tuple=>k_is);(case z_any=>k_is);(case z_dict=>k_is);(case z_sum=>k_is);(case z_max=>k_is)
#print axioms PySem.Challenge.cw_shoretold_k33_gates_of_a_ground_holds
