import PyProof.Rows.All
import Wide.All
import OpenK.AllK
import Wide.FinOn
import Lean
import PyProof.EqAt
import PyProof.EqKinds
import PyProof.TupleCall
import KE.KDictSum
import PyProof.Rows.SortStr
import PyProof.EnumStmt
import PyProof.EnumMake
import PyProof.StrBlockH
import PyProof.ReprStr
import PyProof.StrLawsRepr
import PyProof.FString
import PyProof.DictCompW
import PyProof.P3Eq
import PyProof.P3In
import PyProof.NeData
import PyProof.ReprHeadsTuple
import KE.KLam
import KE.KNestM
import KE.KSortKey
import KE.KSortTup
import PyProof.ReprNest
import PyProof.ReprLen
import KE.KDictOf
import PyProof.AttrMissSeq
import PyProof.WalkInts
import PySem.Challenge.RW_shoretold_k35_borders_and_joined_grounds
set_option bootstrap.genMatcherCode false
noncomputable section
set_option Elab.async false
set_option linter.all false
set_option maxRecDepth 100000
abbrev Xzl := @List.length_map
abbrev Xzm := @List.mem_filter
abbrev Xzn := @Nat.le_refl
abbrev Xzo := @List.getElem?_eq_getElem
abbrev Xzp := @List.size_toArray
abbrev Xzq := @List.mem_cons_of_mem
abbrev Xzr := @List.mem_cons_self
abbrev Xzs := @List.mem_singleton
abbrev Xzt := @Array.length_toList
abbrev Xzu := @List.map_append
abbrev Xzv := @Nat.ne_of_lt
abbrev Xzw := @List.mem_append
abbrev Xzx := @List.length_append
abbrev Xzy := @List.mem_cons
abbrev Xzz := @List.take_succ_eq_append_getElem
abbrev Xz0 := @List.mem_map
abbrev Xz1 := @Bool.false_ne_true
abbrev Xz2 := @Bool.and_eq_true
abbrev Xz3 := @Option.some.inj
abbrev Xz4 := @List.getElem?_map
abbrev Xz5 := @List.filter_append
abbrev Xz6 := @List.length_cons
abbrev Xz7 := @List.getElem?_eq_some_iff
abbrev Xz8 := @Nat.lt_of_lt_of_le
abbrev Xz9 := @List.map_cons
abbrev X0a := @List.all_eq_true
abbrev X0b := @List.getElem_mem
abbrev X0c := @List.length_take
abbrev X0d := @Nat.le_trans
abbrev X0e := @List.length_filter_le
abbrev X0f := @List.mem_append_right
abbrev X0g := @Bool.false_eq_true
abbrev X0h := @List.map_map
abbrev X0i := @List.length_eq_zero_iff
abbrev X0j := @List.length_range
abbrev X0k := @Int.eq_ofNat_of_zero_le
abbrev X0l := @List.mem_range
abbrev X0m := @Nat.zero_le
abbrev X0n := @List.take_length
abbrev X0o := @List.filter_eq_self
abbrev X0p := @List.filter_cons
abbrev X0q := @List.mem_iff_getElem
abbrev X0r := @Nat.lt_irrefl
abbrev X0s := @List.lookup_cons
abbrev X0t := @List.append_nil
abbrev X0u := @List.range_succ
abbrev X0v := @List.take_append_drop
abbrev X0w := @List.mem_append_left
abbrev X0x := @List.countP_cons
abbrev X0y := @Bool.eq_iff_iff
abbrev X0z := @List.length_singleton
abbrev X00 := @List.map_congr_left
abbrev X01 := @List.nodup_cons
abbrev X02 := @List.nodup_append
abbrev X03 := @List.any_eq_true
abbrev X04 := @Nat.lt_succ_of_lt
abbrev X05 := @Nat.le_succ
abbrev X06 := @List.Perm.refl
abbrev X07 := @Nat.not_lt_zero
abbrev X08 := @Bool.false_and
abbrev X09 := @Bool.true_and
abbrev X1a := @List.mem_singleton_self
abbrev X1b := @List.filterMap_cons
abbrev X1c := @List.replicate_succ
abbrev X1d := @List.length_nil
abbrev X1e := @Option.isSome_iff_exists
abbrev X1f := @List.length_drop
abbrev X1g := @List.getElem_map
abbrev X1h := @List.countP_eq_length_filter
abbrev X1i := @List.take_sublist
abbrev X1j := @Sum.inr.inj
abbrev X1k := @Option.map_some
abbrev X1l := @Bool.or_eq_true
abbrev X1m := @List.dropWhile_cons
abbrev X1n := @List.takeWhile_cons
abbrev X1o := @List.filter_eq_nil_iff
abbrev X1p := @List.length_eraseIdx_of_lt
abbrev X1q := @Nat.lt_trans
abbrev X1r := @List.pairwise_cons
abbrev X1s := @List.sum_cons
abbrev X1t := @List.exists_mem_of_ne_nil
abbrev X1u := @List.mem_of_mem_take
abbrev X1v := @List.mem_of_mem_drop
abbrev X1w := @List.count_append
abbrev X1x := @List.length_reverse
abbrev X1y := @List.ext_getElem
abbrev X1z := @List.perm_middle
abbrev X10 := @List.count_eq_zero
abbrev X11 := @Int.emod_lt_of_pos
abbrev X12 := @List.nil_append
abbrev X13 := @List.find?_cons
abbrev X14 := @List.getElem?_eq_none
abbrev X15 := @Nat.min_eq_left
abbrev X16 := @Int.toNat_natCast
abbrev X17 := @List.append_assoc
abbrev X18 := @List.pairwise_map
abbrev X19 := @Bool.eq_false_iff
abbrev X2a := @List.mem_of_getElem?
abbrev X2b := @List.count_cons_self
abbrev X2c := @Nat.le_of_lt
abbrev X2d := @List.getElem?_take_of_lt
abbrev X2e := @List.foldl_cons
abbrev X2f := @Nat.lt_of_le_of_lt
abbrev X2g := @List.findIdx?_eq_some_iff_getElem
abbrev X2h := @Bool.not_true
abbrev X2i := @Bool.and_self
abbrev X2j := @Array.forIn_toList
abbrev X2k := @Int.emod_nonneg
abbrev X2l := @List.filter_cons_of_pos
abbrev X2m := @List.filter_cons_of_neg
abbrev X2n := @List.take_of_length_le
abbrev X2o := @List.length_eq_one_iff
abbrev X2p := @List.flatten_cons
abbrev X2q := @List.filter_congr
abbrev X2r := @Array.getElem?_toList
abbrev X2s := @List.set_set
abbrev X2t := @Nat.zero_add
abbrev X2u := @List.getElem_inj
abbrev X2v := @List.isEmpty_nil
abbrev X2w := @List.any_cons
abbrev X2x := @List.of_mem_zip
abbrev X2y := @List.forIn_cons
abbrev X2z := @Bool.or_eq_true_iff
abbrev X20 := @List.filter_nil
abbrev X21 := @List.flatMap_append
abbrev X22 := @Array.Perm.refl
abbrev X23 := @List.mem_filterMap
abbrev X24 := @Option.isSome_some
abbrev X25 := @List.count_pos_iff
abbrev X26 := @List.map_inj_right
abbrev X27 := @List.getElem?_drop
abbrev X28 := @List.forIn_nil
abbrev X29 := @Bool.not_eq_true'
abbrev X3a := @Nat.mod_lt
abbrev X3b := @List.flatMap_cons
abbrev X3c := @Bool.or_false
abbrev X3d := @List.map_take
abbrev X3e := @List.map_drop
abbrev X3f := @List.cons.inj
abbrev X3g := @Nat.ne_of_gt
abbrev X3h := @List.map_nil
abbrev X3i := @Bool.or_true
abbrev X3j := @PySem.wpAny_bind
abbrev X3k := @PySem.wpAny_pure
abbrev X3l := @PySem.sizeLine_eq
abbrev X3m := @if_neg
abbrev X3n := @if_pos
abbrev X3o := @decide_eq_true
abbrev X3p := @decide_eq_false
abbrev X3q := @of_decide_eq_true
abbrev X3r := @of_decide_eq_false
abbrev X3s := @PySem.Heap.lt_size
abbrev X3t := @PySem.Heap.get?_push_of_some
abbrev X3u := @PySem.Heap.SameBut.update
namespace L2
open PySem PySem.Spec PyProof.Rows
abbrev Key:=Sum Int Str
def Xh3:Key->Value->Bool
 | .inl k,v=>Value.isInt k v
 | .inr x,v=>Value.isStrOf x v
def keyH (w:World):Key->Int
 | .inl k=>hashInt k
 | .inr x=>hashStr w x
theorem Xbb:∀{k:Key} {v:Value},Xh3 k v=true->(∃i t,k=Sum.inl i/\v=Value.int i t)\/(∃x t,k=Sum.inr x/\v=Value.str x t)
 | .inl i,v,h=>by
  obtain⟨t,e⟩:=Value.isInt_shape (k:=i) (v:=v) h
  exact .inl ⟨i,t,rfl,e⟩
 | .inr x,v,h=>by
  obtain⟨t,e⟩:=Value.isStrOf_shape (x:=x) (v:=v) h
  exact .inr ⟨x,t,rfl,e⟩
theorem Xn4(i:Int)(t:Tok):Xh3 (.inl i) (.int i t)=true:=by simp[Xh3,Value.isInt]
theorem Xn5(x:Str)(t:Tok):Xh3 (.inr x) (.str x t)=true:=by simp[Xh3,Value.isStrOf]
theorem Xwc(a b:Int):decide ((Sum.inl a:Key)=Sum.inl b)=(a==b):=by
 by_cases e:a=b
 ·subst e;simp
 ·have h:¬(Sum.inl a:Key)=Sum.inl b:=λq=>e (Sum.inl.inj q)
  rw[X3p h]
  exact(beq_eq_false_iff_ne.mpr e).symm
theorem Xwd(a b:Str):decide ((Sum.inr a:Key)=Sum.inr b)=decide (a=b):=by
 by_cases e:a=b
 ·subst e;simp
 ·have h:¬(Sum.inr a:Key)=Sum.inr b:=λq=>e (X1j q)
  rw[X3p h,X3p e]
theorem Xwe(a:Int)(b:Str):decide ((Sum.inl a:Key)=Sum.inr b)=false:=X3p (λq=>nomatch q)
theorem Xwf(a:Str)(b:Int):decide ((Sum.inr a:Key)=Sum.inl b)=false:=X3p (λq=>nomatch q)
def Xau (prog:Program) (w:World):PySem.KeyKind prog w Key where
 is:=Xh3
 hash:=keyH w
 inj:=λv a b ha hb=>by
  rcases Xbb ha with ⟨i,t,rfl,rfl⟩ | ⟨x,t,rfl,rfl⟩
  ·rcases Xbb hb with ⟨j,u,rfl,e⟩ | ⟨y,u,rfl,e⟩
   ·injection e with e1 _;rw[e1]
   ·exact nomatch e
  ·rcases Xbb hb with ⟨j,u,rfl,e⟩ | ⟨y,u,rfl,e⟩
   ·exact nomatch e
   ·injection e with e1 _;rw[e1]
 byValue:=λk v h=>by
  rcases Xbb h with ⟨i,t,rfl,rfl⟩ | ⟨x,t,rfl,rfl⟩<;>rfl
 pyHash:=λhv h=>by
  rcases Xbb hv with ⟨i,t,rfl,rfl⟩ | ⟨x,t,rfl,rfl⟩
  ·exact wpAny_pyHash_int h
  ·exact wpAny_pyHash_str h
 eqBool:=λhu hv h=>by
  rcases Xbb hu with ⟨i,t,rfl,rfl⟩ | ⟨x,t,rfl,rfl⟩
  ·rcases Xbb hv with ⟨j,u,rfl,rfl⟩ | ⟨y,u,rfl,rfl⟩
   ·rw[Xwc] at h;exact wpAny_eqBool_int h
   ·rw[Xwe] at h;exact SeqAt.EqAt.int_str i t y u _ _ _ _ h
  ·rcases Xbb hv with ⟨j,u,rfl,rfl⟩ | ⟨y,u,rfl,rfl⟩
   ·rw[Xwf] at h;exact SeqAt.EqAt.str_int x t j u _ _ _ _ h
   ·rw[Xwd] at h;exact wpAny_eqBool_str h
 «strs»:=λk x t v h=>by
  rcases Xbb h with ⟨i,u,rfl,e⟩ | ⟨y,u,rfl,e⟩
  ·exact nomatch e
  ·injection e with e1 _
   subst e1
   cases v<;>rfl
theorem Xko(prog:Program)(w:World)(i:Int)(t:Tok):(Xau prog w).is (.inl i) (.int i t)=true:=Xn4 i t
theorem Xkp(prog:Program)(w:World)(x:Str)(t:Tok):(Xau prog w).is (.inr x) (.str x t)=true:=Xn5 x t
inductive V where
 | non | bl (b:Bool) | int (i:Int) | str (x:Str) | byt (b:Array UInt8) | flt (b:UInt64) | ref (a:Addr) | ty (n:String)
 deriving DecidableEq
def RelV:V->Value->Prop
 | .non,u=>u=Value.none
 | .bl b,u=>u=Value.bool b
 | .int i,u=>∃t,u=Value.int i t
 | .str x,u=>∃t,u=Value.str x t
 | .byt b,u=>∃t,u=Value.bytes b t
 | .flt b,u=>∃t,u=Value.float b t
 | .ref a,u=>u=Value.ref a
 | .ty n,u=>u=Value.type n
abbrev Vals:List V->List Value->Prop:=Paired RelV
theorem Vals.length{xs:List V}{us:List Value}(r:Vals xs us):xs.length=us.length:=Paired.length r
theorem Vals.get:∀{xs:List V} {us:List Value} {i:Nat} {x:V},Vals xs us->xs[i]? = some x->∃u,us[i]? = some u/\RelV x u
 | _,_,_,_,.nil,e=>by simp at e
 | _,_,0,_,.cons r _,e=>by simp at e;subst e;exact⟨_,rfl,r⟩
 | _,_,i+1,x,.cons _ t,e=>by
  obtain⟨u,h1,h2⟩:=Vals.get (i:=i) (x:=x) t (by simpa using e)
  exact⟨u,by simpa using h1,h2⟩
theorem Vals.set{x:V}{u:Value}(r:RelV x u):∀{xs:List V} {us:List Value} (i:Nat),Vals xs us->Vals (xs.set i x) (us.set i u)
 | _,_,_,.nil=>.nil
 | _,_,0,.cons _ t=>.cons r t
 | _,_,i+1,.cons q t=>.cons q (Vals.set r i t)
theorem Vals.append:∀{xs ys:List V} {us ws:List Value},Vals xs us->Vals ys ws->Vals (xs++ys) (us++ws)
 | _,_,_,_,.nil,s=>s
 | _,_,_,_,.cons r t,s=>.cons r (Vals.append t s)
theorem Vals.take:∀{xs:List V} {us:List Value} (n:Nat),Vals xs us->Vals (xs.take n) (us.take n)
 | _,_,0,_=>.nil
 | _,_,_+1,.nil=>.nil
 | _,_,n+1,.cons r t=>.cons r (Vals.take n t)
theorem Vals.drop:∀{xs:List V} {us:List Value} (n:Nat),Vals xs us->Vals (xs.drop n) (us.drop n)
 | _,_,0,r=>r
 | _,_,_+1,.nil=>.nil
 | _,_,n+1,.cons _ t=>Vals.drop n t
def RelO:Option V->Option Value->Prop
 | some v,some u=>RelV v u
 | none,none=>True
 | _,_=>False
def KV {κ : Type}:List (κ × V)->List (κ × Value)->Prop:=Paired λ(p : κ × V) (q : κ × Value)=>p.1=q.1/\RelV p.2 q.2
def kV:Key->V
 | .inl i=>.int i
 | .inr x=>.str x
inductive HO where
 | lst (xs:List V)
 | tup (xs:List V)
 | dK (kvs:List (Key×V)) | dT (kvs:List (List Key×V))
 | set (S:Int->Bool) (n:Nat)
 | ins (C dx:Addr) (fs:List (Str×V))
 | own (x:Addr)
 | xd (fs:List (Str×V))
 | met (f x:Addr)
 | rng (lo hi:Int)
 | frz (o:Obj) (u:HO)
 | tbl (ps:Array Value)
 | ext (φ : Heap->Prop)
abbrev Hp:=Addr->Option HO
def upd (H:Hp) (a:Addr) (o:HO):Hp:=λb=>if b=a then some o else H b
theorem Xab{H:Hp}{a:Addr}{o:HO}:upd H a o a=some o:=by unfold upd;rw[X3n rfl]
theorem Xae{H:Hp}{a b:Addr}{o:HO}(h:b≠a):upd H a o b=H b:=by unfold upd;rw[X3m h]
theorem Xwg{H:Hp}{a b:Addr}{o u:HO}(h:H a=some o)(h':H b=some u)(d:o≠u):a≠b:=by
 intro e;subst e;rw[h] at h';exact d (Xz3 h')
theorem Xag{H:Hp}{a b:Addr}{o:HO}(h:H a=some o)(h':H b=none):a≠b:=by
 intro e;subst e;rw[h] at h';cases h'
section
variable (P:Program) (w:World)
def Xbh (H:Hp) (h:Heap) (a:Addr):HO->Prop
 | .lst xs=>xs.length<=sizeLine/\∃(its:List Value) (n:Nat),Vals xs its/\h.get? a=some {cls:=.type "list",data:=.seq its.toArray n}
 | .tup xs=>xs.length<=sizeLine/\∃its:List Value,Vals xs its/\IsTup h a its.toArray
 | .dK kvs=>kvs.length<=sizeLine/\(a==sysModules)=false/\∃vs,KV kvs vs/\h.DictOf (Xau P w) a vs
 | .dT kvs=>kvs.length<=sizeLine/\(a==sysModules)=false/\∃xs:List (List Key×Addr×Value),
   Paired (λ(p:List Key×V) (q:List Key×Addr×Value)=>p.1=q.1/\H q.2.1=some (.tup (p.1.map kV))/\RelV p.2 q.2.2) kvs xs /\
   ∃o es ep,h.get? a=some o/\o.ExactDict/\o.data = .dict es ep/\es.toList=xs.map (entryOfKey (tupleKind (Xau P w)))/\(xs.map (·.1)).Nodup
 | .set S n=>h.SetOf (intKind P w) a S n
 | .ins C dx fs=>H dx=some (.own a)/\fs.length<=1000/\dx≠a/\h.get? a=some (PySem.W.instObj C dx) /\
   ∃mA,h.Ns1 dx mA/\(∀f,RelO (fs.lookup f) (mA f))/\PySem.Within mA (fs.map (·.1))
 | .own _=>∃o,h.get? a=some o
 | .xd fs=>∃mA,h.Ns1 a mA/\∀f,RelO (fs.lookup f) (mA f)
 | .rng lo hi=>∃t u v,h.get? a=some {cls:=.type "range",data:=.fields #[.int lo t,.int hi u,.int 1 v]}
 | .frz o u=>h.get? a=some o/\Xbh H h a u
 | .tbl ps=>h.get? a=some {cls:=.none,data:=.fields ps}
 | .met f x=>h.get? a=some (PySem.W.methodObj (.ref f) (.ref x))
 | .ext φ => φ h/\(∃o,h.get? a=some o)/\∀h1 h2:Heap, φ h1->(∀o,h1.get? a=some o->h2.get? a=some o) -> φ h2
def HOk (H:Hp) (h:Heap):Prop:=∀a o,H a=some o->Xbh P w H h a o
end
section
variable {P:Program}{w:World}{H H':Hp}{h h':Heap}{a:Addr}{o:HO}
theorem Xbh.lt(x:Xbh P w H h a o):a<h.objs.size:=by
 cases o with
 | lst xs=>obtain⟨_,_,_,_,e⟩:=x;exact X3s e
 | tup xs=>obtain⟨_,_,_,p⟩:=x;exact p.lt
 | dK kvs=>obtain⟨_,_,_,_,o,_,_,e,_⟩:=x;exact X3s e
 | dT kvs=>obtain⟨_,_,_,_,o,_,_,e,_⟩:=x;exact X3s e
 | set S n=>obtain⟨o,_,_,_,e,_⟩:=x;exact X3s e
 | ins C dx fs=>obtain⟨_,_,_,e,_⟩:=x;exact X3s e
 | own y=>obtain⟨_,e⟩:=x;exact X3s e
 | xd fs=>obtain⟨_,⟨_,_,_,e,_⟩,_⟩:=x;exact X3s e
 | rng lo hi=>obtain⟨_,_,_,e⟩:=x;exact X3s e
 | frz ob u=>obtain⟨e,_⟩:=x;exact X3s e
 | tbl ps=>exact X3s (show h.get? a=some _ from x)
 | met f y=>exact X3s (show h.get? a=some _ from x)
 | ext φ=>obtain⟨_,⟨_,e⟩,_⟩:=x;exact X3s e
theorem Paired.mapP{α β : Type}{F G : α -> β->Prop}:∀{l₁ : List α} {l₂ : List β},Paired F l₁ l₂->(∀a b,F a b->G a b)->Paired G l₁ l₂
 | _,_,.nil,_=>.nil
 | _,_,.cons r t,f=>.cons (f _ _ r) (Paired.mapP t f)
theorem Xbh.stay(x:Xbh P w H h a o)(k:∀b u,(b=a\/H b=some (.own a))->h.get? b=some u->h'.get? b=some u)
  (ho:∀b,H b=some (.own a)->H' b=some (.own a)) (ht:∀b xs,H b=some (.tup xs)->H' b=some (.tup xs)):Xbh P w H' h' a o:=by
 induction o with
 | lst xs=>obtain⟨z,its,n,r,e⟩:=x;exact⟨z,its,n,r,k _ _ (.inl rfl) e⟩
 | tup xs=>obtain⟨z,its,r,ob,e,c⟩:=x;exact⟨z,its,r,ob,k _ _ (.inl rfl) e,c⟩
 | dK kvs=>obtain⟨z,y,vs,r,ob,es,ep,e,c⟩:=x;exact⟨z,y,vs,r,ob,es,ep,k _ _ (.inl rfl) e,c⟩
 | dT kvs=>
  obtain⟨z,y,xs,r,ob,es,ep,e,c⟩:=x
  exact⟨z,y,xs,Paired.mapP r λp q z=>⟨z.1,ht _ _ z.2.1,z.2.2⟩,ob,es,ep,k _ _ (.inl rfl) e,c⟩
 | set S n=>obtain⟨ob,es,ep,t,e,c⟩:=x;exact⟨ob,es,ep,t,k _ _ (.inl rfl) e,c⟩
 | ins C dx fs=>
  obtain⟨d,z,ne,e,mA,⟨od,es,ep,e2,c⟩,r⟩:=x
  exact⟨ho _ d,z,ne,k _ _ (.inl rfl) e,mA,⟨od,es,ep,k _ _ (.inr d) e2,c⟩,r⟩
 | own y=>obtain⟨ob,e⟩:=x;exact⟨ob,k _ _ (.inl rfl) e⟩
 | xd fs=>obtain⟨mA,⟨od,es,ep,e,c⟩,r⟩:=x;exact⟨mA,⟨od,es,ep,k _ _ (.inl rfl) e,c⟩,r⟩
 | rng lo hi=>obtain⟨t,u,v,e⟩:=x;exact⟨t,u,v,k _ _ (.inl rfl) e⟩
 | frz ob u ih=>obtain⟨e,q⟩:=x;exact⟨k _ _ (.inl rfl) e,ih q⟩
 | tbl ps=>
  have e:h.get? a=some {cls:=.none,data:=.fields ps}:=x
  show h'.get? a=some {cls:=.none,data:=.fields ps}
  exact k a _ (.inl rfl) e
 | met f y=>
  have e:h.get? a=some (PySem.W.methodObj (.ref f) (.ref y)):=x
  show h'.get? a=some (PySem.W.methodObj (.ref f) (.ref y))
  exact k a _ (.inl rfl) e
 | ext φ=>obtain⟨p,⟨o,e⟩,st⟩:=x;exact⟨st _ _ p λo q=>k _ _ (.inl rfl) q,⟨o,k _ _ (.inl rfl) e⟩,st⟩
theorem HOk.lt(x:HOk P w H h)(e:H a=some o):a<h.objs.size:=(x a o e).lt
theorem HOk.fresh(x:HOk P w H h)(e:h.objs.size<=a):H a=none:=by
 cases q:H a with
 | none=>rfl
 | some u=>exact absurd (Xz8 (x.lt q) e) (X0r _)
theorem HOk.kept(x:HOk P w H h)(k:∀b u,h.get? b=some u->h'.get? b=some u):HOk P w H h':=λa o e=>
 (x a o e).stay (λb u _ q=>k b u q) (λ_ q=>q) λ_ _ q=>q
theorem HOk.laid(x:HOk P w H h)(k:∀b u,h.get? b=some u->h'.get? b=some u)(hp:h.objs.size<=a)(new:Xbh P w (upd H a o) h' a o):HOk P w (upd H a o) h':=λb u e=>by
 have hn:=x.fresh hp
 by_cases hb:b=a
 ·subst hb;rw[Xab] at e;cases e;exact new
 ·rw[Xae hb] at e
  exact(x b u e).stay (λc v _ q=>k c v q) (λc q=>by rw[Xae (Xag q hn)];exact q) λc xs q=>by rw[Xae (Xag q hn)];exact q
end
def Rd (H:Hp) (a:Addr) (u:HO):Prop:=H a=some u \/ ∃o,H a=some (.frz o u)
theorem Rd.ok{P:Program}{w:World}{H:Hp}{h:Heap}{a:Addr}{u:HO}(r:Rd H a u)(x:HOk P w H h):Xbh P w H h a u:=by
 rcases r with r | ⟨o,r⟩
 ·exact x a u r
 ·obtain⟨_,q⟩:=x a _ r
  exact q
def Mut:Option HO->Prop
 | some (.lst _)=>True
 | some (.dK _)=>True
 | some (.dT _)=>True
 | some (.set _ _)=>True
 | some (.ins _ _ _)=>True
 | some (.ext _)=>True
 | _=>False
section
variable {P:Program}{w:World}{H:Hp}{h h':Heap}{x e:Addr}{o':HO}
theorem HOk.write(ok:HOk P w H h)(mu:Mut (H x))(he:e=x\/H e=some (.own x))(k:∀b u,b≠e->h.get? b=some u->h'.get? b=some u)(heo:∃u,h'.get? e=some u)
  (new:Xbh P w (upd H x o') h' x o'):HOk P w (upd H x o') h':=λb u q=>by
 have nown:∀c y,H c=some (.own y)->c≠x:=λc y r z=>by subst z;rw[r] at mu;exact mu
 have ntup:∀c xs,H c=some (.tup xs)->c≠x:=λc xs r z=>by subst z;rw[r] at mu;exact mu
 by_cases hb:b=x
 ·subst hb;rw[Xab] at q;cases q;exact new
 ·rw[Xae hb] at q
  by_cases hbe:b=e
  ·have q':H b=some (.own x):=by
    rcases he with z | z
    ·exact absurd (hbe.trans z) hb
    ·rw[hbe];exact z
   rw[q] at q';cases q'
   obtain⟨v,hv⟩:=heo
   exact⟨v,by rw[hbe];exact hv⟩
  ·refine(ok b u q).stay (λc v hc r=>k c v ?_ r) (λc r=>by rw[Xae (nown c b r)];exact r) λc xs r=>by rw[Xae (ntup c xs r)];exact r
   rcases hc with rfl | hc
   ·exact hbe
   ·rintro rfl
    rcases he with z | z
    ·exact nown c b hc z
    ·rw[hc] at z;cases z;exact hb rfl
end
structure Un (fs ex:List Addr) (H H':Hp) (h h':Heap):Prop where
 keep:∀b o,h.get? b=some o->H b=none->b∉fs->b∉ex->h'.get? b=some o
 slot:∀b o,h.get? b=some o->H b=none->b∈fs->b∉ex->∃sl,h'.get? b=some {o with slots:=sl}
 free:∀b o,h.get? b=some o->H b=none->b∉ex->H' b=none
 there:∀b o,h.get? b=some o->b∉ex->∃o',h'.get? b=some o'
 tups:∀b xs,H b=some (.tup xs)->H' b=some (.tup xs)
 frzs:∀b o u,H b=some (.frz o u)->H' b=some (.frz o u)
 tbls:∀b ps,H b=some (.tbl ps)->∃more,H' b=some (.tbl (ps++more))
section
variable {fs fs' ex ex':List Addr}{H H1 H2:Hp}{h h1 h2 h':Heap}{a x e:Addr}{o:HO}
theorem Un.any(u:Un fs ex H H1 h h1){b:Addr}{ob:Obj}(q:h.get? b=some ob)(n:H b=none)(hx:b∉ex):∃sl,h1.get? b=some {ob with slots:=sl}:=by
 by_cases hb:b∈fs
 ·exact u.slot b ob q n hb hx
 ·exact⟨ob.slots,u.keep b ob q n hb hx⟩
theorem Un.kept(k:∀b u,h.get? b=some u->h'.get? b=some u):Un fs ex H H h h':=
 ⟨λb ob q _ _ _=>k b ob q,λb ob q _ _ _=>⟨ob.slots,k b ob q⟩,λ_ _ _ n _=>n,λb ob q _=>⟨ob,k b ob q⟩,λ_ _ q=>q,λ_ _ _ q=>q,λ_ ps q=>⟨#[],by rw[q];simp⟩⟩
theorem Un.refl:Un fs ex H H h h:=Un.kept λ_ _ q=>q
theorem Un.laid(k:∀b u,h.get? b=some u->h'.get? b=some u)(hp:h.objs.size<=a)(hn:H a=none):Un fs ex H (upd H a o) h h' where
 keep:=λb u q _ _ _=>k b u q
 slot:=λb u q _ _ _=>⟨u.slots,k b u q⟩
 free:=λb u q n _=>by rw[Xae (Xzv (Xz8 (X3s q) hp))];exact n
 there:=λb u q _=>⟨u,k b u q⟩
 tups:=λb xs q=>by rw[Xae (Xag q hn)];exact q
 frzs:=λb u xs q=>by rw[Xae (Xag q hn)];exact q
 tbls:=λb ps q=>⟨#[],by rw[Xae (Xag q hn),q];simp⟩
theorem Un.write(mu:Mut (H x))(he:e=x\/H e=some (.own x))(k:∀b u,b≠e->h.get? b=some u->h'.get? b=some u)(heo:∃u,h'.get? e=some u):Un fs ex H (upd H x o) h h':=by
 have hx:∀b,H b=none->b≠x:=λb n z=>by subst z;rw[n] at mu;exact mu
 have hb:∀b,H b=none->b≠e:=λb n z=>by
  subst z
  rcases he with r | r
  ·exact hx b n r
  ·rw[n] at r;cases r
 have hm:∀b u,H b=some u->¬Mut (some u)->b≠x:=λb u q nm z=>by subst z;rw[q] at mu;exact nm mu
 refine⟨λb u q n _ _=>k b u (hb b n) q,λb u q n _ _=>⟨u.slots,k b u (hb b n) q⟩,λb u q n _=>by rw[Xae (hx b n)];exact n,λb u q _=>?_,
  λb xs q=>by rw[Xae (hm b _ q λz=>z)];exact q,λb u xs q=>by rw[Xae (hm b _ q λz=>z)];exact q,λb ps q=>⟨#[],by rw[Xae (hm b _ q λz=>z),q];simp⟩⟩
 by_cases hbe:b=e
 ·subst hbe;exact heo
 ·exact⟨u,k b u hbe q⟩
end
def trk (h:Heap) (H:Hp):List Addr:=(List.range h.objs.size).filter λa=>(H a).isSome
def hidT (h:Heap) (H:Hp):Heap:=PySem.W.hideAll h (trk h H)
theorem Xn6(h:Heap)(H:Hp):(hidT h H).objs.size=h.objs.size:=PySem.W.hideAll_size _ _
theorem Xrb{h:Heap}{H:Hp}{b:Addr}{o:Obj}(e:h.get? b=some o)(n:H b=none):(hidT h H).get? b=some o:=
 PySem.W.hideAll_get _ e λhm=>by
  have q:(H b).isSome=true:=(Xzm.mp hm).2
  rw[n] at q;simp at q
theorem Xt5{h:Heap}{H:Hp}{b:Addr}{o:Obj}(e:(hidT h H).get? b=some o):h.get? b=some o/\H b=none:=by
 have e':h.get? b=some o:=PySem.W.of_hideAll (trk h H) e
 refine⟨e',?_⟩
 cases q:H b with
 | none=>rfl
 | some x=>
  have hm:b∈trk h H:=Xzm.mpr ⟨X0l.mpr (X3s e'),by simp[q]⟩
  have z:(hidT h H).get? b=none:=PySem.W.hideAll_none (trk h H) hm
  rw[z] at e;cases e
def Xt6 (g h:Heap) (L:Addr):List (Addr×Obj):=(List.range h.objs.size).filterMap λa=>if a=L\/(g.get? a).isSome=true then none else (h.get? a).map λo=>(a,o)
def rest (g h:Heap) (L d:Addr):List (Addr×Obj):=(Xt6 g h L).filter λp=>decide (p.1≠d)
structure Mod (K:PySem.W.Frag) (mg:Str->Option Value) (base:Heap):Prop where
 kin:K.In base
 glob:base.Ns mainGlobals mg
 blt:∃mb,base.Ns builtinsNs mb/\∀x:Str,x ≠ "__name__" -> mb x=bootBuiltins x
 nolimit:base.NoLimit
structure Cx where
 prog:Program
 w:World
 K:PySem.W.Frag
 mg:Str->Option Value
 base:Heap
 A:Around
 N:List Str
 s₀ : Shared
 H₀ : Hp
 env:Env
 outer:List Env
 stack:List Env
 ex:List Addr
 fn:Str->Bool
 calm:Bool
 pn:List (Addr×Obj)
 xe:Value->Shared->Prop
def frs (l:List Env):List Addr:=l.filterMap (·.frame)
abbrev Cx.fs (X:Cx):List Addr:=frs X.outer
def Vis (sc:Scope) (x:Str):Prop:=sc.names.lookup x=some .local\/sc.names.lookup x=some .cell\/sc.names.lookup x=some .free
def Loc (sc:Scope) (x:Str):Prop:=sc.names.lookup x=some .local\/sc.names.lookup x=some .cell
def Look (env:Env) (h:Heap) (m:Str->Option Value) (x:Str) (u:Value):Prop:=
 (env.kindOf x=some .local/\m x=some u)\/((env.kindOf x=some .cell\/env.kindOf x=some .free)/\∃c,env.cells.lookup x=some c/\h.IsCell c (some u))
structure Cx.Ok (X:Cx):Prop where
 mod:Mod X.K X.mg X.base
 kind:X.env.scope.kind = .function
 glob:X.env.globals=mainGlobals
 blt:X.env.builtins=builtinsNs
 above:X.s₀.heap.objs.size<=X.env.locals
 inj:∀x y c,X.env.cells.lookup x=some c->X.env.cells.lookup y=some c->x=y
 has:∀x,(X.env.kindOf x=some .cell\/X.env.kindOf x=some .free)->∃c,X.env.cells.lookup x=some c
 cab:∀x c,X.fn x=true->X.env.cells.lookup x=some c->X.s₀.heap.objs.size<=c
 hd:X.calm=true->X.A.handled=none
 frames:X.A.frames=some X.stack
 stk:X.stack=X.outer\/(X.stack=X.env::X.outer/\X.env.frame=some X.env.locals)
 exf:∀b∈X.ex,b≠X.env.locals/\∀x c,X.env.cells.lookup x=some c->c≠b
 bs:∀b o,X.base.get? b=some o->X.s₀.heap.get? b=some o/\X.H₀ b=none
 bsz:X.base.objs.size<=X.s₀.heap.objs.size
 noex:∀b o,X.base.get? b=some o->b∉X.ex
 exfs:∀b∈X.ex,b∉X.fs
 funs:X.s₀.heap.FunFrames X.base X.outer
 frf:∀b∈X.fs,X.H₀ b=none
structure Inv (X:Cx) (pins:List (Addr×Obj)) (σ:List (Option V)) (H:Hp) (s:Shared):Prop where
 ok:X.Ok
 os:s.os=X.s₀.os
 bare:AllBare s.gens
 base:Un X.fs X.ex X.H₀ H X.s₀.heap s.heap
 loc:∃m,s.heap.Ns X.env.locals m/\∀(i:Nat) (x:Str) (v:V),X.N[i]? = some x -> σ[i]? = some (some v)->Vis X.env.scope x->∃u,RelV v u/\Look X.env s.heap m x u
 cell:∀x c,X.env.cells.lookup x=some c->∃v,s.heap.IsCell c v
 free:H X.env.locals=none
 freeC:∀x c,X.env.cells.lookup x=some c->H c=none
 pin:∀p∈X.pn++pins,s.heap.get? p.1=some p.2/\H p.1=none/\p.1≠X.env.locals/\p.1∉X.fs/\∀v,p.2.data ≠ .cell v
 hok:HOk X.prog X.w H s.heap
 len : σ.length=X.N.length
section
variable {X:Cx}{pins:List (Addr×Obj)}{σ:List (Option V)}{H H':Hp}{s:Shared}{h':Heap}
theorem Cx.Ok.nofr(ok:X.Ok){b:Addr}{o:Obj}(e:X.base.get? b=some o):b∉X.fs:=λhb=>by
 have:=(ok.funs.mem hb).1
 rw[e] at this;cases this
theorem Inv.bs(I:Inv X pins σ H s):∀b o,X.base.get? b=some o->s.heap.get? b=some o/\H b=none:=λb o e=>
 ⟨I.base.keep b o (I.ok.bs b o e).1 (I.ok.bs b o e).2 (I.ok.nofr e) (I.ok.noex b o e),I.base.free b o (I.ok.bs b o e).1 (I.ok.bs b o e).2 (I.ok.noex b o e)⟩
theorem Inv.bk(I:Inv X pins σ H s):∀b o,X.base.get? b=some o->s.heap.get? b=some o:=λb o e=>(I.bs b o e).1
theorem Inv.mod(I:Inv X pins σ H s):Mod X.K X.mg X.base:=I.ok.mod
theorem Inv.kIn(I:Inv X pins σ H s):X.K.In s.heap:=I.ok.mod.kin.keeps I.bk
theorem Inv.lt(I:Inv X pins σ H s):X.env.locals<s.heap.objs.size:=let ⟨_,hn,_⟩:=I.loc;hn.lt
theorem Inv.sz(I:Inv X pins σ H s):X.s₀.heap.objs.size<=s.heap.objs.size:=X0d I.ok.above (X2c I.lt)
theorem Inv.nofs(I:Inv X pins σ H s){a:Addr}(h:s.heap.objs.size<=a):a∉X.fs:=λhb=>by
 obtain⟨_,o,ho,_⟩:=I.ok.funs.mem hb
 exact absurd (Xz8 (X3s ho) (X0d I.sz h)) (X0r _)
theorem Inv.cne(I:Inv X pins σ H s):∀x c,X.env.cells.lookup x=some c->c≠X.env.locals:=λx c e z=>by
 obtain⟨v,o,ho,hd⟩:=I.cell x c e
 obtain⟨m,⟨o',es,ep,ho',hd',_⟩,_⟩:=I.loc
 rw[z,ho'] at ho;cases ho;rw[hd'] at hd;cases hd
theorem Inv.funs(I:Inv X pins σ H s):s.heap.FunFrames X.base X.outer:=by
 have all:∀(l:List Env),(∀b∈frs l,b∈X.fs)->X.s₀.heap.FunFrames X.base l->s.heap.FunFrames X.base l:=by
  intro l
  induction l with
  | nil=>intro _ _;trivial
  | cons env r ih=>
   intro hs hl
   obtain⟨hk,⟨L,o,hf,hn,ho,hd⟩,hr⟩:=hl
   have hL:L∈X.fs:=hs L (by unfold frs;rw[X1b,hf];exact Xzr)
   obtain⟨sl,e⟩:=I.base.slot L o ho (I.ok.frf L hL) hL λz=>I.ok.exfs L z hL
   exact⟨hk,⟨L,_,hf,hn,e,hd⟩,ih (λb hb=>hs b (by unfold frs;rw[X1b,hf];exact Xzq _ hb)) hr⟩
 exact all X.outer (λ_ hb=>hb) I.ok.funs
theorem Inv.stack(I:Inv X pins σ H s):s.heap.FunFrames X.base X.stack:=by
 rcases I.ok.stk with e | ⟨e,hf⟩
 ·rw[e];exact I.funs
 ·rw[e]
  obtain⟨m,hn,_⟩:=I.loc
  refine .cons (by rw[I.ok.kind];decide) hf hn ?_ I.funs
  exact Heap.get?_none_of_le (X0d I.ok.bsz I.ok.above)
theorem Inv.stkSub(I:Inv X pins σ H s):∀b∈frs X.stack,b∈X.env.locals::X.fs:=λb hb=>by
 rcases I.ok.stk with e | ⟨e,hf⟩
 ·rw[e] at hb;exact Xzq _ hb
 ·rw[e] at hb
  unfold frs at hb
  rw[X1b,hf] at hb
  exact hb
theorem Inv.stkFree(I:Inv X pins σ H s):∀b∈frs X.stack,H b=none:=λb hb=>by
 rcases Xzy.mp (I.stkSub b hb) with e | hb
 ·rw[e];exact I.free
 ·obtain⟨_,o,ho,_⟩:=I.ok.funs.mem hb
  exact I.base.free b o ho (I.ok.frf b hb) λz=>I.ok.exfs b z hb
theorem Inv.step{g':Array GenState}{t':Nat}{d':Drawn}{ch:List Addr}(I:Inv X pins σ H s)
  (hch:∀b∈ch,(b∈X.ex\/X.s₀.heap.objs.size<=b)/\b≠X.env.locals/\(∀x c,X.env.cells.lookup x=some c->c≠b)/\∀p∈X.pn++pins,p.1≠b)
  (keep:∀b o,b≠X.env.locals->b∉X.fs->b∉ch->s.heap.get? b=some o->H b=none->h'.get? b=some o)
  (slot:∀b o,b≠X.env.locals->b∈X.fs->b∉ch->s.heap.get? b=some o->H b=none->∃sl,h'.get? b=some {o with slots:=sl}) (free:∀b o,b∉ch->s.heap.get? b=some o->H b=none->H' b=none)
  (there:∀b o,b∉ch->s.heap.get? b=some o->∃o',h'.get? b=some o')
  (tups:∀b xs,H b=some (.tup xs)->H' b=some (.tup xs)) (frzs:∀b o u,H b=some (.frz o u)->H' b=some (.frz o u)) (tbls:∀b ps,H b=some (.tbl ps)->∃more,H' b=some (.tbl (ps++more)))
  (ns:∀m,s.heap.Ns X.env.locals m->h'.Ns X.env.locals m) (hok:HOk X.prog X.w H' h') (hg:AllBare g'):
  Inv X pins σ H' {s with heap:=h',gens:=g',drawn:=d',toks:=t'}:=by
 have neL:∀b o,X.s₀.heap.get? b=some o->b≠X.env.locals:=λb o e=>Xzv (Xz8 (X3s e) I.ok.above)
 have neC:∀b o,X.s₀.heap.get? b=some o->b∉X.ex->b∉ch:=λb o e hx hb=>by
  rcases (hch b hb).1 with z | z
  ·exact hx z
  ·exact absurd (Xz8 (X3s e) z) (X0r _)
 have cellK:∀x c,X.env.cells.lookup x=some c->∀v,s.heap.IsCell c v->h'.IsCell c v:=λx c e v ⟨o,ho,hd⟩=>by
  have nch:c∉ch:=λz=>(hch c z).2.2.1 x c e rfl
  by_cases hc:c∈X.fs
  ·obtain⟨sl,q⟩:=slot c o (I.cne x c e) hc nch ho (I.freeC x c e)
   exact⟨_,q,hd⟩
  ·exact⟨o,keep c o (I.cne x c e) hc nch ho (I.freeC x c e),hd⟩
 refine⟨I.ok,I.os,hg,⟨λb o e n hb hx=>?_,λb o e n hb hx=>?_,λb o e n hx=>?_,λb o e hx=>?_,λb xs e=>tups b xs (I.base.tups b xs e),λb o xs e=>frzs b o xs (I.base.frzs b o xs e),λb ps e=>?_⟩,?_,λx c e=>?_,?_,λx c e=>?_,λp hp=>?_,hok,I.len⟩
 ·exact keep b o (neL b o e) hb (neC b o e hx) (I.base.keep b o e n hb hx) (I.base.free b o e n hx)
 ·obtain⟨sl,e1⟩:=I.base.slot b o e n hb hx
  obtain⟨sl',e2⟩:=slot b _ (neL b o e) hb (neC b o e hx) e1 (I.base.free b o e n hx)
  exact⟨sl',e2⟩
 ·obtain⟨o',e1⟩:=I.base.there b o e hx
  exact free b o' (neC b o e hx) e1 (I.base.free b o e n hx)
 ·obtain⟨o',e1⟩:=I.base.there b o e hx
  exact there b o' (neC b o e hx) e1
 ·obtain⟨m1,e1⟩:=I.base.tbls b ps e
  obtain⟨m2,e2⟩:=tbls b _ e1
  exact⟨m1++m2,by rw[e2,Array.append_assoc]⟩
 ·obtain⟨m,hn,hl⟩:=I.loc
  refine⟨m,ns m hn,λi x v e1 e2 e3=>?_⟩
  obtain⟨u,r,l⟩:=hl i x v e1 e2 e3
  refine⟨u,r,?_⟩
  rcases l with l | ⟨k,c,e,z⟩
  ·exact .inl l
  ·exact .inr ⟨k,c,e,cellK x c e _ z⟩
 ·obtain⟨v,z⟩:=I.cell x c e
  exact⟨v,cellK x c e v z⟩
 ·obtain⟨m,⟨o,_,_,ho,_⟩,_⟩:=I.loc
  exact free _ o (λz=>(hch _ z).2.1 rfl) ho I.free
 ·obtain⟨v,o,ho,hd⟩:=I.cell x c e
  exact free c o (λz=>(hch c z).2.2.1 x c e rfl) ho (I.freeC x c e)
 ·obtain⟨e,n,ne,nf,d⟩:=I.pin p hp
  have nch:p.1∉ch:=λz=>(hch p.1 z).2.2.2 p hp rfl
  exact⟨keep p.1 p.2 ne nf nch e n,free p.1 p.2 nch e n,ne,nf,d⟩
theorem Inv.un{t':Nat}(I:Inv X pins σ H s)(u:Un X.fs [] H H' s.heap h')(hok:HOk X.prog X.w H' h'):Inv X pins σ H' {s with heap:=h',toks:=t'}:=by
 obtain⟨m,⟨o,es,ep,ho,r⟩,_⟩:=id I.loc
 obtain⟨sl,hL⟩:=u.any ho I.free (by simp)
 exact I.step (g':=s.gens) (d':=s.drawn) (ch:=[]) (λ_ z=>nomatch z) (λb o _ hb _ e n=>u.keep b o e n hb (by simp)) (λb o _ hb _ e n=>u.slot b o e n hb (by simp)) (λb o _ e n=>u.free b o e n (by simp)) (λb o _ e=>u.there b o e (by simp)) u.tups u.frzs u.tbls (λm' hm=>by
  obtain⟨o',es',ep',ho',r'⟩:=hm
  rw[ho] at ho';cases ho'
  exact⟨_,es',ep',hL,r'⟩) hok I.bare
theorem Inv.call{g':Array GenState}{t':Nat}{d':Drawn}{ch:List Addr}(I:Inv X pins σ H s)(u:Un (frs X.stack) ch H H' s.heap h')(hok:HOk X.prog X.w H' h')(hg:AllBare g')
  (hch:∀b∈ch,(b∈X.ex\/X.s₀.heap.objs.size<=b)/\b≠X.env.locals/\(∀x c,X.env.cells.lookup x=some c->c≠b)/\∀p∈X.pn++pins,p.1≠b):
  Inv X pins σ H' {s with heap:=h',gens:=g',drawn:=d',toks:=t'}:=by
 obtain⟨m,⟨o,es,ep,ho,r⟩,_⟩:=id I.loc
 obtain⟨sl,hL⟩:=u.any ho I.free λz=>(hch _ z).2.1 rfl
 exact I.step (ch:=ch) hch (λb o hL hb hc e n=>u.keep b o e n (λz=>(Xzy.mp (I.stkSub b z)).elim hL hb) hc) (λb o _ _ hc e n=>u.any e n hc) (λb o hc e n=>u.free b o e n hc) (λb o hc e=>u.there b o e hc) u.tups u.frzs u.tbls (λm' hm=>by
  obtain⟨o',es',ep',ho',r'⟩:=hm
  rw[ho] at ho';cases ho'
  exact⟨_,es',ep',hL,r'⟩) hok hg
theorem Inv.turned{t':Nat}{it:Addr}(I:Inv X pins σ H s)(k:∀b o,b≠it->s.heap.get? b=some o->h'.get? b=some o)(hn:H it=none)(hL:it≠X.env.locals)
  (h1:it∈X.ex\/X.s₀.heap.objs.size<=it) (h2:∀x c,X.env.cells.lookup x=some c->c≠it) (h3:∀p∈X.pn++pins,p.1≠it):Inv X pins σ H {s with heap:=h',toks:=t'}:=by
 have nit:∀b u,H b=some u->b≠it:=λb u e z=>by rw[z,hn] at e;cases e
 refine I.step (g':=s.gens) (d':=s.drawn) (ch:=[it]) (λb hb=>?_) (λb o _ _ hc e _=>k b o (λz=>hc (by simp[z])) e) (λb o _ _ hc e _=>⟨o.slots,k b o (λz=>hc (by simp[z])) e⟩) (λ_ _ _ _ n=>n)
  (λb o hc e=>⟨o,k b o (λz=>hc (by simp[z])) e⟩) (λ_ _ e=>e) (λ_ _ _ e=>e) (λb ps e=>⟨#[],by rw[e];simp⟩) (λm hm=>?_) (λb u e=>?_) I.bare
 ·have e:b=it:=by simpa using hb
  subst e
  exact⟨h1,hL,h2,h3⟩
 ·obtain⟨o,es,ep,ho,r⟩:=hm
  exact⟨o,es,ep,k _ o (Ne.symm hL) ho,r⟩
 ·refine(I.hok b u e).stay (λc v hc q=>k c v ?_ q) (λ_ q=>q) λ_ _ q=>q
  rcases hc with z | z
  ·rw[z];exact nit b u e
  ·exact nit c _ z
theorem Inv.tok(I:Inv X pins σ H s)(t:Nat):Inv X pins σ H {s with toks:=t}:=I.un (h':=s.heap) (t':=t) Un.refl I.hok
theorem Inv.kept{t':Nat}(I:Inv X pins σ H s)(k:∀b u,s.heap.get? b=some u->h'.get? b=some u):Inv X pins σ H {s with heap:=h',toks:=t'}:=I.un (Un.kept k) (I.hok.kept k)
theorem Inv.laid{a:Addr}{o:HO}{t':Nat}(I:Inv X pins σ H s)(k:∀b u,s.heap.get? b=some u->h'.get? b=some u)(hp:s.heap.objs.size<=a)(new:Xbh X.prog X.w (upd H a o) h' a o):
  Inv X pins σ (upd H a o) {s with heap:=h',toks:=t'}:=I.un (Un.laid k hp (I.hok.fresh hp)) (I.hok.laid k hp new)
theorem Inv.write{x e:Addr}{o:HO}{t':Nat}(I:Inv X pins σ H s)(mu:Mut (H x))(he:e=x\/H e=some (.own x))(k:∀b u,b≠e->s.heap.get? b=some u->h'.get? b=some u)(heo:∃u,h'.get? e=some u)
  (new:Xbh X.prog X.w (upd H x o) h' x o):Inv X pins σ (upd H x o) {s with heap:=h',toks:=t'}:=I.un (Un.write mu he k heo) (I.hok.write mu he k heo new)
theorem Inv.pins_of{pins':List (Addr×Obj)}(I:Inv X pins σ H s)(h:∀p∈pins',s.heap.get? p.1=some p.2/\H p.1=none/\p.1≠X.env.locals/\p.1∉X.fs/\∀v,p.2.data ≠ .cell v):Inv X pins' σ H s:=
 ⟨I.ok,I.os,I.bare,I.base,I.loc,I.cell,I.free,I.freeC,λp hp=>(Xzw.mp hp).elim (λz=>I.pin p (X0w _ z)) (h p),I.hok,I.len⟩
theorem Xlw{N:List Str}(hN:N.Nodup){i j:Nat}{x:Str}(a:N[i]? = some x)(b:N[j]? = some x):i=j:=by
 obtain⟨h1,e1⟩:=Xz7.mp a
 obtain⟨h2,e2⟩:=Xz7.mp b
 exact(X2u hN).mp (e1.trans e2.symm)
theorem Xix{M:Model}{A:Around}{E:Value->Shared->Prop}{i:Nat}{x:Str}{v:V}{u:Value}{Q:Unit->Shared->Prop}(I:Inv X pins σ H s)(hN:X.N.Nodup)(hi:X.N[i]? = some x)(hx:Loc X.env.scope x)(r:RelV v u)
  (h:∀s',Inv X pins (σ.set i (some v)) H s'->(∃a,Heap.SameBut a s.heap s'.heap/\(a=X.env.locals\/X.env.cells.lookup x=some a))->Q () s') (hf:X.fn x=true\/X.env.scope.names.lookup x=some .local:=by first | exact .inl rfl | exact .inr rfl | assumption):wpAny M A (storeName X.env x u) Q E s:=by
 obtain⟨m,hn,hl⟩:=id I.loc
 have hcls:(X.env.scope.kind == .class||(X.env.scope.kind == .module&&X.env.locals != X.env.globals))=false:=by rw[I.ok.kind];rfl
 have hiσ:i < σ.length:=by rw[I.len];exact(Xz7.mp hi).1
 have cne:=I.cne
 have tracked:∀{a:Addr} {h':Heap},(∃o,s.heap.get? a=some o/\H a=none)->Heap.SameBut a s.heap h'->HOk X.prog X.w H h':=λ{a h'} ha hs b ob e=>by
  obtain⟨_,_,hfree⟩:=ha
  refine(I.hok b ob e).stay (λc w' hc q=>(hs.2 c ?_).trans q) (λ_ q=>q) λ_ _ q=>q
  rintro rfl
  rcases hc with rfl | hc
  ·rw[hfree] at e;cases e
  ·rw[hfree] at hc;cases hc
 rcases hx with hk | hk
 ·refine wpAny_storeName_local hk hn (λh' hn' hs=>?_) hcls
  obtain⟨oL,_,_,hoL,_⟩:=id hn
  refine h _ ⟨I.ok,I.os,I.bare,⟨λb o e n hb hx=>?_,λb o e n hb hx=>?_,I.base.free,λb o e hx=>?_,I.base.tups,I.base.frzs,I.base.tbls⟩,⟨_,hn',λj y v' e1 e2 e3=>?_⟩,λy c e=>?_,I.free,I.freeC,λp hp=>?_,tracked ⟨oL,hoL,I.free⟩ hs,by simpa using I.len⟩ ⟨_,hs,.inl rfl⟩
  ·exact(hs.2 b (Xzv (Xz8 (X3s e) I.ok.above))).trans (I.base.keep b o e n hb hx)
  ·obtain⟨sl,e1⟩:=I.base.slot b o e n hb hx
   exact⟨sl,(hs.2 b (Xzv (Xz8 (X3s e) I.ok.above))).trans e1⟩
  ·obtain⟨o',e1⟩:=I.base.there b o e hx
   exact⟨o',(hs.2 b (Xzv (Xz8 (X3s e) I.ok.above))).trans e1⟩
  ·by_cases hj:j=i
   ·subst hj
    rw[hi] at e1;cases e1
    rw[List.getElem?_set_self hiσ] at e2
    cases e2
    exact⟨u,r,.inl ⟨hk,by simp⟩⟩
   ·rw[List.getElem?_set_ne (Ne.symm hj)] at e2
    obtain⟨u',r',q⟩:=hl j y v' e1 e2 e3
    refine⟨u',r',?_⟩
    rcases q with ⟨k,e⟩ | ⟨k,c,e,z⟩
    ·refine .inl ⟨k,?_⟩
     have:y≠x:=λe=>hj (Xlw hN e1 (e ▸ hi))
     simp[this,e]
    ·exact .inr ⟨k,c,e,z.sameBut hs (cne y c e)⟩
  ·obtain⟨w',z⟩:=I.cell y c e
   exact⟨w',z.sameBut hs (cne y c e)⟩
  ·obtain⟨e,n,ne,nf,d⟩:=I.pin p hp
   exact⟨(hs.2 p.1 ne).trans e,n,ne,nf,d⟩
 ·have hfn:X.fn x=true:=by
   rcases hf with z | z
   ·exact z
   ·rw[z] at hk;cases hk
  obtain⟨c,hc⟩:=I.ok.has x (.inl hk)
  obtain⟨w',z⟩:=I.cell x c hc
  refine wpAny_storeName_cell I.ok.kind hk hc z (λh' hc' hs=>?_)
  obtain⟨oc,hoc,hocd⟩:=id z
  refine h {s with heap:=h'} ⟨I.ok,I.os,I.bare,⟨λb o e n hb hx=>?_,λb o e n hb hx=>?_,I.base.free,λb o e hx=>?_,I.base.tups,I.base.frzs,I.base.tbls⟩,⟨m,hn.sameBut hs (Ne.symm (cne x c hc)),λj y v' e1 e2 e3=>?_⟩,λy c' e=>?_,I.free,I.freeC,λp hp=>?_,tracked ⟨oc,hoc,I.freeC x c hc⟩ hs,by simpa using I.len⟩ ⟨c,hs,.inr hc⟩
  ·exact(hs.2 b (Xzv (Xz8 (X3s e) (I.ok.cab x c hfn hc)))).trans (I.base.keep b o e n hb hx)
  ·obtain⟨sl,e1⟩:=I.base.slot b o e n hb hx
   exact⟨sl,(hs.2 b (Xzv (Xz8 (X3s e) (I.ok.cab x c hfn hc)))).trans e1⟩
  ·obtain⟨o',e1⟩:=I.base.there b o e hx
   exact⟨o',(hs.2 b (Xzv (Xz8 (X3s e) (I.ok.cab x c hfn hc)))).trans e1⟩
  ·by_cases hj:j=i
   ·subst hj
    rw[hi] at e1;cases e1
    rw[List.getElem?_set_self hiσ] at e2
    cases e2
    exact⟨u,r,.inr ⟨.inl hk,c,hc,hc'⟩⟩
   ·rw[List.getElem?_set_ne (Ne.symm hj)] at e2
    obtain⟨u',r',q⟩:=hl j y v' e1 e2 e3
    refine⟨u',r',?_⟩
    rcases q with q | ⟨k,c',e,z'⟩
    ·exact .inl q
    ·refine .inr ⟨k,c',e,z'.sameBut hs ?_⟩
     rintro rfl
     exact hj (Xlw hN e1 (I.ok.inj _ _ _ e hc ▸ hi))
  ·by_cases hcc:c'=c
   ·subst hcc;exact⟨_,hc'⟩
   ·obtain⟨w2,z2⟩:=I.cell y c' e
    exact⟨w2,z2.sameBut hs hcc⟩
  ·obtain⟨e,n,ne,nf,d⟩:=I.pin p hp
   refine⟨(hs.2 p.1 ?_).trans e,n,ne,nf,d⟩
   intro q
   rw[q,hoc] at e
   have q':oc=p.2:=Xz3 e
   exact d w' (by rw[<-q'];exact hocd)
theorem Xlx{M:Model}{A:Around}{E:Value->Shared->Prop}{i:Nat}{x:Str}{v:V}{u:Value}{Q:Unit->Shared->Prop}(I:Inv X pins σ H s)(hN:X.N.Nodup)(hi:X.N[i]? = some x)(hx:Loc X.env.scope x)(r:RelV v u)
  (h:∀s',Inv X pins (σ.set i (some v)) H s'->Q () s') (hf:X.fn x=true\/X.env.scope.names.lookup x=some .local:=by first | exact .inl rfl | exact .inr rfl | assumption):wpAny M A (storeName X.env x u) Q E s:=
 Xix I hN hi hx r (λs' I' _=>h s' I') hf
theorem Inv.call'{s':Shared}{ch:List Addr}(I:Inv X pins σ H s)(ho:s'.os=s.os)(u:Un (frs X.stack) ch H H' s.heap s'.heap)(hok:HOk X.prog X.w H' s'.heap)(hg:AllBare s'.gens)
  (hch:∀b∈ch,(b∈X.ex\/X.s₀.heap.objs.size<=b)/\b≠X.env.locals/\(∀x c,X.env.cells.lookup x=some c->c≠b)/\∀p∈X.pn++pins,p.1≠b):Inv X pins σ H' s':=by
 obtain⟨h',g',d',t',o'⟩:=s'
 have e:o'=s.os:=ho
 subst e
 exact I.call (g':=g') (t':=t') (d':=d') u hok hg hch
end
abbrev XK:=Value->Option Addr->Hp->Prop
abbrev St:=List (Option V)
abbrev VK:=V->Hp->Prop
abbrev TE:=St->Hp->VK->Prop
abbrev TT:=St->Hp->(Bool->Hp->Prop)->Prop
abbrev TA:=St->Hp->(List V->Hp->Prop)->Prop
structure Ends where
 nx:St->Hp->Prop
 rt:VK
 bk:St->Hp->Prop:=λ_ _=>False
 ct:St->Hp->Prop:=λ_ _=>False
abbrev TS:=Ends->St->Hp->Prop
def EP (X:Cx) (pins:List (Addr×Obj)) (σ:St) (Q:VK) (u:Value) (s':Shared):Prop:=∃v H',Inv X pins σ H' s'/\RelV v u/\Q v H'
def TP (X:Cx) (pins:List (Addr×Obj)) (σ:St) (Q:Bool->Hp->Prop) (b:Bool) (s':Shared):Prop:=∃H',Inv X pins σ H' s'/\Q b H'
def AP (X:Cx) (pins:List (Addr×Obj)) (σ:St) (Q:List V->Hp->Prop) (us:List Value) (s':Shared):Prop:=∃vs H',Inv X pins σ H' s'/\Vals vs us/\Q vs H'
def SP (X:Cx) (pins:List (Addr×Obj)) (D:Ends) (f:Flow) (s':Shared):Prop:=
 match f with
 | .next=>∃σ' H',Inv X pins σ' H' s'/\D.nx σ' H'
 | .brk=>∃σ' H',Inv X pins σ' H' s'/\D.bk σ' H'
 | .cont=>∃σ' H',Inv X pins σ' H' s'/\D.ct σ' H'
 | .ret u=>∃v σ' H',Inv X pins σ' H' s'/\RelV v u/\D.rt v H'
def PE (X:Cx) (e:Expr) (t:TE):Prop:=
 ∀(pins:List (Addr×Obj)) (s:Shared) (σ:St) (H:Hp) (Q:VK),Inv X pins σ H s->t σ H Q->wpAny (model X.prog X.w) X.A (eval e X.env) (EP X pins σ Q) X.xe s
def PT (X:Cx) (e:Expr) (t:TT):Prop:=
 ∀(pins:List (Addr×Obj)) (s:Shared) (σ:St) (H:Hp) (Q:Bool->Hp->Prop),Inv X pins σ H s->t σ H Q->wpAny (model X.prog X.w) X.A (isTrue e X.env (eval e X.env)) (TP X pins σ Q) X.xe s
def PW (X:Cx) (e:Expr) (t:TT):Prop:=
 ∀(whole:Sem Value) (pins:List (Addr×Obj)) (s:Shared) (σ:St) (H:Hp) (Q:Bool->Hp->Prop),Inv X pins σ H s->t σ H Q->wpAny (model X.prog X.w) X.A (isTrue e X.env whole) (TP X pins σ Q) X.xe s
theorem PW.pt{X:Cx}{e:Expr}{t:TT}(h:PW X e t):PT X e t:=h _
def PA (X:Cx) (es:List Expr) (t:TA):Prop:=
 ∀(pos:Pos) (pins:List (Addr×Obj)) (s:Shared) (σ:St) (H:Hp) (Q:List V->Hp->Prop),Inv X pins σ H s->t σ H Q->wpAny (model X.prog X.w) X.A (spliced (backTo pos (starEach es X.env))) (AP X pins σ Q) X.xe s
def PS (X:Cx) (st:Stmt) (t:TS):Prop:=
 ∀(pins:List (Addr×Obj)) (s:Shared) (σ:St) (H:Hp) (D:Ends),Inv X pins σ H s->t D σ H->wpAny (model X.prog X.w) X.A (exec st X.env) (SP X pins D) X.xe s
def PSs (X:Cx) (st:List Stmt) (t:TS):Prop:=
 ∀(pins:List (Addr×Obj)) (s:Shared) (σ:St) (H:Hp) (D:Ends),Inv X pins σ H s->t D σ H->wpAny (model X.prog X.w) X.A (execs st X.env) (SP X pins D) X.xe s
theorem thn{α : Type}{t:Sem α}{Q Q' : α->Shared->Prop}{M:Model}{A:Around}{E:Value->Shared->Prop}{s:Shared}(h:wpAny M A t Q E s)(hQ:∀a s,Q a s->Q' a s):wpAny M A t Q' E s:=wpAny_mono h hQ λ_ _ x=>x
section
variable {X:Cx}
def tVar (i:Nat):TE:=fun σ H Q=>∃v, σ[i]? = some (some v)/\Q v H
def tC (v:V):TE:=λ_ H Q=>Q v H
theorem Xwh{i:Nat}{x:Str}{pos:Pos}(hN:X.N[i]? = some x)(hv:Vis X.env.scope x)(hd:(x==("__debug__" : Str))=false:=by decide)(hcd:(x==("__classdict__" : Str))=false:=by decide):PE X (.Name x pos) (tVar i):=by
 intro pins s σ H Q I h
 obtain⟨v,e,h⟩:=h
 obtain⟨m,hn,hl⟩:=I.loc
 obtain⟨u,r,l⟩:=hl i x v hN e hv
 have fin:EP X pins σ Q u s:=⟨v,H,I,r,h⟩
 rcases l with ⟨hk,hm⟩ | ⟨hk,c,hc,hcell⟩
 ·exact wpAny_Name (wpAny_loadName_local I.ok.kind hk hn hm fin) hd
 ·rcases hk with hk | hk
  ·exact wpAny_Name (wpAny_loadName_cell I.ok.kind hk hc hcell fin) hd
  ·exact wpAny_Name (wpAny_loadName_free I.ok.kind hk hc hcell fin hcd) hd
theorem Xai{i j pos}:PE X (.Constant (.int i) j pos) (tC (.int i)):=λ_ _ _ H _ I h=>wpAny_Constant_int ⟨.int i,H,I.tok _,⟨_,rfl⟩,h⟩
theorem Xgi{b j pos}:PE X (.Constant (.bool b) j pos) (tC (.bl b)):=λ_ _ _ H _ I h=>Constant_bool ⟨.bl b,H,I,rfl,h⟩
theorem Xte{j pos}:PE X (.Constant .none j pos) (tC .non):=λ_ _ _ H _ I h=>Constant_none ⟨.non,H,I,rfl,h⟩
theorem Xaw{x j pos}:PE X (.Constant (.str x) j pos) (tC (.str x)):=λ_ _ _ H _ I h=>Calls.Constant_str ⟨.str x,H,I.tok _,⟨_,rfl⟩,h⟩
def Gl (X:Cx) (x:Str):Prop:=X.env.kindOf x=some .globalImplicit
theorem Xh4{E:Value->Shared->Prop}{pins:List (Addr×Obj)}{s:Shared}{σ:St}{H:Hp}{x:Str}{u:Value}{pos:Pos}{Q:Value->Shared->Prop}(I:Inv X pins σ H s)(hg:Gl X x)(hm:X.mg x=some u)(h:Q u s)
  (hd:(x==("__debug__" : Str))=false:=by decide):wpAny (model X.prog X.w) X.A (eval (.Name x pos) X.env) Q E s:=
 Calls.Name_function_global I.ok.kind hg (Calls.loadGlobal_global (by rw[I.ok.glob];exact I.mod.glob.keeps I.bk) hm h) hd
theorem Xhq{E:Value->Shared->Prop}{pins:List (Addr×Obj)}{s:Shared}{σ:St}{H:Hp}{x:Str}{u:Value}{pos:Pos}{Q:Value->Shared->Prop}(I:Inv X pins σ H s)(hg:Gl X x)(hm:X.mg x=none)(hv:bootBuiltins x=some u)(h:Q u s)
  (hn:x ≠ "__name__" := by decide) (hd:(x==("__debug__" : Str))=false:=by decide):wpAny (model X.prog X.w) X.A (eval (.Name x pos) X.env) Q E s:=by
 obtain⟨mb,h1,h2⟩:=I.mod.blt
 exact Calls.Name_function_global I.ok.kind hg (Calls.loadGlobal_builtin (by rw[I.ok.glob];exact I.mod.glob.keeps I.bk) hm (by rw[I.ok.blt];exact h1.keeps I.bk) ((h2 x hn).trans hv) h) hd
theorem Xgj{x:Str}{v:V}{u:Value}{pos:Pos}(hg:Gl X x)(hm:X.mg x=none)(hv:bootBuiltins x=some u)(r:RelV v u)(hn:x ≠ "__name__" := by decide)(hd:(x==("__debug__" : Str))=false:=by decide):PE X (.Name x pos) (tC v):=
 λ_ _ _ H _ I h=>Xhq I hg hm hv ⟨v,H,I,r,h⟩ hn hd
def t2I (ta tb:TE) (k:Int->Int->Hp->Prop):St->Hp->Prop:=fun σ H=>ta σ H λx H1=>tb σ H1 λy H2=>∃i j,x = .int i/\y = .int j/\k i j H2
def tMul (ta tb:TE):TE:=fun σ H Q=>t2I ta tb (λi j H2=>(-(2 ^ 64)<i/\i<2 ^ 64)/\Q (.int (i * j)) H2) σ H
variable {a b:Expr}{ta tb:TE}{pos:Pos}
def tIsN (ta:TE):TE:=fun σ H Q=>ta σ H λx H1=>Q (.bl (decide (x = .non))) H1
def tB (t:TE):TT:=fun σ H Q=>t σ H λx H1=>∃c,x = .bl c/\Q c H1
theorem Xc1{e:Expr}{t:TE}(h:PE X e t)(he:∀whole,isTrue e X.env whole=(do let v <-whole;standAt e.pos;holding [v] (truthy v)):=by intro _;rfl):PT X e (tB t):=by
 intro pins s σ H Q I hw
 refine isTrue_plain (thn (h pins s σ H _ I hw) λv s1 ⟨x,H1,I1,r1,q1⟩=>?_) (he _)
 obtain⟨d,rfl,q⟩:=q1
 cases r1
 exact wpAny_truthy_bool ⟨H1,I1,q⟩
variable {tA tB':TT}{rest:List Expr}
def tAnd (t u:TT):TT:=fun σ H Q=>t σ H λc H1=>if c=true then u σ H1 Q else Q false H1
def tOr (t u:TT):TT:=fun σ H Q=>t σ H λc H1=>if c=true then Q true H1 else u σ H1 Q
def tNot (t:TT):TT:=fun σ H Q=>t σ H λc H1=>Q (!c) H1
theorem Xea(ha:PT X a tA):PW X (.BoolOp .And [a] pos) tA:=by
 intro wh pins s σ H Q I h
 refine isTrue_and (thn (ha pins s σ H Q I h) λc s1 e=>?_)
 cases c with
 | true=>exact isTrue_and_nil e
 | false=>exact e
theorem Xgk(ha:PT X a tA):PW X (.BoolOp .Or [a] pos) tA:=by
 intro wh pins s σ H Q I h
 refine isTrue_or (thn (ha pins s σ H Q I h) λc s1 e=>?_)
 cases c with
 | false=>exact isTrue_or_nil e
 | true=>exact e
theorem Xgl(ha:PT X a tA)(hb:PW X (.BoolOp .And (b::rest) pos) tB'):PW X (.BoolOp .And (a::b::rest) pos) (tAnd tA tB'):=by
 intro wh pins s σ H Q I h
 refine isTrue_and (thn (ha pins s σ H _ I h) λc s1 ⟨H1,I1,q1⟩=>?_)
 cases c with
 | true=>exact hb wh pins s1 σ H1 Q I1 q1
 | false=>exact⟨H1,I1,q1⟩
theorem Xkq(ha:PT X a tA)(hb:PW X (.BoolOp .Or (b::rest) pos) tB'):PW X (.BoolOp .Or (a::b::rest) pos) (tOr tA tB'):=by
 intro wh pins s σ H Q I h
 refine isTrue_or (thn (ha pins s σ H _ I h) λc s1 ⟨H1,I1,q1⟩=>?_)
 cases c with
 | true=>exact⟨H1,I1,q1⟩
 | false=>exact hb wh pins s1 σ H1 Q I1 q1
theorem Xgm(ha:PT X a tA):PT X (.UnaryOp .Not a pos) (tNot tA):=by
 intro pins s σ H Q I h
 exact isTrue_not (ha pins s σ H (λc H1=>Q (!c) H1) I h)
def Xyo (ta tb:TE):TE:=fun σ H Q=>ta σ H λx H1=>∃c,x = .bl c/\if c=true then tb σ H1 Q else Q (.bl false) H1
theorem Xiy{op}{t:TE}(h:PE X a t):PE X (.BoolOp op [a] pos) t:=λpins s σ H Q I hw=>BoolOp_one (h pins s σ H Q I hw)
theorem Xiz(ha:PE X a ta)(hb:PE X (.BoolOp .And (b::rest) pos) tb):PE X (.BoolOp .And (a::b::rest) pos) (Xyo ta tb):=by
 intro pins s σ H Q I h
 refine BoolOp_and (thn (ha pins s σ H _ I h) λv s1 ⟨x,H1,I1,r1,q1⟩=>?_)
 obtain⟨c,rfl,q1⟩:=q1
 cases r1
 refine wpAny_truthy_bool ?_
 cases c with
 | true=>exact hb pins s1 σ H1 Q I1 q1
 | false=>exact⟨.bl false,H1,I1,rfl,q1⟩
def tIf (t:TT) (ta tb:TE):TE:=fun σ H Q=>t σ H λc H1=>if c=true then ta σ H1 Q else tb σ H1 Q
theorem Xek{c:Expr}(hc:PT X c tA)(ha:PE X a ta)(hb:PE X b tb):PE X (.IfExp c a b pos) (tIf tA ta tb):=by
 intro pins s σ H Q I h
 refine wpAny_IfExp (thn (hc pins s σ H _ I h) λd s1 ⟨H1,I1,q1⟩=>?_)
 cases d with
 | true=>exact ha pins s1 σ H1 Q I1 q1
 | false=>exact hb pins s1 σ H1 Q I1 q1
end
def SqL (K:PySem.W.Frag) (H:Hp) (a:Addr) (xs:List V):Prop:=
 Rd H a (.lst xs) \/
  ∃(o:Obj) (its:Array Value) (n:Nat),K.lookup a=some o/\o.cls = .type "list" /\ o.dict=none/\o.data = .seq its n/\its.size<=sizeLine/\Vals xs its.toList
def SqT (K:PySem.W.Frag) (H:Hp) (a:Addr) (xs:List V):Prop:=
 Rd H a (.tup xs) \/
  ∃(o:Obj) (its:Array Value) (n:Nat),K.lookup a=some o/\o.cls = .type "tuple" /\ o.data = .seq its n/\its.size<=sizeLine/\Vals xs its.toList
def absV:Value->Option V
 | .none=>some .non
 | .bool b=>some (.bl b)
 | .int i _=>some (.int i)
 | .str x _=>some (.str x)
 | .bytes b _=>some (.byt b)
 | .float b _=>some (.flt b)
 | .ref a=>some (.ref a)
 | .type n=>some (.ty n)
 | _=>none
theorem RelV.abs{x:V}{u:Value}(r:RelV x u):absV u=some x:=by
 cases x with
 | non=>cases r;rfl
 | bl _=>cases r;rfl
 | int _=>obtain⟨t,rfl⟩:=r;rfl
 | str _=>obtain⟨t,rfl⟩:=r;rfl
 | byt _=>obtain⟨t,rfl⟩:=r;rfl
 | flt _=>obtain⟨t,rfl⟩:=r;rfl
 | ref _=>cases r;rfl
 | ty _=>cases r;rfl
theorem RelV.inj{x y:V}{u:Value}(r:RelV x u)(q:RelV y u):x=y:=Xz3 (r.abs.symm.trans q.abs)
theorem Vals.inj:∀{xs ys:List V} {us:List Value},Vals xs us->Vals ys us->xs=ys
 | _,_,_,.nil,.nil=>rfl
 | _,_,_,.cons r t,.cons r' t'=>by rw[r.inj r',Vals.inj t t']
section
variable {X:Cx}{pins:List (Addr×Obj)}{σ:St}{H:Hp}{s:Shared}{a:Addr}{xs ys:List V}
theorem SqL.of{K:PySem.W.Frag}(h:H a=some (.lst xs)):SqL K H a xs:=.inl (.inl h)
theorem SqT.of{K:PySem.W.Frag}(h:H a=some (.tup xs)):SqT K H a xs:=.inl (.inl h)
theorem Inv.list(I:Inv X pins σ H s)(h:SqL X.K H a xs):∃its:List Value,Vals xs its/\PlainL s.heap a its.toArray/\xs.length<=sizeLine:=by
 rcases h with h | ⟨o,its,n,hk,hc,hd,hs,hz,r⟩
 ·obtain⟨z,its,n,r,e⟩:=h.ok I.hok
  exact⟨its,r,⟨_,n,e,rfl,rfl,rfl⟩,z⟩
 ·refine⟨its.toList,r,⟨o,n,I.kIn a o hk,hc,hd,by simpa using hs⟩,?_⟩
  have e:=r.length
  simp only[Xzt] at e
  omega
theorem Inv.tuple(I:Inv X pins σ H s)(h:SqT X.K H a xs):∃its:List Value,Vals xs its/\IsTup s.heap a its.toArray/\xs.length<=sizeLine:=by
 rcases h with h | ⟨o,its,n,hk,hc,hs,hz,r⟩
 ·obtain⟨z,its,r,p⟩:=h.ok I.hok
  exact⟨its,r,p,z⟩
 ·refine⟨its.toList,r,⟨o,I.kIn a o hk,hc,n,by simpa using hs⟩,?_⟩
  have e:=r.length
  simp only[Xzt] at e
  omega
theorem Inv.list_inj(I:Inv X pins σ H s)(h:SqL X.K H a xs)(h':SqL X.K H a ys):xs=ys:=by
 obtain⟨its,r,⟨o,n,e,_,_,d⟩,_⟩:=I.list h
 obtain⟨its',r',⟨o',n',e',_,_,d'⟩,_⟩:=I.list h'
 rw[e] at e';cases e'
 rw[d] at d'
 injection d' with d1 _
 have:its=its':=by simpa using congrArg Array.toList d1
 subst this
 exact r.inj r'
theorem Inv.tuple_inj(I:Inv X pins σ H s)(h:SqT X.K H a xs)(h':SqT X.K H a ys):xs=ys:=by
 obtain⟨its,r,⟨o,e,_,n,d⟩,_⟩:=I.tuple h
 obtain⟨its',r',⟨o',e',_,n',d'⟩,_⟩:=I.tuple h'
 rw[e] at e';cases e'
 rw[d] at d'
 injection d' with d1 _
 have:its=its':=by simpa using congrArg Array.toList d1
 subst this
 exact r.inj r'
end
abbrev Cx.wish (X:Cx) (E:Value->Shared->Prop):Cx:={X with xe:=E}
abbrev Cx.nox (X:Cx):Cx:=X.wish λ_ _=>False
theorem Cx.Ok.wish{X:Cx}(ok:X.Ok)(E:Value->Shared->Prop):(X.wish E).Ok:=
 ⟨ok.mod,ok.kind,ok.glob,ok.blt,ok.above,ok.inj,ok.has,ok.cab,ok.hd,ok.frames,ok.stk,ok.exf,ok.bs,ok.bsz,ok.noex,ok.exfs,ok.funs,ok.frf⟩
theorem Cx.Ok.unwish{X:Cx}{E:Value->Shared->Prop}(ok:(X.wish E).Ok):X.Ok:=
 ⟨ok.mod,ok.kind,ok.glob,ok.blt,ok.above,ok.inj,ok.has,ok.cab,ok.hd,ok.frames,ok.stk,ok.exf,ok.bs,ok.bsz,ok.noex,ok.exfs,ok.funs,ok.frf⟩
section
variable {X:Cx}{pins:List (Addr×Obj)}{σ:St}{H:Hp}{s:Shared}{E:Value->Shared->Prop}
theorem Inv.wish(I:Inv X pins σ H s)(E:Value->Shared->Prop):Inv (X.wish E) pins σ H s:=⟨I.ok.wish E,I.os,I.bare,I.base,I.loc,I.cell,I.free,I.freeC,I.pin,I.hok,I.len⟩
theorem Inv.unwish(I:Inv (X.wish E) pins σ H s):Inv X pins σ H s:=⟨I.ok.unwish,I.os,I.bare,I.base,I.loc,I.cell,I.free,I.freeC,I.pin,I.hok,I.len⟩
theorem SP.unwish{D:Ends}{f:Flow}{s':Shared}(h:SP (X.wish E) pins D f s'):SP X pins D f s':=by
 cases f with
 | next=>obtain⟨σ',H',I,q⟩:=h;exact⟨σ',H',I.unwish,q⟩
 | brk=>obtain⟨σ',H',I,q⟩:=h;exact⟨σ',H',I.unwish,q⟩
 | cont=>obtain⟨σ',H',I,q⟩:=h;exact⟨σ',H',I.unwish,q⟩
 | ret u=>obtain⟨v, σ',H',I,r,q⟩:=h;exact⟨v, σ',H',I.unwish,r,q⟩
theorem PSs.nox{st:List Stmt}{t:TS}(h:PSs X.nox st t):PSs X st t:=λpins s σ H D I hw=>
 wpAny_mono (h pins s σ H D (I.wish _) hw) (λ_ _ q=>q.unwish) λ_ _ z=>False.elim z
end
section
variable {X:Cx}{st:Stmt}{rest:List Stmt}{t u:TS}{e:Expr}{te:TE}{pos:Pos}
def Xt7:TS:=λD σ H=>D.nx σ H
def tSeq (t u:TS):TS:=λD σ H=>t {D with nx:=u D} σ H
theorem Xay:PSs X [] Xt7:=λ_ _ σ H _ I h=>wpAny_execs_nil ⟨σ,H,I,h⟩
theorem Xad(h1:PS X st t)(h2:PSs X rest u):PSs X (st::rest) (tSeq t u):=by
 intro pins s σ H D I h
 refine wpAny_execs_cons (thn (h1 pins s σ H {D with nx:=u D} I h) λf s1 q=>?_)
 cases f with
 | next=>
  obtain⟨σ',H',I',q⟩:=q
  exact h2 pins s1 σ' H' D I' q
 | ret v=>exact q
 | brk=>exact q
 | cont=>exact q
theorem Xaf(h1:PS X st t):PSs X [st] t:=by
 intro pins s σ H D I h
 refine wpAny_execs_cons (thn (h1 pins s σ H D I h) λf s1 q=>?_)
 cases f with
 | next=>exact wpAny_execs_nil q
 | ret v=>exact q
 | brk=>exact q
 | cont=>exact q
theorem Inv.quiet{pins:List (Addr×Obj)}{σ:St}{H:Hp}{s:Shared}(I:Inv X pins σ H s):interactive X.env=false:=by simp[interactive,I.ok.kind]
def Xwi (te:TE):TS:=λD σ H=>te σ H λ_ H1=>D.nx σ H1
theorem Xc8(he:PE X e te)(hs:swapsWith e none pos.line X.env=pure false:=by rfl):PS X (.Expr e pos) (Xwi te):=by
 intro pins s σ H D I h
 exact wpAny_Expr_any (thn (he pins s σ H _ I h) λv s1 ⟨x,H1,I1,r1,q1⟩=>⟨σ,H1,I1,q1⟩) I.quiet hs
def tRet (te:TE):TS:=λD σ H=>te σ H D.rt
theorem Xan(he:PE X e te):PS X (.Return (some e) pos) (tRet te):=by
 intro pins s σ H D I h
 exact wpAny_Return_some (thn (he pins s σ H _ I h) λv s1 ⟨x,H1,I1,r1,q1⟩=>⟨x, σ,H1,I1,r1,q1⟩)
def tIfS (c:TT) (t u:TS):TS:=λD σ H=>c σ H λb H1=>if b=true then t D σ H1 else u D σ H1
theorem Xb0{c:Expr}{a b:List Stmt}{tc:TT}(hc:PT X c tc)(ha:PSs X a t)(hb:PSs X b u):PS X (.If c a b pos) (tIfS tc t u):=by
 intro pins s σ H D I h
 refine wpAny_If (thn (hc pins s σ H _ I h) λd s1 ⟨H1,I1,q1⟩=>?_)
 cases d with
 | true=>exact ha pins s1 σ H1 D I1 q1
 | false=>exact hb pins s1 σ H1 D I1 q1
def tNever:TS:=λ_ _ _=>False
end
abbrev TG:=V->St->Hp->(St->Hp->Prop)->Prop
abbrev TGs:=List V->St->Hp->(St->Hp->Prop)->Prop
def PG (X:Cx) (target:Expr) (t:TG):Prop:=
 ∀(pins:List (Addr×Obj)) (s:Shared) (σ:St) (H:Hp) (v:V) (u:Value) (Q:St->Hp->Prop),Inv X pins σ H s->RelV v u->t v σ H Q ->
  wpAny (model X.prog X.w) X.A (assign target X.env u) (λ_ s'=>∃σ' H',Inv X pins σ' H' s'/\Q σ' H') X.xe s
def PGs (X:Cx) (ts:List Expr) (t:TGs):Prop:=
 ∀(pins:List (Addr×Obj)) (s:Shared) (σ:St) (H:Hp) (vs:List V) (us:List Value) (Q:St->Hp->Prop),Inv X pins σ H s->Vals vs us->t vs σ H Q ->
  wpAny (model X.prog X.w) X.A (assignInOrder ((assignEach ts X.env).map (·.2)) us) (λ_ s'=>∃σ' H',Inv X pins σ' H' s'/\Q σ' H') X.xe s
abbrev TSet:=V->V->V->Hp->(Hp->Prop)->Prop
def PSet (X:Cx) (t:TSet):Prop:=
 ∀(pins:List (Addr×Obj)) (s:Shared) (σ:St) (H:Hp) (o i v:V) (ov iv u:Value) (Q:Hp->Prop),Inv X pins σ H s->RelV o ov->RelV i iv->RelV v u->t o i v H Q ->
  wpAny (model X.prog X.w) X.A (setItem ov iv u) (λ_ s'=>∃H',Inv X pins σ H' s'/\Q H') X.xe s
abbrev TIp:=V->V->Hp->VK->Prop
section
variable {X:Cx}{pos:Pos}
def Xbm (i:Nat):TG:=λv σ H Q=>Q (σ.set i (some v)) H
theorem Xak{i:Nat}{x:Str}(hN:X.N.Nodup)(hi:X.N[i]? = some x)(hx:Loc X.env.scope x)(hf:X.fn x=true\/X.env.scope.names.lookup x=some .local:=by first | exact .inl rfl | exact .inr rfl | assumption):PG X (.Name x pos) (Xbm i):=by
 intro pins s σ H v u Q I r h
 exact wpAny_assign_Name (Xlx I hN hi hx r (λs' I'=>⟨_,H,I',h⟩) hf)
def gNil:TGs:=λvs σ H Q=>vs=[]/\Q σ H
def Xn7 (t:TG) (u:TGs):TGs:=λvs σ H Q=>∃v r,vs=v::r/\t v σ H fun σ' H'=>u r σ' H' Q
theorem Xc9:PGs X [] gNil:=by
 intro pins s σ H vs us Q I r h
 obtain⟨e,h⟩:=h
 subst e
 cases r
 exact assignInOrder_nil ⟨σ,H,I,h⟩
theorem Xa3{e:Expr}{es:List Expr}{t:TG}{u:TGs}(h1:PG X e t)(h2:PGs X es u)
  (hs:(assignEach (e::es) X.env).map (·.2)=assign e X.env::(assignEach es X.env).map (·.2):=by rfl):PGs X (e::es) (Xn7 t u):=by
 intro pins s σ H vs us Q I r h
 obtain⟨v,vr,e1,h⟩:=h
 subst e1
 cases r with
 | cons r rr=>
  rw[hs]
  refine assignInOrder_cons (thn (h1 pins s σ H _ _ _ I r h) λ_ s1 ⟨σ1,H1,I1,q1⟩=>?_)
  exact h2 pins s1 σ1 H1 _ _ Q I1 rr q1
def gTup (K:PySem.W.Frag) (n:Nat) (t:TGs):TG:=λv σ H Q=>∃a xs,v = .ref a/\SqT K H a xs/\xs.length=n/\t xs σ H Q
theorem Xn8{es:List Expr}{k:Nat}{t:TGs}{n:Nat}(hc:X.calm=true)(h:PGs X es t)
  (hn:(assignEach es X.env).length=n:=by rfl) (hst:(assignEach es X.env).findIdx? (·.1)=none:=by rfl):PG X (.Tuple es k pos) (gTup X.K n t):=by
 intro pins s σ H v u Q I r hw
 obtain⟨a,xs,e1,hq,hl,hw⟩:=hw
 subst e1
 cases r
 obtain⟨its,rv,ht,hz⟩:=I.tuple hq
 refine assign_Tuple_tuple (I.ok.hd hc) ht (by simp[hn,<-hl,rv.length]) hst λh' hx=>?_
 have I1:Inv X pins σ H {s with heap:=h'}:=I.kept (t':=s.toks) λb o e=>hx b o (Xzv (X3s e)) e
 exact h pins _ σ H xs _ Q I1 (by simpa using rv) hw
def gSub (to ti:TE) (t:TSet):TG:=λv σ H Q=>to σ H λo H1=>ti σ H1 λi H2=>t o i v H2 λH3=>Q σ H3
theorem Xgn{o i:Expr}{to ti:TE}{t:TSet}(ho:PE X o to)(hi:PE X i ti)(hs:PSet X t)
  (ha:∀v,assign (.Subscript o i pos) X.env v=(do
   let ov <-holding [v] (eval o X.env)
   let iv <-holding [v,ov] (eval i X.env)
   standAt pos
   holding [v,ov,iv] (setItem ov iv v)
   release [v,ov,iv] []):=by intro _;rfl):PG X (.Subscript o i pos) (gSub to ti t):=by
 intro pins s σ H v u Q I r h
 rw[ha]
 refine X3j (wpAny_holding (thn (ho pins s σ H _ I h) λov s1 ⟨x,H1,I1,r1,q1⟩=>?_))
 refine X3j (wpAny_holding (thn (hi pins s1 σ H1 _ I1 q1) λiv s2 ⟨y,H2,I2,r2,q2⟩=>?_))
 refine X3j (wpAny_standAt (X3j (wpAny_holding (thn (hs pins s2 σ H2 x y v ov iv u _ I2 r1 r2 r q2) λ_ s3 ⟨H3,I3,q3⟩=>?_))))
 exact wpAny_release ⟨σ,H3,I3,q3⟩
def tAsg (te:TE) (g:TG):TS:=λD σ H=>te σ H λx H1=>g x σ H1 D.nx
theorem Xel{tg e:Expr}{te:TE}{g:TG}(he:PE X e te)(hg:PG X tg g)(hs:swapsWithSole [tg] e pos.line X.env=pure false:=by rfl)(hw:swappedStores [tg] e X.env=pure none:=by rfl)
  (h1:(assignEach [tg] X.env).map (·.2)=[assign tg X.env]:=by rfl):PS X (.Assign [tg] e pos) (tAsg te g):=by
 intro pins s σ H D I h
 refine wpAny_Assign_stores (thn (he pins s σ H _ I h) λv s1 ⟨x,H1,I1,r1,q1⟩=>?_) hs hw
 rw[h1]
 exact thn (hg pins s1 σ H1 x v _ I1 r1 q1) λ_ s2 q=>q
theorem Xao{i:Nat}{x:Str}{e:Expr}{te:TE}{pos':Pos}(hN:X.N.Nodup)(hi:X.N[i]? = some x)(hx:Loc X.env.scope x)(he:PE X e te)(hs:swapsWith e (some (.Name x pos')) pos.line X.env=pure false:=by rfl)(hf:X.fn x=true\/X.env.scope.names.lookup x=some .local:=by first | exact .inl rfl | exact .inr rfl | assumption):
  PS X (.Assign [.Name x pos'] e pos) (tAsg te (Xbm i)):=by
 intro pins s σ H D I h
 refine wpAny_Assign_Name (thn (he pins s σ H _ I h) λv s1 ⟨y,H1,I1,r1,q1⟩=>?_) hs
 exact Xlx I1 hN hi hx r1 (λs2 I2=>⟨_,H1,I2,q1⟩) hf
def tPar (i j:Nat) (ta:TA):TS:=λD σ H=>ta σ H λvs H1=>∃v w,vs=[v,w]/\D.nx ((σ.set i (some v)).set j (some w)) H1
def tAug (i:Nat) (te:TE) (ti:TIp):TS:=λD σ H=>∃x, σ[i]? = some (some x)/\te σ H λy H1=>ti x y H1 λz H2=>D.nx (σ.set i (some z)) H2
def tAugS (to ti te:TE) (tget:V->V->Hp->VK->Prop) (tip:TIp) (tset:TSet):TS:=λD σ H=>to σ H λo H1=>ti σ H1 λi H2=>tget o i H2 λx H3=>te σ H3 λy H4=>tip x y H4 λz H5=>tset o i z H5 λH6=>D.nx σ H6
def PGet (X:Cx) (t:V->V->Hp->VK->Prop):Prop:=
 ∀(pins:List (Addr×Obj)) (s:Shared) (σ:St) (H:Hp) (o i:V) (ov iv:Value) (Q:VK),Inv X pins σ H s->RelV o ov->RelV i iv->t o i H Q ->
  wpAny (model X.prog X.w) X.A (getItem ov iv) (EP X pins σ Q) X.xe s
def ipI (f:Int->Int->Int):TIp:=λx y H Q=>∃i j,x = .int i/\y = .int j/\Q (.int (f i j)) H
end
section
variable {X:Cx}{pos:Pos}
def tWhile (c:TT) (tb:TS):TS:=λD σ H=>∃W:Nat->St->Hp->Prop,(∃m,W m σ H)/\∀m σ H,W m σ H ->
 c σ H λb H1=>if b=true then ∃N:St->Hp->Prop,(∀σ' H',N σ' H'->∃m',m'<m/\W m' σ' H')/\tb {D with nx:=N,ct:=N,bk:=D.nx} σ H1 else D.nx σ H1
end
structure It where
 go:Nat->Hp->Prop
 yld:Nat->Hp->V->Hp->Prop
 stop:Nat->Hp->Prop
def FpOk (X:Cx) (pins:List (Addr×Obj)) (H:Hp) (b:Addr):Prop:=
 H b=none/\b≠X.env.locals/\b∉X.fs/\(b∈X.ex\/X.s₀.heap.objs.size<=b)/\(∀x c,X.env.cells.lookup x=some c->c≠b)/\∀p∈X.pn++pins,p.1≠b
theorem Inv.fpOk{X:Cx}{pins:List (Addr×Obj)}{σ:St}{H H':Hp}{s:Shared}{b:Addr}(I:Inv X pins σ H s)(hb:s.heap.objs.size<=b)(hn:H' b=none):FpOk X pins H' b:=by
 refine⟨hn,X3g (Xz8 I.lt hb),I.nofs hb,.inr (X0d I.sz hb),λx c e z=>?_,λp hp z=>?_⟩
 ·obtain⟨v,q⟩:=I.cell x c e
  exact absurd (Xz8 q.lt (by rw[z];exact hb)) (X0r _)
 ·exact absurd (Xz8 (X3s (I.pin p hp).1) (by rw[z];exact hb)) (X0r _)
structure Turn (P:Program) (w:World) (K:PySem.W.Frag) (tg:Expr) (J:It) (fp:List Addr) (it:Addr) (tn:Nat->Heap->Prop):Prop where
 mem:it∈fp
 obj:∀i h,tn i h->∀b∈fp,∃o,h.get? b=some o/\∀v,o.data ≠ .cell v
 keep:∀i h h',tn i h->(∀b∈fp,∀o,h.get? b=some o->h'.get? b=some o)->tn i h'
 item:∀(X:Cx),X.prog=P->X.w=w->X.K=K->X.calm=true->∀(i:Nat) (pins:List (Addr×Obj)) (s:Shared) (σ:St) (H:Hp) (E:Value->Shared->Prop),Inv X pins σ H s->(∀b∈fp,FpOk X pins H b)->tn i s.heap->J.go i H ->
  wpAny (model P w) X.A (pyNext (.ref it)) (λr s1=>∃u,r=some u /\
   wpAny (model P w) X.A (letOwnedTupleGo tg (.ref it) u) (λ_ s2=>∃x H',Inv X pins σ H' s2/\RelV x u/\J.yld i H x H'/\tn (i+1) s2.heap/\∀b∈fp,H' b=none) E s1) E s
 done:∀(X:Cx),X.prog=P->X.w=w->X.K=K->X.calm=true->∀(i:Nat) (pins:List (Addr×Obj)) (s:Shared) (σ:St) (H:Hp) (E:Value->Shared->Prop),Inv X pins σ H s->(∀b∈fp,FpOk X pins H b)->tn i s.heap->J.stop i H ->
  wpAny (model P w) X.A (pyNext (.ref it)) (λr s1=>r=none/\Inv X pins σ H s1) E s
 self:∀(A:Around) (i:Nat) (s:Shared) (Q:Value->Shared->Prop) (E:Value->Shared->Prop),tn i s.heap->Q (.ref it) s->wpAny (model P w) A (pyIter (.ref it)) Q E s
abbrev TI:=St->Hp->(It->Hp->Prop)->Prop
def PIE (X:Cx) (pins:List (Addr×Obj)) (σ:St) (tg:Expr) (R:It->Hp->Prop) (itv:Value) (s2:Shared):Prop:=
 ∃(it:Addr) (fp:List Addr) (tn:Nat->Heap->Prop) (J:It) (H':Hp),itv = .ref it/\Inv X pins σ H' s2/\Turn X.prog X.w X.K tg J fp it tn/\tn 0 s2.heap/\(∀b∈fp,FpOk X pins H' b)/\R J H'
def PI (X:Cx) (tg iter:Expr) (wi:TI):Prop:=
 ∀(pins:List (Addr×Obj)) (s:Shared) (σ:St) (H:Hp) (R:It->Hp->Prop),Inv X pins σ H s->wi σ H R ->
  wpAny (model X.prog X.w) X.A (eval iter X.env) (λv s1=>wpAny (model X.prog X.w) X.A (pyIter v) (PIE X pins σ tg R) X.xe s1) X.xe s
theorem Xrc{M:Model}{A:Around}{E:Value->Shared->Prop}{s:Shared}{tg:Expr}{it:Addr}{u:Value}{o:Obj}{n:String}{vs:Array Value}{Q:Unit->Shared->Prop}(ho:s.heap.get? it=some o)(hc:o.cls = .type n)(hd:o.data = .fields vs)
    (hn:["enumerate", "zip", "dict_itemiterator", "dict_reverseitemiterator", "odict_iterator", "itertools.zip_longest", "itertools.pairwise"].contains n=false) (hQ:Q () s):wpAny M A (letOwnedTupleGo tg (.ref it) u) Q E s:=by
  unfold letOwnedTupleGo
  cases tg<;>first
    | exact X3k hQ
    | (cases u<;>first
        | exact X3k hQ
        | (refine X3j (wpAny_load ho ?_)
           rw[hc,hd]
           show wpAny M A (if (["enumerate", "zip", "dict_itemiterator", "dict_reverseitemiterator", "odict_iterator", "itertools.zip_longest", "itertools.pairwise"].contains n&&vs[0]? == some (rawInt _))=true then _ else _) Q E s
           rw[X3m (by intro h;rw[hn,X08] at h;cases h)]
           exact X3k hQ))
def Itl (K:PySem.W.Frag) (a:Addr):It:=
 ⟨λi H=>∃xs x,SqL K H a xs/\xs[i]? = some x,λi H x H'=>H'=H/\∀xs,SqL K H a xs->xs[i]? = some x,λi H=>∃xs,SqL K H a xs/\xs.length<=i⟩
def Itt (K:PySem.W.Frag) (a:Addr):It:=
 ⟨λi H=>∃xs x,SqT K H a xs/\xs[i]? = some x,λi H x H'=>H'=H/\∀xs,SqT K H a xs->xs[i]? = some x,λi H=>∃xs,SqT K H a xs/\xs.length<=i⟩
def Itr (lo:Int) (n:Nat):It:=⟨λi _=>i<n,λi H x H'=>H'=H/\x = .int (lo+i),λi _=>n<=i⟩
theorem Xn9{P:Program}{w:World}{K:PySem.W.Frag}{tg:Expr}(a it:Addr):Turn P w K tg (Itl K a) [it] it (λi h=>h.IsListIter it a i) where
 mem:=by simp
 obj:=λi h st b hb=>by
  have e:b=it:=by simpa using hb
  subst e
  obtain⟨o,e,c,d⟩:=st
  exact⟨o,e,λv z=>by rw[d] at z;cases z⟩
 keep:=λi h h' st k=>st.at λo e=>k it (by simp) o e
 item:=by
  intro X hP hw hK hc i pins s σ H E I hf st hg
  subst hP hw hK
  obtain⟨xs,x,hq,hx⟩:=hg
  obtain⟨its,rv,p,hz⟩:=I.list hq
  obtain⟨u,hu,ru⟩:=rv.get hx
  obtain⟨f0,f1,f2,f3,f4,f5⟩:=hf it (by simp)
  refine wpAny_pyNext_list_item st p.isList (x:=u) (by simpa using hu) λh' st' sb=>?_
  have I1:Inv X pins σ H {s with heap:=h'}:=I.turned (t':=s.toks) (λb o hb e=>(sb.2 b hb).trans e) f0 f1 f3 f4 f5
  obtain⟨o,e,c,d⟩:=id st'
  exact⟨u,rfl,Xrc (s:={s with heap:=h'}) e c d (by decide) ⟨x,H,I1,ru,⟨rfl,λys hy=>by rw[I.list_inj hy hq];exact hx⟩,st',λb hb=>(hf b hb).1⟩⟩
 done:=by
  intro X hP hw hK hc i pins s σ H E I hf st hg
  subst hP hw hK
  obtain⟨xs,hq,hx⟩:=hg
  obtain⟨its,rv,p,hz⟩:=I.list hq
  obtain⟨f0,f1,f2,f3,f4,f5⟩:=hf it (by simp)
  have hl:=rv.length
  exact wpAny_pyNext_list_end (I.ok.hd hc) st p.isList (by simp;omega) λh' eb=>⟨rfl,I.turned (t':=s.toks) (λb o hb e=>eb b o hb e) f0 f1 f3 f4 f5⟩
 self:=λ_ _ _ _ _ st h=>wpAny_pyIter_listiter st h
theorem Xm5{P:Program}{w:World}{K:PySem.W.Frag}{tg:Expr}(a it:Addr):Turn P w K tg (Itt K a) [it] it (λi h=>h.IsTupleIter it a i) where
 mem:=by simp
 obj:=λi h st b hb=>by
  have e:b=it:=by simpa using hb
  subst e
  obtain⟨o,e,c,d⟩:=st
  exact⟨o,e,λv z=>by rw[d] at z;cases z⟩
 keep:=λi h h' st k=>st.at λo e=>k it (by simp) o e
 item:=by
  intro X hP hw hK hc i pins s σ H E I hf st hg
  subst hP hw hK
  obtain⟨xs,x,hq,hx⟩:=hg
  obtain⟨its,rv,p,hz⟩:=I.tuple hq
  obtain⟨u,hu,ru⟩:=rv.get hx
  obtain⟨f0,f1,f2,f3,f4,f5⟩:=hf it (by simp)
  refine wpAny_pyNext_tuple_item st (show s.heap.IsTuple a its.toArray from p) (x:=u) (by simpa using hu) λh' st' sb=>?_
  have I1:Inv X pins σ H {s with heap:=h'}:=I.turned (t':=s.toks) (λb o hb e=>(sb.2 b hb).trans e) f0 f1 f3 f4 f5
  obtain⟨o,e,c,d⟩:=id st'
  exact⟨u,rfl,Xrc (s:={s with heap:=h'}) e c d (by decide) ⟨x,H,I1,ru,⟨rfl,λys hy=>by rw[I.tuple_inj hy hq];exact hx⟩,st',λb hb=>(hf b hb).1⟩⟩
 done:=by
  intro X hP hw hK hc i pins s σ H E I hf st hg
  subst hP hw hK
  obtain⟨xs,hq,hx⟩:=hg
  obtain⟨its,rv,p,hz⟩:=I.tuple hq
  obtain⟨f0,f1,f2,f3,f4,f5⟩:=hf it (by simp)
  have hl:=rv.length
  exact wpAny_pyNext_tuple_end (I.ok.hd hc) st (show s.heap.IsTuple a its.toArray from p) (by simp;omega) λh' eb=>⟨rfl,I.turned (t':=s.toks) (λb o hb e=>eb b o hb e) f0 f1 f3 f4 f5⟩
 self:=λ_ _ _ _ _ st h=>wpAny_pyIter_tupleiter st h
theorem Xm6{P:Program}{w:World}{K:PySem.W.Frag}{tg:Expr}(it:Addr)(lo:Int)(n:Nat):Turn P w K tg (Itr lo n) [it] it (λi h=>IsRangeIter h it (lo+(i:Nat) * 1) ((n:Int) - (i:Nat)) 1) where
 mem:=by simp
 obj:=λi h st b hb=>by
  have e:b=it:=by simpa using hb
  subst e
  exact⟨_,st,λv z=>by
   have z':Data.fields _=Data.cell v:=z
   cases z'⟩
 keep:=λi h h' st k=>k it (by simp) _ st
 item:=by
  intro X hP hw hK hc i pins s σ H E I hf st hg
  subst hP hw hK
  obtain⟨f0,f1,f2,f3,f4,f5⟩:=hf it (by simp)
  have W:=Walks.range (prog:=X.prog) (w:=X.w) (I.ok.hd hc) it lo 1 n
  refine W.item i s _ _ hg st λv h' tk hv st' kk=>?_
  obtain⟨t,rfl⟩:=hv
  have I1:Inv X pins σ H {s with heap:=h',toks:=tk}:=I.turned (λb o hb e=>kk b o (by simpa using hb) e) f0 f1 f3 f4 f5
  refine⟨_,rfl,Xrc (s:={s with heap:=h',toks:=tk}) (n := "range_iterator") st' rfl rfl (by decide) ⟨.int (lo+i),H,I1,⟨t,?_⟩,⟨rfl,rfl⟩,st',λb hb=>(hf b hb).1⟩⟩
  rw[Int.mul_one]
 done:=by
  intro X hP hw hK hc i pins s σ H E I hf st hg
  subst hP hw hK
  obtain⟨f0,f1,f2,f3,f4,f5⟩:=hf it (by simp)
  exact wpAny_pyNext_range_end (I.ok.hd hc) st (by have:n<=i:=hg;omega) λh' eb=>⟨rfl,I.turned (t':=s.toks) (λb o hb e=>eb b o hb e) f0 f1 f3 f4 f5⟩
 self:=λ_ _ _ _ _ st h=>wpAny_pyIter_rangeiter st h
section
variable {X:Cx}{tg:Expr}
def Xwj (K:PySem.W.Frag) (tl:TE):TI:=fun σ H R=>tl σ H λx H1=>∃a,x = .ref a/\(∃xs,SqL K H1 a xs)/\R (Itl K a) H1
def iTup (K:PySem.W.Frag) (tl:TE):TI:=fun σ H R=>tl σ H λx H1=>∃a,x = .ref a/\(∃xs,SqT K H1 a xs)/\R (Itt K a) H1
theorem Xa4{l:Expr}{tl:TE}(hl:PE X l tl):PI X tg l (Xwj X.K tl):=by
 intro pins s σ H R I h
 refine thn (hl pins s σ H _ I h) λv s1 ⟨x,H1,I1,r1,q1⟩=>?_
 obtain⟨a,e,⟨xs,hq⟩,q⟩:=q1
 subst e
 cases r1
 obtain⟨its,rv,p,hz⟩:=I1.list hq
 refine wpAny_pyIter_list p.isList ?_
 refine⟨s1.heap.objs.size,[s1.heap.objs.size],_,_,H1,rfl,I1.kept (t':=s1.toks) λb o e=>X3t _ e,Xn9 a _,⟨_,Heap.get?_push_size _ rfl,rfl,rfl⟩,λb hb=>?_,q⟩
 have e:b=s1.heap.objs.size:=by simpa using hb
 subst e
 exact I1.fpOk (Xzn _) (I1.hok.fresh (Xzn _))
theorem Xtf{l:Expr}{tl:TE}(hl:PE X l tl):PI X tg l (iTup X.K tl):=by
 intro pins s σ H R I h
 refine thn (hl pins s σ H _ I h) λv s1 ⟨x,H1,I1,r1,q1⟩=>?_
 obtain⟨a,e,⟨xs,hq⟩,q⟩:=q1
 subst e
 cases r1
 obtain⟨its,rv,p,hz⟩:=I1.tuple hq
 refine wpAny_pyIter_tuple (show s1.heap.IsTuple a its.toArray from p) ?_
 refine⟨s1.heap.objs.size,[s1.heap.objs.size],_,_,H1,rfl,I1.kept (t':=s1.toks) λb o e=>X3t _ e,Xm5 a _,⟨_,Heap.get?_push_size _ rfl,rfl,rfl⟩,λb hb=>?_,q⟩
 have e:b=s1.heap.objs.size:=by simpa using hb
 subst e
 exact I1.fpOk (Xzn _) (I1.hok.fresh (Xzn _))
theorem Xrd{pins:List (Addr×Obj)}{σ:St}{H:Hp}{s:Shared}{R:It->Hp->Prop}{E:Value->Shared->Prop}{lo hi:Int}{t u v:Tok}{tk:Nat}(I:Inv X pins σ H s)(h1 : -(2 ^ 62)<=lo)(h2:lo<2 ^ 62)(h3 : -(2 ^ 62)<=hi)(h4:hi<2 ^ 62)
  (q:R (Itr lo (hi - lo).toNat) H):wpAny (model X.prog X.w) X.A (pyIter (.ref s.heap.objs.size)) (PIE X pins σ tg R) E {s with heap:=s.heap.push {cls:=.type "range",data:=.fields #[.int lo t,.int hi u,.int 1 v]},toks:=tk}:=by
 refine wpAny_pyIter_range (IsRange.new ..) (small_one h1 h2 h3 h4) ?_
 have I1:Inv X pins σ H {s with heap:=s.heap.push {cls:=.type "range",data:=.fields #[.int lo t,.int hi u,.int 1 v]},toks:=tk}:=I.kept λb o e=>X3t _ e
 refine⟨(s.heap.push {cls:=.type "range",data:=.fields #[.int lo t,.int hi u,.int 1 v]}).objs.size,[(s.heap.push {cls:=.type "range",data:=.fields #[.int lo t,.int hi u,.int 1 v]}).objs.size],_,_,H,rfl,
  I1.kept (t':=tk) λb o e=>X3t _ e,Xm6 _ lo (hi - lo).toNat,?_,λb hb=>?_,q⟩
 ·have e1:lo+((0:Nat):Int) * 1=lo:=by simp
  have e2:(((hi - lo).toNat:Nat):Int) - ((0:Nat):Int)=Builtin.Range.rangeSize lo hi 1:=by rw[rangeSize_one];split<;>omega
  show IsRangeIter _ _ (lo+((0:Nat):Int) * 1) ((((hi - lo).toNat:Nat):Int) - ((0:Nat):Int)) 1
  rw[e1,e2]
  exact Heap.get?_push_size _ rfl
 ·have e:b=(s.heap.push {cls:=.type "range",data:=.fields #[.int lo t,.int hi u,.int 1 v]}).objs.size:=by simpa using hb
  subst e
  exact I1.fpOk (Xzn _) (I1.hok.fresh (Xzn _))
def Xyp (ta:TA):TI:=fun σ H R=>ta σ H λvs H1=>∃j:Int,vs=[.int j] /\ -(2 ^ 62)<=j/\j<2 ^ 62/\R (Itr 0 j.toNat) H1
theorem Xdl{a:Expr}{ta:TA}{p pos:Pos}(hg:Gl X "range")(hm:X.mg "range" = none)(ha:PA X [a] ta)(hs:starEach [a] X.env=[(false,eval a X.env)]:=by rfl):PI X tg (.Call (.Name "range" p) [a] [] pos) (Xyp ta):=by
 intro pins s σ H R I h
 refine Call_ (Xhq I hg hm boot_range (PyProof.Rows.callWith_type1 (thn (ha pos pins s σ H _ I h) λus s1 ⟨vs,H1,I1,r1,q1⟩=>?_) hs rfl))
 obtain⟨j,e,q1,q2,q⟩:=q1
 subst e
 cases r1 with
 | cons r rr=>
  cases rr
  obtain⟨t,rfl⟩:=r
  exact call_range_1 (Xrd I1 (by omega) (by omega) q1 q2 (by simpa using q))
def tFor (wi:TI) (g:TG) (tb:TS):TS:=λD σ H=>wi σ H λJ H1=>∃W:Nat->Nat->St->Hp->Prop,(∃m,W 0 m σ H1)/\∀i m σ H,W i m σ H ->
 (J.stop i H/\D.nx σ H)\/(J.go i H/\∃N:St->Hp->Prop,(∀σ' H',N σ' H'->∃m',m'<m/\W (i+1) m' σ' H')/\∀x H',J.yld i H x H'->g x σ H' fun σ2 H2=>tb {D with nx:=N,ct:=N,bk:=D.nx} σ2 H2)
def Xi0 (fp:List Addr) (h:Heap):List (Addr×Obj):=fp.filterMap λb=>(h.get? b).map λo=>(b,o)
theorem Xdw{fp:List Addr}{h:Heap}{b:Addr}{o:Obj}(hb:b∈fp)(e:h.get? b=some o):(b,o)∈Xi0 fp h:=X23.mpr ⟨b,hb,by rw[e];rfl⟩
theorem Xoa{fp:List Addr}{h:Heap}{p:Addr×Obj}(hp:p∈Xi0 fp h):p.1∈fp/\h.get? p.1=some p.2:=by
 obtain⟨b,hb,e⟩:=X23.mp hp
 cases q:h.get? b with
 | none=>rw[q] at e;cases e
 | some o=>
  rw[q] at e
  have e':(b,o)=p:=Xz3 e
  subst e'
  exact⟨hb,q⟩
theorem Inv.pinned{pins:List (Addr×Obj)}{σ:St}{H:Hp}{s:Shared}{fp:List Addr}(I:Inv X pins σ H s)(hf:∀b∈fp,FpOk X pins H b)(ho:∀b∈fp,∃o,s.heap.get? b=some o/\∀v,o.data ≠ .cell v):Inv X (pins++Xi0 fp s.heap) σ H s:=
 I.pins_of λp hp=>(Xzw.mp hp).elim (λz=>I.pin p (X0f _ z)) λz=>by
  obtain⟨hb,e⟩:=Xoa z
  obtain⟨f0,f1,f2,_⟩:=hf p.1 hb
  obtain⟨o,e',d⟩:=ho p.1 hb
  rw[e] at e';cases e'
  exact⟨e,f0,f1,f2,d⟩
theorem Inv.unpinned{pins pl:List (Addr×Obj)}{σ:St}{H:Hp}{s:Shared}(I:Inv X (pins++pl) σ H s):Inv X pins σ H s:=I.pins_of λp hp=>I.pin p (X0f _ (X0w _ hp))
theorem Xdk{iter:Expr}{body:List Stmt}{wi:TI}{g:TG}{tb:TS}{pos:Pos}(hp:PassesOwn (model X.prog X.w) X.A X.env X.xe)(hc:X.calm=true)(hi:PI X tg iter wi)(hg:PG X tg g)(hb:PSs X body tb)
  (hs:∀x,foldedSetIterable iter X.env x=pure x:=by intro _;rfl):PS X (.For tg iter body [] pos) (tFor wi g tb):=by
 intro pins s σ H D I h
 refine wpAny_For (thn (hi pins s σ H _ I h) λv s1 h1=>thn h1 λitv s2 h2=>?_) hs
 obtain⟨it,fp,tn,J,H2,e,I2,T,st2,f2,W,⟨m0,w0⟩,turn⟩:=h2
 subst e
 have stat:∀{H':Hp},(∀b∈fp,H' b=none)->∀b∈fp,FpOk X pins H' b:=λhn b hb=>⟨hn b hb,(f2 b hb).2⟩
 refine codeAny_forLoop_any (λn s'=>∃i σ' H',Inv X pins σ' H' s'/\tn i s'.heap/\(∀b∈fp,H' b=none)/\W i n σ' H') ?_ m0 ⟨0, σ,H2,I2,st2,λb hb=>(f2 b hb).1,w0⟩
 rintro n s3 ⟨i, σ3,H3,I3,st3,fr3,w3⟩
 rcases turn i n σ3 H3 w3 with ⟨stop,qn⟩ | ⟨go,N,hN,step⟩
 ·refine wpAny_passesOwn hp (thn (T.done X rfl rfl rfl hc i pins s3 σ3 H3 X.xe I3 (stat fr3) st3 stop) λr s4 ⟨hr,I4⟩=>?_)
  subst hr
  exact wpAny_execs_nil ⟨σ3,H3,I4,qn⟩
 ·refine wpAny_passesOwn hp (thn (T.item X rfl rfl rfl hc i pins s3 σ3 H3 X.xe I3 (stat fr3) st3 go) λr s4 ⟨u,hr,h4⟩=>?_)
  subst hr
  refine wpAny_passesOwn hp (thn h4 λ_ s5 ⟨x,H5,I5,r5,y5,st5,fr5⟩=>?_)
  have I5':=I5.pinned (stat fr5) (T.obj _ _ st5)
  refine wpAny_passesOwn hp (thn (hg _ s5 σ3 H5 x u _ I5' r5 (step x H5 y5)) λ_ s6 ⟨σ6,H6,I6,q6⟩=>?_)
  refine wpAny_passesOwn hp (thn (hb _ s6 σ6 H6 _ I6 q6) λf s7 q7=>?_)
  have again:∀{σ7:St} {H7:Hp},Inv X (pins++Xi0 fp s5.heap) σ7 H7 s7->N σ7 H7->∃m,m<n/\∃i σ' H',Inv X pins σ' H' s7/\tn i s7.heap/\(∀b∈fp,H' b=none)/\W i m σ' H':=λ{σ7 H7} I7 n7=>by
   obtain⟨m',hm,w7⟩:=hN σ7 H7 n7
   refine⟨m',hm,i+1, σ7,H7,I7.unpinned,T.keep _ _ _ st5 λb hb o e=>(I7.pin (b,o) (X0f _ (X0f _ (Xdw hb e)))).1,λb hb=>?_,w7⟩
   obtain⟨o,e,d⟩:=T.obj _ _ st5 b hb
   exact(I7.pin (b,o) (X0f _ (X0f _ (Xdw hb e)))).2.1
  cases f with
  | next=>obtain⟨σ7,H7,I7,n7⟩:=q7;exact again I7 n7
  | cont=>obtain⟨σ7,H7,I7,n7⟩:=q7;exact again I7 n7
  | brk=>obtain⟨σ7,H7,I7,q7⟩:=q7;exact⟨σ7,H7,I7.unpinned,q7⟩
  | ret v=>obtain⟨x7, σ7,H7,I7,r7,q7⟩:=q7;exact⟨x7, σ7,H7,I7.unpinned,r7,q7⟩
end
theorem Xcr{K:PySem.W.Frag}{a:Addr}{xs:List V}{g:TG}{tb:TS}{D:Ends}{σ:St}{H:Hp}(Pv:Nat->St->Hp->Prop)(h0:Pv 0 σ H)(hl:∀i σ H,i<=xs.length->Pv i σ H->SqL K H a xs)
  (hs:∀i x σ H,xs[i]? = some x->Pv i σ H->g x σ H fun σ2 H2=>tb {D with nx:=Pv (i+1),ct:=Pv (i+1),bk:=D.nx} σ2 H2) (hd:∀σ H,Pv xs.length σ H->D.nx σ H):
  ∃W:Nat->Nat->St->Hp->Prop,(∃m,W 0 m σ H)/\∀i m σ H,W i m σ H ->
   ((Itl K a).stop i H/\D.nx σ H)\/((Itl K a).go i H/\∃N:St->Hp->Prop,(∀σ' H',N σ' H'->∃m',m'<m/\W (i+1) m' σ' H')/\∀x H',(Itl K a).yld i H x H'->g x σ H' fun σ2 H2=>tb {D with nx:=N,ct:=N,bk:=D.nx} σ2 H2):=by
 refine⟨λi m σ H=>m=xs.length - i/\i<=xs.length/\Pv i σ H,⟨xs.length,by simp,X0m _,h0⟩,?_⟩
 rintro i m σ H ⟨rfl,hi,p⟩
 have q:=hl i σ H hi p
 by_cases hlt:i<xs.length
 ·refine .inr ⟨⟨xs,xs[i],q,by simp[hlt]⟩,Pv (i+1),fun σ' H' p'=>⟨xs.length - (i+1),by omega,rfl,hlt,p'⟩,λx H' y=>?_⟩
  obtain⟨e,y⟩:=y
  subst e
  exact hs i x σ _ (y xs q) p
 ·have e:i=xs.length:=by omega
  subst e
  exact .inl ⟨⟨xs,q,Xzn _⟩,hd σ H p⟩
theorem Xem{lo:Int}{n:Nat}{g:TG}{tb:TS}{D:Ends}{σ:St}{H:Hp}(Pv:Nat->St->Hp->Prop)(h0:Pv 0 σ H)
  (hs:∀i σ H,i<n->Pv i σ H->g (.int (lo+i)) σ H fun σ2 H2=>tb {D with nx:=Pv (i+1),ct:=Pv (i+1),bk:=D.nx} σ2 H2) (hd:∀σ H,Pv n σ H->D.nx σ H):
  ∃W:Nat->Nat->St->Hp->Prop,(∃m,W 0 m σ H)/\∀i m σ H,W i m σ H ->
   ((Itr lo n).stop i H/\D.nx σ H)\/((Itr lo n).go i H/\∃N:St->Hp->Prop,(∀σ' H',N σ' H'->∃m',m'<m/\W (i+1) m' σ' H')/\∀x H',(Itr lo n).yld i H x H'->g x σ H' fun σ2 H2=>tb {D with nx:=N,ct:=N,bk:=D.nx} σ2 H2):=by
 refine⟨λi m σ H=>m=n - i/\i<=n/\Pv i σ H,⟨n,by simp,X0m _,h0⟩,?_⟩
 rintro i m σ H ⟨rfl,hi,p⟩
 by_cases hlt:i<n
 ·refine .inr ⟨hlt,Pv (i+1),fun σ' H' p'=>⟨n - (i+1),by omega,rfl,hlt,p'⟩,λx H' y=>?_⟩
  obtain⟨e,y⟩:=y
  subst e y
  exact hs i σ _ hlt p
 ·have e:i=n:=by omega
  subst e
  exact .inl ⟨Xzn _,hd σ H p⟩
abbrev R2:=V->V->Hp->VK->Prop
def OpR (X:Cx) (f:Value->Value->Sem Value) (r:R2):Prop:=
 ∀(pins:List (Addr×Obj)) (s:Shared) (σ:St) (H:Hp) (x y:V) (v u:Value) (Q:VK),Inv X pins σ H s->RelV x v->RelV y u->r x y H Q ->
  wpAny (model X.prog X.w) X.A (f v u) (EP X pins σ Q) X.xe s
def UnR (X:Cx) (f:Value->Sem Value) (r:V->Hp->VK->Prop):Prop:=
 ∀(pins:List (Addr×Obj)) (s:Shared) (σ:St) (H:Hp) (x:V) (v:Value) (Q:VK),Inv X pins σ H s->RelV x v->r x H Q ->
  wpAny (model X.prog X.w) X.A (f v) (EP X pins σ Q) X.xe s
def Xda (X:Cx) (f:Value) (r:List V->Hp->VK->Prop):Prop:=
 ∀(pins:List (Addr×Obj)) (s:Shared) (σ:St) (H:Hp) (xs:List V) (us:List Value) (Q:VK),Inv X pins σ H s->Vals xs us->r xs H Q ->
  wpAny (model X.prog X.w) X.A (call f us) (EP X pins σ Q) X.xe s
def TruR (X:Cx) (r:V->Hp->(Bool->Hp->Prop)->Prop):Prop:=
 ∀(pins:List (Addr×Obj)) (s:Shared) (σ:St) (H:Hp) (x:V) (v:Value) (Q:Bool->Hp->Prop),Inv X pins σ H s->RelV x v->r x H Q ->
  wpAny (model X.prog X.w) X.A (truthy v) (TP X pins σ Q) X.xe s
def tOp (r:R2) (ta tb:TE):TE:=fun σ H Q=>ta σ H λx H1=>tb σ H1 λy H2=>r x y H2 Q
def tUn (r:V->Hp->VK->Prop) (ta:TE):TE:=fun σ H Q=>ta σ H λx H1=>r x H1 Q
def rI (C:Int->Int->Prop) (g:Int->Int->V):R2:=λx y H Q=>∃i j,x = .int i/\y = .int j/\C i j/\Q (g i j) H
def rI0 (g:Int->Int->V):R2:=λx y H Q=>∃i j,x = .int i/\y = .int j/\Q (g i j) H
def rU (g:Int->V):V->Hp->VK->Prop:=λx H Q=>∃i,x = .int i/\Q (g i) H
section
variable {X:Cx}{a b c:Expr}{ta tb tc:TE}{pos:Pos}
theorem binT(ha:PE X a ta)(hb:PE X b tb){pins:List (Addr×Obj)}{s:Shared}{σ:St}{H:Hp}{R:V->V->Hp->Prop}(I:Inv X pins σ H s)
  (h:ta σ H λx H1=>tb σ H1 λy H2=>R x y H2) {Q:Value->Shared->Prop} {f:Value->Value->Sem Value}
  (hf:∀v u s2 x y H2,Inv X pins σ H2 s2->RelV x v->RelV y u->R x y H2->wpAny (model X.prog X.w) X.A (f v u) Q X.xe s2):
  wpAny (model X.prog X.w) X.A (eval a X.env) (λv s₁=>wpAny (model X.prog X.w) X.A (eval b X.env) (λu s₂=>wpAny (model X.prog X.w) X.A (f v u) Q X.xe s₂) X.xe s₁) X.xe s:=by
 refine thn (ha pins s σ H _ I h) λv s1 ⟨x,H1,I1,r1,q1⟩=>?_
 refine thn (hb pins s1 σ H1 _ I1 q1) λu s2 ⟨y,H2,I2,r2,q2⟩=>?_
 exact hf v u s2 x y H2 I2 r1 r2 q2
theorem Xar{op:Operator}{r:R2}(ho:OpR X (binaryOp op) r)(ha:PE X a ta)(hb:PE X b tb):PE X (.BinOp a op b pos) (tOp r ta tb):=by
 intro pins s σ H Q I h
 exact wpAny_BinOp (binT ha hb I h λv u s2 x y H2 I2 rx ry q=>ho pins s2 σ H2 x y v u Q I2 rx ry q)
theorem Xyq{op:UnaryOp}{r:V->Hp->VK->Prop}(ho:UnR X (unaryOp op) r)(ha:PE X a ta):PE X (.UnaryOp op a pos) (tUn r ta):=by
 intro pins s σ H Q I h
 exact UnaryOp_ (thn (ha pins s σ H _ I h) λv s1 ⟨x,H1,I1,r1,q1⟩=>ho pins s1 σ H1 x v Q I1 r1 q1)
theorem opI{f:Value->Value->Sem Value}{C:Int->Int->Prop}{g:Int->Int->Int}
  (rule:∀(i j:Int) (t u:Tok) (s:Shared) (Q:Value->Shared->Prop) (E:Value->Shared->Prop),C i j->Q (.int (g i j) s.toks) {s with toks:=s.toks+1}->wpAny (model X.prog X.w) X.A (f (.int i t) (.int j u)) Q E s):
  OpR X f (rI C λi j=>.int (g i j)):=by
 intro pins s σ H x y v u Q I rx ry h
 obtain⟨i,j,rfl,rfl,hc,q⟩:=h
 obtain⟨t,rfl⟩:=rx
 obtain⟨t',rfl⟩:=ry
 exact rule i j t t' s _ _ hc ⟨.int (g i j),H,I.tok _,⟨_,rfl⟩,q⟩
theorem opI0{f:Value->Value->Sem Value}{g:Int->Int->Int}
  (rule:∀(i j:Int) (t u:Tok) (s:Shared) (Q:Value->Shared->Prop) (E:Value->Shared->Prop),Q (.int (g i j) s.toks) {s with toks:=s.toks+1}->wpAny (model X.prog X.w) X.A (f (.int i t) (.int j u)) Q E s):
  OpR X f (rI0 λi j=>.int (g i j)):=by
 intro pins s σ H x y v u Q I rx ry h
 obtain⟨i,j,rfl,rfl,q⟩:=h
 obtain⟨t,rfl⟩:=rx
 obtain⟨t',rfl⟩:=ry
 exact rule i j t t' s _ _ ⟨.int (g i j),H,I.tok _,⟨_,rfl⟩,q⟩
theorem opB0{f:Value->Value->Sem Value}{g:Int->Int->Bool}
  (rule:∀(i j:Int) (t u:Tok) (s:Shared) (Q:Value->Shared->Prop) (E:Value->Shared->Prop),Q (.bool (g i j)) s->wpAny (model X.prog X.w) X.A (f (.int i t) (.int j u)) Q E s):
  OpR X f (rI0 λi j=>.bl (g i j)):=by
 intro pins s σ H x y v u Q I rx ry h
 obtain⟨i,j,rfl,rfl,q⟩:=h
 obtain⟨t,rfl⟩:=rx
 obtain⟨t',rfl⟩:=ry
 exact rule i j t t' s _ _ ⟨.bl (g i j),H,I,rfl,q⟩
def CDiv (i j:Int):Prop:=0<j/\j<1073741824
def CPow (i j:Int):Prop:=0<=j/\j<=1000000/\i.natAbs<2 ^ 64
def CMul (i j:Int):Prop:=(-(2 ^ 64)<i/\i<2 ^ 64)\/(-(2 ^ 64)<j/\j<2 ^ 64)
theorem CMul.ok{i j:Int}(h:CMul i j):IntMulOk i j:=by
 rcases h with ⟨h1,h2⟩ | ⟨h1,h2⟩
 ·exact .of_left (intBits_le_64 h1 h2)
 ·exact .of_right (intBits_le_64 h1 h2)
theorem Xb1:OpR X (binaryOp .Add) (rI0 λi j=>.int (i+j)):=opI0 λ_ _ _ _ _ _ _ q=>add_int q
theorem Xwk:OpR X (binaryOp .Sub) (rI0 λi j=>.int (i - j)):=opI0 λ_ _ _ _ _ _ _ q=>sub_int q
theorem Xtg:OpR X (binaryOp .Mult) (rI CMul λi j=>.int (i * j)):=opI λ_ _ _ _ _ _ _ hc q=>mul_int q hc.ok
theorem Xob:OpR X (binaryOp .FloorDiv) (rI CDiv λi j=>.int (i / j)):=opI λi j _ _ _ _ _ hc q=>by
 have h1:(0:Int)<j:=hc.1
 have h2:j<1073741824:=hc.2
 exact floordiv_int (by omega) (by rw[Int.fdiv_eq_ediv_of_nonneg i (by omega)];exact q) (.inl (PyProof.noPylong_small (by omega)))
theorem Xhr:OpR X (binaryOp .Mod) (rI (λ_ j=>0<j) λi j=>.int (i % j)):=opI λi j _ _ _ _ _ hc q=>by
 have h1:(0:Int)<j:=hc
 exact mod_int' (by omega) (by rw[Int.fmod_eq_emod_of_nonneg i (by omega)];exact q)
theorem Xth:OpR X (binaryOp .Pow) (rI CPow λi j=>.int (i ^ j.toNat)):=opI λ_ _ _ _ _ _ _ hc q=>pow_int_small hc.1 hc.2.1 hc.2.2 q
theorem unI{f:Value->Sem Value}{g:Int->Int}
  (rule:∀(i:Int) (t:Tok) (s:Shared) (Q:Value->Shared->Prop) (E:Value->Shared->Prop),Q (.int (g i) s.toks) {s with toks:=s.toks+1}->wpAny (model X.prog X.w) X.A (f (.int i t)) Q E s):
  UnR X f (rU λi=>.int (g i)):=by
 intro pins s σ H x v Q I rx h
 obtain⟨i,rfl,q⟩:=h
 obtain⟨t,rfl⟩:=rx
 exact rule i t s _ _ ⟨.int (g i),H,I.tok _,⟨_,rfl⟩,q⟩
theorem Xwl:UnR X (unaryOp .USub) (rU λi=>.int (-i)):=unI λ_ _ _ _ _ q=>neg_int q
end
def scal:V->V->Bool
 | .non,.non=>true | .non,.int _=>true | .int _,.non=>true | .non,.bl _=>true | .bl _,.non=>true | .non,.str _=>true | .str _,.non=>true
 | .int _,.int _=>true | .bl _,.bl _=>true | .str _,.str _=>true | .byt _,.byt _=>true
 | .int _,.str _=>true | .str _,.int _=>true | .bl _,.str _=>true | .str _,.bl _=>true
 | _,_=>false
def rEq:R2:=λx y H Q=>scal x y=true/\Q (.bl (decide (x=y))) H
def rNe:R2:=λx y H Q=>scal x y=true/\Q (.bl (!decide (x=y))) H
theorem Xoc{i j:Int}:decide (V.int i=V.int j)=(i==j):=by
 rw[X0y]
 simp
theorem Xod{i j:Bool}:decide (V.bl i=V.bl j)=(i==j):=by
 rw[X0y]
 simp
theorem Xoe{i j:Str}:decide (V.str i=V.str j)=(i==j):=by
 rw[X0y]
 simp
theorem Xof{i j:Array UInt8}:decide (V.byt i=V.byt j)=(i.toList==j.toList):=by
 rw[X0y]
 cases i
 cases j
 simp
section
variable {X:Cx}{a b c:Expr}{ta tb tc:TE}{pos:Pos}
theorem Xa6{pins:List (Addr×Obj)}{σ:St}{H:Hp}{s:Shared}{Q:VK}{k k':Bool}(I:Inv X pins σ H s)(q:Q (.bl k) H)(e:k=k'):EP X pins σ Q (.bool k') s:=by
 subst e
 exact⟨.bl k,H,I,rfl,q⟩
theorem Xcz:OpR X (compareOp .Eq) rEq:=by
 intro pins s σ H x y v u Q I rx ry h
 obtain⟨hs,q⟩:=h
 cases x with
 | non=>
  cases rx
  cases y with
  | non=>cases ry;exact PySem.EqNone.eq_none_none (Xa6 I q (by simp))
  | bl j=>cases ry;exact PySem.EqNone.eq_none_bool (Xa6 I q (by simp))
  | int j=>obtain⟨t',rfl⟩:=ry;exact PySem.EqNone.eq_none_int (Xa6 I q (by simp))
  | str j=>obtain⟨t',rfl⟩:=ry;exact PySem.EqNone.eq_none_str (Xa6 I q (by simp))
  | _=>exact absurd (show false=true from hs) Xz1
 | bl i=>
  cases rx
  cases y with
  | non=>cases ry;exact PySem.EqNone.eq_bool_none (Xa6 I q (by simp))
  | bl j=>cases ry;exact eq_bool (Xa6 I q Xod)
  | str j=>obtain⟨t',rfl⟩:=ry;exact PySem.EqMixed.eq_bool_str (Xa6 I q (by simp))
  | _=>exact absurd (show false=true from hs) Xz1
 | int i=>
  obtain⟨t,rfl⟩:=rx
  cases y with
  | non=>cases ry;exact PySem.EqNone.eq_int_none (Xa6 I q (by simp))
  | int j=>obtain⟨t',rfl⟩:=ry;exact eq_int (Xa6 I q Xoc)
  | str j=>obtain⟨t',rfl⟩:=ry;exact PySem.EqMixed.eq_int_str (Xa6 I q (by simp))
  | _=>exact absurd (show false=true from hs) Xz1
 | str i=>
  obtain⟨t,rfl⟩:=rx
  cases y with
  | non=>cases ry;exact PySem.EqNone.eq_str_none (Xa6 I q (by simp))
  | bl j=>cases ry;exact PySem.EqMixed.eq_str_bool (Xa6 I q (by simp))
  | int j=>obtain⟨t',rfl⟩:=ry;exact PySem.EqMixed.eq_str_int (Xa6 I q (by simp))
  | str j=>obtain⟨t',rfl⟩:=ry;exact eq_str (Xa6 I q Xoe)
  | _=>exact absurd (show false=true from hs) Xz1
 | byt i=>
  obtain⟨t,rfl⟩:=rx
  cases y with
  | byt j=>obtain⟨t',rfl⟩:=ry;exact PySem.W.eq_bytes (Xa6 I q Xof)
  | _=>exact absurd (show false=true from hs) Xz1
 | _=>cases y<;>exact absurd (show false=true from hs) Xz1
theorem Xt8:OpR X (compareOp .NotEq) rNe:=by
 intro pins s σ H x y v u Q I rx ry h
 obtain⟨hs,q⟩:=h
 cases x with
 | non=>
  cases rx
  cases y with
  | non=>cases ry;exact PySem.EqNone.ne_none_none (Xa6 I q (by simp))
  | bl j=>cases ry;exact PySem.EqNone.ne_none_bool (Xa6 I q (by simp))
  | int j=>obtain⟨t',rfl⟩:=ry;exact PySem.EqNone.ne_none_int (Xa6 I q (by simp))
  | str j=>obtain⟨t',rfl⟩:=ry;exact PySem.EqNone.ne_none_str (Xa6 I q (by simp))
  | _=>exact absurd (show false=true from hs) Xz1
 | bl i=>
  cases rx
  cases y with
  | non=>cases ry;exact PySem.EqNone.ne_bool_none (Xa6 I q (by simp))
  | bl j=>cases ry;exact ne_bool (Xa6 I q (congrArg not Xod))
  | str j=>obtain⟨t',rfl⟩:=ry;exact PySem.EqMixed.ne_bool_str (Xa6 I q (by simp))
  | _=>exact absurd (show false=true from hs) Xz1
 | int i=>
  obtain⟨t,rfl⟩:=rx
  cases y with
  | non=>cases ry;exact PySem.EqNone.ne_int_none (Xa6 I q (by simp))
  | int j=>obtain⟨t',rfl⟩:=ry;exact ne_int (Xa6 I q (congrArg not Xoc))
  | str j=>obtain⟨t',rfl⟩:=ry;exact PySem.EqMixed.ne_int_str (Xa6 I q (by simp))
  | _=>exact absurd (show false=true from hs) Xz1
 | str i=>
  obtain⟨t,rfl⟩:=rx
  cases y with
  | non=>cases ry;exact PySem.EqNone.ne_str_none (Xa6 I q (by simp))
  | bl j=>cases ry;exact PySem.EqMixed.ne_str_bool (Xa6 I q (by simp))
  | int j=>obtain⟨t',rfl⟩:=ry;exact PySem.EqMixed.ne_str_int (Xa6 I q (by simp))
  | str j=>obtain⟨t',rfl⟩:=ry;exact ne_str (Xa6 I q (congrArg not Xoe))
  | _=>exact absurd (show false=true from hs) Xz1
 | byt i=>
  obtain⟨t,rfl⟩:=rx
  cases y with
  | byt j=>obtain⟨t',rfl⟩:=ry;exact PySem.W.ne_bytes (Xa6 I q (congrArg not Xof))
  | _=>exact absurd (show false=true from hs) Xz1
 | _=>cases y<;>exact absurd (show false=true from hs) Xz1
theorem Xf0:OpR X (compareOp .Lt) (rI0 λi j=>.bl (decide (i<j))):=opB0 λ_ _ _ _ _ _ _ q=>lt_int q
theorem Xyr:OpR X (compareOp .Gt) (rI0 λi j=>.bl (decide (j<i))):=opB0 λ_ _ _ _ _ _ _ q=>gt_int q
theorem Xwm:OpR X (compareOp .GtE) (rI0 λi j=>.bl (decide (j<=i))):=opB0 λ_ _ _ _ _ _ _ q=>ge_int q
theorem Xi1:OpR X (compareOp .Lt) (λx y H Q=>∃i j,x = .str i/\y = .str j/\Q (.bl (decide (i.cps.toList<j.cps.toList))) H):=by
 intro pins s σ H x y v u Q I rx ry h
 obtain⟨i,j,rfl,rfl,q⟩:=h
 obtain⟨t,rfl⟩:=rx
 obtain⟨t',rfl⟩:=ry
 exact lt_str (Xa6 I q rfl)
theorem Xwn:OpR X (compareOp .Is) (λx y H Q=>y = .non/\Q (.bl (decide (x = .non))) H):=by
 intro pins s σ H x y v u Q I rx ry h
 obtain⟨rfl,q⟩:=h
 cases ry
 refine is_none_gen (Xa6 I q ?_)
 cases x<;>first
  | (cases rx;rfl)
  | (obtain⟨t,rfl⟩:=rx;rfl)
def isObj:HO->Bool
 | .lst _=>true
 | .ins _ _ _=>true
 | _=>false
theorem nomark(b:Expr){op:CmpOp}(h:op ≠ .In:=by decide)(h2:op ≠ .NotIn:=by decide):behindInMarks op b=false:=by
 have e1:(op==CmpOp.In)=false:=by cases op<;>first | rfl | exact absurd rfl h
 have e2:(op==CmpOp.NotIn)=false:=by cases op<;>first | rfl | exact absurd rfl h2
 cases b<;>simp[behindInMarks,e1,e2]
theorem Xby{op:CmpOp}{r:R2}(ho:OpR X (compareOp op) r)(ha:PE X a ta)(hb:PE X b tb)(hm:behindInMarks op b=false):PE X (.Compare a [op] [b] pos) (tOp r ta tb):=by
 intro pins s σ H Q I h
 exact wpAny_Compare1 (binT ha hb I h λv u s2 x y H2 I2 rx ry q=>ho pins s2 σ H2 x y v u Q I2 rx ry q) hm
def Xt9 (t:TE):TT:=fun σ H Q=>t σ H λx H'=>∃k,x = .bl k/\Q k H'
theorem Xam{op:CmpOp}{r:R2}(ho:OpR X (compareOp op) r)(ha:PE X a ta)(hb:PE X b tb)(hm:behindInMarks op b=false):PT X (.Compare a [op] [b] pos) (Xt9 (tOp r ta tb)):=by
 intro pins s σ H Q I h
 refine wpAny_isTrue_Compare1 (thn (ha pins s σ H _ I h) λv s1 ⟨x,H1,I1,r1,q1⟩=>thn (hb pins s1 σ H1 _ I1 q1) λu s2 ⟨y,H2,I2,r2,q2⟩=>
  thn (ho pins s2 σ H2 x y v u _ I2 r1 r2 q2) λc s3 ⟨z,H3,I3,r3,k,e,q3⟩=>?_) hm
 subst e
 cases r3
 exact wpAny_truthy_bool ⟨H3,I3,q3⟩
def Xog (r r':R2) (ta tb tc:TE):TE:=fun σ H Q=>ta σ H λx H1=>tb σ H1 λy H2=>r x y H2 λz H3=>∃k,z = .bl k /\
 (if k=true then tc σ H3 λw' H4=>r' y w' H4 Q else Q (.bl false) H3)
theorem Xly{op op':CmpOp}{r r':R2}(ho:OpR X (compareOp op) r)(ho':OpR X (compareOp op') r')(ha:PE X a ta)(hb:PE X b tb)(hc:PE X c tc)
  (hm:lastMarks [op,op'] [b,c]=false:=by with_unfolding_all rfl):PE X (.Compare a [op,op'] [b,c] pos) (Xog r r' ta tb tc):=by
 intro pins s σ H Q I h
 refine Compare_chain (thn (ha pins s σ H _ I h) λv s1 ⟨x,H1,I1,r1,q1⟩=>chain_link (thn (hb pins s1 σ H1 _ I1 q1) λu s2 ⟨y,H2,I2,r2,q2⟩=>
  thn (ho pins s2 σ H2 x y v u _ I2 r1 r2 q2) λd s3 ⟨z,H3,I3,r3,k,e,q3⟩=>?_)) hm
 subst e
 cases r3
 refine wpAny_truthy_bool ?_
 cases k with
 | false=>exact ite_ff ⟨.bl false,H3,I3,rfl,q3⟩
 | true=>exact ite_tt (chain_last (thn (hc pins s3 σ H3 _ I3 q3) λw' s4 ⟨z',H4,I4,r4,q4⟩=>ho' pins s4 σ H4 y z' u w' Q I4 r2 r4 q4))
theorem Xre{op op':CmpOp}{r r':R2}(ho:OpR X (compareOp op) r)(ho':OpR X (compareOp op') r')(ha:PE X a ta)(hb:PE X b tb)(hc:PE X c tc)
  (hm:lastMarks [op,op'] [b,c]=false:=by with_unfolding_all rfl):PT X (.Compare a [op,op'] [b,c] pos) (Xt9 (Xog r r' ta tb tc)):=by
 intro pins s σ H Q I h
 refine isTrue_chain (thn (ha pins s σ H _ I h) λv s1 ⟨x,H1,I1,r1,q1⟩=>test_link (thn (hb pins s1 σ H1 _ I1 q1) λu s2 ⟨y,H2,I2,r2,q2⟩=>
  thn (ho pins s2 σ H2 x y v u _ I2 r1 r2 q2) λd s3 ⟨z,H3,I3,r3,k,e,q3⟩=>?_)) hm
 subst e
 cases r3
 refine wpAny_truthy_bool ?_
 cases k with
 | false=>
  obtain⟨k',e',q'⟩:=q3
  cases e'
  exact ite_ff ⟨H3,I3,q'⟩
 | true=>
  refine ite_tt (test_last (thn (hc pins s3 σ H3 _ I3 q3) λw' s4 ⟨z',H4,I4,r4,q4⟩=>thn (ho' pins s4 σ H4 y z' u w' _ I4 r2 r4 q4) λd' s5 ⟨z2,H5,I5,r5,k2,e2,q5⟩=>?_))
  subst e2
  cases r5
  exact wpAny_truthy_bool ⟨H5,I5,q5⟩
def TruV (K:PySem.W.Frag) (x:V) (H:Hp) (k:Bool):Prop:=
 match x with
 | .non=>k=false
 | .bl b=>k=b
 | .int i=>k=(i != 0)
 | .str y=>y.length<=sizeLine/\k=((y.length:Int) != 0)
 | .byt y=>y.size<=sizeLine/\k=((y.size:Int) != 0)
 | .ref p=>(∃xs,SqL K H p xs/\k = !xs.isEmpty)\/(∃xs,SqT K H p xs/\k = !xs.isEmpty) \/ ∃kvs,H p=some (.dK kvs)/\k = !kvs.isEmpty
 | _=>False
theorem Xm7{κ : Type}{kvs:List (κ × V)}{vs:List (κ × Value)}(r:KV kvs vs):(!vs.isEmpty) = !kvs.isEmpty:=by
 cases r<;>rfl
theorem Xhs{xs:List V}{its:List Value}(r:Vals xs its):(!its.toArray.isEmpty) = !xs.isEmpty:=by
 cases r<;>simp
theorem line63:(sizeLine:Nat)<2 ^ 63:=by rw[X3l];decide
theorem Xwo:TruR X (λx H Q=>∃k,TruV X.K x H k/\Q k H):=by
 intro pins s σ H x v Q I rx h
 obtain⟨k,e,q⟩:=h
 have hl:=line63
 have hs:sizeLine=16777216:=X3l
 cases x with
 | non=>
  cases rx
  have e':k=false:=e
  subst e'
  exact truthy_none ⟨H,I,q⟩
 | bl b=>
  cases rx
  have e':k=b:=e
  subst e'
  exact wpAny_truthy_bool ⟨H,I,q⟩
 | int i=>
  obtain⟨t,rfl⟩:=rx
  have e':k=(i != 0):=e
  subst e'
  exact PySem.P.truthy_int ⟨H,I,q⟩
 | str y=>
  obtain⟨t,rfl⟩:=rx
  obtain⟨hy,e'⟩:y.length<=sizeLine/\k=((y.length:Int) != 0):=e
  subst e'
  exact PySem.P.truthy_str (by omega) ⟨H,I.tok _,q⟩
 | byt y=>
  obtain⟨t,rfl⟩:=rx
  obtain⟨hy,e'⟩:y.size<=sizeLine/\k=((y.size:Int) != 0):=e
  subst e'
  exact PySem.W.truthy_bytes (by omega) ⟨H,I.tok _,q⟩
 | ref p=>
  cases rx
  have e':(∃xs,SqL X.K H p xs/\k = !xs.isEmpty)\/(∃xs,SqT X.K H p xs/\k = !xs.isEmpty) \/ ∃kvs,H p=some (.dK kvs)/\k = !kvs.isEmpty:=e
  rcases e' with ⟨xs,hx,e'⟩ | ⟨xs,hx,e'⟩ | ⟨kvs,hx,e'⟩
  ·subst e'
   obtain⟨its,r,pl,hz⟩:=I.list hx
   have hlen:=r.length
   exact wpAny_truthy_list pl.isList (by simp only[Xzp];omega) ⟨H,I.tok _,by rw[Xhs r];exact q⟩
  ·subst e'
   obtain⟨its,r,pl,hz⟩:=I.tuple hx
   have hlen:=r.length
   exact truthy_tuple pl (by simp only[Xzp];omega) ⟨H,I.tok _,by rw[Xhs r];exact q⟩
  ·subst e'
   obtain⟨hz,hS,vs,r,m⟩:kvs.length<=sizeLine/\(p==sysModules)=false/\∃vs,KV kvs vs/\s.heap.DictOf (Xau X.prog X.w) p vs:=I.hok p _ hx
   have hlen:kvs.length=vs.length:=Paired.length r
   exact wpAny_truthy_dict hS m (by omega) ⟨H,I.tok _,by rw[Xm7 r];exact q⟩
 | _=>exact(show False from e).elim
theorem Xrf(ha:PE X a ta)(he:∀whole,isTrue a X.env whole=(do let v <-whole;standAt a.pos;holding [v] (truthy v))):
  PT X a (fun σ H Q=>ta σ H λx H'=>∃k,TruV X.K x H' k/\Q k H'):=by
 intro pins s σ H Q I h
 exact isTrue_plain (thn (ha pins s σ H _ I h) λv s1 ⟨x,H1,I1,r1,q1⟩=>Xwo pins s1 σ H1 x v Q I1 r1 q1) (he _)
theorem Xdx:OpR X (binaryOp .Add) (λx y H Q=>∃i j,x = .str i/\y = .str j/\i.length+j.length<=sizeLine/\Q (.str (i++j)) H):=by
 intro pins s σ H x y v u Q I rx ry h
 obtain⟨i,j,rfl,rfl,hz,q⟩:=h
 obtain⟨t,rfl⟩:=rx
 obtain⟨t',rfl⟩:=ry
 exact add_str (λt' tk=>⟨.str (i++j),H,I.tok _,⟨_,rfl⟩,q⟩) hz
theorem vals1{x:V}{us:List Value}(r:Vals [x] us):∃u,us=[u]/\RelV x u:=by
 cases r with
 | cons r1 r2=>cases r2;exact⟨_,rfl,r1⟩
theorem vals2{x y:V}{us:List Value}(r:Vals [x,y] us):∃u w',us=[u,w']/\RelV x u/\RelV y w':=by
 cases r with
 | cons r1 r2=>
  cases r2 with
  | cons r3 r4=>cases r4;exact⟨_,_,rfl,r1,r3⟩
theorem Xoh(hc:X.calm=true):Xda X (.builtin "min") (λxs H Q=>∃i j,xs=[.int i,.int j]/\Q (.int (if j<i then j else i)) H):=by
 intro pins s σ H xs us Q I r h
 obtain⟨i,j,rfl,q⟩:=h
 obtain⟨u,w',rfl,⟨t,rfl⟩,⟨t',rfl⟩⟩:=vals2 r
 refine min_two_ints (I.ok.hd hc) λh' tk k=>⟨_,H,I.kept k,?_,q⟩
 by_cases hj:j<i
 ·rw[X3n hj,X3n hj];exact⟨_,rfl⟩
 ·rw[X3m hj,X3m hj];exact⟨_,rfl⟩
theorem Xen:Xda X (.type "int") (λxs H Q=>(∃i,xs=[.int i]/\Q (.int i) H) \/ ∃k,xs=[.bl k]/\Q (.int (if k then 1 else 0)) H):=by
 intro pins s σ H xs us Q I r h
 rcases h with ⟨i,rfl,q⟩ | ⟨k,rfl,q⟩
 ·obtain⟨u,rfl,t,rfl⟩:=vals1 r
  exact call_int_int ⟨.int i,H,I,⟨_,rfl⟩,q⟩
 ·obtain⟨u,rfl,r1⟩:=vals1 r
  cases r1
  exact call_int_bool ⟨.int (if k then 1 else 0),H,I.tok _,⟨_,rfl⟩,q⟩
def LenV (K:PySem.W.Frag) (x:V) (H:Hp) (n:Nat):Prop:=
 match x with
 | .str y=>y.length<=sizeLine/\n=y.length
 | .byt y=>y.size<=sizeLine/\n=y.size
 | .ref p=>(∃xs,SqL K H p xs/\n=xs.length) \/ ∃xs,SqT K H p xs/\n=xs.length
 | _=>False
end
structure ObjM (h:Heap) (x dx C:Addr) (mA:Str->Option Value):Prop where
 obj:h.get? x=some (PySem.W.instObj C dx)
 ns:h.Ns1 dx mA
 ne:dx≠x
theorem Xoi{h:Heap}{dx:Addr}{mA:Str->Option Value}(n:h.Ns1 dx mA):∃od,h.get? dx=some od/\∀name,PySem.W.lookIn name od=some (mA name):=by
 obtain⟨o,es,ep,ho,hd,hk,_,hm⟩:=n
 refine⟨o,ho,λname=>?_⟩
 have e:=hm name
 unfold nsFind findBy at e
 rw[<-Array.find?_toList] at e
 unfold PySem.W.lookIn
 rw[hd]
 dsimp only
 split
 ·rename_i y q
  rw[q] at e
  exact congrArg some e
 ·rename_i q
  rw[q] at e
  have a:es.toList.any (·.refKey)=false:=by
   rw[List.any_eq_false]
   intro y hy
   obtain⟨z,t,hkey⟩:=hk y (Array.mem_toList_iff.mp hy)
   simp[DictEntry.refKey,hkey]
  have a':¬es.toList.any (·.refKey)=true:=by rw[a];exact Xz1
  rw[X3m a']
  exact congrArg some e
theorem ObjM.look{h:Heap}{x dx C:Addr}{mA:Str->Option Value}(I:ObjM h x dx C mA):∃od,PySem.W.InstAt h x (PySem.W.instObj C dx) C (some od)/\∀name,PySem.W.lookIn name od=some (mA name):=
 let ⟨od,ho,hl⟩:=Xoi I.ns
 ⟨od,⟨I.obj,rfl,rfl,ho⟩,hl⟩
section
variable {prog:Program}{w:World}{A:Around}{E:Value->Shared->Prop}{s:Shared}{K:PySem.W.Frag}{x dx C f:Addr}{mA:Str->Option Value}{name:Str}{v:Value}
end
def putF (f:Str) (v:V):List (Str×V)->List (Str×V)
 | []=>[(f,v)]
 | (g,x)::r=>if g=f then (g,v)::r else (g,x)::putF f v r
theorem RelO.some_of{v:V}{o:Option Value}(r:RelO (some v) o):∃u,o=some u/\RelV v u:=by
 cases o with
 | none=>exact(show False from r).elim
 | some u=>exact⟨u,rfl,r⟩
section
variable {P:Program}{w:World}{H H':Hp}{h h':Heap}{a C dx:Addr}{fs fs':List (Str×V)}
theorem Xua(hok:HOk P w H h)(e:H a=some (.ins C dx fs)):∃mA,ObjM h a dx C mA/\(∀f,RelO (fs.lookup f) (mA f))/\PySem.Within mA (fs.map (·.1))/\fs.length<=1000/\H dx=some (.own a):=by
 obtain⟨d,z,ne,ob,mA,n,r,q⟩:=(show Xbh P w H h a (.ins C dx fs) from hok a _ e)
 exact⟨mA,⟨ob,n,ne⟩,r,q,z,d⟩
end
structure Cls (K:PySem.W.Frag) (C:Addr):Prop where
 pg:PySem.W.plainGet K C Str.empty=true
 hd:PySem.W.hasDictIn K C=true
 po:PySem.W.plainOver K C=true
 sa:PySem.W.findIn K (.ref C) "__setattr__" = some (some (.builtin "object.__setattr__"))
theorem Cls.get{K:PySem.W.Frag}{C:Addr}(c:Cls K C)(f:Str):PySem.W.plainGet K C f=true:=c.pg
def Xoj (K:PySem.W.Frag) (C:Addr) (f:Str):Prop:=PySem.W.findIn K (.ref C) f=some none
structure Con (K:PySem.W.Frag) (C:Addr) (f:Str) (v:V) (u:Value):Prop where
 at_:PySem.W.findIn K (.ref C) f=some (some u)
 rel:RelV v u
 get:PySem.W.specialIn K u "__get__" = some none
 cp:PySem.W.copiedNames.contains f=false
structure Meth (K:PySem.W.Frag) (C:Addr) (m:Str) (f:Addr):Prop where
 at_:PySem.W.findIn K (.ref C) m=some (some (.ref f))
 fn:PySem.W.isFn K (.ref f)=true
 kp:PySem.W.keepIn K (.ref f)=true
section
variable {X:Cx}{pins:List (Addr×Obj)}{σ:St}{H:Hp}{s:Shared}{a C dx:Addr}{fs:List (Str×V)}{f:Str}{v:V}{A:Around}{E:Value->Shared->Prop}
end
def tFld (K:PySem.W.Frag) (ta:TE) (f:Str):TE:=fun σ H Q=>ta σ H λx H1=>∃a C dx fs v,x = .ref a/\H1 a=some (.ins C dx fs)/\Cls K C/\Xoj K C f/\fs.lookup f=some v/\Q v H1
def tCon (K:PySem.W.Frag) (ta:TE) (f:Str):TE:=fun σ H Q=>ta σ H λx H1=>∃a C dx fs v u,x = .ref a/\H1 a=some (.ins C dx fs)/\Cls K C/\Con K C f v u/\fs.lookup f=none/\Q v H1
def sFld (K:PySem.W.Frag) (ta tv:TE) (f:Str):TS:=λD σ H=>tv σ H λy H1=>ta σ H1 λx H2=>∃a C dx fs,x = .ref a/\H2 a=some (.ins C dx fs)/\Cls K C/\Xoj K C f/\fs.length<1000 /\
 D.nx σ (upd H2 a (.ins C dx (putF f y fs)))
def InOp (X:Cx) (op:Operator) (rd:V->V->Hp->VK->Prop):Prop:=
 ∀(pins:List (Addr×Obj)) (s:Shared) (σ:St) (H:Hp) (x y:V) (u v:Value) (Q:VK),Inv X pins σ H s->RelV x u->RelV y v->rd x y H Q->wpAny (model X.prog X.w) X.A (inplaceOp op u v) (EP X pins σ Q) X.xe s
def Xys (K:PySem.W.Frag) (ta tv:TE) (rd:V->V->Hp->VK->Prop) (f:Str):TS:=λD σ H=>ta σ H λx H1=>∃a C dx fs v,x = .ref a/\H1 a=some (.ins C dx fs)/\Cls K C/\Xoj K C f/\fs.lookup f=some v /\
 tv σ H1 λy H2=>rd v y H2 λz H3=>∃dx' fs',H3 a=some (.ins C dx' fs')/\fs'.length<1000/\D.nx σ (upd H3 a (.ins C dx' (putF f z fs')))
section
variable {X:Cx}{o e value:Expr}{f:Str}{pos pos' tpos:Pos}{ta tv:TE}
end
section
variable {X:Cx}{pins:List (Addr×Obj)}{σ:St}{H:Hp}{s:Shared}{A:Around}{E:Value->Shared->Prop}{Q:Value->Shared->Prop}{c:Value}{b:Bool}
inductive TyOf (K:PySem.W.Frag) (H:Hp):V->Value->Prop where
 | non:TyOf K H .non (.type "NoneType")
 | bl (x:Bool):TyOf K H (.bl x) (.type "bool")
 | int (i:Int):TyOf K H (.int i) (.type "int")
 | str (x:Str):TyOf K H (.str x) (.type "str")
 | flt (x:UInt64):TyOf K H (.flt x) (.type "float")
 | lst {a:Addr} {xs:List V} (e:H a=some (.lst xs)):TyOf K H (.ref a) (.type "list")
 | frz {a:Addr} {o:Obj} {xs:List V} (e:H a=some (.frz o (.lst xs))):TyOf K H (.ref a) (.type "list")
 | tup {a:Addr} {xs:List V} (e:H a=some (.tup xs)):TyOf K H (.ref a) (.type "tuple")
 | dK {a:Addr} {kvs:List (Key×V)} (e:H a=some (.dK kvs)):TyOf K H (.ref a) (.type "dict")
 | dT {a:Addr} {kvs:List (List Key×V)} (e:H a=some (.dT kvs)):TyOf K H (.ref a) (.type "dict")
 | ins {a C dx:Addr} {fs:List (Str×V)} (e:H a=some (.ins C dx fs)) (cl:Cls K C) (ha:PySem.W.findIn K (.ref C) "__class__" = some (some (.builtin "object.__class__")))
   (hn:PySem.W.specialIn K (.builtin "object.__class__") "__get__" = some (some (.builtin "getset_descriptor.__get__"))) (htk:PySem.W.takesIn K (.builtin "object.__class__")=some true)
   (hm:PySem.W.mroIn K C (.type "object")=some true):TyOf K H (.ref a) (.ref C)
theorem Xok{x:V}{u t:Value}(I:Inv X pins σ H s)(rx:RelV x u)(ty:TyOf X.K H x t)(e:PySem.W.kitOne X.K t c=some b)(h:∀tk,Q (.bool b) {s with toks:=tk}):
  wpAny (model X.prog X.w) A (call (.builtin "isinstance") [u,c]) Q E s:=by
 cases ty with
 | non=>cases (show u=Value.none from rx);exact PySem.W.kia_one PySem.W.kitx_none I.kIn True.intro e (λz=>nomatch z) h
 | bl y=>cases (show u=Value.bool y from rx);exact PySem.W.kia_one PySem.W.kitx_bool I.kIn True.intro e (λz=>nomatch z) h
 | int i=>obtain⟨t,q⟩:=(show ∃t,u=Value.int i t from rx);cases q;exact PySem.W.kia_one PySem.W.kitx_int I.kIn True.intro e (λz=>nomatch z) h
 | str y=>obtain⟨t,q⟩:=(show ∃t,u=Value.str y t from rx);cases q;exact PySem.W.kia_one PySem.W.kitx_str I.kIn True.intro e (λz=>nomatch z) h
 | flt y=>obtain⟨t,q⟩:=(show ∃t,u=Value.float y t from rx);cases q;exact PySem.W.kia_one PySem.W.kitx_float I.kIn True.intro e (λz=>nomatch z) h
 | @lst a xs ea=>
  cases (show u=Value.ref a from rx)
  obtain⟨_,_,n,_,h1⟩:=(show Xbh X.prog X.w H s.heap a (.lst xs) from I.hok a _ ea)
  exact PySem.W.kia_one PySem.W.kitx_list I.kIn ⟨_,h1,rfl⟩ e (λz=>nomatch z) h
 | @frz a ob xs ea=>
  cases (show u=Value.ref a from rx)
  obtain⟨_,_,_,n,_,h1⟩:=(show Xbh X.prog X.w H s.heap a (.frz ob (.lst xs)) from I.hok a _ ea)
  exact PySem.W.kia_one PySem.W.kitx_list I.kIn ⟨_,h1,rfl⟩ e (λz=>nomatch z) h
 | @tup a xs ea=>
  cases (show u=Value.ref a from rx)
  obtain⟨_,_,_,p⟩:=(show Xbh X.prog X.w H s.heap a (.tup xs) from I.hok a _ ea)
  obtain⟨o,h1,h2,_⟩:=p
  exact PySem.W.kia_one PySem.W.kitx_tuple I.kIn ⟨o,h1,h2⟩ e (λz=>nomatch z) h
 | @dK a kvs ea=>
  cases (show u=Value.ref a from rx)
  obtain⟨_,_,vs,_,p⟩:=(show Xbh X.prog X.w H s.heap a (.dK kvs) from I.hok a _ ea)
  obtain⟨o,es,ep,h1,h2,_⟩:=p
  exact PySem.W.kia_one PySem.W.kitx_dict I.kIn ⟨o,h1,h2.1⟩ e (λz=>nomatch z) h
 | @dT a kvs ea=>
  cases (show u=Value.ref a from rx)
  obtain⟨_,_,xs,_,o,es,ep,h1,h2,_⟩:=(show Xbh X.prog X.w H s.heap a (.dT kvs) from I.hok a _ ea)
  exact PySem.W.kia_one PySem.W.kitx_dict I.kIn ⟨o,h1,h2.1⟩ e (λz=>nomatch z) h
 | @ins a C dx fs ea cl ha hn htk hm=>
  cases (show u=Value.ref a from rx)
  obtain⟨mA,O,_⟩:=Xua I.hok ea
  obtain⟨od,J,_⟩:=O.look
  exact PySem.W.kia_one (PySem.W.kitx_own (cl.get _) cl.hd ha hn htk hm) I.kIn J e (λz=>nomatch z) h
end
structure Room (k:Nat) (A:Around):Prop where
 hd:A.handled=none
 dp:A.depth+3 * k+5<recursionLimit
 un:A.units+16 * k+200<cLine
 gd:A.guards=some []
theorem Room.mono{j k:Nat}{A:Around}(r:Room k A)(h:j<=k):Room j A:=⟨r.hd,by have:=r.dp;omega,by have:=r.un;omega,r.gd⟩
theorem Room.deeper{k:Nat}{A:Around}(r:Room (k+1) A)(env:Env):Room k (A.deeper env):=
 ⟨r.hd,by have:=r.dp;show A.depth+1+3 * k+5<_;omega,by have:=r.un;show A.units+3+16 * k+200<_;omega,r.gd⟩
theorem Room.in1{k:Nat}{A:Around}(r:Room (k+1) A):Room k A.in1:=
 ⟨r.hd,by have:=r.dp;show A.depth+3 * k+5<_;omega,by have:=r.un;show A.units+1+16 * k+200<_;omega,r.gd⟩
theorem Room.depth{k:Nat}{A:Around}(r:Room k A):A.depth<recursionLimit:=by have:=r.dp;omega
theorem Room.units{k:Nat}{A:Around}(r:Room k A):A.units+64<cLine:=by have:=r.un;omega
theorem Room.units0{k:Nat}{A:Around}(r:Room k A):A.units<cLine:=by have:=r.un;omega
def tNil:TA:=λ_ H Q=>Q [] H
def Xm8 (ta:TE) (tr:TA):TA:=fun σ H Q=>ta σ H λx H1=>tr σ H1 λxs H2=>Q (x::xs) H2
section
variable {X:Cx}{e:Expr}{es:List Expr}{te:TE}{t:TA}{pos:Pos}
theorem Xac:PA X [] tNil:=λ_ _ _ _ H Q I h=>Calls.spliced_nil ⟨[],H,I,.nil,h⟩
theorem Xaa(ha:PE X e te)(hr:PA X es t)(hs:starEach (e::es) X.env=(false,eval e X.env)::starEach es X.env:=by rfl):PA X (e::es) (Xm8 te t):=by
 intro pos pins s σ H Q I h
 rw[hs]
 show wpAny _ _ (spliced ((false,eval e X.env)::backTo pos (starEach es X.env))) _ _ s
 refine Calls.spliced_cons (thn (ha pins s σ H _ I h) λu s1 ⟨x,H1,I1,r1,q1⟩=>?_)
 exact thn (hr pos pins s1 σ H1 _ I1 q1) λus s2 ⟨xs,H2,I2,r2,q2⟩=>⟨x::xs,H2,I2,.cons r1 r2,q2⟩
def tTup (t:TA):TE:=fun σ H Q=>t σ H λxs H1=>xs.length<=sizeLine/\∀p,H1 p=none->Q (.ref p) (upd H1 p (.tup xs))
def tLst (t:TA):TE:=fun σ H Q=>t σ H λxs H1=>xs.length<=sizeLine/\∀p,H1 p=none->Q (.ref p) (upd H1 p (.lst xs))
theorem Xbw{x1}(h:PA X es t):PE X (.Tuple es x1 pos) (tTup t):=by
 intro pins s σ H Q I hq
 refine wpAny_Tuple_spliced (thn (h pos pins s σ H _ I hq) λus s1 ⟨xs,H1,I1,r,z,q⟩=>⟨by rw[<-r.length];exact z,?_⟩)
 have hf:H1 s1.heap.objs.size=none:=I1.hok.fresh (Xzn _)
 refine⟨.ref s1.heap.objs.size,upd H1 s1.heap.objs.size (.tup xs),I1.laid (t':=s1.toks) (λb u e=>X3t _ e) (Xzn _) ?_,rfl,q _ hf⟩
 exact⟨z,us,r,⟨_,Heap.get?_push_size _ rfl,rfl,_,rfl⟩⟩
theorem Xbl(h:PA X es t):PE X (.List es pos) (tLst t):=by
 intro pins s σ H Q I hq
 refine wpAny_List_spliced (thn (h pos pins s σ H _ I hq) λus s1 ⟨xs,H1,I1,r,z,q⟩=>⟨by rw[<-r.length];exact z,?_⟩)
 have hf:H1 s1.heap.objs.size=none:=I1.hok.fresh (Xzn _)
 refine⟨.ref s1.heap.objs.size,upd H1 s1.heap.objs.size (.lst xs),I1.laid (t':=s1.toks) (λb u e=>X3t _ e) (Xzn _) ?_,rfl,q _ hf⟩
 exact⟨z,us,0,r,Heap.get?_push_size _ rfl⟩
end
abbrev Sp:=List V->Hp->VK->XK->Prop
abbrev CXT:=List Env->Hp->Shared->XK->Value->Shared->Prop
structure Env0 (P:Program) (w:World) (K:PySem.W.Frag) (mg:Str->Option Value) (base:Heap) (A:Around) (outer:List Env) (s:Shared) (H:Hp):Prop where
 frames:A.frames=some outer
 mod:Mod K mg base
 bs:∀b o,base.get? b=some o->s.heap.get? b=some o/\H b=none
 bsz:base.objs.size<=s.heap.objs.size
 funs:s.heap.FunFrames base outer
 frf:∀b∈frs outer,H b=none
 hok:HOk P w H s.heap
 bare:AllBare s.gens
def CE (outer:List Env) (P:Program) (w:World) (H:Hp) (s:Shared) (Q:VK) (u:Value) (s':Shared):Prop:=
 ∃v H',s'.os=s.os/\AllBare s'.gens/\Un (frs outer) [] H H' s.heap s'.heap/\HOk P w H' s'.heap/\RelV v u/\Q v H'
def CR (CX:CXT) (outer:List Env) (P:Program) (w:World) (H:Hp) (s:Shared) (Q:VK) (E:XK) (r:Result) (s':Shared):Prop:=
 match r with
 | .ok (.ret u)=>CE outer P w H s Q u s'
 | .ok _=>False
 | .error e=>CX outer H s E e s'
structure FnOk (P:Program) (w:World) (K:PySem.W.Frag) (mg:Str->Option Value) (base:Heap) (CX:CXT) (k:Nat) (f:Addr) (fd:FuncData) (ps:List Str) (sp:Sp):Prop where
 len:∀vs H Q E,sp vs H Q E->vs.length=ps.length
 run:∀(A:Around) (outer:List Env) (s:Shared) (H:Hp) (args:Args) (us:List Value) (vs:List V) (Q:VK) (E:XK),Room k A->Env0 P w K mg base A outer s H->BindsTo s fd args (ps.zip us)->Vals vs us->sp vs H Q E ->
  codeAny (model P w) A (.call (.ref f) args) (CR CX outer P w H s Q E) s
theorem Env0.in1{P:Program}{w:World}{K:PySem.W.Frag}{mg:Str->Option Value}{base:Heap}{A:Around}{outer:List Env}{s:Shared}{H:Hp}(e:Env0 P w K mg base A outer s H):
  Env0 P w K mg base A.in1 outer s H:=⟨e.frames,e.mod,e.bs,e.bsz,e.funs,e.frf,e.hok,e.bare⟩
section
variable {X:Cx}{pins:List (Addr×Obj)}{σ:St}{H:Hp}{s s':Shared}
theorem Inv.env0(I:Inv X pins σ H s):Env0 X.prog X.w X.K X.mg X.base X.A X.stack s H:=
 ⟨I.ok.frames,I.ok.mod,I.bs,X0d I.ok.bsz I.sz,I.stack,I.stkFree,I.hok,I.bare⟩
theorem Inv.after{Q:VK}{u:Value}(I:Inv X pins σ H s)(h:CE X.stack X.prog X.w H s Q u s'):EP X pins σ Q u s':=by
 obtain⟨v,H',os,bare,un,hok,r,q⟩:=h
 obtain⟨hh,g,d,t,os'⟩:=s'
 obtain rfl:os'=s.os:=os
 exact⟨v,H',I.call (h':=hh) (g':=g) (d':=d) (t':=t) (ch:=[]) un hok bare (λb z=>absurd z (by simp)),r,q⟩
end
def Xwp (sp:Sp) (dvs:List V) (E:XK) (t:TA):TE:=fun σ H Q=>t σ H λvs H1=>sp (vs++dvs) H1 Q E
def tMeth (C:Addr) (m:Str) (sp:Sp) (dvs:List V) (E:XK) (ta:TE) (t:TA):TE:=fun σ H Q=>ta σ H λx H1=>∃a dx fs,x = .ref a/\H1 a=some (.ins C dx fs)/\fs.lookup m=none /\
 t σ H1 λvs H2=>sp (x::(vs++dvs)) H2 Q E
def tMake (C:Addr) (sp:Sp) (dvs:List V) (E:XK) (t:TA):TE:=fun σ H Q=>t σ H λvs H1=>∀x dx,H1 x=none->H1 dx=none->dx≠x ->
 sp (.ref x::(vs++dvs)) (upd (upd H1 dx (.own x)) x (.ins C dx [])) (λv H2=>v = .non/\Q (.ref x) H2) E
def Binds (K:PySem.W.Frag) (fd:FuncData) (ps:List Str) (ds:List Value):Prop:=
 ∀(s:Shared) (us:List Value),K.In s.heap->(us++ds).length=ps.length->BindsTo s fd ⟨us,[]⟩ (ps.zip (us++ds))
theorem Binds.all{K:PySem.W.Frag}{fd:FuncData}{ps:List Str}(h:∀us:List Value,us.length=ps.length->bindArgs fd ⟨us,[]⟩=pure (ps.zip us)):Binds K fd ps []:=λs us _ hl=>by
 rw[X0t] at hl ⊢
 exact .of_eq (h us hl)
def Passes (CX:CXT) (X:Cx) (E:XK):Prop:=∀(pins:List (Addr×Obj)) (σ:St) (H:Hp) (s:Shared) (e:Value) (s':Shared),Inv X pins σ H s->CX X.stack H s E e s'->X.xe e s'
section
variable {X:Cx}{CX:CXT}{k:Nat}{f C:Addr}{fd:FuncData}{ps:List Str}{sp:Sp}{dvs:List V}{ds:List Value}{E:XK}{x m:Str}{p pos apos:Pos}{e o:Expr}{es:List Expr}{ta:TE}{t:TA}
theorem Xwq{pins:List (Addr×Obj)}{σ:St}{H:Hp}{s:Shared}{Q:VK}{us:List Value}{vs:List V}(F:FnOk X.prog X.w X.K X.mg X.base CX k f fd ps sp)(hr:Room k X.A)(hb:Binds X.K fd ps ds)(hd:Vals dvs ds)(hx:Passes CX X E)
  (I:Inv X pins σ H s) (r:Vals vs us) (h:sp (vs++dvs) H Q E):wpAny (model X.prog X.w) X.A (call (.ref f) us) (EP X pins σ Q) X.xe s:=by
 have r2:Vals (vs++dvs) (us++ds):=r.append hd
 have hl:(us++ds).length=ps.length:=by rw[<-r2.length];exact F.len _ _ _ _ h
 refine wpAny_call (codeAny_mono (F.run X.A X.stack s H ⟨us,[]⟩ (us++ds) (vs++dvs) Q E hr I.env0 (hb s us I.kIn hl) r2 h) λr s' hq=>?_)
 cases r with
 | error e=>exact hx pins σ H s e s' I hq
 | ok fl=>
  cases fl with
  | ret u=>exact I.after hq
  | next=>exact False.elim hq
  | brk=>exact False.elim hq
  | cont=>exact False.elim hq
theorem Xub(F:FnOk X.prog X.w X.K X.mg X.base CX k f fd ps sp)(hr:Room k X.A)(hg:Gl X x)(hm:X.mg x=some (.ref f))(hk:PySem.W.keepIn X.K (.ref f)=true)(hb:Binds X.K fd ps ds)(hd:Vals dvs ds)(hx:Passes CX X E)
  (ha:PA X (e::es) t) (hdb:(x==("__debug__" : Str))=false:=by decide) (he:starEach (e::es) X.env=(false,eval e X.env)::starEach es X.env:=by rfl) (hpl:(backTo pos (starEach es X.env)).any (·.1)=false:=by rfl):
  PE X (.Call (.Name x p) (e::es) [] pos) (Xwp sp dvs E t):=by
 intro pins s σ H Q I h
 refine wpAny_Call_Name_kw (Xh4 I hg hm ?_ hdb)
 refine PySem.W.callWith_K (h₀:=X.base) I.ok.mod.kin hk (thn (ha pos pins s σ H _ I h) λus s1 ⟨vs,H1,I1,r,q⟩=>⟨I1.kIn,?_⟩) he hpl
 exact Xwq F hr hb hd hx I1 r q
structure Mk (K:PySem.W.Frag) (C f:Addr):Prop where
 makes:PySem.W.makesIn K C=true
 init:PySem.W.findIn K (.ref C) "__init__" = some (some (.ref f))
 fn:PySem.W.isFn K (.ref f)=true
 kp:PySem.W.keepIn K (.ref C)=true
end
def PK (X:Cx) (kws:List Keyword) (t:TA):Prop:=
 ∀(pos:Pos) (pins:List (Addr×Obj)) (s:Shared) (σ:St) (H:Hp) (Q:List V->Hp->Prop),Inv X pins σ H s->t σ H Q->wpAny (model X.prog X.w) X.A (evalAll ((backToKw pos (keywordEach kws X.env)).map (·.2))) (AP X pins σ Q) X.xe s
section
variable {X:Cx}{CX:CXT}{k:Nat}{f C:Addr}{fd:FuncData}{ps ks:List Str}{sp:Sp}{E:XK}{x m:Str}{p pos apos kpos:Pos}{e o:Expr}{es:List Expr}{kws:List Keyword}{te ta:TE}{t tk:TA}{nm:Option Str}
theorem Xwr:PK X [] tNil:=λ_ _ _ _ H Q I h=>wpAny_evalAll_nil ⟨[],H,I,.nil,h⟩
theorem Xuc(ha:PE X e te)(hr:PK X kws t):PK X (⟨nm,e,kpos⟩::kws) (Xm8 te t):=by
 intro pos pins s σ H Q I h
 show wpAny _ _ (evalAll ((do let v <-eval e X.env;standAt pos;pure v)::(backToKw pos (keywordEach kws X.env)).map (·.2))) _ _ s
 refine wpAny_evalAll_cons (X3j (thn (ha pins s σ H _ I h) λu s1 ⟨x,H1,I1,r1,q1⟩=>X3j (wpAny_standAt (X3k ?_))))
 exact thn (hr pos pins s1 σ H1 _ I1 q1) λus s2 ⟨xs,H2,I2,r2,q2⟩=>⟨x::xs,H2,I2,.cons r1 r2,q2⟩
structure KBinds (K:PySem.W.Frag) (fd:FuncData) (ps ks:List Str) (g:List Value->List Value->List Value) (gV:List V->List V->List V):Prop where
 to:∀(s:Shared) (us ws:List Value),K.In s.heap->(g us ws).length=ps.length->BindsTo s fd ⟨us,ks.zip ws⟩ (ps.zip (g us ws))
 rel:∀{vs:List V} {us:List Value} {zs:List V} {ws:List Value},Vals vs us->Vals zs ws->Vals (gV vs zs) (g us ws)
variable {g:List Value->List Value->List Value}{gV:List V->List V->List V}
end
structure FnScope (N P:List Str) (sc:Scope):Prop where
 kind:sc.kind = .function
 co:sc.isCoroutine=false
 gen:sc.isGenerator=false
 nd:N.Nodup
 pre:N.take P.length=P
 par:∀x∈P,sc.names.lookup x=some .local\/sc.names.lookup x=some .cell
 nofree:∀y∈sc.names,y.2 ≠ .free
theorem Xi2{kindOf:Str->Option NameKind}{x:Str}:∀{binds:List (Str×Value)} {m:Str->Option Value},(∀v,(x,v)∉binds)->bindL kindOf binds m x=m x
 | [],_,_=>rfl
 | (n,v)::r,m,h=>by
  unfold bindL
  rw[Xi2 λw hw=>h w (Xzq _ hw)]
  split
  ·have:x≠n:=by rintro rfl;exact h v Xzr
   simp[this]
  ·rfl
theorem Xi3{kindOf:Str->Option NameKind}{x:Str}:∀{binds:List (Str×Value)} {m:Str->Option Value},(∀v,(x,v)∉binds)->bindC kindOf binds m x=m x
 | [],_,_=>rfl
 | (n,v)::r,m,h=>by
  unfold bindC
  rw[Xi3 λw hw=>h w (Xzq _ hw)]
  split
  ·rfl
  ·have:x≠n:=by rintro rfl;exact h v Xzr
   simp[this]
theorem Xi4{kindOf:Str->Option NameKind}{x:Str}{v:Value}:∀{P:List Str} {vs:List Value} {i:Nat} {m:Str->Option Value},P.Nodup->P[i]? = some x->vs[i]? = some v->kindOf x=some .local ->
  bindL kindOf (P.zip vs) m x=some v
 | [],_,_,_,_,h,_,_=>by simp at h
 | _::_,[],_,_,_,_,h,_=>by simp at h
 | p::P,w::vs,0,m,nd,h1,h2,hk=>by
  simp at h1 h2;subst h1;subst h2
  show bindL kindOf ((p,w)::P.zip vs) m p=_
  unfold bindL
  rw[Xi2 λv hv=>(X01.mp nd).1 (X2x hv).1,X3n hk]
  simp
 | p::P,w::vs,i+1,m,nd,h1,h2,hk=>by
  show bindL kindOf ((p,w)::P.zip vs) m x=_
  unfold bindL
  exact Xi4 (i:=i) (X01.mp nd).2 (by simpa using h1) (by simpa using h2) hk
theorem Xi5{kindOf:Str->Option NameKind}{x:Str}{v:Value}:∀{P:List Str} {vs:List Value} {i:Nat} {m:Str->Option Value},P.Nodup->P[i]? = some x->vs[i]? = some v->kindOf x≠some .local ->
  bindC kindOf (P.zip vs) m x=some v
 | [],_,_,_,_,h,_,_=>by simp at h
 | _::_,[],_,_,_,_,h,_=>by simp at h
 | p::P,w::vs,0,m,nd,h1,h2,hk=>by
  simp at h1 h2;subst h1;subst h2
  show bindC kindOf ((p,w)::P.zip vs) m p=_
  unfold bindC
  rw[Xi3 λv hv=>(X01.mp nd).1 (X2x hv).1,X3m hk]
  simp
 | p::P,w::vs,i+1,m,nd,h1,h2,hk=>by
  show bindC kindOf ((p,w)::P.zip vs) m x=_
  unfold bindC
  exact Xi5 (i:=i) (X01.mp nd).2 (by simpa using h1) (by simpa using h2) hk
def start (N:List Str) (vs:List V):St:=vs.map some++List.replicate (N.length - vs.length) none
def cxOf (CX:CXT) (P:Program) (w:World) (K:PySem.W.Frag) (mg:Str->Option Value) (base:Heap) (N:List Str) (qual:Str) (scope:Scope) (f:Addr) (cd:Value) (A:Around) (outer:List Env) (s:Shared) (H:Hp) (E:XK):Cx where
 prog:=P
 w:=w
 K:=K
 mg:=mg
 base:=base
 A:=A.deeper (envOfC qual scope s.heap.objs.size f cd)
 N:=N
 s₀:=s
 H₀:=H
 env:=envOfC qual scope s.heap.objs.size f cd
 outer:=outer
 stack:=envOfC qual scope s.heap.objs.size f cd::outer
 ex:=[]
 calm:=true
 fn:=λ_=>true
 pn:=[]
 xe:=λe s'=>wpAny (model P w) (A.deeper (envOfC qual scope s.heap.objs.size f cd)) (leaving (envOfC qual scope s.heap.objs.size f cd) e) (λ_ s''=>CX outer H s E e s'') (λe' s''=>CX outer H s E e' s'') s'
theorem Xlz{sc:Scope}{n:Nat}{x:Str}(h:sc.names.lookup x=some .cell):∃c,(cellsFrom n sc.names []).lookup x=some c:=by
 have q:=PySem.W.cellsFrom_some sc.names n [] (.inl h)
 exact X1e.mp q
theorem Xi6{CX:CXT}{P:Program}{w:World}{K:PySem.W.Frag}{mg:Str->Option Value}{base:Heap}{N ps:List Str}{qual:Str}{scope:Scope}{f:Addr}{cd:Value}{A:Around}{outer:List Env}{s s1:Shared}{H:Hp}{E:XK}{us:List Value}{vs:List V}
  (S:FnScope N ps scope) (hd:A.handled=none) (e0:Env0 P w K mg base A outer s H) (hl:vs.length=ps.length) (r:Vals vs us)
  (x:InCallC s s.heap.objs.size (bindL (envOfC qual scope s.heap.objs.size f cd).kindOf (ps.zip us) λ_=>none) (cellsFrom (s.heap.objs.size+1) scope.names []) (bindC (envOfC qual scope s.heap.objs.size f cd).kindOf (ps.zip us) λ_=>none) s1):
  Inv (cxOf CX P w K mg base N qual scope f cd A outer s H E) [] (start N vs) H s1:=by
 have hpl:ps.length<=N.length:=by have:=congrArg List.length S.pre;rw[X0c] at this;omega
 obtain⟨h1,tk,rfl,hk⟩:=x.done
 have noA:∀b:Addr,b∉(cxOf CX P w K mg base N qual scope f cd A outer s H E).ex:=λb z=>absurd (show b∈([]:List Addr) from z) (by simp)
 refine⟨⟨e0.mod,S.kind,rfl,rfl,Xzn _,λy z c h1 h2=>?_,λy hy=>?_,λy c _ h=>?_,λ_=>hd,Around.frames_deeper e0.frames,.inr ⟨rfl,rfl⟩,λb z=>absurd z (noA b),e0.bs,e0.bsz,λb _ _=>noA b,λb z=>absurd z (noA b),e0.funs,e0.frf⟩,
  rfl,e0.bare,Un.kept hk,⟨_,x.toInCall.ns,λi y v h1 h2 h3=>?_⟩,λy c h=>⟨_,x.cell y c h⟩,e0.hok.fresh (Xzn _),λy c h=>?_,λp hp=>absurd (show p∈([]:List (Addr×Obj)) from hp) (by simp),e0.hok.kept hk,?_⟩
 ·exact name_of_addr x.apart (PySem.mem_of_lookup h1) (PySem.mem_of_lookup h2)
 ·have hy:scope.names.lookup y=some .cell\/scope.names.lookup y=some .free:=hy
  rcases hy with hy | hy
  ·exact Xlz hy
  ·exact absurd rfl (S.nofree _ (PySem.mem_of_lookup hy))
 ·exact X2c (x.above y c (PySem.mem_of_lookup h))
 ·have hi:i<vs.length:=by
   unfold start at h2
   by_cases hi:i<vs.length
   ·exact hi
   ·rw[List.getElem?_append_right (by simpa using hi)] at h2
    rw[List.getElem?_replicate] at h2
    split at h2<;>cases h2
  have ha:vs[i]? = some v:=by
   unfold start at h2
   rw[List.getElem?_append_left (by simpa using hi),Xz4] at h2
   cases e:vs[i]? with
   | none=>rw[e] at h2;cases h2
   | some a=>rw[e] at h2;cases h2;rfl
  obtain⟨u,hu,rv⟩:=r.get ha
  have hp:ps[i]? = some y:=by
   rw[<-S.pre,X2d (by omega)];exact h1
  have ndP:ps.Nodup:=by rw[<-S.pre];exact S.nd.sublist (X1i _ _)
  refine⟨u,rv,?_⟩
  rcases S.par y (X2a hp) with k | k
  ·exact .inl ⟨k,Xi4 ndP hp hu k⟩
  ·obtain⟨c,e⟩:=Xlz (n:=s.heap.objs.size+1) k
   refine .inr ⟨.inl k,c,e,?_⟩
   have q:=x.cell y c e
   rw[Xi5 ndP hp hu (by show scope.names.lookup y≠_;rw[k];decide)] at q
   exact q
 ·exact e0.hok.fresh (X2c (x.above y c (PySem.mem_of_lookup h)))
 ·unfold start
  show _=N.length
  rw[Xzx,Xzl,List.length_replicate]
  omega
theorem Xud{CX:CXT}{P:Program}{w:World}{K:PySem.W.Frag}{mg:Str->Option Value}{base:Heap}{k:Nat}{f:Addr}{name qual:Str}{params:Arguments}{body:List Stmt}{scope:Scope}{dV kV doc pm cdv ct oc:Value}{an od:Option Addr}
  {osl:Array (Option Value)} {N ps:List Str} {sp:Sp} (lk:K.lookup f=some ⟨oc,od,.func (PySem.W.fnOf name qual params body scope dV kV doc pm an cdv ct),osl⟩) (hcd:PySem.W.codeIn K cdv qual=true) (S:FnScope N ps scope)
  (len:∀vs H Q E,sp vs H Q E->vs.length=ps.length)
  (hbody:∀(A:Around) (outer:List Env) (s:Shared) (H:Hp) (vs:List V) (Q:VK) (E:XK),Room k (A.deeper (envOfC qual scope s.heap.objs.size f cdv))->sp vs H Q E ->
   ∃t,PSs (cxOf CX P w K mg base N qual scope f cdv A outer s H E) body t/\t {nx:=λ_ H'=>Q .non H',rt:=Q} (start N vs) H):
  FnOk P w K mg base CX (k+1) f (PySem.W.fnOf name qual params body scope dV kV doc pm an cdv ct) ps sp:=by
 refine⟨len,λA outer s H args us vs Q E hr e0 hb r hsp=>?_⟩
 have hl:=len _ _ _ _ hsp
 have KX:K.In s.heap:=e0.mod.kin.keeps λb o e=>(e0.bs b o e).1
 have lim:s.heap.NoLimit:=e0.mod.nolimit.keeps λb o e=>(e0.bs b o e).1
 have hkind:∀y∈ps.zip us,scope.names.lookup y.1=some .local\/(scope.names.lookup y.1=some .cell/\((cellsFrom (s.heap.objs.size+1) scope.names []).lookup y.1).isSome=true):=λ⟨n,v⟩ hy=>by
  rcases S.par n (X2x hy).1 with q | q
  ·exact .inl q
  ·exact .inr ⟨q,PySem.W.cellsFrom_some _ _ _ (.inl q)⟩
 refine codeAny_call_function hr.depth (KX _ _ lk) rfl S.co S.gen rfl (PySem.W.codeRec_of KX hcd) (hb _ _ _ _ ?_)
 refine wpAny_newFunctionEnv_cells S.kind hkind λenv he s1 x=>?_
 subst he
 refine⟨lim.keeps x.toInCall.keep,codeAny_func ?_⟩
 obtain⟨t,ht,hq⟩:=hbody A outer s H vs Q E (hr.deeper _) hsp
 have I:Inv (cxOf CX P w K mg base N qual scope f cdv A outer s H E) [] (start N vs) H s1:=Xi6 S hr.hd e0 hl r x
 refine wpAny_mono (ht [] s1 (start N vs) H _ I hq) (λfl s' hs=>?_) λe s' hs=>hs
 have fin:∀{σ':St} {H':Hp} {v:V} {u:Value},Inv (cxOf CX P w K mg base N qual scope f cdv A outer s H E) [] σ' H' s'->RelV v u->Q v H'->CE outer P w H s Q u s':=
  λ{σ' H' v u} J rv q=>⟨v,H',J.os,J.bare,J.base,J.hok,rv,q⟩
 cases fl with
 | ret u=>
  obtain⟨v, σ',H',J,rv,q⟩:=hs
  exact fin J rv q
 | next=>
  obtain⟨σ',H',J,q⟩:=hs
  exact fin (v:=V.non) (u:=Value.none) J rfl q
 | brk=>
  obtain⟨_,_,_,q⟩:=hs
  exact False.elim q
 | cont=>
  obtain⟨_,_,_,q⟩:=hs
  exact False.elim q
section
variable {X:Cx}{x:Str}{p pos:Pos}{e:Expr}{es:List Expr}{t:TA}{id T:String}{r:List V->Hp->VK->Prop}
def tCB (r:List V->Hp->VK->Prop) (t:TA):TE:=fun σ H Q=>t σ H λvs H1=>r vs H1 Q
theorem Xal(hc:Xda X (.builtin id) r)(hg:Gl X x)(hm:X.mg x=none)(hv:bootBuiltins x=some (.builtin id))(ha:PA X (e::es) t)(hn:x ≠ "__name__" := by decide)(hdb:(x==("__debug__" : Str))=false:=by decide)
  (he:starEach (e::es) X.env=(false,eval e X.env)::starEach es X.env:=by rfl) (hpl:(backTo pos (starEach es X.env)).any (·.1)=false:=by rfl):PE X (.Call (.Name x p) (e::es) [] pos) (tCB r t):=by
 intro pins s σ H Q I h
 refine wpAny_Call_Name_kw (Xhq I hg hm hv ?_ hn hdb)
 exact PyProof.Rows.callWith_builtin1 (thn (ha pos pins s σ H _ I h) λus s1 ⟨vs,H1,I1,r1,q1⟩=>hc pins s1 σ H1 vs us Q I1 r1 q1) he hpl
theorem Xa8(hc:Xda X (.type T) r)(hg:Gl X x)(hm:X.mg x=none)(hv:bootBuiltins x=some (.type T))(ha:PA X (e::es) t)(hn:x ≠ "__name__" := by decide)(hdb:(x==("__debug__" : Str))=false:=by decide)
  (he:starEach (e::es) X.env=(false,eval e X.env)::starEach es X.env:=by rfl) (hpl:(backTo pos (starEach es X.env)).any (·.1)=false:=by rfl):PE X (.Call (.Name x p) (e::es) [] pos) (tCB r t):=by
 intro pins s σ H Q I h
 refine wpAny_Call_Name_kw (Xhq I hg hm hv ?_ hn hdb)
 exact PyProof.Rows.callWith_type1 (thn (ha pos pins s σ H _ I h) λus s1 ⟨vs,H1,I1,r1,q1⟩=>hc pins s1 σ H1 vs us Q I1 r1 q1) he hpl
end
end L2
namespace HT
open PySem PyProof.Rows
def Xyt:List Int->List Int->Bool
 | [],[]=>false
 | [],_::_=>true
 | _::_,[]=>false
 | x::xs,y::ys=>if x=y then Xyt xs ys else decide (x<y)
section
open PySem.SeqAt
open PySem.AutoSeq1 (wpAny_loadPart')
open PySem.MeetsSeq PySem.MeetsSeq2 PySem.MeetsSeq3
end
section
variable {prog:Program}{w:World}{A:Around}{E:Value->Shared->Prop}{s:Shared}
theorem cat_tup{t b:Addr}{vs ws:List Value}{Q:Value->Shared->Prop}(ht:IsTup s.heap t vs.toArray)(hb:IsTup s.heap b ws.toArray)(hv:vs≠[])
  (h1:ws=[]->Q (.ref t) s) (h2:ws≠[]->Q (.ref s.heap.objs.size) {s with heap:=s.heap.push {cls:=.type "tuple",data:=.seq (vs++ws).toArray} })
  (hsz:vs.length+ws.length<=sizeLine):wpAny (model prog w) A (binaryOp .Add (.ref t) (.ref b)) Q E s:=by
 obtain⟨⟨cls,dd,data,sl⟩,ho,hc,n,hd⟩:=id ht
 obtain⟨⟨cls2,dd2,data2,sl2⟩,ho2,hc2,n2,hd2⟩:=id hb
 simp only at hc hd hc2 hd2
 subst hc hd hc2 hd2
 have e:vs.toArray++ws.toArray=(vs++ws).toArray:=by simp
 by_cases hw:ws=[]
 ·exact concat_meets ⟨_,ho,rfl⟩ ⟨_,ho2,rfl⟩ noFill_tuple_add seq_tuple_add PySem.F.slot_tuple_add PySem.F.entry_tuple_add (PySem.F.args_tuple_add_2 _ _)
   (tuple_addW1 t b vs.toArray ws.toArray n n2 dd dd2 sl sl2 (by simpa using hv) (by simp[hw])) ⟨ho,ho2,h1 hw⟩
 ·refine concat_meets ⟨_,ho,rfl⟩ ⟨_,ho2,rfl⟩ noFill_tuple_add seq_tuple_add PySem.F.slot_tuple_add PySem.F.entry_tuple_add (PySem.F.args_tuple_add_2 _ _)
   (tuple_addW2 t b vs.toArray ws.toArray n n2 dd dd2 sl sl2 (by simpa using hv) (by simpa using hw) (by rw[Xzp,Xzp];exact hsz)) ⟨ho,ho2,?_⟩
  rw[e]
  exact h2 hw
def sIx (n d:Nat):Option Int->Nat
 | none=>d
 | some v=>if v<0 then (v+(n:Int)).toNat else min v.toNat n
theorem sIx_none(n d:Nat):sIx n d none=d:=rfl
theorem sIx_nat(n d k:Nat):sIx n d (some (k:Int))=min k n:=by
 show (if (k:Int)<0 then ((k:Int)+(n:Int)).toNat else min (k:Int).toNat n)=min k n
 rw[X3m (by omega),X16]
end
end HT
namespace L2
open PySem PySem.Spec PyProof.Rows
abbrev TO:=St->Hp->(Option Int->Hp->Prop)->Prop
def PO (X:Cx) (e:Option Expr) (t:TO):Prop:=
 ∀(pins:List (Addr×Obj)) (s:Shared) (σ:St) (H:Hp) (Q:Option Int->Hp->Prop),Inv X pins σ H s->t σ H Q ->
  wpAny (model X.prog X.w) X.A (evalPart e X.env) (λu s'=>∃o H',Inv X pins σ H' s'/\IsPart u o/\Q o H') X.xe s
def Xue:TO:=λ_ H Q=>Q none H
def Xyu (t:TE):TO:=fun σ H Q=>t σ H λx H1=>∃i,x = .int i/\Q (some i) H1
section
variable {X:Cx}{e:Expr}{te:TE}{lo hi:Option Expr}{tl th:TO}{pos p2:Pos}
theorem Xbe:PO X none Xue:=by
 intro pins s σ H Q I h
 rw[evalPart_none]
 exact X3k ⟨none,H,I,.none,h⟩
theorem Xbc(h:PE X e te):PO X (some e) (Xyu te):=by
 intro pins s σ H Q I hw
 rw[evalPart_some]
 refine thn (h pins s σ H _ I hw) λu s1 ⟨x,H1,I1,r1,q1⟩=>?_
 obtain⟨i,rfl,q⟩:=q1
 obtain⟨t,rfl⟩:=r1
 exact⟨some i,H1,I1,.int i t,q⟩
def SlR (X:Cx) (r:V->Option Int->Option Int->Hp->VK->Prop):Prop:=
 ∀(pins:List (Addr×Obj)) (s:Shared) (σ:St) (H:Hp) (x:V) (v vl vu:Value) (lo hi:Option Int) (sl:Addr) (Q:VK),Inv X pins σ H s->RelV x v->s.heap.IsSliceOf sl vl vu .none->IsPart vl lo->IsPart vu hi->r x lo hi H Q ->
  ∃T id,typeLookup (.type T) "__getitem__" = pure (some (.builtin id))/\s.TypeIs v T/\wpAny (model X.prog X.w) X.A (getItem v (.ref sl)) (EP X pins σ Q) X.xe s
def tSl (r:V->Option Int->Option Int->Hp->VK->Prop) (te:TE) (tl th:TO):TE:=fun σ H Q=>te σ H λx H1=>tl σ H1 λl H2=>th σ H2 λu H3=>r x l u H3 Q
theorem Xa1{r:V->Option Int->Option Int->Hp->VK->Prop}(hr:SlR X r)(he:PE X e te)(hl:PO X lo tl)(hu:PO X hi th):PE X (.Subscript e (.Slice lo hi none p2) pos) (tSl r te tl th):=by
 intro pins s σ H Q I h
 refine Subscript_ (thn (he pins s σ H _ I h) λv s1 ⟨x,H1,I1,r1,q1⟩=>?_)
 refine wpAny_Slice (thn (hl pins s1 σ H1 _ I1 q1) λvl s2 ⟨l,H2,I2,pl,q2⟩=>thn (hu pins s2 σ H2 _ I2 q2) λvu s3 ⟨u,H3,I3,pu,q3⟩=>?_)
 rw[evalPart_none]
 refine X3k ?_
 have I4:Inv X pins σ H3 {s3 with heap:=s3.heap.push {cls:=.type "slice",data:=.fields #[vl,vu,.none]} }:=I3.kept (t':=s3.toks) λb ob q=>X3t _ q
 obtain⟨T,id,hT,ht,hg⟩:=hr pins {s3 with heap:=s3.heap.push {cls:=.type "slice",data:=.fields #[vl,vu,.none]} } σ H3 x v vl vu l u s3.heap.objs.size Q I4 r1 (Heap.IsSliceOf.new ..) pl pu q3
 show wpAny (model X.prog X.w) X.A (subscriptTail e (.Slice lo hi none p2) v (.ref s3.heap.objs.size)) (EP X pins σ Q) X.xe {s3 with heap:=s3.heap.push {cls:=.type "slice",data:=.fields #[vl,vu,.none]} }
 exact tail_any (ops:=[.ref s3.heap.objs.size,v]) ht hT hg (by with_unfolding_all rfl)
def cutV (xs:List V) (lo hi:Option Int):List V:=(xs.drop (HT.sIx xs.length 0 lo)).take (HT.sIx xs.length xs.length hi - HT.sIx xs.length 0 lo)
theorem Xkr(xs:List V)(lo hi:Option Int):(cutV xs lo hi).length<=xs.length:=by
 unfold cutV
 rw[X0c,X1f]
 omega
def rSlT (K:PySem.W.Frag):V->Option Int->Option Int->Hp->VK->Prop:=λx lo hi H Q=>∃a xs,x = .ref a/\SqT K H a xs /\
 ¬(HT.sIx xs.length 0 lo=0/\HT.sIx xs.length xs.length hi=xs.length)/\∀p,H p=none->Q (.ref p) (upd H p (.tup (cutV xs lo hi)))
def Xyv (K:PySem.W.Frag):R2:=λx y H Q=>∃a b xs ys,x = .ref a/\y = .ref b/\SqT K H a xs/\SqT K H b ys/\xs≠[]/\xs.length+ys.length<=sizeLine /\
 (ys=[]->Q (.ref a) H)/\(ys≠[]->∀p,H p=none->Q (.ref p) (upd H p (.tup (xs++ys))))
theorem Vals.nil_iff{xs:List V}{us:List Value}(r:Vals xs us):us=[]↔xs=[]:=by
 cases r with
 | nil=>simp
 | cons _ _=>simp
theorem Xuf:OpR X (binaryOp .Add) (Xyv X.K):=by
 intro pins s σ H x y v u Q I rx ry h
 obtain⟨a,b,xs,ys,rfl,rfl,ha,hb,hx,hz,q1,q2⟩:=h
 cases rx
 cases ry
 obtain⟨its,r1,p1,_⟩:=I.tuple ha
 obtain⟨its2,r2,p2,_⟩:=I.tuple hb
 refine HT.cat_tup p1 p2 (λz=>hx (r1.nil_iff.mp z)) (λz=>⟨.ref a,H,I,rfl,q1 (r2.nil_iff.mp z)⟩) (λz=>?_) (by rw[<-r1.length,<-r2.length];exact hz)
 refine⟨.ref s.heap.objs.size,_,I.laid (t':=s.toks) (o:=.tup (xs++ys)) (λb ob q=>X3t _ q) (Xzn _) ?_,rfl,q2 (λw=>z (r2.nil_iff.mpr w)) _ (I.hok.fresh (Xzn _))⟩
 exact⟨by rw[Xzx];exact hz,_,r1.append r2,IsTup.new _ _⟩
end
def ixN (n:Nat) (i:Int):Option Nat:=if 0<=i then (if i<n then some i.toNat else none) else if -(n:Int)<=i then some (i+n).toNat else none
def atI {α : Type} (xs:List α) (i:Int):Option α:=(ixN xs.length i).bind λj=>xs[j]?
theorem Xol{n:Nat}{i:Int}{j:Nat}(h:ixN n i=some j):seqIndex? i n=some j/\j<n /\ -(n:Int)<=i/\i<n:=by
 unfold ixN at h
 by_cases h0:0<=i
 ·rw[X3n h0] at h
  by_cases h1:i<n
  ·rw[X3n h1] at h
   have e:i.toNat=j:=Xz3 h
   exact⟨by rw[seqIndex_of h0 h1,e],by omega,by omega,h1⟩
  ·rw[X3m h1] at h;cases h
 ·rw[X3m h0] at h
  by_cases h1 : -(n:Int)<=i
  ·rw[X3n h1] at h
   have e:(i+n).toNat=j:=Xz3 h
   exact⟨by rw[seqIndex_neg (by omega) h1,e],by omega,h1,by omega⟩
  ·rw[X3m h1] at h;cases h
theorem Xks{α : Type}{xs:List α}{i:Int}{v : α}(h:atI xs i=some v):∃j,seqIndex? i xs.length=some j/\xs[j]? = some v/\j<xs.length /\ -(xs.length:Int)<=i/\i<xs.length:=by
 unfold atI at h
 cases e:ixN xs.length i with
 | none=>rw[e] at h;cases h
 | some j=>
  rw[e] at h
  obtain⟨h1,h2,h3,h4⟩:=Xol e
  exact⟨j,h1,h,h2,h3,h4⟩
theorem Xdm{α : Type}{xs:List α}{j:Nat}{v : α}(h:xs[j]? = some v):atI xs (j:Int)=some v:=by
 have hj:j<xs.length:=(Xz7.mp h).1
 have e:ixN xs.length (j:Int)=some j:=by
  unfold ixN
  rw[X3n (by omega),X3n (by omega)];simp
 unfold atI;rw[e];exact h
def Xug (b:Expr):Prop:=∀o i,subscripted b false o i=operate [o,i] (getItem o i)
def IxR (X:Cx) (r:R2):Prop:=
 ∀(value slice:Expr) (pins:List (Addr×Obj)) (s:Shared) (σ:St) (H:Hp) (x y:V) (v u:Value) (Q:VK),Inv X pins σ H s->RelV x v->RelV y u->r x y H Q ->
  subscripted slice false v u=operate [v,u] (getItem v u)->wpAny (model X.prog X.w) X.A (subscriptTail value slice v u) (EP X pins σ Q) X.xe s
def MtR (X:Cx) (id:String) (r:V->List V->Hp->VK->Prop):Prop:=
 ∀(pins:List (Addr×Obj)) (s:Shared) (σ:St) (H:Hp) (x:V) (xs:List V) (v:Value) (us:List Value) (Q:VK),Inv X pins σ H s->RelV x v->Vals xs us->r x xs H Q ->
  wpAny (model X.prog X.w) X.A (call (.builtin id) (v::us)) (EP X pins σ Q) X.xe s
section
variable {X:Cx}{a b:Expr}{ta tb:TE}{pos:Pos}
theorem Xba{r:R2}(hr:IxR X r)(ha:PE X a ta)(hb:PE X b tb)(hs:Xug b):PE X (.Subscript a b pos) (tOp r ta tb):=by
 intro pins s σ H Q I h
 exact Subscript_ (binT ha hb I h λv u s2 x y H2 I2 rx ry q=>hr a b pins s2 σ H2 x y v u Q I2 rx ry q (hs _ _))
def rIxL (K:PySem.W.Frag):R2:=λx y H Q=>∃p xs i v,x = .ref p/\y = .int i/\SqL K H p xs/\atI xs i=some v/\Q v H
def rIxT (K:PySem.W.Frag):R2:=λx y H Q=>∃p xs i v,x = .ref p/\y = .int i/\SqT K H p xs/\atI xs i=some v/\Q v H
def rIxS:R2:=λx y H Q=>∃z i c,x = .str z/\y = .int i/\z.length<=sizeLine/\atI z.cps.toList i=some c/\Q (.str ⟨#[c]⟩) H
theorem Xaz:IxR X (rIxL X.K):=by
 intro value slice pins s σ H x y v u Q I rx ry h hs
 obtain⟨p,xs,i,z,rfl,rfl,hq,he,q⟩:=h
 cases rx
 obtain⟨t,rfl⟩:=ry
 obtain⟨its,r,pl,hz⟩:=I.list hq
 obtain⟨j,h1,h2,h3,h4,h5⟩:=Xks he
 obtain⟨w,ew,rw'⟩:=r.get h2
 have hl:=r.length
 have hn:=line63
 have fin:EP X pins σ Q w s:=⟨z,H,I,rw',q⟩
 by_cases h0:0<=i
 ·have hj:i.toNat=j:=by
   rw[seqIndex_of h0 h5] at h1
   exact Xz3 h1
  exact item_listR pl.isList h0 (by omega) (by rw[hj];simpa using ew) fin hs
 ·have hj:(i+(its.toArray.size:Int)).toNat=j:=by
   rw[seqIndex_neg (by omega) h4] at h1
   rw[Xzp,<-hl]
   exact Xz3 h1
  exact subscriptTail_builtinR (x:=w) pl.isList.typeIs slot_list_getitem.lookup
   (wpAny_getItem_list_neg (Q:=λr s'=>r=w/\EP X pins σ Q r s') pl.isList (by omega) (by rw[Xzp]<;>omega) (by omega) (by rw[hj];simpa using ew) ⟨rfl,fin⟩) hs
theorem Xl0:IxR X (rIxT X.K):=by
 intro value slice pins s σ H x y v u Q I rx ry h hs
 obtain⟨p,xs,i,z,rfl,rfl,hq,he,q⟩:=h
 cases rx
 obtain⟨t,rfl⟩:=ry
 obtain⟨its,r,pl,hz⟩:=I.tuple hq
 obtain⟨j,h1,h2,h3,h4,h5⟩:=Xks he
 obtain⟨w,ew,rw'⟩:=r.get h2
 have hl:=r.length
 have hn:=line63
 have fin:EP X pins σ Q w s:=⟨z,H,I,rw',q⟩
 exact subscriptTail_builtinR (x:=w) pl.typeIs slot_tuple_getitem.lookup
  (getItem_tuple (j:=j) (Q:=λr s'=>r=w/\EP X pins σ Q r s') pl (by omega) (by omega) (by rw[Xzp,<-hl];exact h1) (by simpa using ew) ⟨rfl,fin⟩) hs
theorem Xws:IxR X rIxS:=by
 intro value slice pins s σ H x y v u Q I rx ry h hs
 obtain⟨z,i,c,rfl,rfl,hz,he,q⟩:=h
 obtain⟨t,rfl⟩:=rx
 obtain⟨t',rfl⟩:=ry
 obtain⟨j,h1,h2,h3,h4,h5⟩:=Xks he
 have hl:z.cps.toList.length=z.length:=by simp[Str.length]
 rw[hl] at h1 h4 h5
 have hn:=line63
 exact tail_any (typeIs_str s z t) slot_str_getitem.lookup (getItem_str (c:=c) (by
  have e1:decide (i < -(2 ^ 63:Int))=false:=X3p (by omega)
  have e2:decide (i ≥ 2 ^ 63)=false:=X3p (by omega)
  rw[e1,e2,X3c]) (by rw[h1];simpa using h2) ⟨.str ⟨#[c]⟩,H,I.tok _,⟨_,rfl⟩,q⟩) hs
def rIx (K:PySem.W.Frag):R2:=λx y H Q=>rIxL K x y H Q\/rIxT K x y H Q\/rIxS x y H Q
theorem Xm9(its:List Value)(n j:Nat)(u:Value):Obj.mapSeq (·.setIfInBounds j u) {cls:=.type "list",data:=.seq its.toArray n} = {cls:=.type "list",data:=.seq (its.set j u).toArray n}:=by
 simp[Obj.mapSeq]
theorem Inv.lst{pins:List (Addr×Obj)}{σ:St}{H:Hp}{s:Shared}{p:Addr}{xs:List V}(I:Inv X pins σ H s)(h:H p=some (.lst xs)):
  ∃(its:List Value) (n:Nat),Vals xs its/\s.heap.get? p=some {cls:=.type "list",data:=.seq its.toArray n}/\xs.length<=sizeLine:=by
 obtain⟨z,its,n,r,e⟩:=I.hok p _ h
 exact⟨its,n,r,e,z⟩
theorem Inv.lstUpd{pins:List (Addr×Obj)}{σ:St}{H:Hp}{s:Shared}{p:Addr}{xs ys:List V}{its its':List Value}{n n':Nat}{f:Obj->Obj}(I:Inv X pins σ H s)(h:H p=some (.lst xs))
  (ho:s.heap.get? p=some {cls:=.type "list",data:=.seq its.toArray n}) (hf:f {cls:=.type "list",data:=.seq its.toArray n} = {cls:=.type "list",data:=.seq its'.toArray n'}) (r:Vals ys its') (hz:ys.length<=sizeLine) (t:Nat):
  Inv X pins σ (upd H p (.lst ys)) {s with heap:=s.heap.update p f,toks:=t}:=by
 have e:(s.heap.update p f).get? p=some {cls:=.type "list",data:=.seq its'.toArray n'}:=by
  rw[Heap.get?_update_self f ho (by rw[hf]<;>rfl),hf]
 refine I.write (x:=p) (e:=p) (by rw[h];trivial) (.inl rfl) (λb u hb q=>(Heap.get?_update_other _ _ (Ne.symm hb)).trans q) ⟨_,e⟩ ?_
 exact⟨hz,its',n',r,e⟩
def Xyw:V->V->V->Hp->(Hp->Prop)->Prop:=λo i v H Q=>∃p xs k j,o = .ref p/\i = .int k/\H p=some (.lst xs)/\ixN xs.length k=some j/\Q (upd H p (.lst (xs.set j v)))
theorem Xdb:PSet X Xyw:=by
 intro pins s σ H o i v ov iv u Q I ro ri rv h
 obtain⟨p,xs,k,j,rfl,rfl,hp,hj,q⟩:=h
 cases ro
 obtain⟨t,rfl⟩:=ri
 obtain⟨its,n,r,ho,hz⟩:=I.lst hp
 obtain⟨h1,h2,h3,h4⟩:=Xol hj
 have hl:=r.length
 have hn:=line63
 have I':Inv X pins σ (upd H p (.lst (xs.set j v))) {s with heap:=s.heap.update p (Obj.mapSeq (·.setIfInBounds j u))}:=
  I.lstUpd hp ho (Xm9 its n j u) (r.set rv j) (by rw[List.length_set];exact hz) s.toks
 by_cases h0:0<=k
 ·have hk:k.toNat=j:=by
   rw[seqIndex_of h0 h4] at h1
   exact Xz3 h1
  exact PySem.W.ki_setAt ho h0 (by omega) (by rw[Xzp,<-hl];exact h4) (by rw[hk];exact⟨_,I',q⟩)
 ·have hk:(k+(its.toArray.size:Int)).toNat=j:=by
   rw[seqIndex_neg (by omega) h3] at h1
   rw[Xzp,<-hl]
   exact Xz3 h1
  exact PySem.W.ki_setBack ho (by omega) (by rw[Xzp,<-hl];exact h3) (by omega) (by rw[hk];exact⟨_,I',q⟩)
theorem Xi7(lo hi:Option Int)(n:Nat):(sliceBounds lo hi none n).1=((HT.sIx n 0 lo:Nat):Int)/\(sliceBounds lo hi none n).2.1=((HT.sIx n n hi:Nat):Int)/\(sliceBounds lo hi none n).2.2=1:=by
 refine⟨?_,?_,rfl⟩
 ·cases lo with
  | none=>simp[sliceBounds,HT.sIx]
  | some i=>
   simp only[sliceBounds,HT.sIx,Option.getD_none,show (1:Int) > 0 by decide,if_true]
   by_cases h:i<0
   ·simp only[h,if_true]<;>omega
   ·simp only[h,if_false]<;>omega
 ·cases hi with
  | none=>simp[sliceBounds,HT.sIx]
  | some i=>
   simp only[sliceBounds,HT.sIx,Option.getD_none,show (1:Int) > 0 by decide,if_true]
   by_cases h:i<0
   ·simp only[h,if_true]<;>omega
   ·simp only[h,if_false]<;>omega
theorem Xh5(its:List Value)(lo hi:Option Int):slicePick its.toArray lo hi none=((its.drop (HT.sIx its.length 0 lo)).take (HT.sIx its.length its.length hi - HT.sIx its.length 0 lo)).toArray:=by
 obtain⟨h1,h2,h3⟩:=Xi7 lo hi its.toArray.size
 unfold slicePick
 rw[h1,h2,h3]
 simp only[sliceRange_one,pick_run,Xzp]<;>rfl
def rSlL (K:PySem.W.Frag):V->Option Int->Option Int->Hp->VK->Prop:=λx lo hi H Q=>∃a xs,x = .ref a/\SqL K H a xs/\∀p,H p=none->Q (.ref p) (upd H p (.lst (cutV xs lo hi)))
theorem Xbf:SlR X (rSlL X.K):=by
 intro pins s σ H x v vl vu lo hi sl Q I rx hs pl pu h
 obtain⟨a,xs,rfl,hx,q⟩:=h
 cases rx
 obtain⟨its,r,ht,hz⟩:=I.list hx
 have hlen:=r.length
 refine⟨"list",_,slot_list_getitem.lookup,ht.isList.typeIs,?_⟩
 refine wpAny_getItem_list_slice ht.isList hs pl pu .none (by simp) ?_ (by rw[Xzp]<;>omega)
 rw[Xh5,<-hlen]
 refine⟨.ref s.heap.objs.size,_,I.laid (t':=s.toks) (o:=.lst (cutV xs lo hi)) (λb ob q=>X3t _ q) (Xzn _) ?_,rfl,q _ (I.hok.fresh (Xzn _))⟩
 exact⟨X0d (Xkr xs lo hi) hz,_,0,(r.drop (HT.sIx xs.length 0 lo)).take (HT.sIx xs.length xs.length hi - HT.sIx xs.length 0 lo),Heap.get?_push_size _ rfl⟩
def Xdn:V->Bool
 | .non=>true
 | .bl _=>true
 | .int _=>true
 | .str _=>true
 | _=>false
def eqV:V->V->Bool
 | .non,.non=>true
 | .bl a,.bl b=>a==b
 | .bl a,.int b=>(if a then 1 else 0)==b
 | .int a,.bl b=>a==(if b then 1 else 0)
 | .int a,.int b=>a==b
 | .str a,.str b=>a==b
 | _,_=>false
theorem Xti{A:Around}{s:Shared}{y x:V}{u v:Value}(ry:RelV y u)(rx:RelV x v)(fy:Xdn y=true)(fx:Xdn x=true):SeqAt.EqAt A s u v (eqV y x):=by
 cases y with
 | non=>
  cases ry
  cases x with
  | non=>cases rx;exact SeqAt.EqAt.same _
  | bl b=>cases rx;exact SeqAt.EqAt.none_bool b
  | int b=>obtain⟨t,rfl⟩:=rx;exact SeqAt.EqAt.none_int b t
  | str b=>obtain⟨t,rfl⟩:=rx;exact SeqAt.EqAt.none_str b t
  | _=>exact absurd (show false=true from fx) Xz1
 | bl a=>
  cases ry
  cases x with
  | non=>cases rx;exact SeqAt.EqAt.bool_none a
  | bl b=>cases rx;exact SeqAt.EqAt.bool_bool a b
  | int b=>obtain⟨t,rfl⟩:=rx;exact SeqAt.EqAt.bool_int a b t
  | str b=>obtain⟨t,rfl⟩:=rx;exact SeqAt.EqAt.bool_str a b t
  | _=>exact absurd (show false=true from fx) Xz1
 | int a=>
  obtain⟨t',rfl⟩:=ry
  cases x with
  | non=>cases rx;exact SeqAt.EqAt.int_none a t'
  | bl b=>cases rx;exact SeqAt.EqAt.int_bool a t' b
  | int b=>obtain⟨t,rfl⟩:=rx;exact SeqAt.EqAt.int_int a t' b t
  | str b=>obtain⟨t,rfl⟩:=rx;exact SeqAt.EqAt.int_str a t' b t
  | _=>exact absurd (show false=true from fx) Xz1
 | str a=>
  obtain⟨t',rfl⟩:=ry
  cases x with
  | non=>cases rx;exact SeqAt.EqAt.str_none a t'
  | bl b=>cases rx;exact SeqAt.EqAt.str_bool a t' b
  | int b=>obtain⟨t,rfl⟩:=rx;exact SeqAt.EqAt.str_int a t' b t
  | str b=>obtain⟨t,rfl⟩:=rx;exact SeqAt.EqAt.str_str a t' b t
  | _=>exact absurd (show false=true from fx) Xz1
 | _=>exact absurd (show false=true from fy) Xz1
def eqU (x:V) (u:Value):Bool:=match u with
 | .none=>eqV .non x
 | .bool b=>eqV (.bl b) x
 | .int i _=>eqV (.int i) x
 | .str z _=>eqV (.str z) x
 | _=>false
theorem Xom{x y:V}{u:Value}(r:RelV y u)(f:Xdn y=true):eqU x u=eqV y x:=by
 cases y with
 | non=>cases r;rfl
 | bl b=>cases r;rfl
 | int i=>obtain⟨t,rfl⟩:=r;rfl
 | str z=>obtain⟨t,rfl⟩:=r;rfl
 | _=>exact absurd (show false=true from f) Xz1
theorem Xgo{x:V}:∀{xs:List V} {us:List Value},Vals xs us->xs.all Xdn=true->us.any (eqU x)=xs.any λy=>eqV y x
 | _,_,.nil,_=>rfl
 | y::xs,u::us,.cons r t,f=>by
  rw[List.all_cons,Xz2] at f
  rw[X2w,X2w,Xom r f.1,Xgo t f.2]
theorem Xdy{A:Around}{s:Shared}{x:V}{v:Value}(rx:RelV x v)(fx:Xdn x=true):∀{xs:List V} {us:List Value},Vals xs us->xs.all Xdn=true->∀u∈us,SeqAt.EqAt A s u v (eqU x u)
 | _,_,.nil,_=>λu hu=>by cases hu
 | y::xs,u::us,.cons r t,f=>λu' hu=>by
  rw[List.all_cons,Xz2] at f
  rcases Xzy.mp hu with rfl | hu
  ·rw[Xom r f.1];exact Xti r rx f.1 fx
  ·exact Xdy rx fx t f.2 u' hu
def inV (x:V) (xs:List V):Bool:=xs.any λy=>eqV y x
def rIn (K:PySem.W.Frag) (neg:Bool):R2:=λx y H Q=>∃p xs,y = .ref p/\(SqL K H p xs\/SqT K H p xs)/\Xdn x=true/\xs.all Xdn=true/\Q (.bl (if neg then !inV x xs else inV x xs)) H
theorem Xeo:OpR X (compareOp .In) (rIn X.K false):=by
 intro pins s σ H x y v u Q I rx ry h
 obtain⟨p,xs,rfl,hq,fx,fs,q⟩:=h
 cases ry
 rcases hq with hq | hq
 ·obtain⟨its,r,pl,hz⟩:=I.list hq
  refine SeqAt.in_listAt (eqU x) pl.isList (λw hw=>Xdy rx fx r fs w (by simpa using hw)) ⟨.bl _,H,I,rfl,?_⟩
  rw[show its.toArray.any (eqU x)=its.any (eqU x) by simp,Xgo r fs]
  exact q
 ·obtain⟨its,r,pl,hz⟩:=I.tuple hq
  refine SeqAt.in_tupleAt (eqU x) pl (λw hw=>Xdy rx fx r fs w (by simpa using hw)) ⟨.bl _,H,I,rfl,?_⟩
  rw[show its.toArray.any (eqU x)=its.any (eqU x) by simp,Xgo r fs]
  exact q
theorem Xdo:OpR X (compareOp .NotIn) (rIn X.K true):=by
 intro pins s σ H x y v u Q I rx ry h
 obtain⟨p,xs,rfl,hq,fx,fs,q⟩:=h
 cases ry
 rcases hq with hq | hq
 ·obtain⟨its,r,pl,hz⟩:=I.list hq
  refine SeqAt.notIn_listAt (eqU x) pl.isList (λw hw=>Xdy rx fx r fs w (by simpa using hw)) ⟨.bl _,H,I,rfl,?_⟩
  rw[show its.toArray.any (eqU x)=its.any (eqU x) by simp,Xgo r fs]
  exact q
 ·obtain⟨its,r,pl,hz⟩:=I.tuple hq
  refine SeqAt.notIn_tupleAt (eqU x) pl (λw hw=>Xdy rx fx r fs w (by simpa using hw)) ⟨.bl _,H,I,rfl,?_⟩
  rw[show its.toArray.any (eqU x)=its.any (eqU x) by simp,Xgo r fs]
  exact q
theorem Xaq:Xda X (.builtin "len") (λxs H Q=>∃p ys,xs=[.ref p]/\(SqL X.K H p ys\/SqT X.K H p ys)/\Q (.int ys.length) H):=by
 intro pins s σ H xs us Q I r h
 obtain⟨p,ys,rfl,hq,q⟩:=h
 obtain⟨u,rfl,rx⟩:=vals1 r
 cases rx
 have hn:=line63
 rcases hq with hq | hq
 ·obtain⟨its,r',pl,hz⟩:=I.list hq
  have hlen:=r'.length
  exact Calls.call_len_list pl.isList (by simp only[Xzp]<;>omega) ⟨.int ys.length,H,I.tok _,⟨s.toks+1,by rw[Xzp,hlen]⟩,q⟩
 ·obtain⟨its,r',pl,hz⟩:=I.tuple hq
  have hlen:=r'.length
  exact len_tuple pl (by simp only[Xzp]<;>omega) ⟨.int ys.length,H,I.tok _,⟨s.toks+1,by rw[Xzp,hlen]⟩,q⟩
theorem Xfq:Xda X (.type "list") (λxs H Q=>∃p ys,xs=[.ref p]/\(SqL X.K H p ys\/SqT X.K H p ys)/\∀l,H l=none->Q (.ref l) (upd H l (.lst ys))):=by
 intro pins s σ H xs us Q I r h
 obtain⟨p,ys,rfl,hq,q⟩:=h
 obtain⟨u,rfl,rx⟩:=vals1 r
 cases rx
 have fin:∀(its:List Value),Vals ys its->ys.length<=sizeLine->∀(h':Heap) (c':Nat),(∀b o',s.heap.get? b=some o'->h'.get? b=some o') ->
   h'.get? s.heap.objs.size=some {cls:=.type "list",dict:=none,data:=.seq its.toArray c',slots := #[]}->EP X pins σ Q (.ref s.heap.objs.size) {s with heap:=h'}:=λits r' hz h' c' kp e=>
  ⟨.ref s.heap.objs.size,_,I.laid (t':=s.toks) kp (Xzn _) (show Xbh X.prog X.w _ h' _ (.lst ys) from ⟨hz,its,c',r',e⟩),rfl,q _ (I.hok.fresh (Xzn _))⟩
 rcases hq with hq | hq
 ·obtain⟨its,r',pl,hz⟩:=I.list hq
  have hlen:=r'.length
  obtain⟨o,ho,hc,n,hd⟩:=pl.isList
  exact call_list_seq p (.inl rfl) ho hc hd (λh' c' kp e=>fin its r' hz h' c' kp e) (by simp only[Xzp]<;>omega)
 ·obtain⟨its,r',pl,hz⟩:=I.tuple hq
  have hlen:=r'.length
  obtain⟨o,ho,hc,n,hd⟩:=pl
  exact call_list_seq p (.inr rfl) ho hc hd (λh' c' kp e=>fin its r' hz h' c' kp e) (by simp only[Xzp]<;>omega)
theorem Xck:Xda X (.type "tuple") (λxs H Q=>∃p ys,xs=[.ref p]/\((SqL X.K H p ys/\∀l,H l=none->Q (.ref l) (upd H l (.tup ys)))\/(SqT X.K H p ys/\Q (.ref p) H))):=by
 intro pins s σ H xs us Q I r h
 obtain⟨p,ys,rfl,h⟩:=h
 obtain⟨u,rfl,rx⟩:=vals1 r
 cases rx
 rcases h with ⟨hq,q⟩ | ⟨hq,q⟩
 ·obtain⟨its,r',pl,hz⟩:=I.list hq
  have hlen:=r'.length
  refine call_tuple_list pl.isList (λh' kp=>?_) (by simp only[Xzp]<;>omega)
  have I1:Inv X pins σ H {s with heap:=h'}:=I.kept (t':=s.toks) kp
  have I2:Inv X pins σ (upd H h'.objs.size (.tup ys)) {s with heap:=h'.push {cls:=.type "tuple",data:=.seq its.toArray} }:=
   I1.laid (t':=s.toks) (λb o e=>X3t _ e) (Xzn _) (show Xbh X.prog X.w _ _ _ (.tup ys) from ⟨hz,its,r',IsTup.new _ _⟩)
  exact⟨.ref h'.objs.size,_,I2,rfl,q _ (I1.hok.fresh (Xzn _))⟩
 ·obtain⟨its,r',pl,hz⟩:=I.tuple hq
  exact call_tuple_same pl ⟨.ref p,H,I,rfl,q⟩
def tyV (K:PySem.W.Frag) (T:String) (x:V) (H:Hp):Prop:=match x with
 | .str _=>T = "str"
 | .int _=>T = "int"
 | .ref p=>(T = "list" /\ ∃xs,SqL K H p xs)\/(T = "tuple" /\ ∃o,K.lookup p=some o/\o.cls = .type "tuple" /\ o.dict=none) \/
   (T = "dict" /\ ((∃kvs,H p=some (.dK kvs)) \/ ∃kvs,H p=some (.dT kvs)))\/(T = "set" /\ ∃S n,H p=some (.set S n))
 | _=>False
theorem Xwt{pins:List (Addr×Obj)}{σ:St}{H:Hp}{s:Shared}{T:String}{x:V}{v:Value}(I:Inv X pins σ H s)(r:RelV x v)(ty:tyV X.K T x H):
  s.TypeIs v T/\∀a,v = .ref a->∃ob,s.heap.get? a=some ob/\ob.dict=none:=by
 cases x with
 | str z=>
  obtain⟨t,rfl⟩:=r
  cases (show T = "str" from ty)
  exact⟨typeIs_str s z t,λ_ e=>nomatch e⟩
 | int i=>
  obtain⟨t,rfl⟩:=r
  cases (show T = "int" from ty)
  exact⟨typeIs_int s i t,λ_ e=>nomatch e⟩
 | ref p=>
  cases r
  rcases ty with ⟨rfl,xs,hq⟩ | ⟨rfl,o,hk,hc,hd⟩ | ⟨rfl,hk⟩ | ⟨rfl,S,n,hk⟩
  ·obtain⟨its,_,pl,_⟩:=I.list hq
   refine⟨pl.isList.typeIs,λa e=>?_⟩
   cases e
   obtain⟨o,n,e,c,hd,_⟩:=pl
   exact⟨o,e,hd⟩
  ·refine⟨⟨o,I.kIn p o hk,hc⟩,λa e=>?_⟩
   cases e
   exact⟨o,I.kIn _ o hk,hd⟩
  ·have z:∃o,s.heap.get? p=some o/\o.ExactDict:=by
    rcases hk with ⟨kvs,hk⟩ | ⟨kvs,hk⟩
    ·obtain⟨_,_,_,_,o,_,_,e,ex,_⟩:=I.hok p _ hk
     exact⟨o,e,ex⟩
    ·obtain⟨_,_,_,_,o,_,_,e,ex,_⟩:=I.hok p _ hk
     exact⟨o,e,ex⟩
   obtain⟨o,e,ex⟩:=z
   refine⟨⟨o,e,ex.1⟩,λa e2=>?_⟩
   cases e2
   exact⟨o,e,ex.2.1⟩
  ·obtain⟨o,_,_,_,e,ex,_⟩:=I.hok p _ hk
   refine⟨⟨o,e,ex.1⟩,λa e2=>?_⟩
   cases e2
   exact⟨o,e,ex.2.1⟩
 | _=>exact False.elim ty
def tBM (K:PySem.W.Frag) (T:String) (r:V->List V->Hp->VK->Prop) (to:TE) (t:TA):TE:=fun σ H Q=>to σ H λx H1=>tyV K T x H1/\t σ H1 λxs H2=>r x xs H2 Q
variable {o e:Expr}{es:List Expr}{to:TE}{t:TA}{name:Str}{apos cpos:Pos}{T id:String}{r:V->List V->Hp->VK->Prop}
theorem Xon(pa:PlainAttrs T)(slot:Slot T name id)(hty:typeOf (.builtin id)=pure (.type "method_descriptor"))(hm:MtR X id r)(ho:PE X o to)(ha:PA X (e::es) t)
  (hbase:attributeBase o name X.env (eval o X.env)=eval o X.env:=by rfl)
  (hfew:((backTo cpos (starEach (e::es) X.env)).all (λx => !x.1)&&(backToKw cpos (keywordEach [] X.env)).all (λx=>x.1.isSome)
   && decide ((e::es).length+([]:List Keyword).length+(if ([]:List Keyword).isEmpty then 0 else 1)<30))=true:=by rfl)
  (hline:(apos.endLine==cpos.line)=true:=by rfl) (hs:starEach (e::es) X.env=(false,eval e X.env)::starEach es X.env:=by rfl) (hplain:(backTo cpos (starEach es X.env)).any (·.1)=false:=by rfl):
  PE X (.Call (.Attribute o name apos) (e::es) [] cpos) (tBM X.K T r to t):=by
 intro pins s σ H Q I h
 refine wpAny_Call_method_late hbase hfew hline rfl (thn (ho pins s σ H _ I h) λv s1 ⟨x,H1,I1,r1,ty,q1⟩=>?_)
 obtain⟨h1,h2⟩:=Xwt I1 r1 ty
 refine⟨T,id,pa,slot,hty,h1,h2,?_⟩
 have hA:=ha cpos pins s1 σ H1 _ I1 q1
 rw[hs] at hA ⊢
 refine Calls.callWith_builtin (by show (false||(backTo cpos (starEach es X.env)).any (·.1))=false;rw[hplain]<;>rfl) (Calls.evalArgs_plain ?_)
 exact thn hA λus s2 ⟨vs,H2,I2,r2,q2⟩=>hm pins s2 σ H2 x vs v us Q I2 r1 r2 q2
end
def MtM (X:Cx) (id:String) (r:V->List V->Hp->VK->Prop):Prop:=
 ∀(pins:List (Addr×Obj)) (s:Shared) (σ:St) (H:Hp) (x:V) (xs:List V) (v:Value) (us:List Value) (Q:VK),Inv X pins σ H s->RelV x v->Vals xs us->r x xs H Q ->
  wpAny (model X.prog X.w) X.A (call (.builtin id) (v::us)) (EP X pins σ Q) X.xe s
theorem Vals.one:∀{x:V} {us:List Value},Vals [x] us->∃u,us=[u]/\RelV x u
 | _,_,.cons r .nil=>⟨_,rfl,r⟩
theorem Vals.two{x y:V}{us:List Value}(h:Vals [x,y] us):∃u v,us=[u,v]/\RelV x u/\RelV y v:=by
 cases h with
 | cons r t=>
  cases t with
  | cons q z=>cases z;exact⟨_,_,rfl,r,q⟩
theorem Vals.reverse{xs:List V}{us:List Value}(h:Vals xs us):Vals xs.reverse us.reverse:=by
 induction h with
 | nil=>exact .nil
 | cons r t ih=>rw[List.reverse_cons,List.reverse_cons];exact Vals.append ih (.cons r .nil)
theorem Vals.rep{xs:List V}{us:List Value}(h:Vals xs us):∀k:Nat,Vals (List.replicate k xs).flatten (List.replicate k us).flatten
 | 0=>.nil
 | k+1=>by
  rw[X1c,X1c,X2p,X2p]
  exact Vals.append h (Vals.rep h k)
theorem Xi8(its:List Value):∀(k:Nat) (acc:List Value),
  List.foldl (λx1 x2=>x1++x2) acc.toArray (List.replicate k its.toArray)=(acc++(List.replicate k its).flatten).toArray
 | 0,acc=>by simp
 | k+1,acc=>by
  have e:acc.toArray++its.toArray=(acc++its).toArray:=by simp
  have e2:(acc++its)++(List.replicate k its).flatten=acc++(List.replicate (k+1) its).flatten:=by
   rw[X1c,X2p,X17]
  rw[<-e2,<-Xi8 its k (acc++its),<-e,X1c,X2e]
section
variable {X:Cx}{pins:List (Addr×Obj)}{σ:St}{H:Hp}{s:Shared}{l b:Addr}{xs ys zs:List V}
theorem Inv.lset{its its':List Value}{n:Nat}{f:Array Value->Array Value}{t':Nat}(I:Inv X pins σ H s)(hH:H l=some (.lst xs))
  (e:s.heap.get? l=some {cls:=.type "list",data:=.seq its.toArray n}) (hf:f its.toArray=its'.toArray) (hv:Vals ys its') (hz:ys.length<=sizeLine):
  Inv X pins σ (upd H l (.lst ys)) {s with heap:=s.heap.update l (Obj.mapSeq f),toks:=t'}:=by
 have q:=PySem.IsL.update e f
 rw[hf] at q
 refine I.write (x:=l) (e:=l) (by rw[hH];exact trivial) (.inl rfl) (λb' u hb hu=>(Heap.get?_update_other s.heap (Obj.mapSeq f) (Ne.symm hb)).trans hu) ⟨_,q⟩ ?_
 exact⟨hz,its',_,hv,q⟩
theorem Inv.lnew{its:List Value}{t':Nat}(I:Inv X pins σ H s)(hv:Vals ys its)(hz:ys.length<=sizeLine):
  Inv X pins σ (upd H s.heap.objs.size (.lst ys)) {s with heap:=s.heap.push {cls:=.type "list",data:=.seq its.toArray},toks:=t'}:=
 I.laid (λ_ _ q=>X3t _ q) (Xzn _) ⟨hz,its,0,hv,Heap.get?_push_size _ rfl⟩
theorem Inv.fresh(I:Inv X pins σ H s):H s.heap.objs.size=none:=I.hok.fresh (Xzn _)
theorem Inv.lstM(I:Inv X pins σ H s)(hH:H l=some (.lst xs)):xs.length<=sizeLine/\∃(its:List Value) (n:Nat),Vals xs its/\xs.length=its.length/\s.heap.get? l=some {cls:=.type "list",data:=.seq its.toArray n}:=by
 obtain⟨z,its,n,r,e⟩:=I.hok l _ hH
 exact⟨z,its,n,r,r.length,e⟩
theorem Xrg{n:Nat}(h:n<=sizeLine):Builtin.List.listTooLong n=false:=by
 unfold Builtin.List.listTooLong
 exact X3p (by omega)
end
section
variable {X:Cx}
def Xkt:V->List V->Hp->VK->Prop:=λx vs H Q=>∃l xs y,x = .ref l/\vs=[y]/\H l=some (.lst xs)/\xs.length<sizeLine/\Q .non (upd H l (.lst (xs++[y])))
theorem Xdp:MtM X "list.append" Xkt:=by
 intro pins s σ H x vs v us Q I rx rv h
 obtain⟨l,xs,y,rfl,rfl,hH,hz,q⟩:=h
 cases rx
 obtain⟨u,rfl,ru⟩:=rv.one
 obtain⟨z,its,n,r,hl,e⟩:=I.lstM hH
 refine call_meets F.slot_list_append ⟨_,e,rfl⟩ F.entry_list_append (F.args_list_append_2 _ _) (PySem.list_append l its.toArray n u (by rw[Xzp];omega)) ⟨e,?_⟩
 refine⟨.non,_,I.lset (its':=its++[u]) hH e (by simp) (r.append (.cons ru .nil)) ?_,rfl,q⟩
 rw[Xzx,X0z]
 omega
def rCat:R2:=λx y H Q=>∃l b xs zs,x = .ref l/\y = .ref b/\H l=some (.lst xs)/\H b=some (.lst zs)/\xs.length+zs.length<=sizeLine/\∀p,H p=none->Q (.ref p) (upd H p (.lst (xs++zs)))
theorem Xbi:OpR X (binaryOp .Add) rCat:=by
 intro pins s σ H x y v u Q I rx ry h
 obtain⟨l,b,xs,zs,rfl,rfl,hH,hB,hz,q⟩:=h
 cases rx
 cases ry
 obtain⟨z,its,n,r,hl,e⟩:=I.lstM hH
 obtain⟨z2,its2,n2,r2,hl2,e2⟩:=I.lstM hB
 refine PySem.P.add_list e e2 ?_ (by rw[Xzp,Xzp];omega)
 have ea:its.toArray++its2.toArray=(its++its2).toArray:=by simp
 rw[ea]
 exact⟨.ref _,_,I.lnew (t':=s.toks) (r.append r2) (by rw[Xzx];omega),rfl,q _ I.fresh⟩
def rRep:R2:=λx y H Q=>∃l k xs,x = .ref l/\y = .int k/\H l=some (.lst xs) /\ -(2 ^ 63)<=k/\k<2 ^ 63/\xs.length * k.toNat<=sizeLine /\
 ∀p,H p=none->Q (.ref p) (upd H p (.lst (List.replicate k.toNat xs).flatten))
theorem Xuh{α : Type}(xs:List α)(k:Nat):(List.replicate k xs).flatten.length=k * xs.length:=by
 induction k with
 | zero=>simp
 | succ k ih=>rw[X1c,X2p,Xzx,ih,Nat.succ_mul,Nat.add_comm]
theorem Xtj:OpR X (binaryOp .Mult) rRep:=by
 intro pins s σ H x y v u Q I rx ry h
 obtain⟨l,k,xs,rfl,rfl,hH,h1,h2,hz,q⟩:=h
 cases rx
 obtain⟨t,rfl⟩:=ry
 obtain⟨z,its,n,r,hl,e⟩:=I.lstM hH
 have hlen:its.toArray.size * k.toNat<=sizeLine:=by rw[Xzp,<-hl];exact hz
 have hcap:¬its.toArray.size * k.toNat > (2 ^ 63 - 1) / 8:=by
  have:(sizeLine:Nat)<=(2 ^ 63 - 1) / 8:=by decide
  omega
 have hfit:¬(!Builtin.List.listFitsIndex k)=true:=by
  rw[fitsIndex_both h1 h2]
  exact Xz1
 have hlong:¬Builtin.List.listTooLong (its.toArray.size * k.toNat)=true:=by
  rw[Xrg hlen]
  exact Xz1
 have hnew:List.foldl (λx1 x2=>x1++x2) #[] (List.replicate (if its.toArray.isEmpty=true then 0 else k.toNat) its.toArray)=(List.replicate k.toNat its).flatten.toArray:=by
  have f0:∀m:Nat,List.foldl (λx1 x2=>x1++x2) #[] (List.replicate m its.toArray)=(List.replicate m its).flatten.toArray:=λm=>by
   have:=Xi8 its m []
   rw[X12] at this
   exact this
  rw[f0]
  cases its with
  | nil=>simp
  | cons a r'=>rw[X3m (by simp)]
 refine wpAny_binaryOp_repeat_ref (T := "list") (U := "int") (by decide) ⟨_,e,rfl⟩ (λs'=>typeIs_int s' k t) noFill_list_mul F.fills_int_mul F.slot_int_rmul repeat_list F.slot_int_index.lookup
  (call_meets F.slot_int_rmul (typeIs_int s k t) F.entry_int_rmul (F.args_int_rmul_2 _ _) (int___rmul___int_list k t l its.toArray n)
   ⟨e,rfl,⟨_,e,rfl⟩,call_meets F.slot_list_mul ⟨_,e,rfl⟩ F.entry_list_mul (F.args_list_mul_2 _ _) (AutoListH.list___mul___list_int_3 l its.toArray n k t hfit hcap hlong) ⟨e,?_⟩⟩)
 rw[hnew]
 exact⟨.ref _,_,I.lnew (t':=s.toks) (r.rep k.toNat) (by rw[Xuh,Nat.mul_comm];exact hz),rfl,q _ I.fresh⟩
end
section
variable {prog:Program}{w:World}{A:Around}{E:Value->Shared->Prop}{s:Shared}
end
section
variable {X:Cx}
end
section
variable {κ : Type} [DecidableEq κ]
def valV (kvs:List (κ × V)) (k : κ):Option V:=(kvs.find? λkv=>decide (kv.1=k)).map (·.2)
def putK (kvs:List (κ × V)) (k : κ) (v:V):List (κ × V):=
 if (kvs.any λkv=>decide (kv.1=k))=true then kvs.map (λkv=>if kv.1=k then (kv.1,v) else kv) else kvs++[(k,v)]
def Xwu (kvs:List (κ × V)) (k : κ):List (κ × V):=kvs.filter λkv=>decide (kv.1≠k)
theorem Xb2{p : κ × V}{r:List (κ × V)}{k : κ}(e:p.1=k):valV (p::r) k=some p.2:=by simp[valV,X13,e]
theorem Xb3{p : κ × V}{r:List (κ × V)}{k : κ}(e:¬p.1=k):valV (p::r) k=valV r k:=by simp[valV,X13,e]
theorem Xcs(k : κ):∀kvs:List (κ × V),(kvs.any λkv=>decide (kv.1=k))=(valV kvs k).isSome
 | []=>rfl
 | p::r=>by
  rw[X2w]
  by_cases e:p.1=k
  ·simp only[Xb2 e,X3o e,Bool.true_or,X24]
  ·rw[Xb3 e,X3p e,Bool.false_or];exact Xcs k r
theorem Xl1(k j : κ)(y:V):∀kvs:List (κ × V),valV (kvs.map λkv=>if kv.1=k then (kv.1,y) else kv) j=(valV kvs j).map λx=>if j=k then y else x
 | []=>rfl
 | p::r=>by
  have ih:=Xl1 k j y r
  rw[Xz9]
  by_cases h:p.1=k
  ·rw[X3n h]
   by_cases e:p.1=j
   ·rw[Xb2 (p:=(p.1,y)) e,Xb2 e,X1k,X3n (e.symm.trans h)]
   ·rw[Xb3 (p:=(p.1,y)) e,Xb3 e,ih]
  ·rw[X3m h]
   by_cases e:p.1=j
   ·rw[Xb2 (p:=p) e,Xb2 e,X1k,X3m (λz=>h (e.trans z))]
   ·rw[Xb3 (p:=p) e,Xb3 e,ih]
theorem Xi9(k j : κ)(y:V):∀kvs:List (κ × V),valV kvs k=none->valV (kvs++[(k,y)]) j=if j=k then some y else valV kvs j
 | [],_=>by
  by_cases e:k=j
  ·rw[X3n e.symm];exact Xb2 (p:=(k,y)) e
  ·rw[X3m (λz=>e z.symm)];exact Xb3 (p:=(k,y)) e
 | p::r,hn=>by
  rw[List.cons_append]
  have hk:¬p.1=k:=λz=>by rw[Xb2 z] at hn;cases hn
  rw[Xb3 hk] at hn
  have ih:=Xi9 k j y r hn
  by_cases e:p.1=j
  ·rw[Xb2 e,Xb2 e,X3m (λz=>hk (e.trans z))]
  ·rw[Xb3 e,Xb3 e,ih]
theorem Xep(kvs:List (κ × V))(k j : κ)(y:V):valV (putK kvs k y) j=if j=k then some y else valV kvs j:=by
 unfold putK
 by_cases a:(kvs.any λkv=>decide (kv.1=k))=true
 ·rw[X3n a,Xl1]
  rw[Xcs] at a
  by_cases e:j=k
  ·obtain⟨x,hx⟩:=X1e.mp a
   rw[X3n e,e,hx,X1k,X3n rfl]
  ·rw[X3m e]
   cases valV kvs j with
   | none=>rfl
   | some x=>rw[X1k,X3m e]
 ·rw[X3m a]
  refine Xi9 k j y kvs ?_
  rw[Xcs] at a
  cases q:valV kvs k with
  | none=>rfl
  | some x=>rw[q] at a;exact(a rfl).elim
theorem Xcm(kvs:List (κ × V))(k : κ)(v:V):(putK kvs k v).length<=kvs.length+1:=by
 unfold putK
 split
 ·rw[Xzl];omega
 ·rw[Xzx,Xz6,X1d];omega
theorem Xeq{kvs:List (κ × V)}{k : κ}(v:V)(h:valV kvs k=none):putK kvs k v=kvs++[(k,v)]:=by
 unfold putK
 rw[Xcs,h]
 exact X3m (by decide)
theorem RelO.isSome_eq{o:Option V}{u:Option Value}(r:RelO o u):o.isSome=u.isSome:=by
 cases o with
 | none=>cases u with
  | none=>rfl
  | some _=>exact(show False from r).elim
 | some _=>cases u with
  | none=>exact(show False from r).elim
  | some _=>rfl
theorem RelO.getD{o:Option V}{u:Option Value}{d:V}{d':Value}(r:RelO o u)(rd:RelV d d'):RelV (o.getD d) (u.getD d'):=by
 cases o with
 | none=>cases u with
  | none=>exact rd
  | some _=>exact(show False from r).elim
 | some _=>cases u with
  | none=>exact(show False from r).elim
  | some _=>exact r
theorem KV.val{kvs:List (κ × V)}{vs:List (κ × Value)}(r:KV kvs vs)(k : κ):RelO (valV kvs k) (valueAt vs k):=by
 unfold KV at r
 induction r with
 | nil=>exact True.intro
 | @cons p q ps qs h t ih=>
  obtain⟨h1,h2⟩:=h
  by_cases e:p.1=k
  ·have e':q.1=k:=h1.symm.trans e
   have b:valueAt (q::qs) k=some q.2:=by simp[valueAt,X13,e']
   rw[Xb2 e,b];exact h2
  ·have e':¬q.1=k:=λz=>e (h1.trans z)
   have b:valueAt (q::qs) k=valueAt qs k:=by simp[valueAt,X13,e']
   rw[Xb3 e,b];exact ih
theorem KV.any{kvs:List (κ × V)}{vs:List (κ × Value)}(r:KV kvs vs)(k : κ):(kvs.any λkv=>decide (kv.1=k))=vs.any λkv=>decide (kv.1=k):=by
 unfold KV at r
 induction r with
 | nil=>rfl
 | cons h t ih=>rw[X2w,X2w,ih,h.1]
theorem KV.repl{kvs:List (κ × V)}{vs:List (κ × Value)}(r:KV kvs vs)(k : κ){y:V}{u:Value}(ry:RelV y u):
  KV (kvs.map λkv=>if kv.1=k then (kv.1,y) else kv) (vs.map λkv=>if kv.1=k then (kv.1,u) else kv):=by
 unfold KV at r ⊢
 induction r with
 | nil=>exact .nil
 | @cons p q ps qs h t ih=>
  rw[Xz9,Xz9]
  refine .cons ?_ ih
  obtain⟨h1,h2⟩:=h
  by_cases e:p.1=k
  ·rw[X3n e,X3n (h1.symm.trans e)];exact⟨h1,ry⟩
  ·rw[X3m e,X3m (λz=>e (h1.trans z))];exact⟨h1,h2⟩
theorem KV.put{kvs:List (κ × V)}{vs:List (κ × Value)}(r:KV kvs vs)(k : κ){y:V}{u:Value}(ry:RelV y u):KV (putK kvs k y) (stored vs k u):=by
 unfold putK stored
 rw[r.any k]
 by_cases e:(vs.any λkv=>decide (kv.1=k))=true
 ·rw[X3n e,X3n e];exact r.repl k ry
 ·rw[X3m e,X3m e];exact Paired.snoc r ⟨rfl,ry⟩
theorem KV.keys{kvs:List (κ × V)}{vs:List (κ × Value)}(r:KV kvs vs):kvs.map (·.1)=vs.map (·.1):=by
 unfold KV at r
 induction r with
 | nil=>rfl
 | cons h t ih=>rw[Xz9,Xz9,ih,h.1]
theorem KV.length{kvs:List (κ × V)}{vs:List (κ × Value)}(r:KV kvs vs):kvs.length=vs.length:=Paired.length r
end
theorem Xna{P:Program}{w:World}{k:Key}{u:Value}(r:RelV (kV k) u):(Xau P w).is k u=true:=by
 cases k with
 | inl i=>obtain⟨t,e⟩:=(show ∃t,u=Value.int i t from r);subst e;exact Xko P w i t
 | inr x=>obtain⟨t,e⟩:=(show ∃t,u=Value.str x t from r);subst e;exact Xkp P w x t
theorem Xja{P:Program}{w:World}:∀{ks:List Key} {us:List Value},Vals (ks.map kV) us->ItemsAre (Xau P w) ks us
 | [],_,r=>by rw[X3h] at r;cases r;exact .nil
 | k::ks,_,r=>by
  rw[Xz9] at r
  cases r with
  | cons h t=>exact .cons (Xna h) (Xja t)
abbrev KT (H:Hp):List (List Key×V)->List (List Key×Addr×Value)->Prop:=Paired λp q=>p.1=q.1/\H q.2.1=some (.tup (p.1.map kV))/\RelV p.2 q.2.2
theorem KT.val{H:Hp}{kvs:List (List Key×V)}{xs:List (List Key×Addr×Value)}(r:KT H kvs xs)(k:List Key):RelO (valV kvs k) ((atKey xs k).map (·.2)):=by
 induction r with
 | nil=>exact True.intro
 | @cons p q ps qs h t ih=>
  obtain⟨h1,_,h2⟩:=h
  by_cases e:p.1=k
  ·have e':q.1=k:=h1.symm.trans e
   have b:atKey (q::qs) k=some q.2:=by simp[atKey,X13,e']
   rw[Xb2 e,b];exact h2
  ·have e':¬q.1=k:=λz=>e (h1.trans z)
   have b:atKey (q::qs) k=atKey qs k:=by simp[atKey,X13,e']
   rw[Xb3 e,b];exact ih
theorem KT.repl{H:Hp}{kvs:List (List Key×V)}{xs:List (List Key×Addr×Value)}(r:KT H kvs xs)(k:List Key){y:V}{u:Value}(ry:RelV y u):
  KT H (kvs.map λkv=>if kv.1=k then (kv.1,y) else kv) (xs.map (putAt k u)):=by
 induction r with
 | nil=>exact .nil
 | @cons p q ps qs h t ih=>
  rw[Xz9,Xz9]
  refine .cons ?_ ih
  obtain⟨h1,h2,h3⟩:=h
  unfold putAt
  by_cases e:p.1=k
  ·rw[X3n e,X3n (h1.symm.trans e)];exact⟨h1,h2,ry⟩
  ·rw[X3m e,X3m (λz=>e (h1.trans z))];exact⟨h1,h2,h3⟩
theorem KT.put{H:Hp}{kvs:List (List Key×V)}{xs:List (List Key×Addr×Value)}(r:KT H kvs xs)(k:List Key){b:Addr}{y:V}{u:Value}(hb:H b=some (.tup (k.map kV)))(ry:RelV y u):
  KT H (putK kvs k y) (storedH xs k b u):=by
 have e:(kvs.any λkv=>decide (kv.1=k))=(atKey xs k).isSome:=by
  rw[Xcs,(r.val k).isSome_eq,Option.isSome_map]
 unfold putK storedH
 rw[e]
 by_cases q:(atKey xs k).isSome=true
 ·rw[X3n q,X3n q];exact r.repl k ry
 ·rw[X3m q,X3m q];exact Paired.snoc r ⟨rfl,hb,ry⟩
theorem KT.keeps{H H':Hp}{kvs:List (List Key×V)}{xs:List (List Key×Addr×Value)}(r:KT H kvs xs)(ht:∀b ys,H b=some (.tup ys)->H' b=some (.tup ys)):KT H' kvs xs:=
 Paired.mapP r λ_ _ z=>⟨z.1,ht _ _ z.2.1,z.2.2⟩
section
variable {P:Program}{w:World}{H:Hp}{h:Heap}{a:Addr}
theorem Xwv{u:HO}(ok:HOk P w H h)(e:Rd H a u):Xbh P w H h a u:=e.ok ok
theorem Xnb{kvs:List (Key×V)}(ok:HOk P w H h)(e:Rd H a (.dK kvs)):kvs.length<=sizeLine/\(a==sysModules)=false/\∃vs,KV kvs vs/\h.DictOf (Xau P w) a vs:=
 show Xbh P w H h a (.dK kvs) from Xwv ok e
theorem Xui{kvs:List (Key×V)}(ok:HOk P w H h)(e:H a=some (.dK kvs)):kvs.length<=sizeLine/\(a==sysModules)=false/\∃vs,KV kvs vs/\h.DictOf (Xau P w) a vs:=Xnb ok (.inl e)
theorem Xl2{ks:List Key}(ok:HOk P w H h)(e:H a=some (.tup (ks.map kV))):(tupleKind (Xau P w)).is h ks a:=by
 obtain⟨_,its,r,o,h1,h2,n,h3⟩:=(show Xbh P w H h a (.tup (ks.map kV)) from ok a _ e)
 exact⟨o,its.toArray,n,h1,h2,h3,by simpa using Xja r⟩
theorem Xoo{kvs:List (List Key×V)}(ok:HOk P w H h)(e:Rd H a (.dT kvs)):kvs.length<=sizeLine/\(a==sysModules)=false /\
  ∃xs,KT H kvs xs/\h.DictOfH (tupleKind (Xau P w)) a xs:=by
 obtain⟨z,y,xs,r,o,es,ep,h1,h2,h3,h4,h5⟩:=(show Xbh P w H h a (.dT kvs) from Xwv ok e)
 refine⟨z,y,xs,r,o,es,ep,h1,h2,h3,h4,λx hx=>?_,h5⟩
 have all:∀{l:List (List Key×V)} {m:List (List Key×Addr×Value)},KT H l m->∀x∈m,(tupleKind (Xau P w)).is h x.1 x.2.1:=by
  intro l m q
  induction q with
  | nil=>intro x hx;exact nomatch hx
  | @cons p q ps qs hq t ih=>
   intro x hx
   rcases Xzy.mp hx with e | hx
   ·subst e
    exact Xl2 ok (by rw[<-hq.1];exact hq.2.1)
   ·exact ih x hx
 exact all r x hx
theorem Xyx{kvs:List (List Key×V)}(ok:HOk P w H h)(e:H a=some (.dT kvs)):kvs.length<=sizeLine/\(a==sysModules)=false /\
  ∃xs,KT H kvs xs/\h.DictOfH (tupleKind (Xau P w)) a xs:=Xoo ok (.inl e)
end
def DGet (H:Hp) (a:Addr) (y:V) (r:Option V):Prop:=
 (∃kvs k,Rd H a (.dK kvs)/\y=kV k/\r=valV kvs k) \/ ∃kvs k b,Rd H a (.dT kvs)/\y = .ref b/\H b=some (.tup (k.map kV))/\r=valV kvs k
def DPut (H:Hp) (a:Addr) (y v:V) (H':Hp):Prop:=
 (∃kvs k,H a=some (.dK kvs)/\y=kV k/\kvs.length<sizeLine/\H'=upd H a (.dK (putK kvs k v))) \/
 ∃kvs k b,H a=some (.dT kvs)/\y = .ref b/\H b=some (.tup (k.map kV))/\kvs.length<sizeLine/\H'=upd H a (.dT (putK kvs k v))
theorem DGet.k{H:Hp}{a:Addr}{kvs:List (Key×V)}{k:Key}(e:H a=some (.dK kvs)):DGet H a (kV k) (valV kvs k):=.inl ⟨kvs,k,.inl e,rfl,rfl⟩
theorem DPut.k{H:Hp}{a:Addr}{kvs:List (Key×V)}{k:Key}{v:V}(e:H a=some (.dK kvs))(hl:kvs.length<sizeLine):DPut H a (kV k) v (upd H a (.dK (putK kvs k v))):=.inl ⟨kvs,k,e,rfl,hl,rfl⟩
section
variable {X:Cx}{pins:List (Addr×Obj)}{σ:St}{H:Hp}{s:Shared}{a:Addr}{y v:V}{u r:Value}{o:Option V}{A:Around}{E:Value->Shared->Prop}
theorem Inv.big(I:Inv X pins σ H s):sysModules<s.heap.objs.size:=by
 have h:mainGlobals<s.heap.objs.size:=(I.mod.glob.keeps I.bk).lt
 exact X1q (by decide) h
theorem d_getItem{Q:Value->Shared->Prop}(hu:A.units+1<cLine)(I:Inv X pins σ H s)(g:DGet H a y (some v))(ry:RelV y u)(h:∀w' s',Inv X pins σ H s'->RelV v w'->Q w' s'):
  wpAny (model X.prog X.w) A (getItem (.ref a) u) Q E s:=by
 rcases g with ⟨kvs,k,e,ey,l⟩ | ⟨kvs,k,b,e,ey,eb,l⟩
 ·subst ey
  obtain⟨z,hd,vs,rel,dd⟩:=Xnb I.hok e
  obtain⟨w',hw,rw'⟩:=RelO.some_of (v:=v) (o:=valueAt vs k) (by rw[l];exact rel.val k)
  exact wpAny_getItem_of (Xna ry) dd.mapOf hw (h w' _ (I.tok _) rw')
 ·subst ey
  cases (show u=Value.ref b from ry)
  obtain⟨z,hd,xs,rel,dd⟩:=Xoo I.hok e
  obtain⟨w',hw,rw'⟩:=RelO.some_of (v:=v) (o:=(atKey xs k).map (·.2)) (by rw[l];exact rel.val k)
  obtain⟨p,hp,hp2⟩:=Option.map_eq_some_iff.mp hw
  refine wpAny_getItem_heap (tupleKind_room_in1 hu) (Xl2 I.hok eb) dd hp ?_
  rw[hp2]
  exact h w' _ (I.tok _) rw'
theorem Xgp{h':Heap}{t':Nat}{ob:HO}(I:Inv X pins σ H s)(mu:Mut (H a))(hs:Heap.SameBut a s.heap h')(he:∃q,h'.get? a=some q)(new:Xbh X.prog X.w (upd H a ob) h' a ob):
  Inv X pins σ (upd H a ob) {s with heap:=h',toks:=t'}:=
 I.write (x:=a) (e:=a) mu (.inl rfl) (λb q hb z=>(hs.2 b hb).trans z) he new
theorem Xop{P:Program}{w:World}{H':Hp}{h':Heap}{kvs:List (Key×V)}{vs:List (Key×Value)}(z:kvs.length<=sizeLine)(hd:(a==sysModules)=false)(rel:KV kvs vs)(dd:h'.DictOf (Xau P w) a vs):
  Xbh P w H' h' a (.dK kvs):=⟨z,hd,vs,rel,dd⟩
theorem Xoq{H':Hp}{Q:Unit->Shared->Prop}(hu:A.units+1<cLine)(I:Inv X pins σ H s)(g:DPut H a y v H')(ry:RelV y u)(rv:RelV v r)(h:∀s',Inv X pins σ H' s'->Q () s'):
  wpAny (model X.prog X.w) A (setItem (.ref a) u r) Q E s:=by
 rcases g with ⟨kvs,k,e,ey,l,eH⟩ | ⟨kvs,k,b,e,ey,eb,l,eH⟩
 ·subst ey eH
  obtain⟨z,hd,vs,rel,dd⟩:=Xui I.hok e
  have hz:vs.length<=sizeLine:=by rw[<-rel.length];exact z
  have hl:(putK kvs k v).length<=sizeLine:=by have:=Xcm kvs k v;omega
  refine wpAny_setItem_pairs (hsz:=hz) (Xna ry) dd λh' dd' hs=>h _ ?_
  have he:∃q,h'.get? a=some q:=let ⟨q,_,_,hq,_⟩:=dd'; ⟨q,hq⟩
  exact Xgp I (by rw[e];exact True.intro) hs he (Xop hl hd (rel.put k rv) dd')
 ·subst ey eH
  cases (show u=Value.ref b from ry)
  obtain⟨z,hd,xs,rel,dd⟩:=Xyx I.hok e
  have hz:xs.length<=sizeLine:=by rw[<-Paired.length rel];exact z
  have hl:(putK kvs k v).length<=sizeLine:=by have:=Xcm kvs k v;omega
  refine wpAny_setItem_heap (hsz:=hz) (tupleKind_room_in1 hu) (Xl2 I.hok eb) dd λh' dd' hs=>h _ ?_
  obtain⟨q,es,ep,hq,h2,h3,h4,_,h5⟩:=dd'
  refine Xgp I (by rw[e];exact True.intro) hs ⟨q,hq⟩ ⟨hl,hd,_,(rel.put k eb rv).keeps λc ys ec=>?_,q,es,ep,hq,h2,h3,h4,h5⟩
  rw[Xae (Xwg ec e (λz=>nomatch z))]
  exact ec
end
section
variable {X:Cx}{pins:List (Addr×Obj)}{σ:St}{H:Hp}{s:Shared}{a:Addr}{kvs:List (Key×V)}{k:Key}{u:Value}{A:Around}{E:Value->Shared->Prop}
end
def NoSl (i:Expr):Prop:=∀ov iv,subscripted i false ov iv=operate [ov,iv] (getItem ov iv)
theorem Xuj{prog:Program}{w:World}{A:Around}{E:Value->Shared->Prop}{s:Shared}{env:Env}{value slice:Expr}{pos:Pos}{T id:String}{Q:Value->Shared->Prop}
  (hl:typeLookup (.type T) "__getitem__" = pure (some (.builtin id))) (hs:NoSl slice)
  (h:wpAny (model prog w) A (eval value env) (λo s₁=>wpAny (model prog w) A (eval slice env) (λi s₂=>s₂.TypeIs o T/\wpAny (model prog w) A (getItem o i) Q E s₂) E s₁) E s):
  wpAny (model prog w) A (eval (.Subscript value slice pos) env) Q E s:=by
 refine Subscript_ (wpAny_mono h (λo s₁ h₁=>wpAny_mono h₁ (λi s₂ h₂=>?_) λ_ _ x=>x) λ_ _ x=>x)
 obtain⟨hT,h₂⟩:=h₂
 unfold subscriptTail
 refine X3j ?_
 rw[getitemInPython_of_ne hT.not_modules]
 refine X3j (wpAny_specialOf hT hl ?_)
 have fin:wpAny (model prog w) A (subscripted slice false o i) (λr s₃=>wpAny (model prog w) A (letTemporaryGo value o r >>= λ_=>pure r) Q E s₃) E s₂:=by
  rw[hs o i]
  exact wpAny_operating (wpAny_mono h₂ (λr s₃ h₃=>X3j (wpAny_letTemporaryGo (X3k h₃))) λ_ _ x=>x)
 first
  | exact X3k (X3j fin)
  | exact X3j (X3k (X3j fin))
  | exact X3j fin
theorem Xku{X:Cx}{pins:List (Addr×Obj)}{σ:St}{H:Hp}{s:Shared}{a:Addr}{y:V}{o:Option V}(I:Inv X pins σ H s)(g:DGet H a y o):s.TypeIs (.ref a) "dict" := by
 rcases g with ⟨kvs,k,e,_,_⟩ | ⟨kvs,k,b,e,_,_,_⟩
 ·obtain⟨_,_,vs,_,dd⟩:=Xnb I.hok e
  exact dd.typeIs
 ·obtain⟨_,_,xs,_,dd⟩:=Xoo I.hok e
  exact dd.typeIs
def Xyy (td ty:TE):TE:=fun σ H Q=>td σ H λx H1=>ty σ H1 λy H2=>∃a v,x = .ref a/\DGet H2 a y (some v)/\Q v H2
def tDIn (ty td:TE):TE:=fun σ H Q=>ty σ H λy H1=>td σ H1 λx H2=>∃a o,x = .ref a/\DGet H2 a y o/\Q (.bl o.isSome) H2
def Xyz (td ty tv:TE):TS:=λD σ H=>tv σ H λv H1=>td σ H1 λx H2=>ty σ H2 λy H3=>∃a H4,x = .ref a/\DPut H3 a y v H4/\D.nx σ H4
def sDAug (td ty tv:TE) (rd:V->V->Hp->VK->Prop):TS:=λD σ H=>td σ H λx H1=>ty σ H1 λy H2=>∃a v,x = .ref a/\DGet H2 a y (some v) /\
 tv σ H2 λy2 H3=>rd v y2 H3 λz H4=>∃H5,DPut H4 a y z H5/\D.nx σ H5
def sDDel (td ty:TE):TS:=λD σ H=>td σ H λx H1=>ty σ H1 λy H2=>∃a kvs k,x = .ref a/\H2 a=some (.dK kvs)/\y=kV k/\(valV kvs k).isSome=true/\D.nx σ (upd H2 a (.dK (Xwu kvs k)))
section
variable {X:Cx}{o i e value:Expr}{pos pos' tpos:Pos}{td ty tv:TE}
theorem Xb4(hu:X.A.units+1<cLine)(ho:PE X o td)(hi:PE X i ty)(hs:NoSl i):PE X (.Subscript o i pos) (Xyy td ty):=by
 intro pins s σ H Q I h
 refine Xuj PySem.F.slot_dict_getitem.lookup hs (thn (ho pins s σ H _ I h) λu s1 ⟨x,H1,I1,rx,q1⟩=>thn (hi pins s1 σ H1 _ I1 q1) λiv s2 ⟨y,H2,I2,ry,a,v,ex,g,q2⟩=>?_)
 subst ex
 obtain rfl:u=Value.ref a:=rx
 exact⟨Xku I2 g,d_getItem hu I2 g ry λw' s3 I3 rw'=>⟨v,H2,I3,rw',q2⟩⟩
theorem Xuk(hu:X.A.units+1<cLine)(ho:PE X o td)(hi:PE X i ty)(hv:PE X value tv)(hs:swapsWith value (some (.Subscript o i pos')) pos.line X.env=pure false):
  PS X (.Assign [.Subscript o i pos'] value pos) (Xyz td ty tv):=by
 intro pins s σ H D I h
 refine wpAny_Assign_Subscript (thn (hv pins s σ H _ I h) λr s1 ⟨v,H1,I1,rv,q1⟩=>thn (ho pins s1 σ H1 _ I1 q1) λu s2 ⟨x,H2,I2,rx,q2⟩=>thn (hi pins s2 σ H2 _ I2 q2) λiv s3 ⟨y,H3,I3,ry,a,H4,ex,g,q3⟩=>?_) hs
 subst ex
 obtain rfl:u=Value.ref a:=rx
 exact Xoq hu I3 g ry rv λs4 I4=>⟨σ,H4,I4,q3⟩
end
theorem Xh6{P:Program}{w:World}{H:Hp}(h:Heap)(hb:sysModules<h.objs.size):Xbh P w H (h.push {cls:=.type "dict",data:=.dict #[]}) h.objs.size (.dK []):=
 ⟨X0m _,beq_eq_false_iff_ne.mpr (Ne.symm (Xzv hb)),[],.nil,Heap.DictOf.new h⟩
def Xww:TE:=λ_ H Q=>∀p,H p=none->Q (.ref p) (upd H p (.dK []))
section
variable {X:Cx}{pos:Pos}
theorem Xrh:PE X (.Dict [] [] pos) Xww:=λpins s σ H Q I h=>
 wpAny_Dict_empty ⟨.ref s.heap.objs.size,_,I.laid (a:=s.heap.objs.size) (o:=.dK []) (t':=s.toks) (λ_ _ q=>X3t _ q) (Xzn _) (Xh6 s.heap I.big),rfl,h _ (I.hok.fresh (Xzn _))⟩
end
def Xor:List (TE×TE)->St->Hp->(List (V×V)->Hp->Prop)->Prop
 | [],_,H,Q=>Q [] H
 | (tk,tv)::r, σ,H,Q=>tk σ H λx H1=>tv σ H1 λy H2=>Xor r σ H2 λps H3=>Q ((x,y)::ps) H3
abbrev VV:List (V×V)->List (Value×Value)->Prop:=Paired λp q=>RelV p.1 q.1/\RelV p.2 q.2
def PPs (X:Cx) (pos:Pos) (keys:List (Option Expr)) (values:List Expr) (trs:List (TE×TE)):Prop:=
 ∀(pins:List (Addr×Obj)) (s:Shared) (σ:St) (H:Hp) (Q:List (V×V)->Hp->Prop),Inv X pins σ H s->Xor trs σ H Q ->
  wpAny (model X.prog X.w) X.A (evalPairs (pairTrees keys values X.env pos)) (λvs s'=>∃ps H',Inv X pins σ H' s'/\VV ps vs/\Q ps H') X.xe s
theorem Xul{X:Cx}{pos:Pos}:PPs X pos [] [] []:=λpins s σ H Q I h=>pairTrees_nil_walk ⟨[],H,I,.nil,h⟩
theorem Xl3{X:Cx}{pos:Pos}{k v:Expr}{ks:List (Option Expr)}{vs:List Expr}{tk tv:TE}{trs:List (TE×TE)}(hk:PE X k tk)(hv:PE X v tv)(hr:PPs X pos ks vs trs):
  PPs X pos (some k::ks) (v::vs) ((tk,tv)::trs):=λpins s σ H Q I h=>
 pairTrees_cons_walk (thn (hk pins s σ H _ I h) λu s1 ⟨x,H1,I1,rx,q1⟩=>thn (hv pins s1 σ H1 _ I1 q1) λw2 s2 ⟨y,H2,I2,ry,q2⟩=>
  thn (hr pins s2 σ H2 _ I2 q2) λws s3 ⟨ps,H3,I3,rel,q3⟩=>⟨(x,y)::ps,H3,I3,.cons ⟨rx,ry⟩ rel,q3⟩)
def mergeK (kvs more:List (Key×V)):List (Key×V):=more.foldl (λacc kv=>putK acc kv.1 kv.2) kvs
theorem KV.merge:∀{more:List (Key×V)} {rs:List (Key×Value)} {kvs:List (Key×V)} {vs:List (Key×Value)},KV more rs->KV kvs vs->KV (mergeK kvs more) (merged vs rs):=by
 intro more rs kvs vs r
 unfold KV at r
 induction r generalizing kvs vs with
 | nil=>intro q;exact q
 | @cons p q ps qs h t ih=>
  intro r0
  have e:KV (putK kvs p.1 p.2) (stored vs q.1 q.2):=by
   have:=r0.put p.1 h.2
   rw[<-h.1];exact this
  exact ih e
theorem Xer:∀(more kvs:List (Key×V)),(mergeK kvs more).length<=kvs.length+more.length
 | [],kvs=>by show kvs.length<=kvs.length+0;omega
 | p::r,kvs=>by
  have h1:=Xer r (putK kvs p.1 p.2)
  have h2:=Xcm kvs p.1 p.2
  show (mergeK (putK kvs p.1 p.2) r).length<=_
  rw[Xz6];omega
theorem Xht{P:Program}{w:World}:∀{kvs:List (Key×V)} {ws:List (Value×Value)},VV (kvs.map λkv=>(kV kv.1,kv.2)) ws->∃rs,Carries (Xau P w) ws rs/\KV kvs rs
 | [],_,r=>by rw[X3h] at r;cases r;exact⟨[],True.intro,.nil⟩
 | p::kvs,_,r=>by
  rw[Xz9] at r
  cases r with
  | @cons a b as bs h t=>
   obtain⟨rs,c,q⟩:=Xht (P:=P) (w:=w) t
   obtain⟨b1,b2⟩:=b
   exact⟨(p.1,b2)::rs,⟨Xna h.1,rfl,c⟩,.cons ⟨rfl,h.2⟩ q⟩
def Xy0 (trs:List (TE×TE)):TE:=fun σ H Q=>∀p,H p=none->Xor trs σ (upd H p (.dK [])) λps H2=>H2 p=some (.dK [])/\∃kvs:List (Key×V),ps=kvs.map (λkv=>(kV kv.1,kv.2))/\kvs.length<=15/\Q (.ref p) (upd H2 p (.dK (mergeK [] kvs)))
theorem Xum{X:Cx}{pos:Pos}{keys:List (Option Expr)}{values:List Expr}{trs:List (TE×TE)}(h:PPs X pos keys values trs)(hall:keys.all (·.isSome)=true)(hl:keys.length=values.length)(h0:keys≠[])
  (h15:keys.length<=15):PE X (.Dict keys values pos) (Xy0 trs):=by
 intro pins s σ H Q I q
 have hn:=I.hok.fresh (Xzn s.heap.objs.size)
 have I1:=I.laid (a:=s.heap.objs.size) (o:=.dK []) (h':=s.heap.push {cls:=.type "dict",data:=.dict #[]}) (t':=s.toks) (λ_ _ q=>X3t _ q) (Xzn _) (Xh6 s.heap I.big)
 refine wpAny_Dict_walk (knd:=Xau X.prog X.w) hall hl h0 h15 (thn (h pins _ σ _ _ I1 (q _ hn)) λws s2 ⟨ps,H2,I2,rel,e,kvs,ep,lk,q2⟩=>?_)
 subst ep
 obtain⟨rs,c,rk⟩:=Xht (P:=X.prog) (w:=X.w) rel
 obtain⟨z,hd,vs0,r0,dd⟩:=Xui I2.hok e
 cases r0
 refine⟨rs,c,dd,λh' dd' hs=>⟨.ref s.heap.objs.size,_,?_,rfl,q2⟩⟩
 have hz:(mergeK [] kvs).length<=sizeLine:=by
  have h1:=Xer kvs []
  rw[X1d] at h1
  rw[X3l];omega
 have he:∃q,h'.get? s.heap.objs.size=some q:=let ⟨q,_,_,hq,_⟩:=dd'; ⟨q,hq⟩
 exact Xgp I2 (by rw[e];exact True.intro) hs he (Xop hz hd (rk.merge .nil) dd')
structure M1 (X:Cx) (o:Expr) (m:Str) (apos:Pos) (e:Expr) (cpos:Pos):Prop where
 base:attributeBase o m X.env (eval o X.env)=eval o X.env
 few:((backTo cpos (starEach [e] X.env)).all (λx => !x.1)&&(backToKw cpos (keywordEach [] X.env)).all (λx=>x.1.isSome)
  && decide (([e]:List Expr).length+([]:List Keyword).length+(if ([]:List Keyword).isEmpty then 0 else 1)<30))=true
 line:(apos.endLine==cpos.line)=true
 trees:backTo cpos (starEach [e] X.env)=[(false,eval e X.env)]
structure M2 (X:Cx) (o:Expr) (m:Str) (apos:Pos) (e f:Expr) (cpos:Pos):Prop where
 base:attributeBase o m X.env (eval o X.env)=eval o X.env
 few:((backTo cpos (starEach [e,f] X.env)).all (λx => !x.1)&&(backToKw cpos (keywordEach [] X.env)).all (λx=>x.1.isSome)
  && decide (([e,f]:List Expr).length+([]:List Keyword).length+(if ([]:List Keyword).isEmpty then 0 else 1)<30))=true
 line:(apos.endLine==cpos.line)=true
 trees:backTo cpos (starEach [e,f] X.env)=[(false,eval e X.env),(false,eval f X.env)]
def IsD (H:Hp) (a:Addr):Prop:=(∃kvs,Rd H a (.dK kvs)) \/ ∃kvs,Rd H a (.dT kvs)
theorem Xwx{X:Cx}{pins:List (Addr×Obj)}{σ:St}{H:Hp}{s:Shared}{a:Addr}(I:Inv X pins σ H s)(d:IsD H a):
  s.TypeIs (.ref a) "dict" /\ (∀b,Value.ref a = .ref b->∃ob,s.heap.get? b=some ob/\ob.dict=none)/\(a==sysModules)=false:=by
 rcases d with ⟨kvs,e⟩ | ⟨kvs,e⟩
 ·obtain⟨_,hd,vs,_,dd⟩:=Xnb I.hok e
  refine⟨dd.typeIs,λb q=>?_,hd⟩
  cases q
  obtain⟨ob,_,_,h1,h2,_⟩:=dd
  exact⟨ob,h1,h2.2.1⟩
 ·obtain⟨_,hd,xs,_,dd⟩:=Xoo I.hok e
  refine⟨dd.typeIs,λb q=>?_,hd⟩
  cases q
  obtain⟨ob,_,_,h1,h2,_⟩:=dd
  exact⟨ob,h1,h2.2.1⟩
section
variable {X:Cx}{pins:List (Addr×Obj)}{σ:St}{H:Hp}{s:Shared}{a:Addr}{y d:V}{u r:Value}{o:Option V}{A:Around}{E:Value->Shared->Prop}
theorem Xwy{Q:Value->Shared->Prop}(hu:A.units+1<cLine)(I:Inv X pins σ H s)(g:DGet H a y o)(ry:RelV y u)(rd:RelV d r)(h:∀w' s',Inv X pins σ H s'->RelV (o.getD d) w'->Q w' s'):
  wpAny (model X.prog X.w) A (call (.builtin "dict.get") [.ref a,u,r]) Q E s:=by
 rcases g with ⟨kvs,k,e,ey,l⟩ | ⟨kvs,k,b,e,ey,eb,l⟩
 ·subst ey
  obtain⟨z,hd,vs,rel,dd⟩:=Xnb I.hok e
  refine call_meetsIn PySem.F.slot_dict_get dd.typeIs PySem.F.entry_dict_get (PySem.F.args_dict_get_3 _ _ _) (meets_dict_get_default (Xau X.prog X.w) a (Xna ry) hd r) ⟨_,dd.mapOf,h _ _ (I.tok _) ?_⟩
  rw[l]
  exact(rel.val k).getD rd
 ·subst ey
  cases (show u=Value.ref b from ry)
  obtain⟨z,hd,xs,rel,dd⟩:=Xoo I.hok e
  refine call_meetsIn PySem.F.slot_dict_get dd.typeIs PySem.F.entry_dict_get (PySem.F.args_dict_get_3 _ _ _) (meetsH_dict_get_default (tupleKind (Xau X.prog X.w)) a b hd r) ⟨tupleKind_room_in1 hu,k,xs,Xl2 I.hok eb,dd,h _ _ (I.tok _) ?_⟩
  rw[l]
  exact(rel.val k).getD rd
end
def Xwz (td ty tx:TE):TE:=fun σ H Q=>td σ H λx H1=>∃a,x = .ref a/\IsD H1 a/\ty σ H1 λy H2=>tx σ H2 λz H3=>∃o,DGet H3 a y o/\Q (o.getD z) H3
def tDPop1 (td ty:TE):TE:=fun σ H Q=>td σ H λx H1=>∃a,x = .ref a/\IsD H1 a/\ty σ H1 λy H2=>∃kvs k v,H2 a=some (.dK kvs)/\y=kV k/\valV kvs k=some v/\Q v (upd H2 a (.dK (Xwu kvs k)))
section
variable {X:Cx}{o e f:Expr}{apos cpos:Pos}{td ty tx:TE}
theorem Xri(hu:X.A.units+1<cLine)(ho:PE X o td)(he:PE X e ty)(hf:PE X f tx)(m:M2 X o "get" apos e f cpos):PE X (.Call (.Attribute o "get" apos) [e,f] [] cpos) (Xwz td ty tx):=by
 intro pins s σ H Q I h
 refine wpAny_Call_method m.base m.few m.line PySem.F.plainAttrs_dict PySem.F.slot_dict_get PySem.F.type_dict_get (thn (ho pins s σ H _ I h) λu s1 ⟨x,H1,I1,rx,a,ex,d,q1⟩=>?_)
 subst ex
 obtain rfl:u=Value.ref a:=rx
 obtain⟨t1,t2,_⟩:=Xwx I1 d
 refine⟨t1,t2,?_⟩
 rw[m.trees]
 refine Calls.callWith_builtin rfl (Calls.evalArgs_plain (Calls.spliced_cons (thn (he pins s1 σ H1 _ I1 q1) λiv s2 ⟨y,H2,I2,ry,q2⟩=>
  Calls.spliced_cons (thn (hf pins s2 σ H2 _ I2 q2) λfv s3 ⟨z,H3,I3,rz,ov,g,q3⟩=>Calls.spliced_nil ?_))))
 exact Xwy hu I3 g ry rz λw' s4 I4 rw'=>⟨_,H3,I4,rw',q3⟩
end
section
variable {X:Cx}{pins:List (Addr×Obj)}{σ:St}{H:Hp}{s:Shared}{a:Addr}{kvs:List (Key×V)}{A:Around}{E:Value->Shared->Prop}
end
section
variable {X:Cx}{pins:List (Addr×Obj)}{σ:St}{H:Hp}{s:Shared}{a:Addr}{y:V}{u:Value}{A:Around}{E:Value->Shared->Prop}
end
end L2
namespace Att
open PySem PySem.W PySem.Calls PyProof.Rows
theorem Xgq{P:Params}{h:Heap}:∀(ns:List Int) (vs:List Value),WellAll P h vs (ns.map WData.int)->IntsAre vs ns:=by
 intro ns
 induction ns with
 | nil=>
  intro vs w
  rw[X3h] at w
  cases w
  exact .nil
 | cons n ns ih=>
  intro vs w
  rw[Xz9] at w
  cases w with
  | cons a b=>
   cases a
   exact .cons _ _ (ih _ b)
theorem Xos{l:OpenLaw}{n:Nat}(hn:l.most=some n){P:Params}{h:Heap}{args:List WData}{vals:List Value}
  (hpre:l.row.toRowW.claim.pre args=true) (hwl:WellAll P h vals args):
  ∃a vs ns,vals=[Value.ref a]/\args=[WData.list (ns.map WData.int)]/\h.get? a=some {cls:=.type "list",data:=.seq vs.toArray}/\IntsAre vs ns/\ns.length<=n:=by
 have hsh:WShape.hasAll [] args [.list .int]=true:=(pre_splitW hpre).1
 have hc:l.pre.holds [] {args:=args}=true:=(pre_splitW hpre).2
 obtain⟨d,r,rfl,h1,h2⟩:=hasAllW_cons hsh
 obtain rfl:=hasAllW_nil h2
 obtain⟨xs,rfl,h3⟩:=hasW_list h1
 obtain⟨ns,rfl⟩:=items_int h3
 have hlen:ns.length<=n:=by
  unfold OpenLaw.pre at hc
  have h4:(WTm.not (.lt (.lit (.int (n:Int))) (.len (.arg 0)))).holds [] {args:=[.list (ns.map .int)]}=true:=by
   have h4:=(holds_andW hc).1
   rw[hn] at h4
   exact h4
  have h5:=condW_of h4 (w_not (w_lt w_lit (w_len_list (w_arg rfl))))
  rw[Xzl] at h5
  refine Nat.le_of_not_lt λq=>?_
  have q':(n:Int)<((ns.length:Nat):Int):=by omega
  first
   | (rw[X3o q'] at h5;exact absurd h5 (by decide))
   | (simp at h5;omega)
 cases hwl with
 | cons w1 w2=>
  cases w2
  cases w1 with
  | list ho hall=>exact⟨_,_,ns,rfl,rfl,ho,Xgq ns _ hall,hlen⟩
theorem Xot(l:OpenLaw)(args:List WData):l.row.toRowW.claim.post args (.bool true) args=true:=
 postW_of (r:=l.row.toRowW) (X:=(true==true))
  (show WShape.has [] (.bool true) .bool=true by first | rfl | decide | simp[WShape.has,WShape.arms,WShape.armsAll])
  (show (WTm.eq .res (.lit (.bool true))).value [] {args:=args,res:=some (.bool true),after:=args}=some (.bool (true==true)) from w_eq_bool (w_res rfl) w_lit) rfl
theorem attach_call{l:OpenLaw}{n:Nat}{q:Program}{loose:List Str}{XP:(Str->Option Value)->Heap->Prop}{YP:World->Heap->Prop}{d:DefRec}
  (hn:l.most=some n) (hdf:d.params.defaults=[])
  (call:∀(w:World) (s₀ s₁ : Shared) (mg mb:Str->Option Value) (fa:Addr) (o:Obj) (pm cd doc:Value) (a:Addr) (vs:List Value) (ns:List Int),
   Ground q loose [] XP w s₀ mg mb s₁.heap->YP w s₁.heap ->
   s₁.heap.get? fa=some o->o.data = .func (docDef d.name d.params d.body d.scope pm cd doc)->s₁.heap.CodeRec cd d.name->mg d.name=some (.ref fa) ->
   s₁.heap.get? a=some {cls:=.type "list",data:=.seq vs.toArray}->IntsAre vs ns->ns.length<=n->s₁.gens = #[] ->
   codeAny (model l.prog w) callerA (.call (.ref fa) ⟨[.ref a],[]⟩) (λr s'=>r = .ok (.ret (.bool true))/\OldK s₁.heap s'.heap/\s'.os=s₁.os/\AllBare s'.gens) s₁):
  WalkO q loose XP YP l.row.toRowW d [] (λf vs=>PySem.call f vs):=by
 intro w s₀ s₁ mg mb G Y fa o pm cd doc dV kV ho hd hcd hD hmg hg args vals as hpre hlay hrd hwl hlo
 obtain rfl:dV = .none:=Dflts.none hD hdf
 obtain rfl:kV = .none:=Dflts.noKw hD
 obtain⟨a,vs,ns,rfl,rfl,hobj,hints,hlen⟩:=Xos hn hpre hwl
 refine enter_call (codeAny_mono (call w s₀ s₁ mg mb fa o pm cd doc a vs ns G Y ho (fd_plain hd) hcd hmg hobj hints hlen hg) λr s' hq=>?_)
 obtain⟨rfl,h2,h3,h4⟩:=hq
 exact⟨.inl ⟨.bool true,.bool true,[],rfl,λ_=>rfl,.bool true,Xot l _,λ_=>⟨List.Pairwise.nil,λ_ hm=>(nomatch hm)⟩⟩,h2,h3,h4⟩
section
variable {prog:Program}{w:World}{A:Around}{E:Value->Shared->Prop}{s:Shared}{K:Frag}
def ledger (h:Heap) (L d:Addr):List (Addr×Obj):=(List.range h.objs.size).filterMap λa=>if a=L\/a=d then none else (h.get? a).map λo=>(a,o)
end
end Att
namespace L2
open PySem PySem.Spec PyProof.Rows
theorem Xjb:∀{vs:List Value} {ns:List Int},IntsAre vs ns->Vals (ns.map V.int) vs
 | _,_,.nil=>.nil
 | _,_,.cons n t h=>.cons ⟨t,rfl⟩ (Xjb h)
def Only (H:Hp):Prop:=∀b,H b=none \/ ∃o xs,H b=some (.frz o (.lst xs))
abbrev KOf {K:PySem.W.Frag} {h:Heap} (_:K.In h):PySem.W.Frag:=K
def Xy1 (s:Stmt) (j:Nat):Stmt:=match s with
 | .ClassDef _ _ _ body _ _ _ _ _ _ _=>body.getD j (.Pass ⟨0,0,0,0⟩)
 | _=>.Pass ⟨0,0,0,0⟩
def Xdc (s:Stmt):Arguments:=match s with
 | .FunctionDef _ a _ _ _ _ _ _ _ _=>a
 | _=>{posonlyargs:=[],args:=[],vararg:=none,kwonlyargs:=[],kw_defaults:=[],kwarg:=none,defaults:=[]}
def Xb9 (s:Stmt):List Stmt:=match s with
 | .FunctionDef _ _ b _ _ _ _ _ _ _=>b
 | _=>[]
def defScope (s:Stmt):Scope:=match s with
 | .FunctionDef _ _ _ _ _ _ sc _ _ _=>sc
 | _=>{kind:=.function,names:=[],isGenerator:=false,isCoroutine:=false}
abbrev CX0:CXT:=λ_ _ _ _ _ _=>False
abbrev E0:XK:=λ_ _ _=>False
theorem pass0{X:Cx}:Passes CX0 X E0:=λ_ _ _ _ _ _ _ h=>h.elim
structure Fun (K:PySem.W.Frag) (x qual:Str) (st:Stmt) (f:Addr) (fd:FuncData):Prop where
 ex:∃(oc:Value) (od:Option Addr) (kV doc pm:Value) (an:Option Addr) (cdv ct:Value) (osl:Array (Option Value)),
  fd=PySem.W.fnOf x qual (Xdc st) (Xb9 st) (defScope st) .none kV doc pm an cdv ct/\K.lookup f=some ⟨oc,od,.func fd,osl⟩/\PySem.W.codeIn K cdv qual=true
 kp:PySem.W.keepIn K (.ref f)=true
section
variable {P:Program}{w:World}{K:PySem.W.Frag}{mg:Str->Option Value}{base:Heap}
theorem Fun.ok{x qual:Str}{st:Stmt}{f:Addr}{fd:FuncData}{N ps:List Str}{k:Nat}{sp:Sp}(F:Fun K x qual st f fd)(S:FnScope N ps (defScope st))(len:∀vs H Q E,sp vs H Q E->vs.length=ps.length)
  (hbody:∀(cdv:Value) (A:Around) (outer:List Env) (s:Shared) (H:Hp) (vs:List V) (Q:VK) (E:XK),Room k (A.deeper (envOfC qual (defScope st) s.heap.objs.size f cdv))->sp vs H Q E ->
   ∃t,PSs (cxOf CX0 P w K mg base N qual (defScope st) f cdv A outer s H E).nox (Xb9 st) t/\t {nx:=λ_ H'=>Q .non H',rt:=Q} (start N vs) H):FnOk P w K mg base CX0 (k+1) f fd ps sp:=by
 obtain⟨oc,od,kV,doc,pm,an,cdv,ct,osl,rfl,lk,hcd⟩:=F.ex
 refine Xud lk hcd S len λA outer s H vs Q E hr hsp=>?_
 obtain⟨t,h,q⟩:=hbody cdv A outer s H vs Q E hr hsp
 exact⟨t,h.nox,q⟩
theorem Fun.binds{x qual:Str}{st:Stmt}{f:Addr}{fd:FuncData}{ps:List Str}(F:Fun K x qual st f fd)
  (h:∀(kV doc pm:Value) (an:Option Addr) (cdv ct:Value) (us:List Value),us.length=ps.length->bindArgs (PySem.W.fnOf x qual (Xdc st) (Xb9 st) (defScope st) .none kV doc pm an cdv ct) ⟨us,[]⟩=pure (ps.zip us)):Binds K fd ps []:=by
 obtain⟨oc,od,kV,doc,pm,an,cdv,ct,osl,rfl,lk,hcd⟩:=F.ex
 exact .all (h kV doc pm an cdv ct)
theorem Xtk{x qual:Str}{st:Stmt}{f:Addr}{oc:Value}{od an:Option Addr}{osl:Array (Option Value)}{kV doc pm cdv ct:Value}(l:K.lookup f=some ⟨oc,od,.func (PySem.W.fnOf x qual (Xdc st) (Xb9 st) (defScope st) .none kV doc pm an cdv ct),osl⟩)
  (c:PySem.W.codeIn K cdv qual=true) (k:PySem.W.keepIn K (.ref f)=true):Fun K x qual st f (PySem.W.fnOf x qual (Xdc st) (Xb9 st) (defScope st) .none kV doc pm an cdv ct):=⟨⟨oc,od,kV,doc,pm,an,cdv,ct,osl,rfl,l,c⟩,k⟩
end
theorem Xh7{A:Around}{k:Nat}(hr:Room k A):A.units+1<cLine:=X2f (Nat.add_le_add_left (by decide:1<=64) _) hr.units
section
variable {X:Cx}
theorem pv(i:Nat){x:Str}{pos:Pos}(hN:X.N[i]? = some x:=by rfl)(hv:Vis X.env.scope x:=by first | exact Or.inl rfl | exact Or.inr (Or.inl rfl) | exact Or.inr (Or.inr rfl))(hd:(x==("__debug__" : Str))=false:=by decide)
  (hcd:(x==("__classdict__" : Str))=false:=by decide):PE X (.Name x pos) (tVar i):=Xwh hN hv hd hcd
end
theorem iteF{A B:Prop}(h:B):if false=true then A else B:=by
 rw[X3m Xz1]
 exact h
theorem iteT{A B:Prop}(h:A):if true=true then A else B:=by
 rw[X3n rfl]
 exact h
theorem Xy2{c A B:Prop}[Decidable c](hc:c)(h:B):if (!decide c)=true then A else B:=by
 rw[X3o hc]
 exact iteF h
def Same (H H':Hp):Prop:=∀b o,H b=some o->H' b=some o
theorem Same.refl(H:Hp):Same H H:=λ_ _ h=>h
theorem Same.trans{H H1 H2:Hp}(a:Same H H1)(b:Same H1 H2):Same H H2:=λc o h=>b c o (a c o h)
theorem Same.free{H H':Hp}(e:Same H H'){l:Addr}(h:H' l=Option.none):H l=Option.none:=by
 cases q:H l with
 | none=>rfl
 | some o=>
  rw[e l o q] at h
  cases h
theorem Same.seq{K:PySem.W.Frag}{H H':Hp}{a:Addr}{xs:List V}(e:Same H H')(h:SqL K H a xs):SqL K H' a xs:=by
 rcases h with (h | ⟨o,h⟩) | h
 ·exact .inl (.inl (e _ _ h))
 ·exact .inl (.inr ⟨o,e _ _ h⟩)
 ·exact .inr h
section
variable {X:Cx}
end
section
variable {κ : Type} [DecidableEq κ]
theorem Xrj{kvs:List (κ × V)}{k : κ}(h:valV kvs k=none):¬k∈kvs.map (·.1):=by
 intro m
 obtain⟨p,hp,e⟩:=Xz0.mp m
 have q:(kvs.any λkv=>decide (kv.1=k))=true:=X03.mpr ⟨p,hp,X3o e⟩
 rw[Xcs,h] at q
 exact absurd q (by simp)
theorem Xgr{kvs:List (κ × V)}{k : κ}{v:V}(h:valV kvs k=some v):k∈kvs.map (·.1):=by
 have q:(kvs.any λkv=>decide (kv.1=k))=true:=by
  rw[Xcs,h]
  all_goals rfl
 obtain⟨p,hp,e⟩:=X03.mp q
 exact Xz0.mpr ⟨p,hp,X3q e⟩
theorem nd_snoc:∀{l:List κ} {k : κ},l.Nodup->¬k∈l->(l++[k]).Nodup
 | [],k,_,_=>by simp
 | a::r,k,h,hk=>by
  obtain⟨h1,h2⟩:=X01.mp h
  show (a::(r++[k])).Nodup
  refine X01.mpr ⟨λm=>?_,nd_snoc h2 λm=>hk (Xzy.mpr (Or.inr m))⟩
  rcases Xzw.mp m with q | q
  ·exact h1 q
  ·exact hk (Xzy.mpr (Or.inl (Xzs.mp q).symm))
theorem Xun{kvs:List (κ × V)}{k : κ}(v:V)(hn:(kvs.map (·.1)).Nodup)(h:valV kvs k=none):((putK kvs k v).map (·.1)).Nodup:=by
 rw[Xeq v h,Xzu]
 exact nd_snoc hn (Xrj h)
end
def Xeb (env:Env):List (Str×NameKind)->List (Str×Addr)->List (Str×Addr)
 | [],cs=>cs
 | (n,k)::r,cs=>if k == .free then Xeb env r ((n,(env.cells.lookup n).getD 0)::cs) else Xeb env r cs
theorem Xh8{env:Env}:∀(names:List (Str×NameKind)) (cs:List (Str×Addr)),(∀x∈names,x.2 = .free->∃c,env.cells.lookup x.1=some c) ->
  (forIn names cs fun (x : Str × NameKind) r => (if (x.2 == .free) = true then do let c <- cellOf env x.1; pure (ForInStep.yield ((x.1, c) :: r)) else pure (ForInStep.yield r) : Sem (ForInStep (List (Str × Addr))))) = pure (Xeb env names cs)
 | [],cs,_=>rfl
 | (n,k)::r,cs,h=>by
  rw[X2y]
  cases hk:(k==NameKind.free) with
  | true=>
   have hk':k = .free:=by simpa using hk
   obtain⟨c,hc⟩:=h (n,k) Xzr hk'
   have e1:cellOf env n=pure c:=by unfold cellOf;rw[hc]
   simp only[hk,if_true,e1,pure_bind]
   rw[Xh8 r _ λx hx=>h x (Xzq _ hx)]
   show _=pure (if (k==NameKind.free)=true then _ else _)
   rw[hk,X3n rfl,hc]
   rfl
  | false=>
   simp only[hk,X0g,if_false,pure_bind]
   rw[Xh8 r _ λx hx=>h x (Xzq _ hx)]
   show _=pure (if (k==NameKind.free)=true then _ else _)
   rw[hk,X3m Xz1]
theorem Xl4{scope:Scope}{env:Env}(h:∀x∈scope.names,x.2 = .free->∃c,env.cells.lookup x.1=some c):closureFor scope env=pure (Xeb env scope.names []):=by
 have e:=Xh8 scope.names [] h
 have q : closureFor scope env = (forIn scope.names [] fun (x : Str × NameKind) r => (if (x.2 == .free) = true then do let c <- cellOf env x.1; pure (ForInStep.yield ((x.1, c) :: r)) else pure (ForInStep.yield r) : Sem (ForInStep (List (Str × Addr))))) >>= fun cs => pure cs := rfl
 rw[q,e]
 rfl
theorem Xh9{env:Env}{x:Str}{c:Addr}:∀(names:List (Str×NameKind)) (cs:List (Str×Addr)),(∀x∈names,x.2 = .free->∃c,env.cells.lookup x.1=some c) ->
  (Xeb env names cs).lookup x=some c->cs.lookup x=some c\/env.cells.lookup x=some c
 | [],cs,_,h=>.inl h
 | (n,k)::r,cs,hf,h=>by
  unfold Xeb at h
  split at h
  ·rename_i hk
   rcases Xh9 r _ (λx hx=>hf x (Xzq _ hx)) h with q | q
   ·rw[X0s] at q
    split at q
    ·rename_i e
     have e':x=n:=by simpa using e
     subst e'
     obtain⟨c',hc⟩:=hf (x,k) Xzr (by simpa using hk)
     have hc':env.cells.lookup x=some c':=hc
     rw[hc'] at q ⊢
     exact .inr q
    ·exact .inl q
   ·exact .inr q
  ·exact Xh9 r _ (λx hx=>hf x (Xzq _ hx)) h
theorem Xfe{env:Env}{x:Str}:∀(names:List (Str×NameKind)) (cs:List (Str×Addr)),((cs.lookup x).isSome=true\/(x,NameKind.free)∈names)->((Xeb env names cs).lookup x).isSome=true
 | [],cs,h=>by
  rcases h with h | h
  ·exact h
  ·cases h
 | (n,k)::r,cs,h=>by
  unfold Xeb
  split
  ·refine Xfe r _ ?_
   rw[X0s]
   rcases h with h | h
   ·left
    split
    ·rfl
    ·exact h
   ·rcases Xzy.mp h with e | h
    ·left
     cases e
     simp
    ·exact .inr h
  ·rename_i hk
   refine Xfe r _ ?_
   rcases h with h | h
   ·exact .inl h
   ·rcases Xzy.mp h with e | h
    ·cases e
     exact absurd rfl hk
    ·exact .inr h
theorem Xd6{env:Env}{x:Str}{k':NameKind}:∀{names:List (Str×NameKind)},
  (names.map λ(n,k)=>if (k==NameKind.free&&env.scope.kind == .function&&env.kindOf n==some .cell) then (n,NameKind.cell) else (n,k)).lookup x=some k'->∃k,names.lookup x=some k/\(k'=k\/k = .free)
 | [],h=>by simp at h
 | (n,k)::r,h=>by
  have ih := @Xd6 env x k' r
  have h':List.lookup x ((if (k==NameKind.free&&env.scope.kind == .function&&env.kindOf n==some .cell)=true then (n,NameKind.cell) else (n,k))::_)=_:=h
  rw[X0s]
  by_cases hc:(k==NameKind.free&&env.scope.kind == .function&&env.kindOf n==some .cell)=true
  ·rw[X3n hc,X0s] at h'
   cases hx:x==n with
   | true=>
    have hk:k = .free:=by
     simp only[Xz2,beq_iff_eq] at hc
     exact hc.1.1
    exact⟨k,rfl,.inr hk⟩
   | false=>
    rw[hx] at h'
    exact ih h'
  ·rw[X3m hc,X0s] at h'
   cases hx:x==n with
   | true=>
    rw[hx] at h'
    exact⟨k,rfl,.inl (Xz3 h').symm⟩
   | false=>
    rw[hx] at h'
    exact ih h'
theorem Xff:∀(names:List (Str×NameKind)) (h:Heap) (acc:List (Str×Addr)) (x:Str) (c:Addr),(cellsFrom h.objs.size names acc).lookup x=some c ->
  (h.objs.size<=c/\(x,NameKind.cell)∈names/\(pushCells h names).IsCell c none)\/acc.lookup x=some c
 | [],_,_,_,_,e=>.inr e
 | (name,kind)::r,h,acc,x,c,e=>by
  unfold cellsFrom at e
  unfold pushCells
  by_cases hk:(kind==NameKind.cell)=true
  ·rw[X3n hk] at e ⊢
   have hk':kind = .cell:=by simpa using hk
   have sz:(h.push {cls:=.type "cell",data:=.cell none}).objs.size=h.objs.size+1:=Heap.size_push ..
   rw[<-sz] at e
   rcases Xff r _ _ x c e with ⟨a1,a2,a3⟩ | a
   ·exact .inl ⟨by omega,Xzq _ a2,a3⟩
   ·rw[X0s] at a
    cases hx:x==name with
    | true=>
     rw[hx] at a
     cases a
     have:x=name:=by simpa using hx
     subst this
     refine .inl ⟨Xzn _,by rw[hk'];exact Xzr,?_⟩
     exact⟨_,pushCells_keeps r _ _ _ (Heap.get?_push_size _ rfl),rfl⟩
    | false=>rw[hx] at a;exact .inr a
  ·rw[X3m hk] at e ⊢
   rcases Xff r h acc x c e with ⟨a1,a2,a3⟩ | a
   ·exact .inl ⟨a1,Xzq _ a2,a3⟩
   ·exact .inr a
theorem Xgs:∀(names:List (Str×NameKind)) (n:Nat) (acc:List (Str×Addr)),(∀x y c,acc.lookup x=some c->acc.lookup y=some c->x=y)->(∀x c,acc.lookup x=some c->c<n) ->
  ∀x y c,(cellsFrom n names acc).lookup x=some c->(cellsFrom n names acc).lookup y=some c->x=y
 | [],_,_,h,_=>h
 | (name,kind)::r,n,acc,h,hb=>by
  unfold cellsFrom
  by_cases hk:(kind==NameKind.cell)=true
  ·rw[X3n hk]
   refine Xgs r (n+1) _ (λx y c e1 e2=>?_) (λx c e=>?_)
   ·rw[X0s] at e1 e2
    cases hx:x==name with
    | true=>
     cases hy:y==name with
     | true=>rw[beq_iff_eq.mp hx,beq_iff_eq.mp hy]
     | false=>
      rw[hx] at e1;rw[hy] at e2
      cases e1
      exact absurd (hb y _ e2) (X0r _)
    | false=>
     cases hy:y==name with
     | true=>
      rw[hx] at e1;rw[hy] at e2
      cases e2
      exact absurd (hb x _ e1) (X0r _)
     | false=>rw[hx] at e1;rw[hy] at e2;exact h x y c e1 e2
   ·rw[X0s] at e
    cases hx:x==name with
    | true=>rw[hx] at e;cases e;exact Nat.lt_succ_self _
    | false=>rw[hx] at e;exact X04 (hb x c e)
  ·rw[X3m hk]
   exact Xgs r n acc h hb
theorem Xgt{env:Env}{x:Str}{c:Addr}:∀(names:List (Str×NameKind)) (cs:List (Str×Addr)),(Xeb env names cs).lookup x=some c->cs.lookup x=some c\/(x,NameKind.free)∈names
 | [],cs,h=>.inl h
 | (n,k)::r,cs,h=>by
  unfold Xeb at h
  split at h
  ·rename_i hk
   have hk':k = .free:=by simpa using hk
   rcases Xgt r _ h with q | q
   ·rw[X0s] at q
    cases hx:x==n with
    | true=>
     have:x=n:=by simpa using hx
     subst this
     exact .inr (by rw[hk'];exact Xzr)
    | false=>rw[hx] at q;exact .inl q
   ·exact .inr (Xzq _ q)
  ·rcases Xgt r _ h with q | q
   ·exact .inl q
   ·exact .inr (Xzq _ q)
theorem Xnc{M:Model}{A:Around}{E:Value->Shared->Prop}{s:Shared}{scope:Scope}{globals:Addr}{closure:List (Str×Addr)}{qual:Str}{outer:Env}{Q:Env->Shared->Prop}
  (h:Q (newEnv scope s.heap.objs.size globals (cellsFrom (s.heap.objs.size+1) scope.names closure) qual none .none (some outer) builtinsNs) {s with heap:=pushCells (s.heap.push {cls:=.type "dict",data:=.dict #[]}) scope.names}):
  wpAny M A (newFunctionEnv scope globals closure [] qual none .none (some outer)) Q E s:=by
 simp only[newFunctionEnv,X24,if_true]
 refine X3j (wpAny_alloc ?_)
 refine X3j (wpAny_layCells _ (λname kind cells=>by cases hkc:kind==NameKind.cell<;>simp[hkc]) _ _ _ _ ?_)
 rw[show ({s with heap:=s.heap.push {cls:=.type "dict",data:=.dict #[]} }:Shared).heap.objs.size=s.heap.objs.size+1 from Heap.size_push ..]
 refine X3j ?_
 rw[X28]
 exact X3k (X3k h)
def Xjc (X:Cx) (scope:Scope) (s0:Shared):List (Str×Addr):=cellsFrom (s0.heap.objs.size+1) scope.names (Xeb X.env scope.names [])
def Cx.comp (X:Cx) (N:List Str) (scope:Scope) (s0:Shared) (H0:Hp) (ex:List Addr):Cx where
 prog:=X.prog
 w:=X.w
 K:=X.K
 mg:=X.mg
 base:=X.base
 A:=X.A
 N:=N
 s₀:=s0
 H₀:=H0
 env:=compEnvC scope (Xjc X scope s0) s0.heap.objs.size X.env
 outer:=X.stack
 stack:=X.stack
 ex:=ex
 fn:=λx=>decide (scope.names.lookup x=some .cell)
 calm:=X.calm
 pn:=[]
 xe:=λ_ _=>False
def capS (cap:List (Option Nat)) (σ:St):St:=cap.map λo=>o.bind λj=>(σ[j]?).join
structure CompScope (X:Cx) (N:List Str) (cap:List (Option Nat)) (scope:Scope):Prop where
 kind:scope.kind = .function
 uniq:∀y∈scope.names,scope.names.lookup y.1=some y.2
 free:∀y∈scope.names,y.2 = .free->X.env.kindOf y.1=some .cell\/X.env.kindOf y.1=some .free
 len:cap.length=N.length
 cap:∀(i:Nat) (x:Str) (j:Nat),N[i]? = some x->cap[i]? = some (some j)->X.N[j]? = some x/\scope.names.lookup x=some .free
def PIfs (X:Cx) (ifs:List Expr) (t:TT):Prop:=
 ∀(pins:List (Addr×Obj)) (s:Shared) (σ:St) (H:Hp) (Q:Bool->Hp->Prop),Inv X pins σ H s->t σ H Q ->
  wpAny (model X.prog X.w) X.A (forIn ifs true fun c r => if r = true then do let ok <- isTrue c X.env (eval c X.env); pure (ForInStep.yield ok) else pure (ForInStep.yield r)) (TP X pins σ Q) X.xe s
def tYes:TT:=λ_ H Q=>Q true H
theorem Xbd{X:Cx}:PIfs X [] tYes:=λ_ _ _ H _ I h=>wpAny_tests_nil ⟨H,I,h⟩
theorem Xbq{X:Cx}{c:Expr}{t:TT}(h:PT X c t):PIfs X [c] t:=λpins s σ H Q I hw=>wpAny_tests_one (h pins s σ H Q I hw)
def tBlk (cap:List (Option Nat)) (g:TG) (tt:TT) (te:TE) (J:It) (σ:St) (H1:Hp) (F:Addr->Hp->Prop):Prop:=
 ∀D,H1 D=none->∃W:Nat->Nat->St->Hp->Prop,(∃m,W 0 m (capS cap σ) (upd H1 D (.lst [])))/\∀i m σ1 H2,W i m σ1 H2 ->
  (J.stop i H2/\F D H2)\/(J.go i H2/\∀x H3,J.yld i H2 x H3->g x σ1 H3 fun σ2 H4=>tt σ2 H4 λb H5=>
   if b=true then te σ2 H5 λy H6=>∃ys,H6 D=some (.lst ys)/\ys.length<sizeLine/\∃m',m'<m/\W (i+1) m' σ2 (upd H6 D (.lst (ys++[y])))
   else ∃m',m'<m/\W (i+1) m' σ2 H5)
theorem Xfr{env:Env}{x:Str}:∀{names:List (Str×NameKind)} {k:NameKind},names.lookup x=some k ->
  (names.map λ(n,k)=>if (k==NameKind.free&&env.scope.kind == .function&&env.kindOf n==some .cell) then (n,NameKind.cell) else (n,k)).lookup x=some (if (k==NameKind.free&&env.scope.kind == .function&&env.kindOf x==some .cell) then NameKind.cell else k)
 | [],_,h=>by simp at h
 | (n,q)::r,k,h=>by
  have ih := @Xfr env x r k
  show List.lookup x ((if (q==NameKind.free&&env.scope.kind == .function&&env.kindOf n==some .cell)=true then (n,NameKind.cell) else (n,q))::_)=_
  rw[X0s] at h
  cases hx:x==n with
  | true=>
   rw[hx] at h
   cases h
   have:x=n:=by simpa using hx
   subst this
   by_cases hc:(q==NameKind.free&&env.scope.kind == .function&&env.kindOf x==some .cell)=true
   ·rw[X3n hc,X3n hc,X0s,hx]
   ·rw[X3m hc,X3m hc,X0s,hx]
  | false=>
   rw[hx] at h
   by_cases hc:(q==NameKind.free&&env.scope.kind == .function&&env.kindOf n==some .cell)=true
   ·rw[X3n hc,X0s,hx];exact ih h
   ·rw[X3m hc,X0s,hx];exact ih h
section
variable {X:Cx}{N:List Str}{cap:List (Option Nat)}{scope:Scope}{pins:List (Addr×Obj)}{σ:St}{H H':Hp}{s s':Shared}{fp:List Addr}
theorem Xfg(C:CompScope X N cap scope)(ok:X.Ok):∀x∈scope.names,x.2 = .free->∃c,X.env.cells.lookup x.1=some c:=λx hx hf=>ok.has x.1 (C.free x hx hf)
theorem Xf3(C:CompScope X N cap scope)(ok:X.Ok){x:Str}{c:Addr}(h:(Xeb X.env scope.names []).lookup x=some c):X.env.cells.lookup x=some c:=by
 rcases Xh9 scope.names [] (Xfg C ok) h with q | q
 ·simp at q
 ·exact q
theorem Xl5(C:CompScope X N cap scope)(ok:X.Ok){x:Str}(h:scope.names.lookup x=some .free):∃c,(Xeb X.env scope.names []).lookup x=some c:=
 X1e.mp (Xfe scope.names [] (.inr (PySem.mem_of_lookup h)))
theorem Xjd(C:CompScope X N cap scope)(ok:X.Ok){h:Heap}(hz:h.objs.size=s.heap.objs.size+1){x:Str}{c:Addr}(e:(Xjc X scope s).lookup x=some c):
  (s.heap.objs.size<c/\scope.names.lookup x=some .cell/\(pushCells h scope.names).IsCell c none)\/(scope.names.lookup x=some .free/\X.env.cells.lookup x=some c):=by
 unfold Xjc at e
 rw[<-hz] at e
 rcases Xff scope.names h _ x c e with ⟨a1,a2,a3⟩ | a
 ·exact .inl ⟨by omega,C.uniq _ a2,a3⟩
 ·refine .inr ⟨?_,Xf3 C ok a⟩
  rcases Xgt scope.names [] a with q | q
  ·simp at q
  ·exact C.uniq _ q
theorem Xrk(C:CompScope X N cap scope)(I:Inv X pins σ H s)(hf:∀b∈fp,FpOk X pins H b)(hfl:∀b∈fp,b<s.heap.objs.size){tk:Nat}:
  Inv (X.comp N scope s H fp) [] (capS cap σ) H {s with heap:=pushCells (s.heap.push {cls:=.type "dict",data:=.dict #[]}) scope.names,toks:=tk}:=by
 have hC:H s.heap.objs.size=none:=I.hok.fresh (Xzn _)
 have hz:(s.heap.push {cls:=.type "dict",data:=.dict #[]}).objs.size=s.heap.objs.size+1:=Heap.size_push ..
 have hns:(pushCells (s.heap.push {cls:=.type "dict",data:=.dict #[]}) scope.names).Ns s.heap.objs.size λ_=>none:=(Heap.Ns.new s.heap (.type "dict")).keeps (pushCells_keeps _ _)
 have hk:∀b o,s.heap.get? b=some o->(pushCells (s.heap.push {cls:=.type "dict",data:=.dict #[]}) scope.names).get? b=some o:=λb o e=>pushCells_keeps _ _ b o (X3t _ e)
 have look:∀{x c},(X.comp N scope s H fp).env.cells.lookup x=some c->_:=λ{x c} h=>Xjd (s:=s) C I.ok hz h
 have clt:∀x c,X.env.cells.lookup x=some c->c<s.heap.objs.size:=λx c h=>by
  obtain⟨v,q⟩:=I.cell x c h
  exact q.lt
 have kind:∀x k,(relabel scope X.env).names.lookup x=some k->k = .cell\/k = .free->scope.names.lookup x=some .cell\/scope.names.lookup x=some .free:=λx k e hk=>by
  obtain⟨k0,e0,z⟩:=Xd6 e
  rcases z with z | z
  ·rw[<-z] at e0
   rcases hk with q | q
   ·rw[q] at e0;exact .inl e0
   ·rw[q] at e0;exact .inr e0
  ·rw[z] at e0;exact .inr e0
 refine⟨⟨I.ok.mod,C.kind,I.ok.glob,I.ok.blt,Xzn _,?inj,λx hx=>?has,λx c h e=>?cab,I.ok.hd,I.ok.frames,.inl rfl,λb hb=>⟨Xzv (hfl b hb),λx c h=>?exf⟩,
   I.bs,X0d I.ok.bsz I.sz,λb o e hb=>?noex,λb hb hs=>?exfs,I.stack,I.stkFree⟩,
  rfl,I.bare,Un.kept hk,⟨_,hns,λi x v h1' h2 h3=>?loc⟩,λx c h=>?cell,hC,λx c h=>?freeC,λp hp=>absurd (show p∈([]:List (Addr×Obj)) from hp) (by simp),I.hok.kept hk,?len⟩
 case inj=>
  refine Xgs scope.names _ _ (λx y c e1 e2=>I.ok.inj x y c (Xf3 C I.ok e1) (Xf3 C I.ok e2)) λx c e=>X04 (clt x c (Xf3 C I.ok e))
 case has=>
  have hx':(relabel scope X.env).names.lookup x=some .cell\/(relabel scope X.env).names.lookup x=some .free:=hx
  refine X1e.mp (PySem.W.cellsFrom_some scope.names _ _ ?_)
  rcases (hx'.elim (λq=>kind x _ q (.inl rfl)) λq=>kind x _ q (.inr rfl)) with q | q
  ·exact .inl q
  ·obtain⟨c,hc⟩:=Xl5 C I.ok q
   exact .inr (by rw[hc];rfl)
 case cab=>
  have h:scope.names.lookup x=some .cell:=X3q h
  rcases look e with ⟨a,_⟩ | ⟨a,_⟩
  ·exact X2c a
  ·rw[h] at a;cases a
 case exf=>
  rcases look h with ⟨a,_⟩ | ⟨_,a⟩
  ·exact λz=>X0r _ (X1q a (by rw[z];exact hfl b hb))
  ·exact(hf b hb).2.2.2.2.1 x c a
 case noex=>
  obtain⟨_,_,_,z,_⟩:=hf b hb
  rcases z with z | z
  ·exact I.ok.noex b o e z
  ·exact absurd (Xz8 (X3s e) (X0d I.ok.bsz z)) (X0r _)
 case exfs=>
  obtain⟨_,f1,f2,_⟩:=hf b hb
  rcases Xzy.mp (I.stkSub b hs) with e | e
  ·exact f1 e
  ·exact f2 e
 case loc=>
  have h2':(cap.map λo=>o.bind λj=>(σ[j]?).join)[i]? = some (some v):=h2
  rw[Xz4] at h2'
  cases hc:cap[i]? with
  | none=>rw[hc] at h2';cases h2'
  | some o=>
   rw[hc] at h2'
   cases o with
   | none=>cases h2'
   | some j=>
    have h2'':(σ[j]?).join=some v:=Xz3 h2'
    have hσ : σ[j]? = some (some v):=by
     cases hj : σ[j]? with
     | none=>rw[hj] at h2'';cases h2''
     | some o=>rw[hj] at h2'';exact congrArg some h2''
    obtain⟨hN,hfr⟩:=C.cap i x j h1' hc
    obtain⟨m,hn,hl⟩:=I.loc
    have hkind:X.env.kindOf x=some .cell\/X.env.kindOf x=some .free:=C.free (x,.free) (PySem.mem_of_lookup hfr) rfl
    obtain⟨u,r,l⟩:=hl j x v hN hσ (by rcases hkind with q | q;exact .inr (.inl q);exact .inr (.inr q))
    refine⟨u,r,.inr ⟨?_,?_⟩⟩
    ·show (relabel scope X.env).names.lookup x=some .cell\/(relabel scope X.env).names.lookup x=some .free
     have:=Xfr (env:=X.env) hfr
     have e:(relabel scope X.env).names.lookup x=_:=this
     rw[e]
     split
     ·exact .inl rfl
     ·exact .inr rfl
    ·obtain⟨c,hcl⟩:=Xl5 C I.ok hfr
     obtain⟨c2,hc2⟩:=X1e.mp (PySem.W.cellsFrom_some scope.names (s.heap.objs.size+1) (Xeb X.env scope.names []) (x:=x) (.inr (by rw[hcl];rfl)))
     rcases look (x:=x) (c:=c2) hc2 with ⟨_,a,_⟩ | ⟨_,a⟩
     ·rw[hfr] at a;cases a
     ·rcases l with ⟨k,_⟩ | ⟨_,c',e,z⟩
      ·rcases hkind with q | q
       ·rw[k] at q;cases q
       ·rw[k] at q;cases q
      ·rw[a] at e
       cases e
       obtain⟨o,ho,hd⟩:=z
       exact⟨c2,hc2,o,hk c2 o ho,hd⟩
 case cell=>
  rcases look h with ⟨_,_,a⟩ | ⟨_,a⟩
  ·exact⟨none,a⟩
  ·obtain⟨v,o,ho,hd⟩:=I.cell x c a
   exact⟨v,o,hk c o ho,hd⟩
 case freeC=>
  rcases look h with ⟨a,_⟩ | ⟨_,a⟩
  ·exact I.hok.fresh (X2c a)
  ·exact I.freeC x c a
 case len=>
  show (cap.map _).length=N.length
  rw[Xzl,C.len]
end
def Xy3 (cap:List (Option Nat)) (wi:TI) (g:TG) (tt:TT) (te:TE):TE:=fun σ H Q=>wi σ H λJ H1=>tBlk cap g tt te J σ H1 λD H2=>Q (.ref D) H2
def Xw0 (i:Nat) (cap:List (Option Nat)) (wi:TI) (g:TG) (tt:TT) (te:TE):TS:=λD σ H=>wi σ H λJ H1=>tBlk cap g tt te J σ H1 λl H2=>D.nx (σ.set i (some (.ref l))) H2
theorem Xbh.there{P:Program}{w:World}{H:Hp}{h:Heap}{a:Addr}{o:HO}(x:Xbh P w H h a o):∃u,h.get? a=some u:=by
 cases o with
 | lst xs=>obtain⟨_,_,_,_,e⟩:=x;exact⟨_,e⟩
 | tup xs=>obtain⟨_,_,_,o,e,_⟩:=x;exact⟨_,e⟩
 | dK kvs=>obtain⟨_,_,_,_,o,_,_,e,_⟩:=x;exact⟨_,e⟩
 | dT kvs=>obtain⟨_,_,_,_,o,_,_,e,_⟩:=x;exact⟨_,e⟩
 | set S n=>obtain⟨o,_,_,_,e,_⟩:=x;exact⟨_,e⟩
 | ins C dx fs=>obtain⟨_,_,_,e,_⟩:=x;exact⟨_,e⟩
 | own y=>exact x
 | xd fs=>obtain⟨_,⟨_,_,_,e,_⟩,_⟩:=x;exact⟨_,e⟩
 | rng lo hi=>obtain⟨_,_,_,e⟩:=x;exact⟨_,e⟩
 | frz ob u=>obtain⟨e,_⟩:=x;exact⟨_,e⟩
 | tbl ps=>exact⟨_,(show h.get? a=some _ from x)⟩
 | met f y=>exact⟨_,(show h.get? a=some _ from x)⟩
 | ext φ=>obtain⟨_,e,_⟩:=x;exact e
structure Flown (P:Program) (w:World) (outer:List Env) (H:Hp) (hc:Heap) (H':Hp) (ex C:Addr) (B:Heap) (a0:Value) (h:Heap):Prop where
 un:Un (frs outer) [] H H' hc h
 hok:HOk P w H' h
 fly:Heap.FlyingW B outer ex (.ref C) a0 h
 inB:∀b o,h.get? b=some o->b∉frs outer->((∃o',hc.get? b=some o')\/H' b≠none)->B.get? b=some o
 frf:∀b∈frs outer,H' b=none
theorem Flown.move{P:Program}{w:World}{outer:List Env}{H H':Hp}{hc B h h':Heap}{ex C:Addr}{a0:Value}(F:Flown P w outer H hc H' ex C B a0 h)(st:B.StaysIn h')(up:h.UpToSlots h'):
  Un (frs outer) [] H H' hc h'/\HOk P w H' h'/\∀b o,h'.get? b=some o->b∉frs outer->((∃o',hc.get? b=some o')\/H' b≠none)->B.get? b=some o:=by
 have nf:∀b∈frs outer,∀o,h.get? b=some o->∀vs,o.data ≠ .fields vs:=λb hb o e=>by
  obtain⟨_,o',e',d⟩:=F.fly.2.2.1.mem hb
  rw[e] at e';cases e'
  exact d
 have tr:∀b o,H' b=some o->b∉frs outer:=λb o e hb=>by rw[F.frf b hb] at e;cases e
 have old:∀b,(∃o',hc.get? b=some o')\/H' b≠none->∃o,h.get? b=some o:=λb hb=>by
  rcases hb with ⟨o',e⟩ | hb
  ·obtain⟨o,e'⟩:=F.un.there b o' e (by simp)
   exact⟨o,e'⟩
  ·cases q:H' b with
   | none=>exact absurd q hb
   | some u=>exact(F.hok b u q).there
 refine⟨⟨λb o e n hb hx=>?_,λb o e n hb hx=>?_,F.un.free,λb o e hx=>?_,F.un.tups,F.un.frzs,F.un.tbls⟩,λa o e=>?_,λb o e hb hw=>?_⟩
 ·exact st b o (F.inB b o (F.un.keep b o e n hb hx) hb (.inl ⟨o,e⟩))
 ·obtain⟨sl,e1⟩:=F.un.slot b o e n hb hx
  obtain⟨sl',e2⟩:=up b _ e1 (nf b hb _ e1)
  exact⟨sl',e2⟩
 ·obtain⟨o1,e1⟩:=F.un.there b o e hx
  by_cases hb:b∈frs outer
  ·obtain⟨sl',e2⟩:=up b _ e1 (nf b hb _ e1)
   exact⟨_,e2⟩
  ·exact⟨o1,st b o1 (F.inB b o1 e1 hb (.inl ⟨o,e⟩))⟩
 ·refine(F.hok a o e).stay (λb u hb q=>?_) (λ_ q=>q) λ_ _ q=>q
  have hn:H' b≠none:=by
   rcases hb with z | z
   ·rw[z,e];simp
   ·rw[z];simp
  have hb':b∉frs outer:=λz=>hn (F.frf b z)
  exact st b u (F.inB b u q hb' (.inr hn))
 ·obtain⟨o1,e1⟩:=old b hw
  have e2:=F.inB b o1 e1 hb hw
  have e3:=st b o1 e2
  rw[e] at e3;cases e3
  exact e2
def CX1 (P:Program) (w:World):CXT:=λouter H s E e s'=>
 ∃ex C H' B a0,e = .ref ex/\s'.os=s.os/\AllBare s'.gens/\Flown P w outer H s.heap H' ex C B a0 s'.heap/\E (.ref C) none H'
section
variable {P:Program}{w:World}{K:PySem.W.Frag}{mg:Str->Option Value}{base:Heap}{N:List Str}{qual:Str}{scope:Scope}{f:Addr}{cd:Value}{A:Around}{outer:List Env}{s:Shared}{H:Hp}{E:XK}
def Leaves (X:Cx) (E:XK):Prop:=∀(pins:List (Addr×Obj)) (σ:St) (H:Hp) (s:Shared) (h':Heap) (ex C:Addr) (args:List Value),
 Inv X pins σ H s->Heap.MadeExcOf s.heap h' ex (.ref C) args->E (.ref C) none H->X.xe (.ref ex) {s with heap:=h'}
theorem leaves1:Leaves (cxOf (CX1 P w) P w K mg base N qual scope f cd A outer s H E) E:=by
 intro pins σ H1 s1 h' ex C args I hm hE
 show wpAny (model P w) (A.deeper (envOfC qual scope s.heap.objs.size f cd)) (leaving (envOfC qual scope s.heap.objs.size f cd) (.ref ex)) _ _ {s1 with heap:=h'}
 have hst:(cxOf (CX1 P w) P w K mg base N qual scope f cd A outer s H E).stack=envOfC qual scope s.heap.objs.size f cd::outer:=rfl
 have hin:∀env∈(envOfC qual scope s.heap.objs.size f cd::outer),∀b,env.frame=some b->b∈frs (envOfC qual scope s.heap.objs.size f cd::outer):=λenv he b hb=>X23.mpr ⟨env,he,hb⟩
 have hFun:s1.heap.FunFrames base (envOfC qual scope s.heap.objs.size f cd::outer):=I.stack
 have hB:(PySem.W.hideAll s1.heap (frs (envOfC qual scope s.heap.objs.size f cd::outer))).StaysIn s1.heap:=λb o q=>PySem.W.of_hideAll _ q
 have getB:∀b o,s1.heap.get? b=some o->b∉frs (envOfC qual scope s.heap.objs.size f cd::outer)->(PySem.W.hideAll s1.heap (frs (envOfC qual scope s.heap.objs.size f cd::outer))).get? b=some o:=λb o e n=>PySem.W.hideAll_get _ e n
 have sub:∀b,b∈frs (envOfC qual scope s.heap.objs.size f cd::outer)->b=s.heap.objs.size\/b∈frs outer:=λb hb=>Xzy.mp (I.stkSub b hb)
 have sup:∀b,b∈frs outer->b∈frs (envOfC qual scope s.heap.objs.size f cd::outer):=λb hb=>by
  unfold frs at hb ⊢
  rw[X1b]
  split
  ·exact hb
  ·exact Xzq _ hb
 have frFree:∀b,b∈frs (envOfC qual scope s.heap.objs.size f cd::outer)->H1 b=none:=λb hb=>I.stkFree b hb
 refine wpAny_leaves_madeW (A:=A.deeper (envOfC qual scope s.heap.objs.size f cd)) (L:=s.heap.objs.size) I.ok.frames rfl hB (PySem.W.funFrames_hide hFun hin) hm λh'' t f1 _ _ up=>?_
 have old:∀b o,s.heap.get? b=some o->b∉frs outer->b∉frs (envOfC qual scope s.heap.objs.size f cd::outer):=λb o e nb hb=>by
  rcases sub b hb with z | z
  ·exact absurd (X3s e) (by rw[z];exact X0r _)
  ·exact nb z
 have nf:∀b∈frs (envOfC qual scope s.heap.objs.size f cd::outer),∀o,s1.heap.get? b=some o->∀vs,o.data ≠ .fields vs:=λb hb o e=>by
  obtain⟨_,o',e',d⟩:=hFun.mem hb
  rw[e] at e';cases e'
  exact d
 refine⟨ex,C,H1,_,_,rfl,I.os,I.bare,⟨⟨λb o e n hb hx=>?_,λb o e n hb hx=>?_,I.base.free,λb o e hx=>?_,I.base.tups,I.base.frzs,I.base.tbls⟩,λa o e=>?_,f1,λb o e hb hw=>?_,λb hb=>frFree b (sup b hb)⟩,hE⟩
 ·exact f1.1 b o (getB b o (I.base.keep b o e n hb hx) (old b o e hb))
 ·obtain⟨sl,e1⟩:=I.base.slot b o e n hb hx
  obtain⟨sl',e2⟩:=up b _ (hm.keeps _ _ e1) (nf b (sup b hb) _ e1)
  exact⟨sl',e2⟩
 ·obtain⟨o1,e1⟩:=I.base.there b o e hx
  by_cases hb:b∈frs (envOfC qual scope s.heap.objs.size f cd::outer)
  ·obtain⟨sl',e2⟩:=up b _ (hm.keeps _ _ e1) (nf b hb _ e1)
   exact⟨_,e2⟩
  ·exact⟨o1,f1.1 b o1 (getB b o1 e1 hb)⟩
 ·refine(I.hok a o e).stay (λb u hb q=>?_) (λ_ q=>q) λ_ _ q=>q
  have hn:H1 b≠none:=by
   rcases hb with z | z
   ·rw[z,e];simp
   ·rw[z];simp
  exact f1.1 b u (getB b u q λz=>hn (frFree b z))
 ·have:∃o1,s1.heap.get? b=some o1/\b∉frs (envOfC qual scope s.heap.objs.size f cd::outer):=by
   rcases hw with ⟨o',e'⟩ | hw
   ·obtain⟨o1,e1⟩:=I.base.there b o' e' (λz=>absurd (show b∈([]:List Addr) from z) (by simp))
    exact⟨o1,e1,old b o' e' hb⟩
   ·cases q:H1 b with
    | none=>exact absurd q hw
    | some u=>
     obtain⟨o1,e1⟩:=(I.hok b u q).there
     exact⟨o1,e1,λz=>hw (frFree b z)⟩
  obtain⟨o1,e1,nb⟩:=this
  have e2:=getB b o1 e1 nb
  have e3:=f1.1 b o1 e2
  rw[e] at e3;cases e3
  exact e2
theorem pass1:Passes (CX1 P w) (cxOf (CX1 P w) P w K mg base N qual scope f cd A outer s H E) E:=by
 intro pins σ H1 s1 e s' I h
 obtain⟨ex,C,H',B,a0,rfl,hos,hbare,F,hE⟩:=h
 show wpAny (model P w) (A.deeper (envOfC qual scope s.heap.objs.size f cd)) (leaving (envOfC qual scope s.heap.objs.size f cd) (.ref ex)) _ _ s'
 have sub:∀b,b∈frs (envOfC qual scope s.heap.objs.size f cd::outer)->b=s.heap.objs.size\/b∈frs outer:=λb hb=>Xzy.mp (I.stkSub b hb)
 have sup:∀b,b∈frs outer->b∈frs (envOfC qual scope s.heap.objs.size f cd::outer):=λb hb=>by
  unfold frs at hb ⊢
  rw[X1b]
  split
  ·exact hb
  ·exact Xzq _ hb
 have old:∀b o,s.heap.get? b=some o->b∉frs outer->b∉frs (envOfC qual scope s.heap.objs.size f cd::outer):=λb o e nb hb=>by
  rcases sub b hb with z | z
  ·exact absurd (X3s e) (by rw[z];exact X0r _)
  ·exact nb z
 have F':Flown P w (envOfC qual scope s.heap.objs.size f cd::outer) H1 s1.heap H' ex C B a0 s'.heap:=F
 refine wpAny_leaves_onW (A:=A.deeper (envOfC qual scope s.heap.objs.size f cd)) (L:=s.heap.objs.size) I.ok.frames rfl F'.fly λh'' f1 up=>?_
 obtain⟨un,hok,inB⟩:=F'.move f1.1 up
 refine⟨ex,C,H',B,a0,rfl,hos.trans I.os,hbare,⟨?_,hok,f1,λb o e hb hw=>?_,λb hb=>F'.frf b (sup b hb)⟩,hE⟩
 ·have un0:Un (frs outer) [] H H1 s.heap s1.heap:=I.base
  refine⟨λb o e n hb hx=>?_,λb o e n hb hx=>?_,λb o e n hx=>?_,λb o e hx=>?_,λb xs e=>un.tups b xs (un0.tups b xs e),λb ob u e=>un.frzs b ob u (un0.frzs b ob u e),λb ps e=>?_⟩
  ·exact un.keep b o (un0.keep b o e n hb hx) (un0.free b o e n hx) (old b o e hb) hx
  ·obtain⟨sl,e1⟩:=un0.slot b o e n hb hx
   obtain⟨sl',e2⟩:=un.slot b _ e1 (un0.free b o e n hx) (sup b hb) hx
   exact⟨sl',e2⟩
  ·obtain⟨o1,e1⟩:=un0.there b o e hx
   exact un.free b o1 e1 (un0.free b o e n hx) hx
  ·obtain⟨o1,e1⟩:=un0.there b o e hx
   exact un.there b o1 e1 hx
  ·obtain⟨m1,e1⟩:=un0.tbls b ps e
   obtain⟨m2,e2⟩:=un.tbls b _ e1
   exact⟨m1++m2,by rw[e2,Array.append_assoc]⟩
 ·refine inB b o e ?_ ?_
  ·rcases hw with ⟨o',e'⟩ | hw
   ·exact old b o' e' hb
   ·intro z
    exact hw (F'.frf b z)
  ·rcases hw with ⟨o',e'⟩ | hw
   ·obtain⟨o1,e1⟩:=(show Un (frs outer) [] H H1 s.heap s1.heap from I.base).there b o' e' (by simp)
    exact .inl ⟨o1,e1⟩
   ·exact .inr hw
end
abbrev bmV:List Value:=[.type "ValueError",.type "Exception",.type "BaseException",.type "object"]
theorem Xou{K:PySem.W.Frag}{h:Heap}{C:Addr}{bmB:List Value}{newId:String}(X:K.In h)(q:PySem.W.excIn K C bmB newId=true):
  ∃bm N nm q bs hdct sn sub ab col dd k0 k1 k2 k3 k5 mN,h.get? C=some (excClassObj nm q C N bs bm hdct sn sub ab col dd k0 k1 k2 k3 k5 newId)/\h.Ns N mN/\mN "__init__" = none/\OwnTail h bmB bm:=by
 unfold PySem.W.excIn at q
 split at q
 ·rename_i dd cd sl ho
  split at q
  ·rename_i C' bm k0 k1 k2 k3 n k5 hm hs
   simp only[Xz2,beq_iff_eq,X29] at q
   obtain⟨⟨⟨⟨⟨rfl,rfl⟩,hdel⟩,ht⟩,hok⟩,hni⟩:=q
   obtain⟨nm,bs,mro,ns,qn,hd,sn,sub,ab,col,del⟩:=cd
   dsimp only at hm hdel hok hni
   subst hm hdel
   have hsl:sl = #[k0,k1,k2,k3,some (.builtin n),k5]:=by
    obtain⟨l⟩:=sl
    simp only at hs
    rw[hs]
   subst hsl
   exact⟨bm,ns,nm,qn,bs,hd,sn,sub,ab,col,dd,k0,k1,k2,k3,k5,_,X _ _ ho,.of_isNs (PySem.W.isNs_of_in X hok),PySem.W.nsMap_none_of_in X hok hni,PySem.W.tail_of_in X ht⟩
  ·cases q
 ·cases q
def Xw1 (C:Addr) (E:XK) (t:TA):TS:=λ_ σ H=>t σ H λvs H1=>vs.length<=sizeLine/\E (.ref C) none H1
theorem Xl6{X:Cx}{C:Addr}{E:XK}{x:Str}{np cpos pos:Pos}{e:Expr}{es:List Expr}{t:TA}(hc:PySem.W.excIn X.K C bmV "ValueError.__new__" = true)(hcalm:X.calm=true)(hx:Leaves X E)(hg:Gl X x)(hm:X.mg x=some (.ref C))
  (ha:PA X (e::es) t) (hdb:(x==("__debug__" : Str))=false:=by decide) (he:starEach (e::es) X.env=(false,eval e X.env)::starEach es X.env:=by rfl) (hpl:(backTo cpos (starEach es X.env)).any (·.1)=false:=by rfl):
  PS X (.Raise (some (.Call (.Name x np) (e::es) [] cpos)) none pos) (Xw1 C E t):=by
 intro pins s σ H D I h
 obtain⟨tl,N,nm,q,bs,hdct,sn,sub,ab,col,dd,k0,k1,k2,k3,k5,mN,hC,hN,hni,T⟩:=Xou I.mod.kin hc
 refine wpAny_Raise_call_subT (C:=C) (nm:=nm) (q:=q) (N:=N) (bs:=bs) (bm:=tl) (hdct:=hdct) (sn:=sn) (sub:=sub) (ab:=ab) (col:=col) (dd:=dd) (k0:=k0) (k1:=k1) (k2:=k2) (k3:=k3) (k5:=k5)
  PySem.F.excBase_ValueError (mN:=mN) (T.hasType PySem.F.excBase_ValueError.hasBase) (I.ok.hd hcalm) (by rw[he];show (false||(backTo cpos (starEach es X.env)).any (·.1))=false;rw[hpl];rfl) hni (Xh4 I hg hm ⟨rfl,?_⟩ hdb)
 have hh:=thn (ha cpos pins s σ H _ I h) (Q':=λvs s₂=>vs.length<=sizeLine/\(∀b o,X.base.get? b=some o->s₂.heap.get? b=some o)/\∀h' e,Heap.MadeExcOf s₂.heap h' e (.ref C) vs->X.xe (.ref e) {s₂ with heap:=h'})
  (λus s2 ⟨vs,H2,I2,r2,hl,hE⟩=>⟨by rw[<-r2.length];exact hl,I2.bk,λh' ex hmk=>hx pins σ H2 s2 h' ex C us I2 hmk hE⟩)
 rw[he] at hh ⊢
 exact Calls.evalArgs_plain (wpAny_mono hh (λvs s₂ h₂=>⟨rfl,h₂.1,h₂.2.1 _ _ hC,hN.keeps h₂.2.1,T.keeps h₂.2.1,h₂.2.2⟩) λ_ _ y=>y)
theorem Fun.ok1{P:Program}{w:World}{K:PySem.W.Frag}{mg:Str->Option Value}{base:Heap}{x qual:Str}{st:Stmt}{f:Addr}{fd:FuncData}{N ps:List Str}{k:Nat}{sp:Sp}(F:Fun K x qual st f fd)(S:FnScope N ps (defScope st))(len:∀vs H Q E,sp vs H Q E->vs.length=ps.length)
  (hbody:∀(cdv:Value) (A:Around) (outer:List Env) (s:Shared) (H:Hp) (vs:List V) (Q:VK) (E:XK),Room k (A.deeper (envOfC qual (defScope st) s.heap.objs.size f cdv))->sp vs H Q E ->
   ∃t,PSs (cxOf (CX1 P w) P w K mg base N qual (defScope st) f cdv A outer s H E) (Xb9 st) t/\t {nx:=λ_ H'=>Q .non H',rt:=Q} (start N vs) H):FnOk P w K mg base (CX1 P w) (k+1) f fd ps sp:=by
 obtain⟨oc,od,kV,doc,pm,an,cdv,ct,osl,rfl,lk,hcd⟩:=F.ex
 exact Xud lk hcd S len λA outer s H vs Q E hr hsp=>hbody cdv A outer s H vs Q E hr hsp
abbrev Cx.re (X:Cx) (pn:List (Addr×Obj)) (A:Around) (c:Bool) (E:Value->Shared->Prop):Cx:={X with pn:=pn,A:=A,calm:=c,xe:=E}
section
variable {X:Cx}{pins pins' pn:List (Addr×Obj)}{σ:St}{H:Hp}{s:Shared}{A:Around}{c:Bool}{E:Value->Shared->Prop}
theorem Inv.as(I:Inv X pins σ H s)(hd:c=true->A.handled=none)(hf:A.frames=some X.stack)(hp:∀p∈pn++pins',p∈X.pn++pins):Inv (X.re pn A c E) pins' σ H s:=
 ⟨⟨I.ok.mod,I.ok.kind,I.ok.glob,I.ok.blt,I.ok.above,I.ok.inj,I.ok.has,I.ok.cab,hd,hf,I.ok.stk,I.ok.exf,I.ok.bs,I.ok.bsz,I.ok.noex,I.ok.exfs,I.ok.funs,I.ok.frf⟩,
  I.os,I.bare,I.base,I.loc,I.cell,I.free,I.freeC,λp hp'=>I.pin p (hp p hp'),I.hok,I.len⟩
theorem Inv.back(I:Inv (X.re pn A c E) pins' σ H s)(ok:X.Ok)(hp:∀p∈X.pn++pins,p∈pn++pins'):Inv X pins σ H s:=
 ⟨ok,I.os,I.bare,I.base,I.loc,I.cell,I.free,I.freeC,λp hp'=>I.pin p (hp p hp'),I.hok,I.len⟩
end
def excP (ex C:Addr) (h:Heap):Prop:=∃o vs,h.get? ex=some o/\o.cls = .ref C/\o.data = .fields vs
def ExcO (ex C:Addr):HO:=.ext (excP ex C)
def Cx.tryC (X:Cx) (pn:List (Addr×Obj)) (R:Addr->St->Hp->Prop):Cx:=X.re pn X.A X.calm λe s1=>
 ∃σ Hc sc,Inv (X.re pn X.A X.calm λ_ _=>True) [] σ Hc sc/\CX1 X.prog X.w X.stack Hc sc (λc _ H1=>∃C,c = .ref C/\R C σ H1) e s1
def Cx.suite (X:Cx) (pn:List (Addr×Obj)) (ex:Addr):Cx:=X.re pn (X.A.mark (some (.ref ex))) false λ_ _=>False
section
variable {X:Cx}{pn:List (Addr×Obj)}{R:Addr->St->Hp->Prop}{k:Nat}{f:Addr}{fd:FuncData}{ps:List Str}{sp:Sp}{dvs:List V}{ds:List Value}{x:Str}{p pos:Pos}{e:Expr}{es:List Expr}{t:TA}
def Xw2 (sp:Sp) (dvs:List V) (R:Addr->St->Hp->Prop) (t:TA):TE:=fun σ H Q=>t σ H λvs H1=>sp (vs++dvs) H1 Q λc _ H'=>∃C,c = .ref C/\R C σ H'
theorem Xl7(F:FnOk X.prog X.w X.K X.mg X.base (CX1 X.prog X.w) k f fd ps sp)(hr:Room k X.A)(hg:Gl X x)(hm:X.mg x=some (.ref f))(hk:PySem.W.keepIn X.K (.ref f)=true)(hb:Binds X.K fd ps ds)(hd:Vals dvs ds)
  (ha:PA (X.tryC pn R) (e::es) t) (hdb:(x==("__debug__" : Str))=false:=by decide) (he:starEach (e::es) X.env=(false,eval e X.env)::starEach es X.env:=by rfl) (hpl:(backTo pos (starEach es X.env)).any (·.1)=false:=by rfl):
  PE (X.tryC pn R) (.Call (.Name x p) (e::es) [] pos) (Xw2 sp dvs R t):=by
 intro pins s σ H Q I h
 refine wpAny_Call_Name_kw (Xh4 I (show Gl (X.tryC pn R) x from hg) hm ?_ hdb)
 refine PySem.W.callWith_K (h₀:=X.base) I.ok.mod.kin hk (thn (ha pos pins s σ H _ I h) λus s1 ⟨vs,H1,I1,r,q⟩=>⟨I1.kIn,?_⟩) he hpl
 have r2:Vals (vs++dvs) (us++ds):=r.append hd
 have hl:(us++ds).length=ps.length:=by rw[<-r2.length];exact F.len _ _ _ _ q
 refine wpAny_call (codeAny_mono (F.run X.A X.stack s1 H1 ⟨us,[]⟩ (us++ds) (vs++dvs) Q _ hr I1.env0 (hb s1 us I1.kIn hl) r2 q) λr s' hq=>?_)
 cases r with
 | error e=>exact⟨σ,H1,s1,(Inv.back (X:=X.re pn X.A X.calm λ_ _=>True) (pins:=[]) I1 (I1.as (X:=X.tryC pn R) (pins':=[]) (pn:=pn) (A:=X.A) (c:=X.calm) (E:=λ_ _=>True) I1.ok.hd I1.ok.frames (λp hp=>Xzw.mpr (.inl (show p∈pn from by simpa using hp)))).ok (λp hp=>Xzw.mpr (.inl (show p∈pn from by simpa using hp)))),hq⟩
 | ok fl=>
  cases fl with
  | ret u=>exact I1.after hq
  | next=>exact False.elim hq
  | brk=>exact False.elim hq
  | cont=>exact False.elim hq
end
section
variable {X:Cx}{pos np hpos:Pos}{body:List Stmt}{b0:Stmt}{suite:List Stmt}{n x:Str}{i:Nat}{Cc:Addr}{tb:(Addr->St->Hp->Prop)->TS}{th:TS}
def tTry (K:PySem.W.Frag) (i:Nat) (Cc:Addr) (tb:(Addr->St->Hp->Prop)->TS) (th:TS):TS:=λD σ H=>∃R:Addr->St->Hp->Prop,tb R D σ H/\∀C σ1 H1,R C σ1 H1->PySem.W.exmOne K (.ref C) (.ref Cc)=some true /\
 ∀ex,H1 ex=none->th {nx:=fun σ2 H2=>D.nx (σ2.set i none) H2,rt:=D.rt,bk:=fun σ2 H2=>D.bk (σ2.set i none) H2,ct:=fun σ2 H2=>D.ct (σ2.set i none) H2} (σ1.set i (some (.ref ex))) (upd H1 ex (ExcO ex C))
end
section
variable {X:Cx}{pos p2:Pos}{e:Expr}{te:TE}
def tRev (K:PySem.W.Frag) (te:TE):TE:=fun σ H Q=>te σ H λx H1=>∃a xs,x = .ref a/\SqL K H1 a xs/\∀p,H1 p=none->Q (.ref p) (upd H1 p (.lst xs.reverse))
theorem Xov{k:Nat}{p3 p4:Pos}(he:PE X e te):PE X (.Subscript e (.Slice none none (some (.UnaryOp .USub (.Constant (.int 1) k p3) p4)) p2) pos) (tRev X.K te):=by
 intro pins s σ H Q I h
 refine Subscript_ (thn (he pins s σ H _ I h) λv s1 ⟨x,H1,I1,r1,q1⟩=>?_)
 have hstep:PE X (.UnaryOp .USub (.Constant (.int 1) k p3) p4) (tUn (rU λi=>.int (-i)) (tC (.int 1))):=Xyq Xwl Xai
 refine wpAny_Slice ?_
 rw[evalPart_none]
 refine X3k (X3k ?_)
 rw[evalPart_some]
 refine thn (hstep pins s1 σ H1 (λy H2=>y = .int (-1)/\H2=H1) I1 ⟨1,rfl,rfl,rfl⟩) λu s2 ⟨y,H2,I2,r2,ey,eH⟩=>?_
 subst ey eH
 obtain⟨t,rfl⟩:=r2
 obtain⟨a,xs,ex,hx,q⟩:=q1
 subst ex
 cases r1
 obtain⟨its,r,ht,hz⟩:=I2.list hx
 have I4:Inv X pins σ H2 {s2 with heap:=s2.heap.push {cls:=.type "slice",data:=.fields #[.none,.none,.int (-1) t]} }:=I2.kept (t':=s2.toks) λb ob q=>X3t _ q
 obtain⟨its4,r4,ht4,hz4⟩:=I4.list hx
 have hlen:=r4.length
 refine tail_any (ops:=[.ref a,.ref s2.heap.objs.size]) ht4.isList.typeIs slot_list_getitem.lookup (wpAny_getItem_list_slice ht4.isList (Heap.IsSliceOf.new ..) .none .none (.int (-1) t) (by simp) ?_ (by rw[Xzp]<;>omega)) (by with_unfolding_all rfl)
 rw[PySem.W.krv_pick]
 refine⟨.ref _,_,I4.laid (t':=s2.toks) (o:=.lst xs.reverse) (λb ob q=>X3t _ q) (Xzn _) ?_,rfl,q _ (I4.hok.fresh (Xzn _))⟩
 exact⟨by rw[X1x];exact hz4,_,0,Vals.reverse r4,Heap.get?_push_size _ rfl⟩
def eqVL (xs ys:List V):Bool:=(xs.length==ys.length)&&(List.range xs.length).all λj=>eqV (xs.getD j .non) (ys.getD j .non)
theorem Xrl:∀(xs ys:List Str),eqVL (xs.map V.str) (ys.map V.str)=decide (xs=ys):=by
 intro xs ys
 unfold eqVL
 rw[Xzl,Xzl]
 by_cases e:xs=ys
 ·subst e
  simp only[beq_self_eq_true,X09,decide_true]
  rw[X0a]
  intro j hj
  have hj':j<xs.length:=X0l.mp hj
  simp[List.getD,hj',eqV]
 ·rw[X3p e]
  by_cases hl:xs.length=ys.length
  ·cases hb:((xs.length==ys.length)&&(List.range xs.length).all λj=>eqV ((xs.map V.str).getD j .non) ((ys.map V.str).getD j .non)) with
   | false=>rfl
   | true=>
    exfalso
    refine e (X1y hl λj h1 h2=>?_)
    rw[Xz2,X0a] at hb
    have q:=hb.2 j (X0l.mpr h1)
    simp[List.getD,h1,h2,eqV] at q
    exact q
  ·have:(xs.length==ys.length)=false:=by simpa using hl
   rw[this,X08]
def rEqL (K:PySem.W.Frag) (g:Bool->Bool):R2:=λx y H Q=>∃a b xs ys,x = .ref a/\y = .ref b/\SqL K H a xs/\SqL K H b ys/\(∀v∈xs,Xdn v=true)/\(∀v∈ys,Xdn v=true)/\Q (.bl (g (eqVL xs ys))) H
theorem Xhu{A:Around}{s:Shared}{xs ys:List V}{us vs:List Value}(rx:Vals xs us)(ry:Vals ys vs)(fx:∀v∈xs,Xdn v=true)(fy:∀v∈ys,Xdn v=true)(j:Nat)(h1:j<us.toArray.size)(h2:j<vs.toArray.size):
  SeqAt.EqAt A s us.toArray[j] vs.toArray[j] (eqV (xs.getD j .non) (ys.getD j .non)):=by
 have l1:=rx.length
 have l2:=ry.length
 rw[Xzp] at h1 h2
 have g1:xs[j]? = some (xs[j]'(by omega)):=Xzo (by omega)
 have g2:ys[j]? = some (ys[j]'(by omega)):=Xzo (by omega)
 obtain⟨u,hu,ru⟩:=rx.get g1
 obtain⟨v,hv,rv⟩:=ry.get g2
 have e1:us.toArray[j]=u:=by
  rw[List.getElem_toArray]
  rw[Xzo h1] at hu
  exact Xz3 hu
 have e2:vs.toArray[j]=v:=by
  rw[List.getElem_toArray]
  rw[Xzo h2] at hv
  exact Xz3 hv
 rw[e1,e2]
 have d1:xs.getD j .non=xs[j]'(by omega):=by simp[List.getD,g1]
 have d2:ys.getD j .non=ys[j]'(by omega):=by simp[List.getD,g2]
 rw[d1,d2]
 exact Xti ru rv (fx _ (X0b _)) (fy _ (X0b _))
theorem Xw3(hu:X.A.units<cLine):OpR X (compareOp .Eq) (rEqL X.K id):=by
 intro pins s σ H x y v u Q I rx ry h
 obtain⟨a,b,xs,ys,rfl,rfl,hx,hy,fx,fy,q⟩:=h
 cases rx
 cases ry
 obtain⟨us,r1,p1,z1⟩:=I.list hx
 obtain⟨vs,r2,p2,z2⟩:=I.list hy
 have l1:=r1.length
 have l2:=r2.length
 by_cases hl:xs.length=ys.length
 ·refine SeqAt.eq_listAt (e:=λj=>eqV (xs.getD j .non) (ys.getD j .non)) p1.isList p2.isList (by rw[Xzp,Xzp];omega) hu (λj h1 h2=>Xhu r1 r2 fx fy j h1 h2) ?_
  refine⟨.bl (eqVL xs ys),H,I,?_,q⟩
  show Value.bool _=Value.bool (eqVL xs ys)
  unfold eqVL
  rw[Xzp,<-l1,hl,beq_self_eq_true,X09]
 ·refine SeqAt.eq_list_lengthsAt p1.isList p2.isList (by rw[Xzp,Xzp];simpa using (by omega:us.length≠vs.length)) hu ?_
  refine⟨.bl (eqVL xs ys),H,I,?_,q⟩
  show Value.bool _=Value.bool (eqVL xs ys)
  unfold eqVL
  have:(xs.length==ys.length)=false:=by simpa using hl
  rw[this,X08]
theorem Xw4(hu:X.A.units<cLine):OpR X (compareOp .NotEq) (rEqL X.K not):=by
 intro pins s σ H x y v u Q I rx ry h
 obtain⟨a,b,xs,ys,rfl,rfl,hx,hy,fx,fy,q⟩:=h
 cases rx
 cases ry
 obtain⟨us,r1,p1,z1⟩:=I.list hx
 obtain⟨vs,r2,p2,z2⟩:=I.list hy
 have l1:=r1.length
 have l2:=r2.length
 by_cases hl:xs.length=ys.length
 ·refine SeqAt.RcNeAt.lists (e:=λj=>eqV (xs.getD j .non) (ys.getD j .non)) p1.isList p2.isList (by rw[Xzp,Xzp];omega) hu (λj h1 h2=>Xhu r1 r2 fx fy j h1 h2) _ _ _ _ ?_
  refine⟨.bl (!eqVL xs ys),H,I,?_,q⟩
  show Value.bool _=Value.bool (!eqVL xs ys)
  unfold eqVL
  rw[Xzp,<-l1,hl,beq_self_eq_true,X09]
 ·refine SeqAt.RcNeAt.lists_lengths p1.isList p2.isList (by rw[Xzp,Xzp];simpa using (by omega:us.length≠vs.length)) hu _ _ _ _ ?_
  refine⟨.bl (!eqVL xs ys),H,I,?_,q⟩
  show Value.bool _=Value.bool (!eqVL xs ys)
  unfold eqVL
  have:(xs.length==ys.length)=false:=by simpa using hl
  rw[this,X08,Bool.not_false]
def Xy4 (K:PySem.W.Frag) (n:Nat) (t:TGs):TG:=λv σ H Q=>∃a xs,v = .ref a/\SqL K H a xs/\xs.length=n/\t xs σ H Q
theorem Xuo{es:List Expr}{k:Nat}{t:TGs}{n:Nat}(hc:X.calm=true)(h:PGs X es t)
  (hn:(assignEach es X.env).length=n:=by rfl) (hst:(assignEach es X.env).findIdx? (·.1)=none:=by rfl):PG X (.Tuple es k pos) (Xy4 X.K n t):=by
 intro pins s σ H v u Q I r hw
 obtain⟨a,xs,e1,hq,hl,hw⟩:=hw
 subst e1
 cases r
 obtain⟨its,rv,ht,hz⟩:=I.list hq
 rw[assign_Tuple]
 refine X3j (wpAny_standAt ?_)
 unfold unpack
 have hlen:(assignEach es X.env).length=its.toArray.size:=by rw[hn,<-hl,Xzp];exact rv.length
 rw[hlen,hst]
 refine X3j (wpAny_holding (PySem.W.kun_itemsOf (I.ok.hd hc) ht.isList λh' hx=>?_))
 have I1:Inv X pins σ H {s with heap:=h'}:=I.kept (t':=s.toks) λb o e=>hx b o (Xzv (X3s e)) e
 exact h pins _ σ H xs _ Q I1 (by simpa using rv) hw
def repS (z:Str) (n:Nat):Str:=⟨(List.replicate n z.cps).foldl (· ++ ·) #[]⟩
theorem Xrm(z:Str):repS z 1=z:=by
 obtain⟨c⟩:=z
 show (⟨(#[]:Array Nat)++c⟩:Str)=⟨c⟩
 rw[Array.empty_append]
theorem Xje(z:Array Nat):∀(n:Nat) (a:Array Nat),((List.replicate n z).foldl (· ++ ·) a).size=a.size+n * z.size
 | 0,a=>by simp
 | n+1,a=>by
  rw[X1c,X2e,Xje z n,Array.size_append,Nat.succ_mul]
  omega
theorem Xia(z:Str)(n:Nat):(repS z n).length=n * z.length:=by
 have e:=Xje z.cps n #[]
 show ((List.replicate n z.cps).foldl (· ++ ·) #[]).size=n * z.cps.size
 simpa using e
theorem Xrn{z:Str}(h:z.length=0)(n:Nat):repS z n=z:=by
 have e:=Xia z n
 rw[h,Nat.mul_zero] at e
 generalize repS z n=y at e
 obtain⟨c⟩:=z
 obtain⟨d⟩:=y
 have h':c.size=0:=h
 have e':d.size=0:=e
 rw[Array.size_eq_zero_iff] at h' e'
 rw[h',e']
theorem Xnd:OpR X (binaryOp .Mult) (λx y H Q=>∃z n,x = .str z/\y = .int n/\0<=n/\n<=1000/\z.length<=1000/\Q (.str (repS z n.toNat)) H):=by
 intro pins s σ H x y v u Q I rx ry h
 obtain⟨z,n,rfl,rfl,h0,h1,hz,q⟩:=h
 obtain⟨t,rfl⟩:=rx
 obtain⟨t',rfl⟩:=ry
 have hle:z.length * n.toNat<=1000 * 1000:=Nat.mul_le_mul hz (by omega)
 refine PySem.P.mul_str ?_ (λhn hz1=>?_) (λhn hz1=>?_) ?_
 ·have h2:¬n < -(2 ^ 63:Int):=by omega
  have h3:¬n ≥ 2 ^ 63:=by omega
  rw[X3p h2,X3p h3]
  rfl
 ·have h4:(1000:Int)<=(2 ^ 63 - 1) / n:=by
   refine(Int.le_ediv_iff_mul_le (by omega)).mpr ?_
   have:(1000:Int) * n<=1000 * 1000:=by omega
   omega
  omega
 ·show Builtin.Str.tooLong _=false
  unfold Builtin.Str.tooLong
  first
   | (refine X3p ?_;have:=hle;rw[X3l];omega)
   | (simp;omega)
 ·by_cases hn:n<1
  ·rw[X3n hn]
   have:n=0:=by omega
   subst this
   exact⟨by decide,.str Str.empty,H,I.tok _,⟨_,rfl⟩,q⟩
  ·rw[X3m hn]
   by_cases hc:(n==1||z.length==0)=true
   ·rw[X3n hc]
    have e:repS z n.toNat=z:=by
     rcases X2z.mp hc with e | e
     ·have e':n=1:=by simpa using e
      subst e'
      exact Xrm z
     ·exact Xrn (by simpa using e) _
    rw[e] at q
    exact⟨.str z,H,I,⟨_,rfl⟩,q⟩
   ·rw[X3m hc]
    refine⟨?_,.str (repS z n.toNat),H,I.tok _,⟨_,rfl⟩,q⟩
    show (repS z n.toNat).length<=sizeLine
    rw[Xia,Nat.mul_comm,X3l]
    omega
theorem Xes:X.calm=true->Xda X (.builtin "all") (λxs H Q=>∃(a:Addr) (bs:List Bool),xs=[.ref a]/\H a=some (.lst (bs.map V.bl))/\Q (.bl (bs.all id)) H):=by
 intro hc pins s σ H xs us Q I r h
 obtain⟨a,bs,rfl,ha,q⟩:=h
 obtain⟨u,rfl,ru⟩:=vals1 r
 cases ru
 obtain⟨its,rv,p,hz⟩:=I.list (SqL.of ha)
 have hl:=rv.length
 rw[Xzl] at hl
 refine call_all_walk (wpAny_pyIter_list p.isList ?_)
 have hlt:a≠s.heap.objs.size:=by
  obtain⟨o,ho,_⟩:=p.isList
  exact Xzv (X3s ho)
 refine⟨s.heap.objs.size,_,_,_,_,_,λj=>bs.getD j false,rfl,Walks.list (A:=X.A.in1) (show X.A.in1.handled=none from I.ok.hd hc) s.heap.objs.size a hlt its.toArray,⟨⟨_,Heap.get?_push_size _ rfl,rfl,rfl⟩,p.isList.push _⟩,λi v s' Q' E' hP hQ=>?_,λh' tk k=>?_⟩
 ·have hv:its[i]? = some v:=by simpa using hP
  have hi:i<its.length:=(Xz7.mp hv).1
  have g:(bs.map V.bl)[i]? = some (.bl (bs[i]'(by omega))):=by
   rw[Xz4,Xzo (by omega)]
   rfl
  obtain⟨u,hu,ru⟩:=rv.get g
  rw[hv] at hu
  cases hu
  cases ru
  have e:bs.getD i false=bs[i]'(by omega):=by simp[List.getD,(by omega:i<bs.length)]
  have hQ':Q' (bs.getD i false) s':=hQ
  rw[e] at hQ'
  exact wpAny_truthy_bool hQ'
 ·refine⟨.bl (bs.all id),H,I.kept (t':=tk) λb o e=>k b o (λz=>?_) (X3t _ e),?_,q⟩
  ·have z':b=s.heap.objs.size:=by simpa using z
   exact absurd (X3s e) (by rw[z'];exact X0r _)
  ·show Value.bool _=Value.bool _
   congr 1
   rw[Xzp,<-hl]
   rw[X0y,X0a,X0a]
   constructor
   ·intro hx b hb
    obtain⟨j,hj,rfl⟩:=X0q.mp hb
    have:=hx j (X0l.mpr hj)
    simpa [List.getD,hj] using this
   ·intro hx j hj
    have hj':=X0l.mp hj
    have:=hx _ (X0b hj')
    simpa [List.getD,hj'] using this
end
def Itd (d:Addr) (o:Obj) (kvs:List (Key×V)):It:=
 ⟨λi H=>H d=some (.frz o (.dK kvs))/\i<kvs.length,λi H x H'=>H'=H/\∃p,kvs[i]? = some p/\x=kV p.1,λi H=>H d=some (.frz o (.dK kvs))/\kvs.length<=i⟩
theorem Xup{P:Program}{w:World}{k:Key}{u:Value}(h:(Xau P w).is k u=true):RelV (kV k) u:=by
 rcases Xbb (show Xh3 k u=true from h) with ⟨i,t,rfl,rfl⟩ | ⟨x,t,rfl,rfl⟩
 ·exact⟨t,rfl⟩
 ·exact⟨t,rfl⟩
theorem Xw5:∀{kvs:List (Key×V)} {vs:List (Key×Value)} {i:Nat} {p:Key×V},KV kvs vs->kvs[i]? = some p->∃u,vs[i]? = some (p.1,u)
 | _,_,_,_,.nil,e=>by simp at e
 | _,_,0,p,.cons (b:=b) r _,e=>by
  simp at e;subst e
  obtain⟨k,u⟩:=b
  obtain⟨r1,r2⟩:=r
  exact⟨u,by simp only[List.getElem?_cons_zero,Option.some.injEq,Prod.mk.injEq];exact⟨r1.symm,trivial⟩⟩
 | _,_,i+1,p,.cons _ t,e=>by
  obtain⟨u,h⟩:=Xw5 (i:=i) t (by simpa using e)
  exact⟨u,by simpa using h⟩
theorem Xgu{P:Program}{w:World}{K:PySem.W.Frag}{tg:Expr}(d it:Addr)(o:Obj)(es:Array DictEntry)(ep:Nat)(hd:o.data = .dict es ep)(kvs:List (Key×V))(hne:d≠it):
  Turn P w K tg (Itd d o kvs) [it] it (λi h=>h.IsKeyIter it d i kvs.length ep) where
 mem:=by simp
 obj:=λi h st b hb=>by
  have e:b=it:=by simpa using hb
  subst e
  obtain⟨o,e,c,d⟩:=st
  exact⟨o,e,λv z=>by rw[d] at z;cases z⟩
 keep:=λi h h' st k=>by
  obtain⟨o,e,r⟩:=st
  exact⟨o,k it (by simp) o e,r⟩
 item:=by
  intro X hP hw hK hc i pins s σ H E I hf st hg
  subst hP hw hK
  obtain⟨hH,hi⟩:=hg
  obtain⟨ho,hz,hm,vs,rv,o',es',ep',ho',hex,hd',r'⟩:=I.hok d _ hH
  rw[ho] at ho';cases ho'
  rw[hd] at hd'
  cases hd'
  have hlen:kvs.length=vs.length:=Paired.length rv
  obtain⟨f0,f1,f2,f3,f4,f5⟩:=hf it (by simp)
  have hp:kvs[i]? = some (kvs[i]'hi):=Xzo hi
  obtain⟨u,hu⟩:=Xw5 rv hp
  rw[hlen] at st
  refine wpAny_pyNext_dict_item (knd:=Xau X.prog X.w) st ⟨o,es,ho,hex,hd,r'⟩ hu λkey h' hk st' sb=>?_
  have I1:Inv X pins σ H {s with heap:=h'}:=I.turned (t':=s.toks) (λb o hb e=>(sb.2 b hb).trans e) f0 f1 f3 f4 f5
  obtain⟨o2,e2,c2,d2⟩:=id st'
  refine⟨key,rfl,Xrc (s:={s with heap:=h'}) e2 c2 d2 (by decide) ⟨_,H,I1,Xup hk,⟨rfl,_,hp,rfl⟩,?_,λb hb=>(hf b hb).1⟩⟩
  rw[hlen]
  exact st'
 done:=by
  intro X hP hw hK hc i pins s σ H E I hf st hg
  subst hP hw hK
  obtain⟨hH,hi⟩:=hg
  obtain⟨ho,hz,hm,vs,rv,o',es',ep',ho',hex,hd',r'⟩:=I.hok d _ hH
  rw[ho] at ho';cases ho'
  rw[hd] at hd'
  cases hd'
  have hlen:kvs.length=vs.length:=Paired.length rv
  obtain⟨f0,f1,f2,f3,f4,f5⟩:=hf it (by simp)
  rw[hlen] at st
  exact wpAny_pyNext_dict_end (knd:=Xau X.prog X.w) (I.ok.hd hc) st ⟨o,es,ho,hex,hd,r'⟩ (X14 (by omega)) λh' eb=>⟨rfl,I.turned (t':=s.toks) (λb o hb e=>eb b o hb e) f0 f1 f3 f4 f5⟩
 self:=λA i s Q E st h=>by
  refine wpAny_pyIter_slot st.typeIs PySem.F.slot_dict_keyiterator_iter (wpAny_call_entry PySem.F.slot_dict_keyiterator_iter st.typeIs PySem.F.entry_dict_keyiterator_iter ?_ (PySem.F.args_dict_keyiterator_iter_1 _))
  show wpAny _ _ (ret (.ref it)) _ _ s
  exact X3k ⟨_,rfl, "dict_keyiterator",_,st.typeIs,PySem.F.slot_dict_keyiterator_next.lookup,h⟩
section
variable {X:Cx}{tg:Expr}
theorem Inv.freeze{pins:List (Addr×Obj)}{σ:St}{H:Hp}{s:Shared}{d:Addr}{kvs:List (Key×V)}{o:Obj}(I:Inv X pins σ H s)(hH:H d=some (.dK kvs))(ho:s.heap.get? d=some o):Inv X pins σ (upd H d (.frz o (.dK kvs))) s:=by
 have ne:∀{b:Addr} {u:HO},H b=some u->(HO.dK kvs≠u)->b≠d:=λ{b u} e n=>Xwg e hH (λz=>n z.symm)
 refine⟨I.ok,I.os,I.bare,⟨I.base.keep,I.base.slot,λb ob e n hx=>?_,I.base.there,λb xs e=>?_,λb ob u e=>?_,λb ps e=>?_⟩,I.loc,I.cell,?_,λx c e=>?_,λp hp'=>?_,λb ob e=>?_,I.len⟩
 ·have q:=I.base.free b ob e n hx
  rw[Xae (λz=>by rw[z,hH] at q;cases q)]
  exact q
 ·have q:=I.base.tups b xs e
  rw[Xae (ne q (by simp))]
  exact q
 ·have q:=I.base.frzs b ob u e
  rw[Xae (ne q (by simp))]
  exact q
 ·obtain⟨more,q⟩:=I.base.tbls b ps e
  exact⟨more,by rw[Xae (ne q (by simp))];exact q⟩
 ·rw[Xae (λz=>by have:=I.free;rw[z,hH] at this;cases this)]
  exact I.free
 ·have q:=I.freeC x c e
  rw[Xae (λz=>by rw[z,hH] at q;cases q)]
  exact q
 ·obtain⟨e,n,r⟩:=I.pin p hp'
  exact⟨e,by rw[Xae (λz=>by rw[z,hH] at n;cases n)];exact n,r⟩
 ·by_cases hb:b=d
  ·subst hb
   rw[Xab] at e
   cases e
   exact⟨ho,(I.hok b _ hH).stay (λ_ _ _ q=>q) (λc q=>by rw[Xae (ne q (by simp))];exact q) λc xs q=>by rw[Xae (ne q (by simp))];exact q⟩
  ·rw[Xae hb] at e
   exact(I.hok b ob e).stay (λ_ _ _ q=>q) (λc q=>by rw[Xae (ne q (by simp))];exact q) λc xs q=>by rw[Xae (ne q (by simp))];exact q
def Xy5 (tl:TE):TI:=fun σ H R=>tl σ H λx H1=>∃d kvs,x = .ref d/\H1 d=some (.dK kvs)/\∀o,R (Itd d o kvs) (upd H1 d (.frz o (.dK kvs)))
theorem Xuq{l:Expr}{tl:TE}(hl:PE X l tl):PI X tg l (Xy5 tl):=by
 intro pins s σ H R I h
 refine thn (hl pins s σ H _ I h) λv s1 ⟨x,H1,I1,r1,q1⟩=>?_
 obtain⟨d,kvs,e,hH,q⟩:=q1
 subst e
 cases r1
 obtain⟨hz,hm,vs,rv,o,es,ep,ho,hex,hd,r⟩:=I1.hok d _ hH
 have hlen:kvs.length=vs.length:=Paired.length rv
 refine wpAny_pyIter_dict (knd:=Xau X.prog X.w) hm ⟨o,es,ho,hex,hd,r⟩ ?_
 have I2:=I1.freeze hH ho
 refine⟨s1.heap.objs.size,[s1.heap.objs.size],_,_,_,rfl,I2.kept (t':=s1.toks) λb o e=>X3t _ e,Xgu d _ o es ep hd kvs (Xzv (X3s ho)),⟨_,Heap.get?_push_size _ rfl,rfl,by rw[hlen];rfl⟩,λb hb=>?_,q o⟩
 have e:b=s1.heap.objs.size:=by simpa using hb
 subst e
 exact I2.fpOk (Xzn _) (I2.hok.fresh (Xzn _))
end
def PJ (X:Cx) (es:List Expr) (t:St->Hp->(Hp->Prop)->Prop):Prop:=
 ∀(out:Str) (pins:List (Addr×Obj)) (s:Shared) (σ:St) (H:Hp) (Q:Hp->Prop),Inv X pins σ H s->t σ H Q->out.length+5000 * es.length<=sizeLine ->
  wpAny (model X.prog X.w) X.A (joinParts out (evalEach es X.env)) (λu s'=>∃z tk H',u = .str z tk/\Inv X pins σ H' s'/\Q H') X.xe s
def Xw6:St->Hp->(Hp->Prop)->Prop:=λ_ H Q=>Q H
def Xw7 (t:St->Hp->(Hp->Prop)->Prop):St->Hp->(Hp->Prop)->Prop:=t
section
variable {X:Cx}{es:List Expr}{t:St->Hp->(Hp->Prop)->Prop}{e:Expr}{te:TE}{pos:Pos}
theorem Xtl:PJ X [] Xw6:=λout pins s σ H Q I h hz=>joinParts_nil ⟨out,_,H,rfl,I.tok _,h⟩ (by simpa using hz)
theorem Xdd(a b:Str):(a++b).length=a.length+b.length:=strLen_append a b
theorem Xow{z:Str}{k:Nat}{p:Pos}(hz:z.length<=5000)(h:PJ X es t)(he:evalEach (.Constant (.str z) k p::es) X.env=eval (.Constant (.str z) k p) X.env::evalEach es X.env:=by rfl):PJ X (.Constant (.str z) k p::es) (Xw7 t):=by
 intro out pins s σ H Q I hw hl
 rw[he]
 rw[Xz6] at hl
 refine joinParts_cons (Calls.Constant_str ⟨by rw[Xdd];omega,?_⟩)
 exact h (out++z) pins _ σ H Q (I.tok _) hw (by rw[Xdd];omega)
def Xw8 (t:St->Hp->(Hp->Prop)->Prop):TE:=fun σ H Q=>t σ H λH1=>∀z,Q (.str z) H1
theorem Xox{a b:Expr}(h:PJ X (a::b::es) t)(hz:5000 * (a::b::es).length<=sizeLine:=by decide)(he:evalEach (a::b::es) X.env=eval a X.env::eval b X.env::evalEach es X.env:=by rfl):PE X (.JoinedStr (a::b::es) pos) (Xw8 t):=by
 intro pins s σ H Q I hw
 refine JoinedStr_many ?_
 rw[<-he]
 refine thn (h Str.empty pins s σ H _ I hw (by rw[show Str.empty.length=0 from rfl];omega)) λu s' ⟨z,tk,H',e,I',q⟩=>?_
 subst e
 exact⟨.str z,H',I',⟨tk,rfl⟩,q z⟩
end
end L2
namespace L2
open PySem PySem.Spec PyProof.Rows PySem.Calls Builtin Builtin.ObjectAttr Builtin.Getset_descriptor
structure ExcF (K:PySem.W.Frag) (C:Addr):Prop where
 ga:PySem.W.findIn K (.ref C) "__getattribute__" = some (some (.builtin "BaseException.__getattribute__"))
 gn:PySem.W.findIn K (.ref C) "__getattr__" = some none
 cl:PySem.W.findIn K (.ref C) "__class__" = some (some (.builtin "object.__class__"))
 sb:PySem.W.subIn K (.ref C) (.type "BaseException")=some true
 so:PySem.W.subIn K (.ref C) (.type "object")=some true
 ic:(PySem.W.clsIn K C).isSome=true
section
variable {prog:Program}{w:World}{A:Around}{E:Value->Shared->Prop}{K:PySem.W.Frag}{C a:Addr}{h:Heap}{g:Array GenState}{d:Drawn}{t:Nat}{os:OsState}
end
end L2
namespace L2
open PySem PySem.Spec PyProof.Rows
def clsV:V->Option Value
 | .ty n=>some (.type n)
 | .ref a=>some (.ref a)
 | _=>none
theorem Xro{c:V}{u v:Value}(r:RelV c u)(h:clsV c=some v):u=v:=by
 cases c with
 | ty n=>cases r;exact Xz3 h
 | ref a=>cases r;exact Xz3 h
 | _=>cases h
section
variable {X:Cx}
theorem Xde:Xda X (.builtin "isinstance") (λxs H Q=>∃x c t cv b,xs=[x,c]/\TyOf X.K H x t/\clsV c=some cv/\PySem.W.kitOne X.K t cv=some b/\Q (.bl b) H):=by
 intro pins s σ H xs us Q I r h
 obtain⟨x,c,t,cv,b,rfl,ty,hc,e,q⟩:=h
 obtain⟨u,v,rfl,ru,rv⟩:=r.two
 have:=Xro rv hc
 subst this
 exact Xok I ru ty e λtk=>⟨.bl b,H,I.tok _,rfl,q⟩
end
def wN (n:Nat) (Pv:Nat->St->Hp->Prop):Nat->Nat->St->Hp->Prop:=λi m σ H=>m=n - i/\i<=n/\Pv i σ H
theorem wput{n i:Nat}{Pv:Nat->St->Hp->Prop}{σ:St}{H:Hp}{D:Addr}{y:V}{ys:List V}(hi:i<n)(hD:H D=some (.lst ys))(hl:ys.length<sizeLine)(p:Pv (i+1) σ (upd H D (.lst (ys++[y])))):
  ∃ys,H D=some (.lst ys)/\ys.length<sizeLine/\∃m',m'<n - i/\wN n Pv (i+1) m' σ (upd H D (.lst (ys++[y]))):=⟨ys,hD,hl,n - (i+1),by omega,rfl,hi,p⟩
theorem wskip{n i:Nat}{Pv:Nat->St->Hp->Prop}{σ:St}{H:Hp}(hi:i<n)(p:Pv (i+1) σ H):∃m',m'<n - i/\wN n Pv (i+1) m' σ H:=⟨n - (i+1),by omega,rfl,hi,p⟩
theorem Xjf{cap:List (Option Nat)}{g:TG}{tt:TT}{te:TE}{J:It}{σ:St}{H1:Hp}{F:Addr->Hp->Prop}(n:Nat)(vs:Nat->V)(Pv:Addr->Nat->St->Hp->Prop)
  (h0:∀D,H1 D=none->Pv D 0 (capS cap σ) (upd H1 D (.lst [])))
  (hgo:∀D i σ2 H2,H1 D=none->i<n->Pv D i σ2 H2->J.go i H2/\∀x H3,J.yld i H2 x H3->H3=H2/\x=vs i)
  (hst:∀D σ2 H2,H1 D=none->Pv D n σ2 H2->J.stop n H2)
  (step:∀D i σ1 H2,H1 D=none->i<n->Pv D i σ1 H2->g (vs i) σ1 H2 fun σ2 H4=>tt σ2 H4 λb H5=>
   if b=true then te σ2 H5 λy H6=>∃ys,H6 D=some (.lst ys)/\ys.length<sizeLine/\∃m',m'<n - i/\wN n (Pv D) (i+1) m' σ2 (upd H6 D (.lst (ys++[y])))
   else ∃m',m'<n - i/\wN n (Pv D) (i+1) m' σ2 H5)
  (hd:∀D σ2 H2,H1 D=none->Pv D n σ2 H2->F D H2):tBlk cap g tt te J σ H1 F:=by
 intro D hD
 refine⟨wN n (Pv D),⟨n,by simp,X0m _,h0 D hD⟩,?_⟩
 rintro i m σ1 H2 ⟨rfl,hi,p⟩
 by_cases hlt:i<n
 ·obtain⟨h1,h2⟩:=hgo D i σ1 H2 hD hlt p
  refine .inr ⟨h1,λx H3 y=>?_⟩
  obtain⟨e1,e2⟩:=h2 x H3 y
  subst e1 e2
  exact step D i σ1 _ hD hlt p
 ·have e:i=n:=by omega
  subst e
  exact .inl ⟨hst D σ1 H2 hD p,hd D σ1 H2 hD p⟩
theorem Xbn{K:PySem.W.Frag}{a:Addr}{xs:List V}{H:Hp}{i:Nat}(h:SqL K H a xs)(hi:i<xs.length):(Itl K a).go i H/\∀x H3,(Itl K a).yld i H x H3->H3=H/\x=xs.getD i .non:=
 ⟨⟨xs,xs[i],h,by simp[hi]⟩,λx H3 ⟨e,y⟩=>⟨e,by have:=y xs h;simp[List.getD,this]⟩⟩
theorem Xbo{K:PySem.W.Frag}{a:Addr}{xs:List V}{H:Hp}(h:SqL K H a xs):(Itl K a).stop xs.length H:=⟨xs,h,Xzn _⟩
theorem Xtm{K:PySem.W.Frag}{a:Addr}{xs:List V}{H:Hp}{i:Nat}(h:SqT K H a xs)(hi:i<xs.length):(Itt K a).go i H/\∀x H3,(Itt K a).yld i H x H3->H3=H/\x=xs.getD i .non:=
 ⟨⟨xs,xs[i],h,by simp[hi]⟩,λx H3 ⟨e,y⟩=>⟨e,by have:=y xs h;simp[List.getD,this]⟩⟩
theorem Xtn{K:PySem.W.Frag}{a:Addr}{xs:List V}{H:Hp}(h:SqT K H a xs):(Itt K a).stop xs.length H:=⟨xs,h,Xzn _⟩
theorem Xgv{d:Addr}{o:Obj}{kvs:List (Key×V)}{H:Hp}{i:Nat}(h:H d=some (.frz o (.dK kvs)))(hi:i<kvs.length):(Itd d o kvs).go i H/\∀x H3,(Itd d o kvs).yld i H x H3->H3=H/\x=(kvs.map λp=>kV p.1).getD i .non:=
 ⟨⟨h,hi⟩,λx H3 ⟨e,p,hp,y⟩=>⟨e,by rw[y];simp[List.getD,hp]⟩⟩
theorem Xgw{d:Addr}{o:Obj}{kvs:List (Key×V)}{H:Hp}(h:H d=some (.frz o (.dK kvs))):(Itd d o kvs).stop kvs.length H:=⟨h,Xzn _⟩
end L2
namespace L2
open PySem PySem.Spec PyProof.Rows PySem.Calls
theorem Xkv(t:SetTable)(n:Nat):(t.orStandIn n).led=t.led:=by
 unfold SetTable.orStandIn
 split
 ·rfl
 ·rfl
theorem Xne(t:SetTable)(es:Array (Int×Value))(k:Int)(x:Value):(layNew t es k x).2.1.led=t.led:=by
 unfold layNew
 split
 ·exact Xkv _ _
 ·rfl
theorem Xnf{mask finger moves:Nat}{led plain:Bool}{hs:Array Int}{t:SetTable}{o:Array Nat}(h:SetTable.laid mask finger moves led plain hs=some (t,o)):t.led=led/\t.plain=plain:=by
 unfold SetTable.laid at h
 cases q:SetTable.layClean mask hs with
 | none=>rw[q] at h;cases h
 | some ow=>
  rw[q] at h
  cases h
  exact⟨rfl,rfl⟩
theorem Xkw(t:SetTable)(es:Array (Int×Value))(n:Nat)(hp:t.plain=false):(relayAll t es n).2.1.led=t.led/\(relayAll t es n).2.1.plain=false:=by
 unfold relayAll
 split
 ·rename_i t' o e
  obtain⟨e1,e2⟩:=Xnf e
  dsimp only
  split
  ·exact⟨e1,e2.trans hp⟩
  ·exact⟨rfl,rfl⟩
 ·exact⟨rfl,rfl⟩
def Xbr (w:World):Bool:=w.params.followText "set-order"
def SSet (P:Program) (w:World) (h:Heap) (a:Addr) (ks:List Str):Prop:=
 ∃o es ep t ls,h.get? a=some o/\o.ExactSet/\o.data = .set es ep t/\ElemsOf (PySem.strKind P w) es.toList/\StrsAre (es.toList.map (·.2)) ls/\ls.Perm ks/\es.size<scanBound/\t.fits es.size=true/\t.led = !Xbr w/\(t.plain=true->es.size=0)
theorem Xet{l1 l2:List (Int×Value)}{ls:List Str}(p:l1.Perm l2)(h:StrsAre (l2.map (·.2)) ls):∃ls',StrsAre (l1.map (·.2)) ls'/\ls'.Perm ls:=by
 refine⟨(l1.map (·.2)).map strOf,strsAre_map _ (λv hv=>?_),?_⟩
 ·exact h.all v ((p.map (·.2)).mem_iff.mp hv)
 ·rw[<-h.strs]
  exact(p.map (·.2)).map strOf
theorem Xoy{vs:List Value}{ls:List Str}{x:Str}{t:Tok}(h:StrsAre vs ls):StrsAre (vs++[.str x t]) (ls++[x]):=by
 induction h with
 | nil=>exact .cons x t .nil
 | cons y u _ ih=>exact .cons y u ih
section
variable {P:Program}{w:World}{A:Around}{E:Value->Shared->Prop}{s:Shared}{a:Addr}{ks:List Str}
theorem SSet.stay{h h':Heap}(S:SSet P w h a ks)(k:∀o,h.get? a=some o->h'.get? a=some o):SSet P w h' a ks:=by
 obtain⟨o,es,ep,t,ls,ho,r⟩:=S
 exact⟨o,es,ep,t,ls,k o ho,r⟩
theorem Xl8{vs:List (Int×Value)}{ls:List Str}(h:StrsAre (vs.map (·.2)) ls){x:Str}:x∈ls ↔ ∃e∈vs,(PySem.strKind P w).is x e.2=true:=by
 rw[<-h.strs]
 constructor
 ·intro hx
  obtain⟨v,hv,rfl⟩:=Xz0.mp hx
  obtain⟨e,he,rfl⟩:=Xz0.mp hv
  obtain⟨y,t,q⟩:=h.all e.2 hv
  refine⟨e,he,?_⟩
  rw[q]
  exact strKind_is P w y t
 ·rintro ⟨e,he,q⟩
  obtain⟨t,e2⟩:=Value.isStrOf_shape q
  exact Xz0.mpr ⟨e.2,Xz0.mpr ⟨e,he,rfl⟩,by rw[e2];rfl⟩
theorem Xl9{o:Obj}{es:Array (Int×Value)}{ep:Nat}{t:SetTable}{h:Heap}(ho:h.get? a=some o)(hex:o.ExactSet)(hd:o.data = .set es ep t){es':Array (Int×Value)}{t':SetTable}{ls:List Str}
  (hel:ElemsOf (PySem.strKind P w) es'.toList) (hs:StrsAre (es'.toList.map (·.2)) ls) (hp:ls.Perm ks) (hb:es'.size<scanBound) (hf:t'.fits es'.size=true) (hl:t'.led = !Xbr w) (hpl:t'.plain=false):
  (h.update a (Obj.putSet es' t')).get? a=some {o with data:=.set es' (ep+1) t'}/\SSet P w (h.update a (Obj.putSet es' t')) a ks:=by
 have g:=Heap.get?_update_self (Obj.putSet es' t') ho (by rw[putSet_of es' t' hd];rfl)
 rw[putSet_of es' t' hd] at g
 exact⟨g,_,es',ep+1,t',ls,g,hex,rfl,hel,hs,hp,hb,hf,hl,λz=>by rw[hpl] at z;cases z⟩
theorem Xjg{g:Bool->Sem Unit}(hg:∀(b:Bool) (s1:Shared) (Q':Unit->Shared->Prop),Q' () s1->wpAny (model P w) A (g b) Q' E s1)
    {o:Obj} {es:Array (Int×Value)} {ep:Nat} {t:SetTable} (ho:s.heap.get? a=some o) (hex:o.ExactSet) (hd:o.data = .set es ep t) {es1:Array (Int×Value)} {t2:SetTable} {ls:List Str}
    (hel:ElemsOf (PySem.strKind P w) es1.toList) (hs:StrsAre (es1.toList.map (·.2)) ls) (hp:ls.Perm ks) (hb:es1.size<scanBound) (hf:t2.fits es1.size=true) (hl:t2.led = !Xbr w) (hpl:t2.plain=false) {wd:Bool} {R:Option Bool->Shared->Prop}
    (h:∀h',Heap.SameBut a s.heap h'->SSet P w h' a ks->R (some true) {s with heap:=h'}):
    wpAny (model P w) A (do
        storeSet a es1 t2
        if (!wd && t2.tooFull) = true then do g (relayAll t2 es1 (SetTable.grown es1.size)).2.2
                                              storeSet a (relayAll t2 es1 (SetTable.grown es1.size)).1 (relayAll t2 es1 (SetTable.grown es1.size)).2.1
                                              pure (some true)
        else pure (some true)) R E s:=by
  refine X3j (wpAny_storeSet_of ho hd ?_ (fits_of_scanBound hb))
  obtain⟨g1,S1⟩:=Xl9 (P:=P) (w:=w) ho hex hd hel hs hp hb hf hl hpl
  have sb:=X3u s.heap a (Obj.putSet es1 t2)
  split
  . have pp:=relayAll_perm t2 es1 (SetTable.grown es1.size)
    have ff:=relayAll_fits t2 es1 (SetTable.grown es1.size)
    obtain⟨fl1,fl2⟩:=Xkw t2 es1 (SetTable.grown es1.size) hpl
    generalize relayAll t2 es1 (SetTable.grown es1.size)=R3 at pp ff fl1 fl2 ⊢
    obtain⟨es3,t3,gv⟩:=R3
    dsimp only at pp ff fl1 fl2 ⊢
    obtain⟨ls3,s3,p3⟩:=Xet pp hs
    have z:es3.size=es1.size:=by rw[<-Xzt,pp.length_eq,Xzt]
    refine X3j (hg _ _ _ ?_)
    refine X3j (wpAny_storeSet_of g1 rfl ?_ (fits_of_scanBound (by rw[z];exact hb)))
    obtain⟨_,S3⟩:=Xl9 (P:=P) (w:=w) (ks:=ks) g1 hex rfl (hel.perm pp) s3 (p3.trans hp) (by rw[z];exact hb) ff (fl1.trans hl) fl2
    exact X3k (h _ (sb.trans (X3u _ a _)) S3)
  . exact X3k (h _ sb S1)
theorem sset_add{x:Str}{tk:Tok}{Q:Bool->Shared->Prop}(S:SSet P w s.heap a ks)(hr:ks.length+1<scanBound)
  (h:∀b h',Heap.SameBut a s.heap h'->SSet P w h' a (if x∈ks then ks else ks++[x])->Q b {s with heap:=h'}):
  wpAny (model P w) A (setAddHashed a (.str x tk) ((PySem.strKind P w).hash x)) Q E s:=by
 obtain⟨o,es,ep,t,ls,ho,hex,hd,hel,hs,hp,hb,hf,hl,hpl⟩:=S
 have hlen:es.size=ks.length:=by
  have:=hs.length
  rw[Xzl,Xzt] at this
  rw[this,hp.length_eq]
 have hkey:(PySem.strKind P w).is x (.str x tk)=true:=strKind_is P w x tk
 have hin:x∈ks ↔ ∃e∈es.toList,(PySem.strKind P w).is x e.2=true:=hp.mem_iff.symm.trans (Xl8 hs)
 unfold setAddHashed setAddHashedIn
 refine wpAny_holding (X3j (wpAny_setState_of ho hd hf ?_))
 dsimp only
 rw[byScan_of (knd:=PySem.strKind P w) rfl hb hel]
 simp only[↓reduceIte]
 unfold setAddByScan
 refine X3j (X3j (wpAny_rule (X3j (wpAny_setScan_of hkey ho hd hf hel ?_))))
 cases hf1:List.findIdx? (λe=>(PySem.strKind P w).is x e.2) es.toList with
 | some j=>
  dsimp only
  obtain⟨hj,hpj,_⟩:=X2g.mp hf1
  have hx:x∈ks:=hin.mpr ⟨es.toList[j],X0b hj,hpj⟩
  refine X3k (X3k ?_)
  have:=h false s.heap (Heap.SameBut.refl a s.heap) (by rw[X3n hx];exact⟨o,es,ep,t,ls,ho,hex,hd,hel,hs,hp,hb,hf,hl,hpl⟩)
  exact this
 | none=>
  dsimp only
  have hx:x∉ks:=λz=>by
   obtain⟨e,he,q⟩:=hin.mp z
   have:=List.findIdx?_eq_none_iff.mp hf1 e he
   rw[q] at this
   cases this
  have gw:∀(b:Bool) (s1:Shared) (Q':Unit->Shared->Prop),Q' () s1->wpAny (model P w) A (match b with | true=>rule "set.scan.the-table-gave-way" | false=>pure ()) Q' E s1:=λb s1 Q' q=>by
   cases b with
   | true=>exact wpAny_rule q
   | false=>exact X3k q
  have pp:=layNew_perm t es ((PySem.strKind P w).hash x) (.str x tk)
  have ff:=layNew_fits t es ((PySem.strKind P w).hash x) (.str x tk)
  have fl:=Xne t es ((PySem.strKind P w).hash x) (.str x tk)
  generalize layNew t es ((PySem.strKind P w).hash x) (.str x tk)=R at pp ff fl ⊢
  obtain⟨es1,t1,wd,gv⟩:=R
  dsimp only at pp ff fl ⊢
  rw[Array.toList_push] at pp
  have el1:=(hel.push hkey rfl).perm pp
  have st0:StrsAre ((es.toList++[((PySem.strKind P w).hash x,Value.str x tk)]).map (·.2)) (ls++[x]):=by
   rw[Xzu]
   exact Xoy hs
  obtain⟨ls1,st1,p1⟩:=Xet pp st0
  have z1:es1.size=ks.length+1:=by
   rw[<-Xzt,pp.length_eq,Xzx,Xzt,hlen]
   rfl
  have p2:ls1.Perm (ks++[x]):=p1.trans (hp.append_right _)
  rw[X3m hx] at h
  refine X3j (gw _ _ _ ?_)
  split
  ·refine X3j ?_
   rw[hashByValue_scannable 8 (x:=Value.str x tk) rfl]
   refine X3k ?_
   refine Xjg (ks:=ks++[x]) gw ho hex hd el1 st1 p2 (by rw[z1];exact hr) (SetTable.fits_plain_off ff) (fl.trans hl) rfl (λh' sb S'=>?_)
   dsimp only
   exact X3k (h true h' sb S')
  ·rename_i np
   refine X3j (X3k ?_)
   simp only[↓reduceIte]
   refine Xjg (ks:=ks++[x]) gw ho hex hd el1 st1 p2 (by rw[z1];exact hr) ff (fl.trans hl) (by cases q:t1.plain with | false=>rfl | true=>exact absurd q np) (λh' sb S'=>?_)
   dsimp only
   exact X3k (h true h' sb S')
end
def dd1 (acc:List Str) (x:Str):List Str:=if x∈acc then acc else acc++[x]
def ddup (ss:List Str):List Str:=ss.foldl dd1 []
theorem Xgx(ss:List Str)(x:Str):ddup (ss++[x])=dd1 (ddup ss) x:=by
 unfold ddup
 rw[List.foldl_append]
 rfl
theorem Xib{p:List Str->List Str->Prop}(h0:p [] [])(h1:∀ss x,p ss (ddup ss)->p (ss++[x]) (dd1 (ddup ss) x))(ss:List Str):p ss (ddup ss):=by
 have go:∀n ss,ss.length=n->p ss (ddup ss):=by
  intro n
  induction n with
  | zero=>
   intro ss e
   rw[X0i.mp e]
   exact h0
  | succ n ih=>
   intro ss e
   have hne:ss≠[]:=λz=>by rw[z] at e;cases e
   have e2:=List.dropLast_concat_getLast hne
   rw[<-e2,Xgx]
   exact h1 _ _ (ih _ (by rw[List.length_dropLast,e];rfl))
 exact go _ ss rfl
theorem Xeu(ss:List Str):∀x,x∈ddup ss↔x∈ss:=by
 refine Xib (p:=λss d=>∀x,x∈d↔x∈ss) (λx=>Iff.rfl) (λss y ih x=>?_) ss
 unfold dd1
 split
 ·rename_i hy
  rw[ih,Xzw,Xzs]
  constructor
  ·exact .inl
  ·rintro (z | z)
   ·exact z
   ·rw[z];exact(ih y).mp hy
 ·rw[Xzw,Xzw,ih]
theorem Xec(ss:List Str):(ddup ss).Nodup:=by
 refine Xib (p:=λ_ d=>d.Nodup) List.nodup_nil (λss y ih=>?_) ss
 unfold dd1
 split
 ·exact ih
 ·rename_i hy
  exact X02.mpr ⟨ih,by simp,λa ha b hb=>by rw[Xzs.mp hb];exact λz=>hy (z ▸ ha)⟩
theorem Xdz(ss:List Str):(ddup ss).length<=ss.length:=by
 refine Xib (p:=λss d=>d.length<=ss.length) (Xzn _) (λss y ih=>?_) ss
 unfold dd1
 rw[Xzx,X0z]
 split
 ·omega
 ·rw[Xzx,X0z];omega
section
variable {P:Program}{w:World}{A:Around}{E:Value->Shared->Prop}{s:Shared}
theorem Xjh{R:Result->Shared->Prop}{I:Addr}{fp wr:List Addr}{G:Array GenState->Array GenState->Prop}{Pv:Nat->Value->Prop}{St:Nat->Shared->Prop}(ss:List Str)(W:WalksS P w A.in1 I fp wr G ss.length Pv St)(S:Addr)(nS:S∉fp)
  (hval:∀i v,Pv i v->∃t,v = .str (ss.getD i "") t) (hb:ss.length+1<scanBound):
  ∀(k i:Nat) (s:Shared),ss.length - i=k->i<=ss.length->St i s->SSet P w s.heap S (ddup (ss.take i))->(∀s',Moved (S::wr) G s s'->SSet P w s'.heap S (ddup ss)->R (.ok (.ret .none)) s') ->
   codeAny (model P w) A (.builtin "set.update.loop" ⟨[.ref S,.ref I],[]⟩) R s:=by
 have nw:S∉wr:=λz=>nS (W.sub _ z)
 have up:∀b∈wr,b∈S::wr:=λb z=>Xzq _ z
 intro k
 induction k with
 | zero=>
  intro i s e hi st hS hR
  have:i=ss.length:=by omega
  subst this
  rw[X0n] at hS
  refine codeAny_builtin F.entry_set_update_loop ?_
  rw[Around.under_plainId F.plain_set_update_loop _]
  show wpAny _ A.in1 (pyNext (.ref I) >>= λ_=>_) _ _ s
  refine X3j (W.done s _ _ st λs' mv=>?_)
  show wpAny _ A.in1 (ret Value.none) _ _ s'
  exact X3k (hR s' (mv.mono up) (hS.stay λo z=>mv.heap S o nw z))
 | succ k ih=>
  intro i s e hi st hS hR
  have lt:i<ss.length:=by omega
  refine codeAny_builtin F.entry_set_update_loop ?_
  rw[Around.under_plainId F.plain_set_update_loop _]
  show wpAny _ A.in1 (pyNext (.ref I) >>= λ_=>_) _ _ s
  refine X3j (W.item i s _ _ lt st λv s' hP st' mv=>?_)
  obtain⟨t,rfl⟩:=hval i v hP
  have hS':=hS.stay λo z=>mv.heap S o nw z
  show wpAny _ A.in1 (holding [Value.str (ss.getD i "") t] (setAdd S (.str (ss.getD i "") t)) >>= λ_=>_) _ _ s'
  refine X3j (wpAny_holding ?_)
  unfold setAdd
  refine wpAny_holding (X3j ((PySem.strKind P w).pyHash (k:=ss.getD i "") (strKind_is P w _ t) ?_))
  have hl1:(ddup (ss.take i)).length<=i:=X0d (Xdz _) (by rw[X0c];omega)
  refine sset_add (s:={s' with toks:=s'.toks+1}) hS' (by omega) λb h' sb S2=>?_
  have e3:ddup (ss.take (i+1))=dd1 (ddup (ss.take i)) (ss.getD i ""):=by
   rw[Xzz lt,Xgx]
   congr 1
   simp[List.getD,lt]
  have S3:SSet P w h' S (ddup (ss.take (i+1))):=by rw[e3];exact S2
  refine X3k ⟨plainId_quiet F.plain_set_update_loop _,ih (i+1) _ (by omega) lt (W.frame _ s' _ _ st' (X05 _) λb hb o q=>?_) S3 λs'' mv2 S4=>?_⟩
  ·rw[sb.2 b (λz=>nS (z ▸ hb))]
   exact q
  ·refine hR s'' (Moved.trans W.gtrans ((mv.mono up).then_heap (X05 _) λb o hb q=>?_) mv2) S4
   rw[sb.2 b (λz=>hb (z ▸ Xzr))]
   exact q
inductive Src (h:Heap) (l:Addr) (items:Array Value):Prop
 | lst:h.IsList l items->Src h l items
 | tup:h.IsTuple l items->Src h l items
theorem Xrp(a:Value){Q:Value->Shared->Prop}(h:Q (.ref s.heap.objs.size) {s with heap:=s.heap.push {cls:=.type "set",dict:=none,data:=.set #[] 0 (.fresh 0 0 (!Xbr w))} }):
    codeAny (model P w) A (.call (.builtin "set.__new__") ⟨[.type "set",a],[]⟩) (wants Q E) s:=by
  refine codeAny_of_tree ?_
  show wpAny _ A.in1 (do checkBuiltinCall "set.__new__" ⟨[.type "set",a],[]⟩
                         again (.builtin "set.__new__" ⟨[.type "set",a],[]⟩)) _ _ s
  refine X3j (wpAny_of_eq (PySem.F.newCall_set_1 a) (X3k ⟨plainId_quiet PySem.F.plain_set_new _,codeAny_builtin PySem.F.entry_set_new ?_⟩))
  rw[Around.under_plainId PySem.F.plain_set_new _]
  unfold Builtin.«set.__new__» Builtin.Frozenset.newClass
  have q:=sub_set_self
  obtain⟨hp,g,d,tk,os⟩:=s
  dsimp only
  wp_walk
  refine wpAny_askSetting (X3k ?_)
  dsimp only
  simp only[newObj]
  exact X3j (wpAny_alloc (X3k (X3k h)))
end
end L2
set_option maxHeartbeats 3200000
namespace L2
open PySem PySem.Spec PyProof.Rows PySem.Calls
section
variable {P:Program}{w:World}{A:Around}{E:Value->Shared->Prop}{s:Shared}
abbrev Xhm (w:World):Obj:={cls:=.type "set",dict:=none,data:=.set #[] 0 (.fresh 0 0 (!Xbr w))}
theorem Xma{h:Heap}{a:Addr}(g:h.get? a=some (Xhm w)):SSet P w h a []:=
 ⟨_, #[],0,_,[],g,⟨rfl,rfl,rfl⟩,rfl,λe he=>by simp at he,.nil,.nil,by decide,rfl,rfl,λ_=>rfl⟩
theorem Xrq{l S:Addr}{items:Array Value}{ss:List Str}{R:Unit->Shared->Prop}(hh:A.handled=none)(src:Src s.heap l items)(hs:StrsAre items.toList ss)(hb:ss.length+1<scanBound)(hS:SSet P w s.heap S [])(hlS:l≠S)
  (hTS:∀(Q:Bool->Shared->Prop),Q false s->wpAny (model P w) A (Builtin.Frozenset.isAnySet (.ref l)) Q E s)
  (h:∀(h':Heap) (tk:Nat),SSet P w h' S (ddup ss)->(∀b o,b≠S->s.heap.get? b=some o->h'.get? b=some o)->R () {s with heap:=h',toks:=tk}):
  wpAny (model P w) A (Builtin.Frozenset.updateFrom "set.__init__" S (.ref l)) R E s:=by
 have hlen:items.size=ss.length:=by
  have:=hs.length
  rwa [Xzt] at this
 have hval:∀(i:Nat) (v:Value),items[i]? = some v->∃t,v = .str (ss.getD i "") t:=λi v q=>by
  have q':items.toList[i]? = some v:=by rw[X2r];exact q
  obtain⟨x,t,rfl⟩:=hs.all v (X2a q')
  refine⟨t,?_⟩
  congr 1
  rw[<-hs.strs]
  simp[List.getD,Xz4,q,strOf]
 obtain⟨oS,_,_,_,_,gS,_⟩:=id hS
 have ltS:=X3s gS
 unfold Builtin.Frozenset.updateFrom
 refine X3j (hTS _ ?_)
 simp only[X0g,if_false]
 cases src with
 | lst hl=>
  have hll:l<s.heap.objs.size:=by obtain⟨o,g,_⟩:=hl;exact X3s g
  refine X3j (wpAny_typeOf (T := "list") hl.typeIs ?_)
  have ne:(Value.type "list" == Value.type "dict")=false:=by decide
  simp only[ne,X0g,if_false]
  refine X3j (wpAny_pyIter_list hl ?_)
  refine X3j (wpAny_runValue ?_)
  have nI:S∉[s.heap.objs.size,l]:=by simp only[Xzy,List.not_mem_nil,or_false,not_or];exact⟨Xzv ltS,hlS.symm⟩
  have W:=(Walks.list (prog:=P) (w:=w) (A:=A.in1) (by simp[hh]) s.heap.objs.size l (Xzv hll) items).toS
  rw[hlen] at W
  refine Xjh ss W S nI hval hb _ 0 _ rfl (X0m _) ⟨⟨_,Heap.get?_push_size _ rfl,rfl,rfl⟩,hl.push _⟩ (hS.stay λo q=>X3t _ q) λs' mv S'=>?_
  rw[Moved.eq_with mv]
  refine X3k (h s'.heap s'.toks S' λb o nb q=>mv.heap b o (λz=>?_) (X3t _ q))
  rcases Xzy.mp z with z | z
  ·exact nb z
  ·exact absurd (X3s q) (by rw[Xzs.mp z];exact X0r _)
 | tup hl=>
  have hll:l<s.heap.objs.size:=by obtain⟨o,g,_⟩:=hl;exact X3s g
  refine X3j (wpAny_typeOf (T := "tuple") hl.typeIs ?_)
  have ne:(Value.type "tuple" == Value.type "dict")=false:=by decide
  simp only[ne,X0g,if_false]
  refine X3j (wpAny_pyIter_tuple hl ?_)
  refine X3j (wpAny_runValue ?_)
  have nI:S∉[s.heap.objs.size,l]:=by simp only[Xzy,List.not_mem_nil,or_false,not_or];exact⟨Xzv ltS,hlS.symm⟩
  have W:=(Walks.tuple (prog:=P) (w:=w) (A:=A.in1) (by simp[hh]) s.heap.objs.size l (Xzv hll) items).toS
  rw[hlen] at W
  refine Xjh ss W S nI hval hb _ 0 _ rfl (X0m _) ⟨⟨_,Heap.get?_push_size _ rfl,rfl,rfl⟩,hl.push _⟩ (hS.stay λo q=>X3t _ q) λs' mv S'=>?_
  rw[Moved.eq_with mv]
  refine X3k (h s'.heap s'.toks S' λb o nb q=>mv.heap b o (λz=>?_) (X3t _ q))
  rcases Xzy.mp z with z | z
  ·exact nb z
  ·exact absurd (X3s q) (by rw[Xzs.mp z];exact X0r _)
theorem Src.push{h:Heap}{l:Addr}{items:Array Value}(x:Src h l items)(o:Obj):Src (h.push o) l items:=by
 cases x with
 | lst y=>exact .lst (y.push o)
 | tup y=>exact .tup (y.push o)
theorem Src.any{l:Addr}{items:Array Value}(x:Src s.heap l items){Q:Bool->Shared->Prop}(q:Q false s):wpAny (model P w) A (Builtin.Frozenset.isAnySet (.ref l)) Q E s:=by
 cases x with
 | lst y=>
  obtain⟨o,g,c,n,d⟩:=y
  obtain⟨oc,od,odt,os⟩:=o
  simp only at c d
  subst c d
  have h1:=PySem.F.sub_list_set
  have h2:=PySem.F.sub_list_frozenset
  unfold Builtin.Frozenset.isAnySet
  wp_walk
  exact q
 | tup y=>
  obtain⟨o,g,c,n,d⟩:=y
  obtain⟨oc,od,odt,os⟩:=o
  simp only at c d
  subst c d
  have h1:isSubtype (.type "tuple") (.type "set")=pure false:=by rw[isSubtype_type];kernel_rfl
  have h2:isSubtype (.type "tuple") (.type "frozenset")=pure false:=by rw[isSubtype_type];kernel_rfl
  unfold Builtin.Frozenset.isAnySet
  wp_walk
  exact q
theorem Src.lt{h:Heap}{l:Addr}{items:Array Value}(x:Src h l items):l<h.objs.size:=by
 cases x with
 | lst y=>obtain⟨o,g,_⟩:=y;exact X3s g
 | tup y=>obtain⟨o,g,_⟩:=y;exact X3s g
theorem Xoz{l:Addr}{items:Array Value}{ss:List Str}{Q:Value->Shared->Prop}(hh:A.handled=none)(src:Src s.heap l items)(hs:StrsAre items.toList ss)(hb:ss.length+1<scanBound)
  (h:∀(h':Heap) (tk:Nat),SSet P w h' s.heap.objs.size (ddup ss)->(∀b o,s.heap.get? b=some o->h'.get? b=some o)->Q (.ref s.heap.objs.size) {s with heap:=h',toks:=tk}):
  wpAny (model P w) A (call (.type "set") [.ref l]) Q E s:=by
 obtain⟨c,tl,hmro⟩:=PySem.F.called_set.mro
 have hmade:=PySem.F.called_set.made
 have hsub:=PySem.F.called_set.sub
 refine wpAny_call (codeAny_of_tree ?_)
 show wpAny _ _ (callAny (.type "set") _) _ _ s
 refine X3k ⟨Code.quiet_builtin _ (by decide +kernel),codeAny_builtin PySem.F.entry_type_call ?_⟩
 rw[Around.under_plain (weight_type_call_type "set" [.ref l] []) rfl]
 have f1:=PySem.F.called_set.notType
 have f2:=PySem.F.called_set.canCreate
 have f3:=PySem.F.typeCall_set_1 (.ref l)
 repeat (any_goals (first | assumption | wp_step))
 refine codeAny_mono (Xrp (.ref l) (E:=E) (Q:=λobj s1=>obj = .ref s.heap.objs.size/\s1 = {s with heap:=s.heap.push (Xhm w)}) ⟨rfl,rfl⟩) λr s1 hr=>?_
 cases r with
 | error e=>exact hr
 | ok fl=>
  cases fl with
  | ret obj=>
   obtain⟨rfl,rfl⟩:=hr
   have gS:(s.heap.push (Xhm w)).get? s.heap.objs.size=some (Xhm w):=Heap.get?_push_size _ rfl
   have hT:Shared.TypeIs {s with heap:=s.heap.push (Xhm w)} (.ref s.heap.objs.size) "set" := ⟨_,gS,rfl⟩
   have f4:=PySem.F.called_set.init.lookup
   have f5:=PySem.F.called_set.init.bind (.ref s.heap.objs.size)
   repeat (any_goals (first | assumption | wp_step))
   refine codeAny_mono (codeAny_call_builtin (R:=wants (λr s2=>r = .none/\∃h' tk,s2 = {s with heap:=h',toks:=tk}/\SSet P w h' s.heap.objs.size (ddup ss)/\∀b o,s.heap.get? b=some o->h'.get? b=some o) E)
    PySem.F.called_set.init.plain PySem.F.entry_set_init (check_set_init_1 hT ?_)) λr2 s2 hr2=>?_
   ·have src':=src.push (Xhm w)
    have lt:=src.lt
    unfold Builtin.«set.__init__» noKeywords
    generalize hU:Builtin.Frozenset.updateFrom=U
    wp_walk
    subst hU
    refine Xrq (s:={s with heap:=s.heap.push (Xhm w)}) (by simp[hh]) src' hs hb (Xma gS) (Xzv lt) (λQ q=>Src.any (s:={s with heap:=s.heap.push (Xhm w)}) src' q) λh' tk S' kk=>?_
    exact X3k ⟨rfl,h',tk,rfl,S',λb o q=>kk b o (Xzv (X3s q)) (X3t _ q)⟩
   ·cases r2 with
    | error e=>exact hr2
    | ok fl2=>
     cases fl2 with
     | ret r=>
      obtain⟨rfl,h',tk,rfl,S',kk⟩:=hr2
      repeat (any_goals (first | assumption | wp_step))
      exact h _ _ S' kk
     | _=>exact hr2.elim
  | _=>exact hr.elim
end
namespace SF
theorem sIter:Slot "set" "__iter__" "set.__iter__" := PySem.F.slot_set_iter
theorem eIter:entryFor table "set.__iter__" = some Builtin.«frozenset.__iter__»:=entryFor_alias (id' := "frozenset.__iter__") (by kernel_rfl) rfl (by decide +kernel) (by kernel_rfl)
theorem sNext:Slot "set_iterator" "__next__" "set_iterator.__next__" := .of (owner := "set_iterator") (n := "__next__") (by rw[typeLookup_type,builtinLookup_eq_fast];kernel_rfl) (by decide +kernel) (by decide +kernel) (by decide +kernel) (by first | exact .inl (by decide +kernel) | exact .inr (by decide +kernel)) (by rw[isSubtype_type];kernel_rfl)
theorem eNext:entryFor table "set_iterator.__next__" = some Builtin.«set_iterator.__next__»:=entryFor_of_tree (by kernel_rfl)
theorem aNext(a:Value):argsOk "set_iterator.__next__" ⟨[a],[]⟩:=by unfold argsOk;kernel_rfl
end SF
theorem Xfh{α : Type}:∀(xs:List α) (i:Nat) (hi:i<xs.length),(xs[i]::xs.eraseIdx i).Perm xs
 | x::xs,0,_=>X06 _
 | x::xs,i+1,hi=>by
  have ih:=Xfh xs i (by simpa using hi)
  rw[List.eraseIdx_cons_succ,List.getElem_cons_succ]
  exact(List.Perm.swap x _ _).trans (ih.cons x)
theorem Xur{α : Type}(next:Nat->Nat):∀(n k:Nat) (left:List α) (out:Array α),left.length=n->(pickOrder.go next n k left out).toList.Perm (out.toList++left):=by
 intro n
 induction n with
 | zero=>
  intro k left out e
  rw[X0i.mp e,X0t]
  exact X06 _
 | succ n ih=>
  intro k left out e
  have hlt:next k % left.length<left.length:=X3a _ (by omega)
  unfold pickOrder.go
  rw[Xzo hlt]
  dsimp only
  refine(ih _ _ _ (by rw[X1p hlt,e];rfl)).trans ?_
  rw[Array.toList_push,X17]
  exact(Xfh left _ hlt).append_left _
theorem Xji{α : Type}(next:Nat->Nat)(xs:Array α):(pickOrder next xs).toList.Perm xs.toList:=by
 have:=Xur next xs.size 0 xs.toList #[] (by simp)
 simpa [pickOrder] using this
section
variable {P:Program}{w:World}{A:Around}{E:Value->Shared->Prop}{s:Shared}
theorem Xo0{src:Source}{n:Nat}{Q:Nat->Shared->Prop}(hn:n≠0)(h:∀i d,i<n->Q i {s with drawn:=d}):wpAny (model P w) A (choose src n) Q E s:=by
 intro Γ p hΓ
 exact⟨hn,h _ _ (X3a _ (Nat.pos_of_ne_zero hn))⟩
theorem Xfs{α : Type}:∀(n:Nat) (xs:List α) (s:Shared) (Q:List α->Shared->Prop),xs.length=n->(∀os d,os.Perm xs->Q os {s with drawn:=d})->wpAny (model P w) A (drawOrder n xs) Q E s:=by
 intro n
 induction n with
 | zero=>
  intro xs s Q e h
  rw[X0i.mp e] at h ⊢
  unfold drawOrder
  exact X3k (h [] s.drawn (X06 _))
 | succ n ih=>
  intro xs s Q e h
  cases xs with
  | nil=>cases e
  | cons y ys=>
   unfold drawOrder
   refine X3j (Xo0 (by simp) λi d hi=>?_)
   rw[Xzo hi]
   dsimp only
   refine X3j (ih _ _ _ (by rw[X1p hi,e];rfl) λos d' hp=>?_)
   exact X3k (h _ d' ((hp.cons _).trans (Xfh _ i hi)))
def SAt (h:Heap) (a:Addr) (es:Array (Int×Value)) (ep:Nat) (t:SetTable):Prop:=∃o,h.get? a=some o/\o.ExactSet/\o.data = .set es ep t/\t.fits es.size=true
theorem Xkx{a:Addr}{es:Array (Int×Value)}{ep:Nat}{t:SetTable}{Q:Bool->Shared->Prop}(hs:SAt s.heap a es ep t)(h:Q (!Xbr w&&(!t.plain&&decide (es.size > 1))) s):wpAny (model P w) A (setDrawn a) Q E s:=by
 obtain⟨o,ho,hex,hd,hf⟩:=hs
 unfold setDrawn setsByText
 refine X3j (wpAny_setState_of ho hd hf ?_)
 dsimp only
 refine X3j (X3j (wpAny_askSetting (X3k ?_)))
 exact X3k h
abbrev itO (f0:Value) (i:Nat) (a:Addr) (n ep:Nat):Obj:={cls:=.type "set_iterator",data:=.fields #[f0,.int i 0,.ref a,.int n 0,.int ep 0]}
inductive Ord (w:World) (h:Heap) (a:Addr) (es:Array (Int×Value)) (ep:Nat) (t:SetTable) (f0:Value) (i:Nat):List Value->Prop
 | txt:Xbr w=true->f0 = .int 0 0->Ord w h a es ep t f0 i ((pickOrder (w.params.setOrder a ep) es).toList.map (·.2))
 | drw (p:Addr) (os:List Nat):Xbr w=false->os.Perm (List.range es.size)->f0 = .ref p->(∃n,h.get? p=some ⟨.type "tuple",none,.seq (os.map λj=>Value.int (j:Nat) 0).toArray n, #[]⟩)->Ord w h a es ep t f0 i (os.map λj=>((es[j]?).map (·.2)).getD .none)
 | one (sl:Nat):Xbr w=false->t.led=true->es.size<=1->f0 = .int sl 0->(i=0->sl=0)->(∀j,i=1->t.place[0]? = some j->sl=j+1)->Ord w h a es ep t f0 i (es.toList.map (·.2))
theorem Xrr{a:Addr}{es:Array (Int×Value)}{ep:Nat}{t:SetTable}{Q:Value->Shared->Prop}(hs:SAt s.heap a es ep t)(hb:es.size<scanBound)(hl:t.led = !Xbr w)(hp:t.plain=true->es.size=0)
    (h:∀(f0:Value) (vs:List Value) (h1:Heap) (d:Drawn),(∀b o,s.heap.get? b=some o->h1.get? b=some o)->h1.objs.size<=s.heap.objs.size+1->s.heap.objs.size<=h1.objs.size->(∀p,f0 = .ref p->p<h1.objs.size)->Ord w (h1.push (itO f0 0 a es.size ep)) a es ep t f0 0 vs ->
      vs.Perm (es.toList.map (·.2))->Q (.ref h1.objs.size) {s with heap:=h1.push (itO f0 0 a es.size ep),drawn:=d}):
    wpAny (model P w) A (pyIter (.ref a)) Q E s:=by
  obtain⟨o,ho,hex,hd,hf⟩:=id hs
  have hT:s.TypeIs (.ref a) "set" := ⟨o,ho,hex.1⟩
  refine wpAny_pyIter_slot hT SF.sIter (wpAny_call_entry SF.sIter hT SF.eIter ?_ (PySem.F.args_set_iter_1 _))
  unfold Builtin.«frozenset.__iter__» Builtin.Frozenset.slot0 slotArgs
  simp only[X2v,X2h,X0g, ↓reduceIte,bind_assoc,X1d,bne_self_eq_false]
  unfold Builtin.Frozenset.addrOf Builtin.Frozenset.sizeOf
  refine X3j (X3k ?_)
  dsimp only
  refine X3j (X3k ?_)
  refine X3j (X3j (wpAny_setEntries_of ho hd hf (X3k ?_)))
  refine X3j (Xkx hs ?_)
  have fin:∀(f0:Value) (vs:List Value) (h1:Heap) (d:Drawn),(∀b o,s.heap.get? b=some o->h1.get? b=some o)->h1.objs.size<=s.heap.objs.size+1->s.heap.objs.size<=h1.objs.size->(∀p,f0 = .ref p->p<h1.objs.size)->Ord w (h1.push (itO f0 0 a es.size ep)) a es ep t f0 0 vs->vs.Perm (es.toList.map (·.2)) ->
      wpAny (model P w) A.in1 (do let r <-newFields "set_iterator" [f0,rawInt 0,.ref a,rawInt es.size,rawInt ep]
                                  ret r) (λfin s'=>∃r,fin = .done (.ret r)/\∃T v,s'.TypeIs r T/\typeLookup (.type T) (Str.ofString "__next__")=pure (some v)/\Q r s') E {s with heap:=h1,drawn:=d}:=λf0 vs h1 d k1 k2 k3 k4 k5 k6=>
    X3j (wpAny_newObj_type (X3k ⟨_,rfl, "set_iterator",_,⟨_,Heap.get?_push_size _ rfl,rfl⟩,SF.sNext.lookup,h f0 vs h1 d k1 k2 k3 k4 k5 k6⟩))
  by_cases hc:(!Xbr w&&(!t.plain&&decide (es.size > 1)))=true
  . rw[X3n hc]
    simp only[Xz2,X29,decide_eq_true_eq] at hc
    obtain⟨c1,c2,c3⟩:=hc
    refine X3j (Xfs _ _ _ _ X0j λos d po=>?_)
    have hol:os.length=es.size:=by rw[po.length_eq,X0j]
    refine X3j (wpAny_newTuple ?_ (by rw[Xzl,hol];exact fits_of_scanBound hb))
    refine X3j (wpAny_setEpoch_of (X3t _ ho) hd hf ?_)
    refine fin _ _ _ d (λb o q=>X3t _ q) (by rw[size_push'];exact Xzn _) (by rw[size_push'];exact X05 _) (λp e=>by cases e;rw[size_push'];exact Nat.lt_succ_self _) (.drw s.heap.objs.size os c1 po rfl ⟨0,X3t _ (Heap.get?_push_size _ rfl)⟩) ?_
    have e:(os.map λj=>((es[j]?).map (·.2)).getD Value.none).Perm ((List.range es.size).map λj=>((es[j]?).map (·.2)).getD Value.none):=po.map _
    refine e.trans ?_
    have e2:((List.range es.size).map λj=>((es[j]?).map (·.2)).getD Value.none)=es.toList.map (·.2):=by
      apply List.ext_getElem?
      intro i
      have q:es.toList[i]? = es[i]?:=X2r
      rw[Xz4,Xz4,q]
      by_cases hi:i<es.size
      . rw[List.getElem?_range hi,X1k,getElem?_pos es i hi]
        rfl
      . rw[X14 (by simpa using hi),getElem?_neg es i hi]
        rfl
    rw[e2]
  . rw[X3m hc]
    refine X3j (X3k ?_)
    refine X3j (wpAny_setEpoch_of ho hd hf ?_)
    cases hw:Xbr w with
    | true=>exact fin _ _ _ s.drawn (λb o q=>q) (X05 _) (Xzn _) (λp e=>by cases e) (.txt hw rfl) ((Xji _ es).map _)
    | false=>
      have h1:es.size<=1:=by
        cases hpl:t.plain with
        | true=>rw[hp hpl];exact X0m _
        | false=>
          simp only[hw,hpl,Bool.not_false,X09,decide_eq_true_eq] at hc
          omega
      exact fin _ _ _ s.drawn (λb o q=>q) (X05 _) (Xzn _) (λp e=>by cases e) (.one 0 hw (by rw[hl,hw];rfl) h1 rfl (λ_=>rfl) (λj e=>by cases e)) (X06 _)
end
end L2
namespace L2
open PySem PySem.Spec PyProof.Rows PySem.Calls
section
variable {P:Program}{w:World}{A:Around}{E:Value->Shared->Prop}{s:Shared}{I a:Addr}{es:Array (Int×Value)}{ep:Nat}{t:SetTable}
def ItS (w:World) (I a:Addr) (es:Array (Int×Value)) (ep:Nat) (t:SetTable) (vs:List Value) (fp:Option Addr) (i:Nat) (h:Heap):Prop:=
 ∃f0,h.get? I=some (itO f0 i a es.size ep)/\Ord w h a es ep t f0 i vs/\SAt h a es ep t/\(∀p,f0 = .ref p->fp=some p)
theorem Xjj{i:Nat}{f0:Value}{Q:Fin->Shared->Prop}(hI:s.heap.get? I=some (itO f0 i a es.size ep))(hS:SAt s.heap a es ep t)
  (h1:∀sl,f0 = .int sl 0->wpAny (model P w) A (do
   match <-setNext a sl.toNat i ep with
   | some (x,next)=>setField (.ref I) 0 (rawInt next);setField (.ref I) 1 (rawInt ((i:Int)+1));ret x
   | none=>setField (.ref I) 2 .none;raiseNew (<-newExc (.type "StopIteration") [])) Q E s)
  (h2:∀p,f0 = .ref p->wpAny (model P w) A (do
   let some places <-seqItems? (.ref p) | unsupported "internal:set_iterator"
   match places[i]? with
   | some (.int place _)=>let x <-setNextDrawn a place.toNat ep;setField (.ref I) 1 (rawInt ((i:Int)+1));ret x
   | some _=>unsupported "internal:set_iterator"
   | none=>setField (.ref I) 0 (rawInt 0);setField (.ref I) 2 .none;raiseNew (<-newExc (.type "StopIteration") [])) Q E s)
  (hf:(∃sl,f0 = .int sl 0) \/ ∃p,f0 = .ref p):wpAny (model P w) A (Builtin.«set_iterator.__next__» ⟨[.ref I],[]⟩) Q E s:=by
 obtain⟨o,ho,hex,hd,hft⟩:=id hS
 unfold Builtin.«set_iterator.__next__» slotArgs
 simp only[X2v,X2h,X0g, ↓reduceIte,bind_assoc,X1d,bne_self_eq_false]
 refine X3j (X3k ?_)
 dsimp only
 refine X3j (wpAny_fieldsOf hI rfl ?_)
 dsimp only
 refine X3j (wpAny_setEntries_of ho hd hft ?_)
 rw[X3m (by simp)]
 rcases hf with ⟨sl,rfl⟩ | ⟨p,rfl⟩
 ·exact h1 sl rfl
 ·exact h2 p rfl
theorem Xmb{h:Heap}{f0 x:Value}{i j n:Nat}(hI:h.get? I=some (itO f0 i a n ep))(k:Nat)(v:Value):
  (h.update I (Obj.mapFields (·.setIfInBounds k v))).get? I=some {cls:=.type "set_iterator",data:=.fields ((#[f0,.int i 0,.ref a,.int n 0,.int ep 0]:Array Value).setIfInBounds k v)}:=
 Heap.get?_update_self _ hI rfl
theorem SAt.at{h h':Heap}(x:SAt h a es ep t)(k:∀o,h.get? a=some o->h'.get? a=some o):SAt h' a es ep t:=by
 obtain⟨o,ho,r⟩:=x
 exact⟨o,k o ho,r⟩
theorem Xd7{sl i:Nat}{Q:Option (Value×Nat)->Shared->Prop}(hw:Xbr w=true)(hS:SAt s.heap a es ep t)(h:Q (((pickOrder (w.params.setOrder a ep) es)[i]?).map λe=>(e.2,sl)) s):wpAny (model P w) A (setNext a sl i ep) Q E s:=by
 obtain⟨o,ho,hex,hd,hf⟩:=id hS
 unfold setNext setsByText
 refine X3j (wpAny_setState_of ho hd hf ?_)
 dsimp only
 refine X3j (X3j (wpAny_askSetting (X3k ?_)))
 rw[X3n (show (model P w).w.params.followText "set-order" = true from hw),X3m (by simp)]
 unfold setWalk setsByText
 refine X3j (X3j (wpAny_setState_of ho hd hf ?_))
 dsimp only
 refine X3j (X3j (wpAny_askSetting (X3k ?_)))
 rw[X3n (show (model P w).w.params.followText "set-order" = true from hw)]
 exact X3j (wpAny_askSetting (X3k (X3k h)))
theorem Xd8{sl i:Nat}{Q:Option (Value×Nat)->Shared->Prop}(hw:Xbr w=false)(hl:t.led=true)(h1:es.size<=1)(hS:SAt s.heap a es ep t)
  (h:Q (match es[SetTable.below t.place sl]?,t.place[SetTable.below t.place sl]? with | some (_,x),some j=>some (x,j+1) | _,_=>none) s):wpAny (model P w) A (setNext a sl i ep) Q E s:=by
 obtain⟨o,ho,hex,hd,hf⟩:=id hS
 unfold setNext setsByText
 refine X3j (wpAny_setState_of ho hd hf ?_)
 dsimp only
 refine X3j (X3j (wpAny_askSetting (X3k ?_)))
 rw[X3m (show ¬(model P w).w.params.followText "set-order" = true from by show ¬Xbr w=true;rw[hw];decide)]
 have d1:(!t.plain&&decide (es.size > 1))=false:=by rw[X3p (by omega),Bool.and_false]
 refine wpAny_ite_split (λz=>?_) (λ_=>?_)
 ·have z':(!t.plain&&decide (es.size > 1))=true:=z
  rw[d1] at z'
  cases z'
 refine X3j ?_
 have m1:(!t.led && !es.isEmpty)=false:=by rw[hl];rfl
 refine wpAny_ite_split (λz=>?_) (λ_=>X3k (X3k h))
 have z':(!t.led && !es.isEmpty)=true:=z
 rw[m1] at z'
 cases z'
theorem Xng{t:SetTable}(h:t.place.size<=1):SetTable.below t.place 0=0:=by
 generalize t.place=pl at *
 obtain⟨l⟩:=pl
 match l,h with
 | [],_=>rfl
 | [x],_=>simp[SetTable.below,SetTable.below.go]
theorem Xo1{t:SetTable}{j:Nat}(h:t.place.size<=1)(hj:t.place[0]? = some j):SetTable.below t.place (j+1)=1:=by
 generalize t.place=pl at *
 obtain⟨l⟩:=pl
 match l,h,hj with
 | [x],_,hj=>
  have:x=j:=by simpa using hj
  subst this
  simp[SetTable.below,SetTable.below.go]
theorem Xjk{n:Nat}(h:t.fits n=true):t.place.size=n:=by
 unfold SetTable.fits at h
 simp only[Xz2,beq_iff_eq] at h
 exact h.1
end
section
variable {P:Program}{w:World}{A:Around}{E:Value->Shared->Prop}{s:Shared}{I a:Addr}{es:Array (Int×Value)}{ep:Nat}{t:SetTable}{vs:List Value}{fp:Option Addr}
theorem Ord.cases0{h:Heap}{f0:Value}{i:Nat}(x:Ord w h a es ep t f0 i vs):(∃sl:Int,f0 = .int sl 0) \/ ∃p,f0 = .ref p:=by
 cases x with
 | txt _ e=>exact .inl ⟨0,e⟩
 | drw p os _ _ e _=>exact .inr ⟨p,e⟩
 | one sl _ _ _ e _ _=>exact .inl ⟨sl,e⟩
theorem Xo2{i:Nat}{Q:Option Value->Shared->Prop}(st:ItS w I a es ep t vs fp i s.heap)(hi:i<vs.length)(hl:vs.length=es.size)(nIa:a≠I)(nIp:∀p,fp=some p->p≠I)
  (hQ:∀h',ItS w I a es ep t vs fp (i+1) h'->Heap.SameBut I s.heap h'->Q (some vs[i]) {s with heap:=h'}):wpAny (model P w) A (pyNext (.ref I)) Q E s:=by
 obtain⟨f0,hI,hO,hS,hp⟩:=st
 have hT:s.TypeIs (.ref I) "set_iterator" := ⟨_,hI,rfl⟩
 unfold pyNext
 refine X3j (wpAny_attempt (wpAny_callSpecial?_slot (name:=Str.ofString "__next__") hT SF.sNext (wpAny_call_entry SF.sNext hT SF.eNext ?_ (SF.aNext _))))
 have e1:((i:Int)+1)=((i+1:Nat):Int):=by omega
 have fin:∀(E':Value->Shared->Prop) (nx:Nat),Ord w ((s.heap.update I (Obj.mapFields (·.setIfInBounds 0 (rawInt nx)))).update I (Obj.mapFields (·.setIfInBounds 1 (rawInt ((i:Int)+1))))) a es ep t (.int nx 0) (i+1) vs ->
   wpAny (model P w) A.in1 (do
    setField (.ref I) 0 (rawInt nx)
    setField (.ref I) 1 (rawInt ((i:Int)+1))
    ret vs[i]) (λfin s'=>∃r,fin = .done (.ret r)/\wpAny (model P w) A (pure (some r)) Q E s') E' s:=λE' nx O=>by
  refine X3j (wpAny_setField hI rfl (by simp) ?_)
  refine X3j (wpAny_setField (Xmb (x:=.none) (j:=0) hI 0 (rawInt nx)) rfl (by simp) ?_)
  have g:=Heap.get?_update_self (Obj.mapFields (·.setIfInBounds 1 (rawInt ((i:Int)+1)))) (Xmb (x:=.none) (j:=0) hI 0 (rawInt nx)) rfl
  refine X3k ⟨_,rfl,X3k (hQ _ ⟨_,g.trans ?_,O,hS.at λo q=>?_,λp z=>by cases z⟩ ((X3u ..).trans (X3u ..)))⟩
  ·rw[e1]
   rfl
  ·rw[((X3u s.heap I _).trans (X3u _ I _)).2 a nIa]
   exact q
 refine Xjj hI hS (λsl e=>?_) (λp e=>?_) hO.cases0
 ·subst e
  cases hO with
  | txt hw e=>
   cases e
   have hi2:i<(pickOrder (w.params.setOrder a ep) es).size:=by simpa using hi
   refine X3j (Xd7 hw hS ?_)
   rw[getElem?_pos _ i hi2]
   have ev:((pickOrder (w.params.setOrder a ep) es).toList.map (·.2))[i]=((pickOrder (w.params.setOrder a ep) es)[i]).2:=by simp
   have f:=λE'=>fin E' 0 (.txt hw rfl)
   rw[ev] at f
   exact f _
  | drw p os _ _ e _=>cases e
  | one sl' hw hld h1 e hz ho=>
   cases e
   obtain⟨_,_,_,_,hft⟩:=id hS
   have hps:=Xjk hft
   have i0:i=0:=by
    have:i<es.size:=by rw[<-hl];exact hi
    omega
   subst i0
   have z0:=hz rfl
   subst z0
   have he:0<es.size:=by rw[<-hl];exact hi
   have hpl:0<t.place.size:=by rw[hps];exact he
   refine X3j (Xd8 hw hld h1 hS ?_)
   have b0:SetTable.below t.place ((0:Nat):Int).toNat=0:=Xng (by rw[hps];exact h1)
   rw[b0,getElem?_pos es 0 he,getElem?_pos t.place 0 hpl]
   have ev:(es.toList.map (·.2))[0]=(es[0]).2:=by simp
   have f:=λE'=>fin E' (t.place[0]+1) (.one (t.place[0]+1) hw hld h1 rfl (λz=>by cases z) (λj _ q=>by rw[getElem?_pos t.place 0 hpl] at q;cases q;rfl))
   rw[ev] at f
   exact f _
 ·subst e
  cases hO with
  | txt hw e=>cases e
  | one sl' hw hld h1 e hz ho=>cases e
  | drw p' os hw hp2 e htp=>
   cases e
   obtain⟨n,htp⟩:=htp
   have hil:i<os.length:=by simpa using hi
   have hos:os[i]<es.size:=X0l.mp (hp2.mem_iff.mp (X0b hil))
   refine X3j (wpAny_seqItems htp rfl ?_)
   have g:((os.map λj=>Value.int (j:Nat) 0).toArray)[i]? = some (.int ((os[i]:Nat):Int) 0):=by simp[hil]
   dsimp only
   rw[g]
   dsimp only
   obtain⟨o,ho,hex,hd,hft⟩:=id hS
   unfold setNextDrawn
   refine X3j (X3j (wpAny_setState_of ho hd hft ?_))
   dsimp only
   rw[X3m (by simp),show ((os[i]:Nat):Int).toNat=os[i] from X16 _,getElem?_pos es _ hos]
   refine X3k ?_
   refine X3j (wpAny_setField hI rfl (by simp) ?_)
   have ev:(os.map λj=>((es[j]?).map (·.2)).getD Value.none)[i]=(es[os[i]]).2:=by simp[hos]
   have g2:=Xmb (x:=.none) (j:=0) hI 1 (rawInt ((i:Int)+1))
   have nI2:p≠I:=nIp p (hp p rfl)
   have q:=hQ (s.heap.update I (Obj.mapFields (·.setIfInBounds 1 (rawInt ((i:Int)+1))))) ⟨_,g2.trans (by rw[e1];rfl),.drw p os hw hp2 rfl ⟨n,?_⟩,hS.at λo q=>?_,λp' z=>hp p' z⟩ (X3u ..)
   ·rw[ev] at q
    exact X3k ⟨_,rfl,X3k q⟩
   ·rw[(X3u s.heap I _).2 p nI2]
    exact htp
   ·rw[(X3u s.heap I _).2 a nIa]
    exact q
end
section
variable {P:Program}{w:World}{A:Around}{E:Value->Shared->Prop}{s:Shared}{I a:Addr}{es:Array (Int×Value)}{ep:Nat}{t:SetTable}{vs:List Value}{fp:Option Addr}
theorem Xjl{α : Type}{h0:Heap}{Q : α->Shared->Prop}{E':Value->Shared->Prop}(hh:A.handled=none)
  (k:∀e h',(∀b o,s.heap.get? b=some o->h'.get? b=some o)->Shared.TypeIs {s with heap:=h'} e "StopIteration" -> E' e {s with heap:=h'}):
  wpAny (model P w) A (do raiseNew (<-newExc (.type "StopIteration") []):Sem α) Q E' s:=by
 refine X3j ?_
 simp only[newExc,newTuple]
 refine X3j (wpAny_newObj_type ?_ (by size_fits))
 refine X3j (m:=firstArgMember _ _) (wpAny_of_eq (a:=Value.none) (by first | rfl | (simp only[firstArgMember];rfl)) ?_)
 refine wpAny_newObj_type ?_ (by size_fits)
 simp only[raiseNew]
 refine X3j (wpAny_handled ?_)
 rw[hh]
 refine X3j (X3k (wpAny_throw ?_))
 exact k _ _ (λb o q=>X3t _ (X3t _ q)) ⟨_,Heap.get?_push_size _ rfl,rfl⟩
theorem Xrs{Q:Option Value->Shared->Prop}(hh:A.handled=none)(st:ItS w I a es ep t vs fp vs.length s.heap)(hl:vs.length=es.size)
    (hQ:∀h',(∀b o,b≠I->s.heap.get? b=some o->h'.get? b=some o)->Q none {s with heap:=h'}):wpAny (model P w) A (pyNext (.ref I)) Q E s:=by
  obtain⟨f0,hI,hO,hS,hp⟩:=st
  have hT:s.TypeIs (.ref I) "set_iterator" := ⟨_,hI,rfl⟩
  unfold pyNext
  refine X3j (wpAny_attempt (wpAny_callSpecial?_slot (name:=Str.ofString "__next__") hT SF.sNext (wpAny_call_entry SF.sNext hT SF.eNext ?_ (SF.aNext _))))
  have hh1:A.in1.handled=none:=hh
  have stp:∀(e:Value) (h':Heap),(∀b o,b≠I->s.heap.get? b=some o->h'.get? b=some o)->Shared.TypeIs {s with heap:=h'} e "StopIteration" ->
      wpAny (model P w) A (do if <-isInstance e (.type "StopIteration") then pure none else throw e) Q E {s with heap:=h'}:=λe h' k ty=>
    X3j (wpAny_isInstance (T := "StopIteration") (b:=true) ty isSubtype_stop (X3k (hQ h' k)))
  have keep1:∀(f:Obj->Obj) b o,b≠I->s.heap.get? b=some o->(s.heap.update I f).get? b=some o:=λf b o nb q=>by
    rw[(X3u s.heap I f).2 b nb]
    exact q
  have fin:∀(Q':PySem.Fin->Shared->Prop),wpAny (model P w) A.in1 (do
        setField (.ref I) 2 .none
        raiseNew (<-newExc (.type "StopIteration") [])) Q' (λe s'=>wpAny (model P w) A (do if <-isInstance e (.type "StopIteration") then pure none else throw e) Q E s') s:=λQ'=>by
    refine X3j (wpAny_setField hI rfl (by simp) ?_)
    refine Xjl (h0:=s.heap) (s:={s with heap:=s.heap.update I (Obj.mapFields (·.setIfInBounds 2 Value.none))}) hh1 λe h' k ty=>?_
    exact stp e h' (λb o nb q=>k b o (keep1 _ b o nb q)) ty
  refine Xjj hI hS (λsl e=>?_) (λp e=>?_) hO.cases0
  . subst e
    cases hO with
    | txt hw e=>
      cases e
      refine X3j (Xd7 hw hS ?_)
      rw[getElem?_neg _ _ (by simp)]
      exact fin _
    | drw p os _ _ e _=>cases e
    | one sl' hw hld h1 e hz ho=>
      cases e
      obtain⟨_,_,_,_,hft⟩:=id hS
      have hps:=Xjk hft
      refine X3j (Xd8 hw hld h1 hS ?_)
      have hn:es[SetTable.below t.place ((sl':Nat):Int).toNat]? = none:=by
        rw[X16]
        by_cases h0:es.size=0
        . exact getElem?_neg _ _ (by omega)
        . have e1:es.size=1:=by omega
          have hpl:0<t.place.size:=by rw[hps,e1];decide
          have:=ho t.place[0] (by rw[hl,e1]) (getElem?_pos t.place 0 hpl)
          rw[this,Xo1 (by rw[hps];exact h1) (getElem?_pos t.place 0 hpl)]
          exact getElem?_neg _ _ (by omega)
      rw[hn]
      exact fin _
  . subst e
    cases hO with
    | txt hw e=>cases e
    | one sl' hw hld h1 e hz ho=>cases e
    | drw p' os hw hp2 e htp=>
      cases e
      obtain⟨n,htp⟩:=htp
      refine X3j (wpAny_seqItems htp rfl ?_)
      dsimp only
      rw[getElem?_neg _ _ (by simp)]
      dsimp only
      refine X3j (wpAny_setField hI rfl (by simp) ?_)
      refine X3j (wpAny_setField (Xmb (x:=.none) (j:=0) hI 0 (rawInt 0)) rfl (by simp) ?_)
      refine Xjl (h0:=s.heap) (s:={s with heap:=(s.heap.update I (Obj.mapFields (·.setIfInBounds 0 (rawInt 0)))).update I (Obj.mapFields (·.setIfInBounds 2 Value.none))}) hh1 λe h' k ty=>?_
      refine stp e h' (λb o nb q=>k b o ?_) ty
      show ((s.heap.update I _).update I _).get? b=some o
      rw[(X3u _ I _).2 b nb]
      exact keep1 _ b o nb q
end
namespace SF
theorem sSelf:Slot "set_iterator" "__iter__" "set_iterator.__iter__" := .of (owner := "set_iterator") (n := "__iter__") (by rw[typeLookup_type,builtinLookup_eq_fast];kernel_rfl) (by decide +kernel) (by decide +kernel) (by decide +kernel) (by first | exact .inl (by decide +kernel) | exact .inr (by decide +kernel)) (by rw[isSubtype_type];kernel_rfl)
theorem eSelf:entryFor table "set_iterator.__iter__" = some Builtin.«dict_keyiterator.__iter__»:=entryFor_alias (id' := "dict_keyiterator.__iter__") (by kernel_rfl) rfl (by decide +kernel) (by kernel_rfl)
theorem aSelf(a:Value):argsOk "set_iterator.__iter__" ⟨[a],[]⟩:=by unfold argsOk;kernel_rfl
end SF
section
variable {P:Program}{w:World}{A:Around}{E:Value->Shared->Prop}{s:Shared}{I a:Addr}{es:Array (Int×Value)}{ep:Nat}{t:SetTable}{vs:List Value}{fp:Option Addr}{ks:List Str}
theorem ItS.at{i:Nat}{h h':Heap}(x:ItS w I a es ep t vs fp i h)(k:∀b∈I::a::fp.toList,∀o,h.get? b=some o->h'.get? b=some o):ItS w I a es ep t vs fp i h':=by
 obtain⟨f0,h1,h2,h3,h4⟩:=x
 refine⟨f0,k I (by simp) _ h1,?_,h3.at λo q=>k a (by simp) o q,h4⟩
 cases h2 with
 | txt e1 e2=>exact .txt e1 e2
 | drw p os e1 e2 e3 e4=>
  obtain⟨n,e4⟩:=e4
  exact .drw p os e1 e2 e3 ⟨n,k p (by rw[h4 p e3];simp) _ e4⟩
 | one sl e1 e2 e3 e4 e5 e6=>exact .one sl e1 e2 e3 e4 e5 e6
theorem Xo3(hh:A.handled=none)(hl:vs.length=es.size)(nIa:a≠I)(nIp:∀p,fp=some p->p≠I):Walks P w A I (I::a::fp.toList) [I] vs.length (λi v=>vs[i]? = some v) (ItS w I a es ep t vs fp) where
 sub:=λb hb=>by simp at hb;simp[hb]
 frame:=λ_ _ _ st hk=>st.at hk
 item:=λi s Q E hi st hQ=>by
  refine Xo2 st hi hl nIa nIp λh' st' sb=>?_
  exact hQ vs[i] h' s.toks (by simp[hi]) st' λb o hb e=>by rw[sb.2 b (λz=>hb (by simp[z]))];exact e
 done:=λs Q E st hQ=>Xrs hh st hl λh' k=>hQ h' s.toks λb o hb e=>k b o (λz=>hb (by simp[z])) e
 self:=λi s Q E st hQ=>by
  obtain⟨f0,h1,_⟩:=st
  have hT:s.TypeIs (.ref I) "set_iterator" := ⟨_,h1,rfl⟩
  refine wpAny_pyIter_slot hT SF.sSelf (wpAny_call_entry SF.sSelf hT SF.eSelf ?_ (SF.aSelf _))
  show wpAny _ _ (ret (.ref I)) _ _ s
  exact X3k ⟨_,rfl, "set_iterator",_,hT,SF.sNext.lookup,hQ⟩
theorem Xrt{r:Addr}{Q:Bool->Shared->Prop}(hT:s.TypeIs (.ref r) "set")(h:Q false s):wpAny (model P w) A (Builtin.List.listLengthHint (.ref r)) Q E s:=by
 unfold Builtin.List.listLengthHint
 refine X3j (wpAny_specialOf hT PySem.F.slot_set_len.lookup ?_)
 generalize hid:("set.__len__" : String)=id0
 wp_delta
 rw[show splitId id0=some ("set", "__len__") from by subst hid;decide +kernel]
 subst hid
 refine X3j (wpAny_isInstance (T := "set") (b:=true) hT (by rw[isSubtype_type];kernel_rfl) ?_)
 refine wpAny_ite_split (λz=>absurd z (by decide)) (λ_=>?_)
 refine wpAny_ite_split (λ_=>?_) (λz=>absurd (by decide +kernel) z)
 exact X3j (wpAny_typeOf hT (X3k h))
end
end L2
namespace L2
open PySem PySem.Spec PyProof.Rows PySem.Calls
section
variable {P:Program}{w:World}{A:Around}{E:Value->Shared->Prop}{s:Shared}{a:Addr}{ks:List Str}
theorem Xnh{R:Result->Shared->Prop}{S:Addr}{res:Value}{c0:Nat}(hh:A.handled=none)(hs:SSet P w s.heap a ks)(nS:S≠a)(gS:s.heap.get? S=some {cls:=.type "list",data:=.seq #[] c0})
  (hR:∀s' acc c vs ls,(∀b o,b≠S->s.heap.get? b=some o->s'.heap.get? b=some o)->s'.os=s.os->s'.gens=s.gens->s'.heap.get? S=some {cls:=.type "list",dict:=none,data:=.seq acc c,slots := #[]}->acc.toList=vs->StrsAre vs ls->ls.Perm ks->R (.ok (.ret res)) s'):
  wpAny (model P w) A.in1 (Builtin.List.listExtendWith (.ref S) (.ref a) res)
   (λfin s'=>match fin with | .done f=>R (.ok f) s' | .again c'=>c'.quiet=true/\codeAny (model P w) A c' R s') (λe s'=>R (.error e) s') s:=by
 obtain⟨o,es,ep,t,ls0,ho,hex,hd,hel,hst,hpm,hb,hf,hl,hpl⟩:=id hs
 have hT:s.TypeIs (.ref a) "set" := ⟨o,ho,hex.1⟩
 have la:=X3s ho
 have lS:=X3s gS
 unfold Builtin.List.listExtendWith
 refine X3j (wpAny_typeOf (T := "set") hT ?_)
 have n1:Builtin.List.listSameRef (.ref S) (.ref a)=false:=by simp[Builtin.List.listSameRef,nS]
 have n2:(Value.type "set" == Value.type "list")=false:=by decide
 have n3:(Value.type "set" == Value.type "tuple")=false:=by decide
 simp only[n1,n2,n3,X3c,X0g,if_false]
 refine X3j (Xrr ⟨o,ho,hex,hd,hf⟩ hb hl hpl λf0 vs h1 d k1 z1 z2 kp O pv=>?_)
 have hvl:vs.length=es.size:=by rw[pv.length_eq,Xzl,Xzt]
 have nI:∀b,b<h1.objs.size->b≠h1.objs.size:=λb q=>Xzv q
 have kI:∀b o,s.heap.get? b=some o->(h1.push (itO f0 0 a es.size ep)).get? b=some o:=λb o q=>X3t _ (k1 b o q)
 obtain⟨fp,hfp⟩:∃fp:Option Addr,(∀p,f0 = .ref p->fp=some p)/\∀p,fp=some p->p≠h1.objs.size/\p≠S:=by
  cases f0 with
  | ref p=>
   refine⟨some p,⟨λq e=>(by cases e;rfl),λq e=>?_⟩⟩
   cases e
   refine⟨Xzv (kp p rfl),λz=>?_⟩
   subst z
   cases O with
   | drw p' os _ _ e ht=>
    cases e
    obtain⟨n,ht⟩:=ht
    rw[kI _ _ gS] at ht
    have hc:=congrArg Obj.cls (Xz3 ht)
    exact absurd hc (by simp)
   | txt _ e=>cases e
   | one _ _ _ _ e _ _=>cases e
  | _=>exact⟨none,⟨λq e=>(by cases e),λq e=>(by cases e)⟩⟩
 have st0:ItS w h1.objs.size a es ep t vs fp 0 (h1.push (itO f0 0 a es.size ep)):=⟨f0,Heap.get?_push_size _ rfl,O,⟨o,kI _ _ ho,hex,hd,hf⟩,hfp.1⟩
 have W:=Xo3 (P:=P) (w:=w) (A:=A.in1) (I:=h1.objs.size) (a:=a) (es:=es) (ep:=ep) (t:=t) (vs:=vs) (fp:=fp) hh hvl (Xzv (Xz8 la z2)) (λp e=>(hfp.2 p e).1)
 have nSf:S∉h1.objs.size::a::fp.toList:=by
  simp only[Xzy,not_or]
  refine⟨Xzv (Xz8 lS z2),nS,λz=>?_⟩
  cases hfq:fp with
  | none=>rw[hfq] at z;simp at z
  | some p=>
   rw[hfq] at z
   have:S=p:=by simpa using z
   exact(hfp.2 p hfq).2 this.symm
 have key:∀(h:Heap) (c1:Nat),ItS w h1.objs.size a es ep t vs fp 0 h->(∀b o,b≠S->s.heap.get? b=some o->h.get? b=some o)->h.get? S=some {cls:=.type "list",data:=.seq #[] c1} ->
   codeAny (model P w) A (.builtin "list.extend.loop" ⟨[.ref S,.ref h1.objs.size,res],[]⟩) R {s with heap:=h,drawn:=d}:=by
  intro h c1 hst1 hk gS1
  refine codeAny_extend_loopS W.toS (by rw[hvl];exact fits_of_scanBound hb) S nSf res vs.length 0 _ #[] c1 rfl (X0m _) hst1 gS1 (ItemsOf.nil _) λs' acc c hm gS' hacc=>?_
  have hav:acc.toList=vs:=by
   apply List.ext_getElem?
   intro i
   by_cases hi:i<vs.length
   ·have hi2:i<acc.size:=by rw[hacc.1];exact hi
    have:=hacc.2 i acc[i] (getElem?_pos acc i hi2)
    rw[this]
    simp[hi2]
   ·rw[X14 (by rw[Xzt,hacc.1];omega),X14 (by omega)]
  have hls:StrsAre vs (vs.map strOf):=strsAre_map vs λv hv=>hst.all v (pv.mem_iff.mp hv)
  refine hR s' acc c vs (vs.map strOf) (λb o nb q=>hm.heap b o (λz=>?_) (hk b o nb q)) hm.os hm.gens gS' hav hls ?_
  ·rcases Xzy.mp z with z | z
   ·exact nb z
   ·exact absurd (Xz8 (X3s q) z2) (by rw[Xzs.mp z];exact X0r _)
  ·have:=pv.map strOf
   rw[hst.strs] at this
   exact this.trans hpm
 have gS1:=kI _ _ gS
 have hT1:Shared.TypeIs {s with heap:=h1.push (itO f0 0 a es.size ep),drawn:=d} (.ref a) "set" := ⟨o,kI _ _ ho,hex.1⟩
 refine X3j (wpAny_holding (Xrt hT1 ?_))
 refine wpAny_ite_split (λ_=>?_) (λ_=>X3k ⟨plainId_quiet PySem.F.plain_extend_loop _,key _ c0 st0 (λb o _ q=>kI b o q) gS1⟩)
 refine X3j (wpAny_rule (X3j ?_))
 show wpAny _ _ (updateSeq S (·.push .none) >>= λ_=>updateSeq S (·.pop)) _ _ _
 refine X3j (wpAny_updateSeq gS1 rfl ?_)
 have gS2:=Heap.get?_update_self (Obj.mapSeq (·.push Value.none)) gS1 rfl
 refine wpAny_updateSeq (hz:=by seq_fits) gS2 rfl ?_
 have gS3:=Heap.get?_update_self (Obj.mapSeq (·.pop)) gS2 rfl
 have other:∀b,b≠S->(((h1.push (itO f0 0 a es.size ep)).update S (Obj.mapSeq (·.push Value.none))).update S (Obj.mapSeq (·.pop))).get? b=(h1.push (itO f0 0 a es.size ep)).get? b:=λb nb=>
  (Heap.get?_update_other _ _ (Ne.symm nb)).trans (Heap.get?_update_other _ _ (Ne.symm nb))
 refine X3k ⟨plainId_quiet PySem.F.plain_extend_loop _,key _ _ (st0.at λb hb2 o q=>?_) (λb o nb q=>?_) gS3⟩
 ·rw[other b (λz=>nSf (z ▸ hb2))]
  exact q
 ·rw[other b nb]
  exact kI b o q
theorem Xky{R:List Value->Shared->Prop}(hh:A.handled=none)(hs:SSet P w s.heap a ks)
    (h:∀s' vs ls,(∀b o,s.heap.get? b=some o->s'.heap.get? b=some o)->s'.os=s.os->s'.gens=s.gens->StrsAre vs ls->ls.Perm ks->R vs s'):wpAny (model P w) A (collect (.ref a)) R E s:=by
  have la:a<s.heap.objs.size:=by obtain⟨o,_,_,_,_,g,_⟩:=hs;exact X3s g
  unfold collect
  refine X3j (wpAny_runValue (codeAny_builtin entry_proto_collect' ?_))
  rw[Around.under_plainId PySem.F.plain_proto_collect _]
  show wpAny _ A.in1 (newList [] >>= λl=>again (.builtin "list.__iadd__" ⟨[l,Value.ref a],[]⟩)) _ _ s
  refine X3j (wpAny_newObj_type ?_)
  refine X3k ⟨plainId_quiet PySem.F.plain_list_iadd _,codeAny_builtin entry_list_iadd' ?_⟩
  rw[Around.under_plainId PySem.F.plain_list_iadd _]
  have gS:(s.heap.push {cls:=.type "list",data:=.seq ([]:List Value).toArray}).get? s.heap.objs.size=some {cls:=.type "list",data:=.seq #[] 0}:=Heap.get?_push_size _ rfl
  show wpAny _ A.in1 (Builtin.List.listExtendWith (.ref s.heap.objs.size) (.ref a) (.ref s.heap.objs.size)) _ _ _
  have key:=Xnh (A:=A) (s:={s with heap:=s.heap.push {cls:=.type "list",data:=.seq ([]:List Value).toArray} }) (S:=s.heap.objs.size) (res:=.ref s.heap.objs.size)
    (R:=λq s'=>∃acc c vs ls,q = .ok (.ret (.ref s.heap.objs.size))/\(∀b o,s.heap.get? b=some o->s'.heap.get? b=some o)/\s'.os=s.os/\s'.gens=s.gens/\s'.heap.get? s.heap.objs.size=some {cls:=.type "list",dict:=none,data:=.seq acc c,slots := #[]}/\acc.toList=vs/\StrsAre vs ls/\ls.Perm ks)
    hh (hs.stay λo q=>X3t _ q) (X3g la) gS (λs' acc c vs ls k e1 e2 g e3 e4 e5=>⟨acc,c,vs,ls,rfl,λb o q=>k b o (Xzv (X3s q)) (X3t _ q),e1,e2,g,e3,e4,e5⟩)
  have done:∀(q:Result) (s':Shared),(∃acc c vs ls,q = .ok (.ret (.ref s.heap.objs.size))/\(∀b o,s.heap.get? b=some o->s'.heap.get? b=some o)/\s'.os=s.os/\s'.gens=s.gens/\s'.heap.get? s.heap.objs.size=some {cls:=.type "list",dict:=none,data:=.seq acc c,slots := #[]}/\acc.toList=vs/\StrsAre vs ls/\ls.Perm ks) ->
      wants (λv s2=>wpAny (model P w) A (match v with
        | .ref l=>(do match (<-load l).data with
                        | .seq xs _=>pure xs.toList
                        | _=>unsupported "internal:collect")
        | _=>unsupported "internal:collect") R E s2) E q s':=λq s' ⟨acc,c,vs,ls,e0,k,e1,e2,g,e3,e4,e5⟩=>by
    subst e0
    show wpAny _ A (load s.heap.objs.size >>= _) _ _ s'
    refine X3j (wpAny_load g ?_)
    refine X3k ?_
    rw[e3]
    exact h s' vs ls k e1 e2 e4 e5
  refine wpAny_mono key (λfin s' x=>?_) λe s' x=>?_
  . cases fin with
    | done f=>exact done _ _ x
    | again c1=>exact⟨x.1,codeAny_mono x.2 λq s2 y=>done q s2 y⟩
  . obtain⟨_,_,_,_,e',_⟩:=x
    cases e'
end
section
variable {X:Cx}{pins:List (Addr×Obj)}{σ:St}{H:Hp}{s s':Shared}
theorem Inv.moved(I:Inv X pins σ H s)(k:∀b u,s.heap.get? b=some u->s'.heap.get? b=some u)(ho:s'.os=s.os)(hg:s'.gens=s.gens):Inv X pins σ H s':=by
 have J:=I.kept (h':=s'.heap) (t':=s'.toks) k
 exact⟨J.ok,ho.trans I.os,by rw[hg];exact I.bare,J.base,J.loc,J.cell,J.free,J.freeC,J.pin,J.hok,J.len⟩
theorem Inv.laidM{a:Addr}{o:HO}(I:Inv X pins σ H s)(k:∀b u,s.heap.get? b=some u->s'.heap.get? b=some u)(ho:s'.os=s.os)(hg:s'.gens=s.gens)(hp:s.heap.objs.size<=a)(new:Xbh X.prog X.w (upd H a o) s'.heap a o):Inv X pins σ (upd H a o) s':=by
 have J:=I.laid (h':=s'.heap) (t':=s'.toks) k hp new
 exact⟨J.ok,ho.trans I.os,by rw[hg];exact I.bare,J.base,J.loc,J.cell,J.free,J.freeC,J.pin,J.hok,J.len⟩
end
section
variable {P:Program}{w:World}{A:Around}{E:Value->Shared->Prop}{s:Shared}{ks:List Str}
theorem Xdq{r:Addr}{Q:Value->Shared->Prop}(h64:ks.length<64)
  (hc:∀(R:List Value->Shared->Prop),(∀s' vs ls,(∀b o,s.heap.get? b=some o->s'.heap.get? b=some o)->s'.os=s.os->s'.gens=s.gens->StrsAre vs ls->ls.Perm ks->R vs s')->wpAny (model P w) A.in1 (collect (.ref r)) R E s)
  (h:∀(s1 s':Shared) (vs:List Value) (ls:List Str) (e:Nat),(∀b o,s.heap.get? b=some o->s1.heap.get? b=some o)->s1.os=s.os->s1.gens=s.gens->(∀b o,s1.heap.get? b=some o->s'.heap.get? b=some o)->s'.os=s1.os->s'.gens=s1.gens->s'.heap.get? s1.heap.objs.size=some (seqObj "list" vs.toArray e)->StrsAre vs ls->ls.Perm ks->sortedS ls=true->Q (.ref s1.heap.objs.size) s'):
  wpAny (model P w) A (call (.builtin "sorted") [.ref r]) Q E s:=by
 refine Calls.call_function_entry kind_sorted plain_sorted entry_sorted (args_sorted1 _) ?_
 unfold Builtin.«sorted»
 refine X3j (m:=checkCount "sorted" 1 1 _) (X3k ?_)
 refine X3j (hc _ λs1 vs ls k1 o1 g1 st p=>?_)
 have hl:vs.length<64:=by rw[st.length,p.length_eq];exact h64
 refine X3j (wpAny_newList ?_ (by rw[X3l];omega))
 have gL:(s1.heap.push (seqObj "list" vs.toArray 0)).get? s1.heap.objs.size=some (seqObj "list" vs.toArray 0):=Heap.get?_push_size _ rfl
 refine X3j (wpAny_holding (wpAny_call_entry (s:={s1 with heap:=s1.heap.push (seqObj "list" vs.toArray 0)}) slot_list_sort ⟨_,gL,rfl⟩ entry_list_sort (list_sort_treeK strKind_oneLt gL st.keysOf (λa b rest e=>keyKind_strs (by rw[<-e];exact st)) hl λst' pp so=>⟨_,rfl,?_⟩) (args_list_sort _)))
 obtain⟨ls',a1,a2,a3⟩:=sorted_out_str st pp so
 obtain⟨e,he⟩:=sortedHeap_at (out:=(arrOf st').map (·.2)) gL
 refine X3k ⟨_,rfl,h s1 _ ((arrOf st').map (·.2)).toList ls' e k1 o1 g1 (λb o q=>?_) rfl rfl he a1 (a2.trans p) a3⟩
 have lt:=X3s q
 show (sortedHeap (s1.heap.push (seqObj "list" vs.toArray 0)) s1.heap.objs.size vs ((arrOf st').map (·.2))).get? b=some o
 rw[sortedHeap_old (Xzv lt) (by rw[size_push'];exact X04 lt)]
 exact X3t _ q
end
def SetO (P:Program) (w:World) (a:Addr) (ks:List Str):HO:=.ext λh=>SSet P w h a ks
theorem Xjm{ss:List Str}{vs:List Value}(h:StrsAre vs ss):Vals (ss.map V.str) vs:=by
 induction h with
 | nil=>exact .nil
 | cons x t _ ih=>exact .cons ⟨t,rfl⟩ ih
theorem Xc2:∀{ss:List Str} {vs:List Value},Vals (ss.map V.str) vs->StrsAre vs ss
 | [],_,r=>by cases r;exact .nil
 | x::ss,_,r=>by
  cases r with
  | cons r1 r2=>
   obtain⟨t,rfl⟩:=r1
   exact .cons x t (Xc2 r2)
section
variable {X:Cx}
theorem Xev:X.calm=true->Xda X (.type "set") (λxs H Q=>∃p ss,xs=[.ref p]/\(SqL X.K H p (ss.map V.str)\/SqT X.K H p (ss.map V.str))/\ss.length+1<scanBound/\∀a,H a=none->Q (.ref a) (upd H a (SetO X.prog X.w a (ddup ss)))):=by
 intro hcalm pins s σ H xs us Q I r h
 obtain⟨p,ss,rfl,hq,hb,q⟩:=h
 obtain⟨u,rfl,rx⟩:=vals1 r
 cases rx
 obtain⟨its,r',src⟩:∃its:List Value,Vals (ss.map V.str) its/\Src s.heap p its.toArray:=by
  rcases hq with hq | hq
  ·obtain⟨its,r',pl,_⟩:=I.list hq
   exact⟨its,r',.lst pl.isList⟩
  ·obtain⟨its,r',pl,_⟩:=I.tuple hq
   exact⟨its,r',.tup pl⟩
 refine Xoz (I.ok.hd hcalm) src (Xc2 r') hb λh' tk S k=>?_
 refine⟨.ref s.heap.objs.size,_,I.laidM (s':={s with heap:=h',toks:=tk}) k rfl rfl (Xzn _) ?_,rfl,q _ (I.hok.fresh (Xzn _))⟩
 exact⟨S,by obtain⟨o,_,_,_,_,g,_⟩:=S;exact⟨o,g⟩,λh1 h2 S1 kk=>S1.stay kk⟩
theorem Xfi{pins:List (Addr×Obj)}{σ:St}{H:Hp}{s s1 s':Shared}{Q:VK}{vs:List Value}{ls ks:List Str}{e:Nat}(I:Inv X pins σ H s)(h64:ks.length<64)(k1:∀b o,s.heap.get? b=some o->s1.heap.get? b=some o)(o1:s1.os=s.os)(g1:s1.gens=s.gens)
  (k2:∀b o,s1.heap.get? b=some o->s'.heap.get? b=some o) (o2:s'.os=s1.os) (g2:s'.gens=s1.gens) (he:s'.heap.get? s1.heap.objs.size=some (seqObj "list" vs.toArray e)) (st:StrsAre vs ls) (p:ls.Perm ks)
  (q:∀l,H l=none->Q (.ref l) (upd H l (.lst (ls.map V.str)))):EP X pins σ Q (.ref s1.heap.objs.size) s':=by
 have I1:=I.moved k1 o1 g1
 refine⟨.ref s1.heap.objs.size,_,I1.laidM k2 o2 g2 (Xzn _) (show Xbh X.prog X.w _ s'.heap _ (.lst (ls.map V.str)) from ⟨?_,vs,e,Xjm st,he⟩),rfl,q _ (I1.hok.fresh (Xzn _))⟩
 rw[Xzl,p.length_eq,X3l]
 omega
theorem Xcd:X.calm=true->Xda X (.builtin "sorted") (λxs H Q=>∃a ks,xs=[.ref a]/\H a=some (SetO X.prog X.w a ks)/\ks.length<64/\∀l ls,H l=none->ls.Perm ks->sortedS ls=true->Q (.ref l) (upd H l (.lst (ls.map V.str)))):=by
 intro hcalm pins s σ H xs us Q I r h
 obtain⟨a,ks,rfl,ha,h64,q⟩:=h
 obtain⟨u,rfl,rx⟩:=vals1 r
 cases rx
 obtain⟨S,_⟩:=(show Xbh X.prog X.w H s.heap a (.ext λh=>SSet X.prog X.w h a ks) from I.hok a _ ha)
 refine Xdq h64 (λR k=>Xky (by show X.A.in1.handled=none;simp[I.ok.hd hcalm]) S k) λs1 s' vs ls e k1 o1 g1 k2 o2 g2 he st p so=>?_
 exact Xfi I h64 k1 o1 g1 k2 o2 g2 he st p λl hl=>q l ls hl p so
end
theorem Inv.turned2{X:Cx}{pins:List (Addr×Obj)}{σ:St}{H:Hp}{s:Shared}{h':Heap}{t':Nat}{e1 e2:Addr}(I:Inv X pins σ H s)(k:∀b o,b≠e1->b≠e2->s.heap.get? b=some o->h'.get? b=some o)(f1:FpOk X pins H e1)(f2:FpOk X pins H e2):Inv X pins σ H {s with heap:=h',toks:=t'}:=by
 have no:∀b u,H b=some u->b≠e1/\b≠e2:=λb u q=>⟨λz=>(by rw[z,f1.1] at q;cases q),λz=>(by rw[z,f2.1] at q;cases q)⟩
 have nn:∀b,b∉[e1,e2]->b≠e1/\b≠e2:=λb hb=>by simpa using hb
 refine I.step (g':=s.gens) (d':=s.drawn) (ch:=[e1,e2]) (λb hb=>?_) (λb o _ _ hc q _=>k b o (nn b hc).1 (nn b hc).2 q) (λb o _ _ hc q _=>⟨o.slots,k b o (nn b hc).1 (nn b hc).2 q⟩) (λ_ _ _ _ n=>n) (λb o hc q=>⟨o,k b o (nn b hc).1 (nn b hc).2 q⟩) (λ_ _ q=>q) (λ_ _ _ q=>q) (λb ps q=>⟨#[],by rw[q];simp⟩) (λm hm=>?_) (λb u q=>?_) I.bare
 ·have hb':b=e1\/b=e2:=by simpa using hb
  rcases hb' with z | z
  ·subst z;exact⟨f1.2.2.2.1,f1.2.1,f1.2.2.2.2.1,f1.2.2.2.2.2⟩
  ·subst z;exact⟨f2.2.2.2.1,f2.2.1,f2.2.2.2.2.1,f2.2.2.2.2.2⟩
 ·obtain⟨o,es,ep,ho,r⟩:=hm
  exact⟨o,es,ep,k _ o (Ne.symm f1.2.1) (Ne.symm f2.2.1) ho,r⟩
 ·refine(I.hok b u q).stay (λc v hc z=>k c v ?_ ?_ z) (λ_ z=>z) λ_ _ z=>z
  ·rcases hc with y | y
   ·rw[y];exact(no b u q).1
   ·exact(no c _ y).1
  ·rcases hc with y | y
   ·rw[y];exact(no b u q).2
   ·exact(no c _ y).2
def Ite (K:PySem.W.Frag) (a:Addr):It:=
 ⟨λi H=>∃xs x,SqL K H a xs/\xs[i]? = some x,λi H x H'=>∃tp,x = .ref tp/\H tp=none/\∀xs,SqL K H a xs->∃y,xs[i]? = some y/\H'=upd H tp (.tup [.int i,y]),λi H=>∃xs,SqL K H a xs/\xs.length<=i⟩
theorem Xo4{P:Program}{w:World}{K:PySem.W.Frag}{es:List Expr}{k:Nat}{p:Pos}(a e it:Addr)(ne:e≠it):Turn P w K (.Tuple es k p) (Ite K a) [e,it] e (λi h=>(∃old,IsEnum h e it i old)/\h.IsListIter it a i) where
 mem:=by simp
 obj:=λi h st b hb=>by
  have hb':b=e\/b=it:=by simpa using hb
  rcases hb' with z | z
  ·subst z
   obtain⟨⟨old,q⟩,_⟩:=st
   exact⟨_,q,λv z=>by
    have z':Data.fields _=Data.cell v:=z
    cases z'⟩
  ·subst z
   obtain⟨o,q,c,d⟩:=st.2
   exact⟨o,q,λv z=>by rw[d] at z;cases z⟩
 keep:=λi h h' st k=>by
  obtain⟨⟨old,q⟩,l⟩:=st
  exact⟨⟨old,k e (by simp) _ q⟩,l.at λo z=>k it (by simp) o z⟩
 item:=by
  intro X hP hw hK hc i pins s σ H E I hf st hg
  subst hP hw hK
  obtain⟨xs,x,hq,hx⟩:=hg
  obtain⟨its,rv,pl,hz⟩:=I.list hq
  obtain⟨u,hu,ru⟩:=rv.get hx
  have f1:=hf e (by simp)
  have f2:=hf it (by simp)
  obtain⟨⟨old,q⟩,l⟩:=st
  refine wpAny_pyNext_enum_item q l pl.isList (x:=u) (by simpa using hu) ne λh' qo l' tp sz kk=>?_
  have I1:Inv X pins σ H {s with heap:=h',toks:=s.toks+1}:=I.turned2 kk f1 f2
  refine⟨_,rfl,?_⟩
  have le:e<s.heap.objs.size:=X3s q
  obtain⟨ol,hol,_⟩:=id l
  have lit:it<s.heap.objs.size:=X3s hol
  unfold letOwnedTupleGo
  refine X3j (wpAny_load qo ?_)
  dsimp only
  rw[X3n (by simp[rawInt])]
  refine X3j (wpAny_rule ?_)
  show wpAny _ _ (setField (.ref e) 0 .none) _ _ _
  refine wpAny_setField qo rfl (by simp) ?_
  have g:=Heap.get?_update_self (Obj.mapFields (·.setIfInBounds 0 Value.none)) qo rfl
  have sb:=X3u h' e (Obj.mapFields (·.setIfInBounds 0 Value.none))
  have I2:Inv X pins σ (upd H s.heap.objs.size (.tup [.int i,x])) {s with heap:=h'.update e (Obj.mapFields (·.setIfInBounds 0 Value.none)),toks:=s.toks+1}:=by
   have J:=I.laid (a:=s.heap.objs.size) (o:=.tup [.int i,x]) (h':=s.heap.push {cls:=.type "tuple",data:=.seq #[.int i s.toks,u]}) (t':=s.toks+1) (λb o z=>X3t _ z) (Xzn _) (show Xbh X.prog X.w _ _ _ (.tup [.int i,x]) from ⟨by show 2<=sizeLine;decide,[.int i s.toks,u],.cons ⟨_,rfl⟩ (.cons ru .nil),IsTup.new _ _⟩)
   have g1:FpOk X pins (upd H s.heap.objs.size (.tup [.int i,x])) e:=⟨by rw[Xae (Xzv le)];exact f1.1,f1.2⟩
   have g2:FpOk X pins (upd H s.heap.objs.size (.tup [.int i,x])) it:=⟨by rw[Xae (Xzv lit)];exact f2.1,f2.2⟩
   refine J.turned2 (λb o n1 n2 z=>?_) g1 g2
   show (h'.update e _).get? b=some o
   rw[sb.2 b n1]
   by_cases hb:b=s.heap.objs.size
   ·subst hb
    have z':(s.heap.push {cls:=.type "tuple",data:=.seq #[.int i s.toks,u]}).get? s.heap.objs.size=some o:=z
    rw[Heap.get?_push_size _ rfl] at z'
    cases z'
    exact tp
   ·have z':(s.heap.push {cls:=.type "tuple",data:=.seq #[.int i s.toks,u]}).get? b=some o:=z
    rw[Heap.get?_push_ne _ _ _ hb] at z'
    exact kk b o n1 n2 z'
  refine⟨.ref s.heap.objs.size,_,I2,rfl,⟨_,rfl,I.hok.fresh (Xzn _),λys hy=>⟨x,by rw[I.list_inj hy hq];exact hx,rfl⟩⟩,⟨⟨u,g.trans ?_⟩,l'.at λo z=>?_⟩,λb hb=>?_⟩
  ·rfl
  ·rw[sb.2 it (Ne.symm ne)]
   exact z
  ·have hb':b=e\/b=it:=by simpa using hb
   rcases hb' with z | z
   ·subst z;rw[Xae (Xzv le)];exact f1.1
   ·subst z;rw[Xae (Xzv lit)];exact f2.1
 done:=by
  intro X hP hw hK hc i pins s σ H E I hf st hg
  subst hP hw hK
  obtain⟨xs,hq,hx⟩:=hg
  obtain⟨its,rv,pl,hz⟩:=I.list hq
  have hl:=rv.length
  have f2:=hf it (by simp)
  obtain⟨⟨old,q⟩,l⟩:=st
  exact wpAny_pyNext_enum_end (I.ok.hd hc) q l pl.isList (by simp;omega) λh' eb=>⟨rfl,I.turned (t':=s.toks) (λb o hb z=>eb b o hb z) f2.1 f2.2.1 f2.2.2.2.1 f2.2.2.2.2.1 f2.2.2.2.2.2⟩
 self:=λ_ _ _ _ _ st h=>by
  obtain⟨⟨old,q⟩,_⟩:=st
  exact wpAny_pyIter_enum q h
def Xy6 (K:PySem.W.Frag) (ta:TA):TI:=fun σ H R=>ta σ H λvs H1=>∃a,vs=[.ref a]/\(∃xs,SqL K H1 a xs)/\R (Ite K a) H1
theorem Xus{X:Cx}{es:List Expr}{k:Nat}{p2:Pos}{l:Expr}{ta:TA}{p pos:Pos}(hg:Gl X "enumerate")(hm:X.mg "enumerate" = none)(ha:PA X [l] ta)(hs:starEach [l] X.env=[(false,eval l X.env)]:=by rfl):PI X (.Tuple es k p2) (.Call (.Name "enumerate" p) [l] [] pos) (Xy6 X.K ta):=by
 intro pins s σ H R I h
 refine Call_ (Xhq I hg hm (show bootBuiltins "enumerate" = some (.type "enumerate") by decide +kernel) (PyProof.Rows.callWith_type1 (thn (ha pos pins s σ H _ I h) λus s1 ⟨vs,H1,I1,r1,q1⟩=>?_) hs rfl))
 obtain⟨a,e,⟨xs,hq⟩,q⟩:=q1
 subst e
 cases r1 with
 | cons r rr=>
  cases rr
  cases r
  obtain⟨its,rv,pl,hz⟩:=I1.list hq
  refine call_enumerate_list pl.isList λh' qe ql sz kk=>?_
  refine wpAny_pyIter_enum qe ?_
  have I2:Inv X pins σ H1 {s1 with heap:=h'}:=I1.kept (t':=s1.toks) kk
  refine⟨_,[s1.heap.objs.size+1,s1.heap.objs.size],_,_,H1,rfl,I2,Xo4 a _ _ (Nat.succ_ne_self _),⟨⟨_,qe⟩,ql⟩,λb hb=>?_,q⟩
  have hb':b=s1.heap.objs.size+1\/b=s1.heap.objs.size:=by simpa using hb
  rcases hb' with z | z
  ·subst z;exact I1.fpOk (X05 _) (I1.hok.fresh (X05 _))
  ·subst z;exact I1.fpOk (Xzn _) (I1.hok.fresh (Xzn _))
section
variable {X:Cx}{es:List Expr}{t:St->Hp->(Hp->Prop)->Prop}{e:Expr}{te:TE}{pos:Pos}
def Xy7 (te:TE) (t:St->Hp->(Hp->Prop)->Prop):St->Hp->(Hp->Prop)->Prop:=fun σ H Q=>te σ H λx H1=>∃z,x = .str z/\z.length<=400/\(∀c∈z.cps.toList,c<16 ^ 8)/\t σ H1 Q
theorem Xut{p:Pos}(ha:PE X e te)(h:PJ X es t)(he:evalEach (.FormattedValue e 114 none p::es) X.env=eval (.FormattedValue e 114 none p) X.env::evalEach es X.env:=by rfl):PJ X (.FormattedValue e 114 none p::es) (Xy7 te t):=by
 intro out pins s σ H Q I hw hl
 rw[he]
 rw[Xz6] at hl
 refine joinParts_cons (wpAny_FormattedValue_repr (thn (ha pins s σ H _ I hw) λv s1 ⟨x,H1,I1,r1,q1⟩=>?_))
 obtain⟨z,ez,h1,h2,q⟩:=q1
 subst ez
 obtain⟨tk,rfl⟩:=r1
 have hz:=StrLaws.reprText_len z h2
 have hz2:(reprText z).length<=sizeLine:=by rw[X3l];omega
 refine wpAny_pyReprObj_str ?_ hz2
 refine formatField_str (λt' k=>⟨by rw[Xdd];omega,?_⟩) hz2
 exact h _ pins _ σ H1 Q ((I1.tok _).tok _) q (by rw[Xdd];omega)
theorem Xjn:∀(ss:List Str) (l:List Value),l.length=ss.length->(∀i (hi:i<ss.length),∃t,l[i]? = some (.str ss[i] t))->StrsAre l ss
 | [],l,e,_=>by rw[X0i.mp e];exact .nil
 | y::ys,[],e,_=>by cases e
 | y::ys,v::vs,e,each=>by
  obtain⟨t,q⟩:=each 0 (by simp)
  have:v = .str y t:=by simpa using q
  subst this
  refine .cons y t (Xjn ys vs (by simpa using e) λi hi=>?_)
  obtain⟨t',e'⟩:=each (i+1) (by simpa using hi)
  exact⟨t',by simpa using e'⟩
theorem Xft:X.calm=true->Xda X (.builtin "sorted") (λxs H Q=>∃d kvs ss,xs=[.ref d]/\Rd H d (.dK kvs)/\kvs.map (·.1)=ss.map (λx=>(Sum.inr x:Key))/\ss.length<64/\∀l ls,H l=none->ls.Perm ss->sortedS ls=true->Q (.ref l) (upd H l (.lst (ls.map V.str)))):=by
 intro hcalm pins s σ H xs us Q I r h
 obtain⟨d,kvs,ss,rfl,hd,hk,h64,q⟩:=h
 obtain⟨u,rfl,rx⟩:=vals1 r
 cases rx
 obtain⟨hz,hm,vs,rv,o,es,ep,ho,hex,hdd,hr⟩:=Xnb I.hok hd
 have hkl:kvs.length=ss.length:=by have:=congrArg List.length hk;simpa using this
 have hvl:vs.length=ss.length:=by rw[<-hkl];exact(Paired.length rv).symm
 have hvk:vs.map (·.1)=ss.map (λx=>(Sum.inr x:Key)):=by rw[<-hk];exact rv.keys.symm
 have each:∀acc:Array Value,ItemsOf (λi v=>∃k x,vs[i]? = some (k,x)/\(Xau X.prog X.w).is k v=true) acc vs.length->StrsAre acc.toList ss:=λacc hacc=>by
  refine Xjn ss _ (by rw[Xzt,hacc.1,hvl]) λi hi=>?_
  have hi2:i<acc.size:=by rw[hacc.1,hvl];exact hi
  obtain⟨k',x,hx,his⟩:=hacc.2 i acc[i] (getElem?_pos acc i hi2)
  have hk':k'=Sum.inr ss[i]:=by
   have:=congrArg (λl=>l[i]?) hvk
   simp only[Xz4,hx,X1k,Xzo hi] at this
   exact Xz3 this
  subst hk'
  obtain⟨t,e⟩:=Value.isStrOf_shape his
  exact⟨t,by rw[X2r,getElem?_pos acc i hi2,e]⟩
 refine Xdq h64 (λR kR=>PySem.W.kdu_collect (PySem.W.kdl_dict (knd:=Xau X.prog X.w) (kvs:=vs) (ep:=ep) hm) (by show X.A.in1.handled=none;simp[I.ok.hd hcalm]) ⟨o,es,ho,hex,hdd,hr⟩ (by rw[hvl,X3l];omega) (λh' tk acc kk hacc=>kR {s with heap:=h',toks:=tk} acc.toList ss kk rfl rfl (each acc hacc) (X06 _)))
  λs1 s' vs ls e k1 o1 g1 k2 o2 g2 he st p so=>Xfi I h64 k1 o1 g1 k2 o2 g2 he st p λl hl=>q l ls hl p so
def rSlS:V->Option Int->Option Int->Hp->VK->Prop:=λx lo hi H Q=>∃z,x = .str z/\lo=none/\(∃j,hi=some j)/\z.length<=1000/\Q (.str (Txt.slice z lo hi)) H
theorem Xw9:SlR X rSlS:=by
 intro pins s σ H x v vl vu lo hi sl Q I rx hs pl pu h
 obtain⟨z,rfl,rfl,⟨j,rfl⟩,hz,q⟩:=h
 obtain⟨tz,rfl⟩:=rx
 cases pl
 cases pu
 rename_i tu
 refine⟨"str",_,PySem.F.slot_str_getitem.lookup,typeIs_str _ _ _,wpAny_getItem_str_slice (l:=none) (u:=some (j,tu)) (st:=none) hs rfl (post_val_or_str ⟨?_,λt' k=>?_⟩)⟩
 ·exact X0d (Txt.slice_le z none (some j)) (by rw[X3l];omega)
 ·exact⟨.str (Txt.slice z none (some j)),H,I.tok _,⟨t',rfl⟩,q⟩
end
end L2
set_option maxHeartbeats 4000000
namespace L2
open PySem PySem.Spec PyProof.Rows
def leS (x y:Str):Prop:=x.cps.toList<=y.cps.toList
theorem Xxa{x y:Str}(h:x.cps.toList=y.cps.toList):x=y:=by
 obtain⟨⟨a⟩⟩:=x
 obtain⟨⟨b⟩⟩:=y
 have:a=b:=h
 rw[this]
theorem Xmc{x y:Str}(h:leS x y)(g:leS y x):x=y:=Xxa (List.le_antisymm h g)
theorem Xjo{x y z:Str}(h:leS x y)(g:leS y z):leS x z:=List.le_trans h g
theorem Xgy(x y:Str):leS x y\/leS y x:=List.le_total _ _
def ltS (x y:Str):Prop:=x.cps.toList<y.cps.toList
instance (x y:Str):Decidable (ltS x y):=inferInstanceAs (Decidable (x.cps.toList<y.cps.toList))
instance (x y:Str):Decidable (leS x y):=inferInstanceAs (Decidable (x.cps.toList<=y.cps.toList))
theorem Xc3(x:Str):¬ltS x x:=List.lt_irrefl _
theorem Xdr{x y z:Str}(h:ltS x y)(g:ltS y z):ltS x z:=List.lt_trans h g
theorem Xkz{x y:Str}:¬ltS x y↔leS y x:=List.not_lt
theorem ltS_of{x y:Str}(h:leS x y)(n:x≠y):ltS x y:=by
 by_cases q:ltS x y
 ·exact q
 ·exact absurd (Xmc h (Xkz.mp q)) n
theorem Xxb{x y:Str}(h:ltS x y):leS x y:=List.le_of_lt h
theorem Xjp{x y:Str}(h:ltS x y):x≠y:=λe=>Xc3 y (e ▸ h)
theorem Xjq:∀(l:List Str) (p:Str),risingS p l=true->(p::l).Pairwise leS
 | [],p,_=>by simp
 | x::r,p,h=>by
  have h':(!ltCps x.cps.toList p.cps.toList&&risingS x r)=true:=h
  rw[Xz2,ltCps_eq] at h'
  have ih:=Xjq r x h'.2
  have hpx:leS p x:=by
   have:=h'.1
   simp only[X29,decide_eq_false_iff_not] at this
   exact this
  refine X1r.mpr ⟨λy hy=>?_,ih⟩
  rcases Xzy.mp hy with e | e
  ·rw[e];exact hpx
  ·exact Xjo hpx ((X1r.mp ih).1 y e)
theorem Xjr:∀(l:List Str),sortedS l=true->l.Pairwise leS
 | [],_=>by simp
 | x::r,h=>Xjq r x h
theorem Xjs:∀{a b:List Str},a.Perm b->a.Pairwise leS->b.Pairwise leS->a=b
 | [],b,p,_,_=>by rw[List.nil_perm.mp p]
 | x::a,[],p,_,_=>by have:=p.length_eq;simp at this
 | x::a,y::b,p,ha,hb=>by
  obtain⟨a1,a2⟩:=X1r.mp ha
  obtain⟨b1,b2⟩:=X1r.mp hb
  have e:x=y:=by
   have hx:x∈y::b:=p.mem_iff.mp Xzr
   have hy:y∈x::a:=p.mem_iff.mpr Xzr
   rcases Xzy.mp hx with e | hx
   ·exact e
   ·rcases Xzy.mp hy with e | hy
    ·exact e.symm
    ·exact Xmc (a1 y hy) (b1 x hx)
  subst e
  rw[Xjs (List.Perm.cons_inv p) a2 b2]
def srt (l:List Str):List Str:=l.mergeSort λx y=>decide (leS x y)
theorem Xbg(l:List Str):(srt l).Perm l:=List.mergeSort_perm ..
theorem Xd9(l:List Str):(srt l).Pairwise leS:=by
 have h:=List.pairwise_mergeSort (le:=λx y=>decide (leS x y)) (λa b c h1 h2=>X3o (Xjo (X3q h1) (X3q h2)))
  (λa b=>by rcases Xgy a b with h | h<;>simp[h]) l
 exact h.imp λh=>X3q h
theorem Xgz{ls ks:List Str}(p:ls.Perm ks)(h:sortedS ls=true):ls=srt ks:=Xjs (p.trans (Xbg ks).symm) (Xjr _ h) (Xd9 _)
theorem Xjt{a b:List Str}(p:a.Perm b):srt a=srt b:=Xjs ((Xbg a).trans (p.trans (Xbg b).symm)) (Xd9 _) (Xd9 _)
theorem Xds{l:List Str}{x:Str}:x∈srt l↔x∈l:=(Xbg l).mem_iff
def dit (row:List Str):List Str:=srt (ddup row)
theorem Xaj{row:List Str}{x:Str}:x∈dit row↔x∈row:=Xds.trans (Xeu row x)
theorem Xg0(row:List Str):(dit row).Nodup:=(Xbg _).nodup_iff.mpr (Xec row)
theorem Xdt(row:List Str):(dit row).Pairwise ltS:=by
 have h1:=Xd9 (ddup row)
 have h2:(dit row).Pairwise (· ≠ ·):=Xg0 row
 exact(h1.and h2).imp λh=>ltS_of h.1 h.2
theorem Xed(row:List Str):(dit row).length<=row.length:=by
 have:=(Xbg (ddup row)).length_eq
 have h:=Xdz row
 unfold dit
 omega
theorem Xee{a b:List Str}(ha:a.Nodup)(hb:b.Nodup)(h:∀x,x∈a↔x∈b):a.Perm b:=(List.perm_ext_iff_of_nodup ha hb).mpr h
theorem Xto{ls row ks:List Str}(p:ls.Perm ks)(h:sortedS ls=true)(nd:ks.Nodup)(m:∀x,x∈ks↔x∈row):ls=dit row:=
 Xjs (p.trans ((Xee nd (Xec row) λx=>(m x).trans (Xeu row x).symm).trans (Xbg _).symm)) (Xjr _ h) (Xd9 _)
structure Fn (P:Program) (w:World) (K:PySem.W.Frag) (mg:Str->Option Value) (base:Heap) (CX:CXT) (k:Nat) (x:Str) (ps:List Str) (sp:Sp):Prop where
 ex:∃f fd,mg x=some (.ref f)/\PySem.W.keepIn K (.ref f)=true/\Binds K fd ps []/\FnOk P w K mg base CX k f fd ps sp
section
variable {X:Cx}{CX:CXT}{k:Nat}{ps:List Str}{sp:Sp}{E:XK}{x:Str}{p pos:Pos}{e:Expr}{es:List Expr}{t:TA}
theorem Xap(F:Fn X.prog X.w X.K X.mg X.base CX k x ps sp)(hr:Room k X.A)(hg:Gl X x)(hx:Passes CX X E)
  (ha:PA X (e::es) t) (hdb:(x==("__debug__" : Str))=false:=by decide) (he:starEach (e::es) X.env=(false,eval e X.env)::starEach es X.env:=by rfl) (hpl:(backTo pos (starEach es X.env)).any (·.1)=false:=by rfl):
  PE X (.Call (.Name x p) (e::es) [] pos) (Xwp sp [] E t):=by
 obtain⟨f,fd,hm,hk,hb,hF⟩:=F.ex
 exact Xub hF hr hg hm hk hb .nil hx ha hdb he hpl
theorem Xni{st:Stmt}{rest:List Stmt}{D:Ends}{σ:St}{H:Hp}(P:St->Hp->Prop)(h2:∃u,PSs X rest u/\∀σ' H',P σ' H'->u D σ' H')
  (h1:∀nx,(∀σ' H',P σ' H'->nx σ' H')->∃t,PS X st t/\t {D with nx:=nx} σ H):∃t,PSs X (st::rest) t/\t D σ H:=by
 obtain⟨u,hu,ru⟩:=h2
 obtain⟨t,ht,rt⟩:=h1 (u D) ru
 exact⟨tSeq t u,Xad ht hu,rt⟩
end
theorem ite2b{c:Bool}{A B:Prop}(h1:c=true->A)(h2:c=false->B):if c=true then A else B:=by
 cases c with
 | true=>exact iteT (h1 rfl)
 | false=>exact iteF (h2 rfl)
theorem Same.upd{H H':Hp}{a:Addr}{o:HO}(s:Same H H')(h:H a=none):Same H (upd H' a o):=λb u e=>by
 rw[Xae (Xag e h)]
 exact s b u e
theorem Same.upd0{H:Hp}{a:Addr}{o:HO}(h:H a=none):Same H (L2.upd H a o):=(Same.refl H).upd h
theorem ku{H:Hp}{b p:Addr}{o u:HO}(h:H b=some o)(hp:H p=none):upd H p u b=some o:=by
 rw[Xae (Xag h hp)]
 exact h
theorem Same.step{H H1:Hp}{p:Addr}{o:HO}(s:Same H H1)(hp:H1 p=none):Same H (L2.upd H1 p o):=s.upd (s.free hp)
theorem Same.go{H H1:Hp}{p q:Addr}{o:HO}(s:Same H H1)(hp:H1 p=none)(hq:L2.upd H1 p o q=none):Same H (L2.upd H1 p o):=s.step hp
theorem Xfu{α : Type}(f : α->V)(xs:List α)(b:Nat)(hb:b<=xs.length):cutV (xs.map f) none (some (b:Int))=(xs.take b).map f:=by
 unfold cutV
 rw[HT.sIx_none,List.drop_zero,HT.sIx_nat,Xzl,X3d,Nat.sub_zero,X15 hb]
theorem Xew{α : Type}(f : α->V)(xs:List α)(a:Nat)(ha:a<=xs.length):cutV (xs.map f) (some (a:Int)) none=(xs.drop a).map f:=by
 unfold cutV
 rw[HT.sIx_none,HT.sIx_nat,Xzl,X15 ha,X3e]
 exact X2n (by rw[X1f,Xzl];omega)
theorem Xxc{α : Type}(f : α->V)(xs:List α)(a b:Nat)(hab:a<=b)(hb:b<=xs.length):cutV (xs.map f) (some (a:Int)) (some (b:Int))=((xs.drop a).take (b - a)).map f:=by
 unfold cutV
 rw[HT.sIx_nat,HT.sIx_nat,Xzl,X15 hb,X15 (X0d hab hb),X3d,X3e]
def chkC (fsc:Scope) (fN N:List Str) (cap:List (Option Nat)) (scope:Scope):Bool:=
 (scope.names.all λy=>decide (scope.names.lookup y.1=some y.2)) &&
 (scope.names.all λy=>decide (y.2 ≠ .free)||decide (fsc.names.lookup y.1=some .cell)||decide (fsc.names.lookup y.1=some .free))&&decide (cap.length=N.length) &&
 ((List.range N.length).all λi=>match cap[i]?,N[i]? with
  | some (some j),some x=>decide (fN[j]? = some x)&&decide (scope.names.lookup x=some .free)
  | _,_=>true)
theorem CompScope.of{X:Cx}{N:List Str}{cap:List (Option Nat)}{scope:Scope}(fsc:Scope)(fN:List Str)(h1:X.env.scope=fsc)(h2:X.N=fN)(hk:scope.kind = .function)(h:chkC fsc fN N cap scope=true):CompScope X N cap scope:=by
 unfold chkC at h
 simp only[Xz2,X0a,X1l,decide_eq_true_eq] at h
 obtain⟨⟨⟨a1,a3⟩,a4⟩,a5⟩:=h
 refine⟨hk,a1,λy hy e=>?_,a4,λi x j hN hc=>?_⟩
 ·show X.env.scope.names.lookup y.1=some .cell\/X.env.scope.names.lookup y.1=some .free
  rw[h1]
  rcases a3 y hy with (z | z) | z
  ·exact absurd e z
  ·exact .inl z
  ·exact .inr z
 ·have hi:i<N.length:=(Xz7.mp hN).1
  have q:=a5 i (X0l.mpr hi)
  rw[hc,hN] at q
  simp only[Xz2,decide_eq_true_eq] at q
  rw[h2]
  exact q
section
variable {X:Cx}
theorem Xfv(K:PySem.W.Frag)(h:X.K=K):Xda X (.builtin "isinstance") (λxs H Q=>∃x c t cv b,xs=[x,c]/\TyOf K H x t/\clsV c=some cv/\PySem.W.kitOne K t cv=some b/\Q (.bl b) H):=by subst h;exact Xde
theorem Xtp{cap:List (Option Nat)}{te:TE}{J:It}{σ:St}{H1:Hp}{F:Addr->Hp->Prop}{j:Nat}(n:Nat)(vs:Nat->V)(Pv:Addr->Nat->St->Hp->Prop)
  (h0:∀D,H1 D=none->Pv D 0 (capS cap σ) (upd H1 D (.lst [])))
  (hgo:∀D i σ2 H2,H1 D=none->i<n->Pv D i σ2 H2->J.go i H2/\∀x H3,J.yld i H2 x H3->H3=H2/\x=vs i)
  (hst:∀D σ2 H2,H1 D=none->Pv D n σ2 H2->J.stop n H2)
  (step:∀D i σ1 H2,H1 D=none->i<n->Pv D i σ1 H2->te (σ1.set j (some (vs i))) H2 λy H6=>∃ys,H6 D=some (.lst ys)/\ys.length<sizeLine/\∃m',m'<n - i/\wN n (Pv D) (i+1) m' (σ1.set j (some (vs i))) (upd H6 D (.lst (ys++[y]))))
  (hd:∀D σ2 H2,H1 D=none->Pv D n σ2 H2->F D H2):tBlk cap (Xbm j) tYes te J σ H1 F:=
 Xjf n vs Pv h0 hgo hst (λD i σ1 H2 a b c=>by
  show if true=true then te (σ1.set j (some (vs i))) H2 (λy H6=>∃ys,H6 D=some (.lst ys)/\ys.length<sizeLine/\∃m',m'<n - i/\wN n (Pv D) (i+1) m' (σ1.set j (some (vs i))) (upd H6 D (.lst (ys++[y])))) else ∃m',m'<n - i/\wN n (Pv D) (i+1) m' (σ1.set j (some (vs i))) H2
  rw[X3n rfl]
  exact step D i σ1 H2 a b c) hd
theorem Xru(K:PySem.W.Frag)(h:X.K=K):IxR X (rIxL K):=by subst h;exact Xaz
theorem Xci(K:PySem.W.Frag)(h:X.K=K):IxR X (rIxT K):=by subst h;exact Xl0
theorem Xju(K:PySem.W.Frag)(h:X.K=K):Xda X (.builtin "len") (λxs H Q=>∃p ys,xs=[.ref p]/\(SqL K H p ys\/SqT K H p ys)/\Q (.int ys.length) H):=by subst h;exact Xaq
theorem Xd0(K:PySem.W.Frag)(h:X.K=K):OpR X (compareOp .In) (rIn K false):=by subst h;exact Xeo
end
theorem Xdf{cap:List (Option Nat)}{tt:TT}{te:TE}{J:It}{σ:St}{H1:Hp}{F:Addr->Hp->Prop}{j:Nat}(n:Nat)(hn:n<sizeLine)(vs:Nat->V)(ok:Nat->Bool)(ys:Nat->V)
  (hgo:∀i H2,i<n->Same H1 H2->J.go i H2/\∀x H3,J.yld i H2 x H3->H3=H2/\x=vs i)
  (hst:∀H2,Same H1 H2->J.stop n H2)
  (tst:∀i H2 Q,i<n->Same H1 H2->(∀H',Same H2 H'->Q (ok i) H')->tt ((capS cap σ).set j (some (vs i))) H2 Q)
  (step:∀i H2 Q,i<n->ok i=true->Same H1 H2->(∀H',Same H2 H'->Q (ys i) H')->te ((capS cap σ).set j (some (vs i))) H2 Q)
  (hd:∀D H2,H1 D=none->Same H1 H2->H2 D=some (.lst (((List.range n).filter ok).map ys))->F D H2):tBlk cap (Xbm j) tt te J σ H1 F:=by
 refine Xjf n vs (λD i σ2 H2=>(∀v, σ2.set j v=(capS cap σ).set j v)/\Same H1 H2/\H2 D=some (.lst (((List.range i).filter ok).map ys))) ?_ ?_ ?_ ?_ ?_
 ·intro D hD
  exact⟨λ_=>rfl,(Same.refl H1).step hD,Xab⟩
 ·rintro D i σ2 H2 hD hi ⟨_,s2,_⟩
  exact hgo i H2 hi s2
 ·rintro D σ2 H2 hD ⟨_,s2,_⟩
  exact hst H2 s2
 ·rintro D i σ2 H2 hD hi ⟨e,s2,hb⟩
  show tt (σ2.set j (some (vs i))) H2 _
  rw[e]
  refine tst i H2 _ hi s2 λH3 s3=>?_
  have s13:=s2.trans s3
  have hb3:=s3 _ _ hb
  have hss:∀v,((capS cap σ).set j (some (vs i))).set j v=(capS cap σ).set j v:=λv=>by rw[X2s]
  have hl:(((List.range i).filter ok).map ys).length<=i:=by
   rw[Xzl]
   exact X0d (X0e ..) (by rw[X0j];omega)
  refine ite2b (λhk=>?_) (λhk=>?_)
  ·refine step i H3 _ hi hk s13 λH4 s4=>?_
   refine wput hi (s4 _ _ hb3) (by omega) ⟨hss,λb u e'=>?_,?_⟩
   ·rw[Xae (Xag e' hD)]
    exact s4 _ _ (s13 b u e')
   ·rw[Xab,X0u,Xz5,Xzu]
    simp[hk]
  ·refine wskip hi ⟨hss,s13,?_⟩
   rw[hb3,X0u,Xz5,Xzu]
   simp[hk]
 ·rintro D σ2 H2 hD ⟨_,s2,hb⟩
  exact hd D H2 hD s2 hb
theorem Xg1{cap:List (Option Nat)}{te:TE}{J:It}{σ:St}{H1:Hp}{F:Addr->Hp->Prop}{j:Nat}(n:Nat)(hn:n<sizeLine)(vs:Nat->V)(ys:Nat->V)
  (hgo:∀i H2,i<n->Same H1 H2->J.go i H2/\∀x H3,J.yld i H2 x H3->H3=H2/\x=vs i)
  (hst:∀H2,Same H1 H2->J.stop n H2)
  (step:∀i H2 Q,i<n->Same H1 H2->(∀H',Same H2 H'->Q (ys i) H')->te ((capS cap σ).set j (some (vs i))) H2 Q)
  (hd:∀D H2,H1 D=none->Same H1 H2->H2 D=some (.lst ((List.range n).map ys))->F D H2):tBlk cap (Xbm j) tYes te J σ H1 F:=
 Xdf n hn vs (λ_=>true) ys hgo hst (λi H2 Q _ _ k=>k H2 (Same.refl _)) (λi H2 Q hi _ s k=>step i H2 Q hi s k) λD H2 hD s e=>hd D H2 hD s (by rw[e,X0o.mpr (λ_ _=>rfl)])
theorem Xo5{X:Cx}:Passes (CX1 X.prog X.w) X E0:=λ_ _ _ _ _ _ _ h=>by
 obtain⟨_,_,_,_,_,_,_,_,_,h⟩:=h
 exact h.elim
structure DefAt (K:PySem.W.Frag) (x:Str) (st:Stmt):Prop where
 ex:∃f fd,PySem.W.nsIn K mainGlobals x=some (some (.ref f))/\PySem.W.keepIn K (.ref f)=true/\Fun K x x st f fd
theorem DefAt.of{K:PySem.W.Frag}{x:Str}{st:Stmt}{f:Addr}{oc:Value}{od an:Option Addr}{osl:Array (Option Value)}{kV doc pm cdv ct:Value}(a:PySem.W.nsIn K mainGlobals x=some (some (.ref f)))
  (l:K.lookup f=some ⟨oc,od,.func (PySem.W.fnOf x x (Xdc st) (Xb9 st) (defScope st) .none kV doc pm an cdv ct),osl⟩) (c:PySem.W.codeIn K cdv x=true) (k:PySem.W.keepIn K (.ref f)=true):DefAt K x st:=
 ⟨⟨f,_,a,k,Xtk l c k⟩⟩
theorem Fn.of{P:Program}{w:World}{K:PySem.W.Frag}{h:Heap}{mg:Str->Option Value}{base:Heap}{CX:CXT}{k:Nat}{x:Str}{st:Stmt}{ps:List Str}{sp:Sp}(X:K.In h)(G:h.Ns mainGlobals mg)(D:DefAt K x st)
  (hb:∀(kV doc pm:Value) (an:Option Addr) (cdv ct:Value) (us:List Value),us.length=ps.length->bindArgs (PySem.W.fnOf x x (Xdc st) (Xb9 st) (defScope st) .none kV doc pm an cdv ct) ⟨us,[]⟩=pure (ps.zip us))
  (ok:∀f fd,Fun K x x st f fd->FnOk P w K mg base CX k f fd ps sp):Fn P w K mg base CX k x ps sp:=by
 obtain⟨f,fd,a,hk,F⟩:=D.ex
 exact⟨⟨f,fd,PySem.W.mg_of X G a,hk,F.binds hb,ok f fd F⟩⟩
structure ExcAt (K:PySem.W.Frag) (x:Str) (C:Addr):Prop where
 a:PySem.W.nsIn K mainGlobals x=some (some (.ref C))
 e:PySem.W.excIn K C bmV "ValueError.__new__" = true
 ga:PySem.W.findIn K (.ref C) "__getattribute__" = some (some (.builtin "BaseException.__getattribute__"))
 gn:PySem.W.findIn K (.ref C) "__getattr__" = some none
 cl:PySem.W.findIn K (.ref C) "__class__" = some (some (.builtin "object.__class__"))
 sb:PySem.W.subIn K (.ref C) (.type "BaseException")=some true
 so:PySem.W.subIn K (.ref C) (.type "object")=some true
 sv:PySem.W.subIn K (.ref C) (.type "ValueError")=some true
 ss:PySem.W.subIn K (.ref C) (.ref C)=some true
 ic:PySem.W.isClsIn K C=true
 ty:PySem.W.typeIn K (.ref C)=some (.type "type")
section
variable {K:PySem.W.Frag}{x:Str}{C:Addr}
theorem Xo6{t:Value}{S:Addr}{b:Bool}(ic:PySem.W.isClsIn K S=true)(ty:PySem.W.typeIn K (.ref S)=some (.type "type"))(h:PySem.W.subIn K t (.ref S)=some b):PySem.W.kitCls K t (.ref S)=some b:=by
 unfold PySem.W.kitCls
 have ic':(PySem.W.clsIn K S).isSome=true:=ic
 simp only[ic',ty]
 exact h
theorem ExcAt.self(E:ExcAt K x C):PySem.W.exmOne K (.ref C) (.ref C)=some true:=by
 unfold PySem.W.exmOne
 rw[E.sb,X3n (by decide)]
 exact Xo6 E.ic E.ty E.ss
end
structure ClsAt (K:PySem.W.Frag) (x:Str) (C:Addr):Prop where
 a:PySem.W.nsIn K mainGlobals x=some (some (.ref C))
 ic:PySem.W.isClsIn K C=true
 ty:PySem.W.typeIn K (.ref C)=some (.type "type")
theorem Xc0(x:Str)(row:List Str):inV (.str x) (row.map V.str)=decide (x∈row):=by
 unfold inV
 rw[X0y,X03,decide_eq_true_eq]
 constructor
 ·rintro ⟨y,hy,e⟩
  obtain⟨z,hz,rfl⟩:=Xz0.mp hy
  have:z=x:=by simpa [eqV] using e
  rw[<-this];exact hz
 ·intro hx
  exact⟨.str x,Xz0.mpr ⟨x,hx,rfl⟩,by simp[eqV]⟩
theorem Xb5(row:List Str):(row.map V.str).all Xdn=true:=by
 rw[X0a]
 intro v h
 obtain⟨x,_,rfl⟩:=Xz0.mp h
 rfl
theorem Xrv{K:PySem.W.Frag}{cap:List (Option Nat)}{tt:TT}{te:TE}{a:Addr}{xs:List V}{σ:St}{H1:Hp}{F:Addr->Hp->Prop}{p q:Nat}(hpq:p≠q)(hS:SqL K H1 a xs)(hn:xs.length<sizeLine)(ok:Nat->Bool)(ys:Nat->V)
  (tst:∀(i:Nat) x H2 Q,xs[i]? = some x->Same H1 H2->(∀H',Same H2 H'->Q (ok i) H')->tt (((capS cap σ).set p (some (.int i))).set q (some x)) H2 Q)
  (step:∀(i:Nat) x H2 Q,xs[i]? = some x->ok i=true->Same H1 H2->(∀H',Same H2 H'->Q (ys i) H')->te (((capS cap σ).set p (some (.int i))).set q (some x)) H2 Q)
  (hd:∀D H2,H1 D=none->Same H1 H2->H2 D=some (.lst (((List.range xs.length).filter ok).map ys))->F D H2):tBlk cap (gTup K 2 (Xn7 (Xbm p) (Xn7 (Xbm q) gNil))) tt te (Ite K a) σ H1 F:=by
 intro D hD
 refine⟨wN xs.length λi σ2 H2=>(∀u v,(σ2.set p u).set q v=((capS cap σ).set p u).set q v)/\Same H1 H2/\H2 D=some (.lst (((List.range i).filter ok).map ys)),⟨xs.length,by simp,X0m _,λ_ _=>rfl,(Same.refl H1).step hD,Xab⟩,?_⟩
 rintro i m σ1 H2 ⟨rfl,hi,e,s2,hb⟩
 have hS2:SqL K H2 a xs:=s2.seq hS
 by_cases hlt:i<xs.length
 ·have hx:xs[i]? = some xs[i]:=Xzo hlt
  refine .inr ⟨⟨xs,xs[i],hS2,hx⟩,?_⟩
  rintro x H3 ⟨tp,rfl,ht,hy⟩
  obtain⟨y,hy1,rfl⟩:=hy xs hS2
  rw[hx] at hy1
  cases hy1
  refine⟨tp,_,rfl,SqT.of Xab,rfl,_,_,rfl,_,_,rfl,rfl,?_⟩
  have s3:Same H1 (upd H2 tp (.tup [.int i,xs[i]])):=s2.step ht
  have hb3:upd H2 tp (.tup [.int i,xs[i]]) D=some (.lst (((List.range i).filter ok).map ys)):=ku hb ht
  rw[e]
  refine tst i _ _ _ hx s3 λH4 s4=>?_
  have s14:=s3.trans s4
  have hb4:=s4 _ _ hb3
  have hss:∀u v,(((((capS cap σ).set p (some (.int i))).set q (some xs[i])).set p u).set q v)=((capS cap σ).set p u).set q v:=λu v=>by
   rw[List.set_comm _ _ (Ne.symm hpq),X2s,X2s]
  have hl:(((List.range i).filter ok).map ys).length<=i:=by
   rw[Xzl]
   exact X0d (X0e ..) (by rw[X0j];omega)
  refine ite2b (λhk=>?_) (λhk=>?_)
  ·refine step i _ H4 _ hx hk s14 λH5 s5=>?_
   refine wput hlt (s5 _ _ hb4) (by omega) ⟨hss,λb u e'=>?_,?_⟩
   ·rw[Xae (Xag e' hD)]
    exact s5 _ _ (s14 b u e')
   ·rw[Xab,X0u,Xz5,Xzu]
    simp[hk]
  ·refine wskip hlt ⟨hss,s14,?_⟩
   rw[hb4,X0u,Xz5,Xzu]
   simp[hk]
 ·have ei:i=xs.length:=by omega
  subst ei
  exact .inl ⟨⟨xs,hS2,Xzn _⟩,hd D H2 hD s2 hb⟩
theorem Xfj{X:Cx}{pos:Pos}{es:List Expr}{k:Nat}{t:TGs}(K:PySem.W.Frag)(n:Nat)(hK:X.K=K)(hc:X.calm=true)(h:PGs X es t)
  (hn:(assignEach es X.env).length=n:=by rfl) (hst:(assignEach es X.env).findIdx? (·.1)=none:=by rfl):PG X (.Tuple es k pos) (gTup K n t):=by
 subst hK
 exact Xn8 hc h hn hst
theorem Xa7{α : Type}(d : α)(p : α->Bool):∀(xs:List α),((List.range xs.length).filter λi=>p (xs.getD i d)).map (λi=>xs.getD i d)=xs.filter p:=by
 intro xs
 have go:∀n,n<=xs.length->((List.range n).filter λi=>p (xs.getD i d)).map (λi=>xs.getD i d)=(xs.take n).filter p:=by
  intro n
  induction n with
  | zero=>intro _;rfl
  | succ n ih=>
   intro h
   have hn:n<xs.length:=by omega
   have e:xs.getD n d=xs[n]:=by simp[List.getD,hn]
   rw[X0u,Xz5,Xzu,ih (by omega),Xzz hn,Xz5,X0p,X0p,e]
   split
   ·simp[hn]
   ·simp
 rw[go _ (Xzn _),X0n]
abbrev TM:=St->Hp->(St->Hp->Prop)->Prop
def PM (X:Cx) (m:Sem Unit) (t:TM):Prop:=∀(pins:List (Addr×Obj)) (s:Shared) (σ:St) (H:Hp) (Q:St->Hp->Prop),Inv X pins σ H s->t σ H Q ->
 wpAny (model X.prog X.w) X.A m (λ_ s'=>∃σ' H',Inv X pins σ' H' s'/\Q σ' H') X.xe s
def Xex (e:Expr) (d:Nat) (tg iter:Expr) (ifs:List Expr) (act:Sem Unit) (it acc:Value) (env:Env):Sem Fin:=do
 standAt iter.pos
 match <-pyNext it with
 | none=>pure (.done .next)
 | some v=>
  letOwnedTupleGo tg it v
  assign tg env v
  let mut ok:=true
  for c in ifs do
   if ok then ok <-isTrue c env (eval c env)
  if ok then act
  again (.compLoop e d it acc env)
structure Cm (e:Expr):Prop where
 den1 : ∀ (P : Program) (w : World) (d : Nat) (it acc : Value) (env : Env), (model P w).den (.compLoop e d it acc env) = (compTurn e d it acc env).onRaise (fun x => do noteFrame x env; theTreesLotGoes x)
 den2 : ∀ (P : Program) (w : World) (d : Nat) (it acc : Value) (env : Env), (model P w).den (.compStart e d it acc env) = (compStart e d it acc env).onRaise (fun x => do noteFrame x env; standAt theWindowsPlace)
 und1:∀(A:Around) (d:Nat) (it acc:Value) (env:Env),A.under (.compLoop e d it acc env)=A
 und2:∀(A:Around) (d:Nat) (it acc:Value) (env:Env),A.under (.compStart e d it acc env)=A
theorem Xg2{elt:Expr}{gs:List Comprehension}{sc:Scope}{p:Pos}:Cm (.ListComp elt gs sc p):=⟨λ_ _ _ _ _ _=>rfl,λ_ _ _ _ _ _=>rfl,λ_ _ _ _ _=>rfl,λ_ _ _ _ _=>rfl⟩
theorem Xuu{k v:Expr}{gs:List Comprehension}{sc:Scope}{p:Pos}:Cm (.DictComp k v gs sc p):=⟨λ_ _ _ _ _ _=>rfl,λ_ _ _ _ _ _=>rfl,λ_ _ _ _ _=>rfl,λ_ _ _ _ _=>rfl⟩
def tLp (g:TG) (tt:TT) (tm:TM) (J:It) (σ:St) (H1:Hp) (F:St->Hp->Prop):Prop:=
 ∃W:Nat->Nat->St->Hp->Prop,(∃m,W 0 m σ H1)/\∀i m σ1 H2,W i m σ1 H2 ->
  (J.stop i H2/\F σ1 H2)\/(J.go i H2/\∀x H3,J.yld i H2 x H3->g x σ1 H3 fun σ2 H4=>tt σ2 H4 λb H5=>
   if b=true then tm σ2 H5 fun σ3 H6=>∃m',m'<m/\W (i+1) m' σ3 H6 else ∃m',m'<m/\W (i+1) m' σ2 H5)
section
variable {Y:Cx}{e tg iter:Expr}{d:Nat}{ifs:List Expr}{act:Sem Unit}{acc:Value}{g:TG}{tt:TT}{tm:TM}{pins:List (Addr×Obj)}{σ:St}{H:Hp}{s:Shared}{J:It}{fp:List Addr}{it:Addr}{tn:Nat->Heap->Prop}{F:St->Hp->Prop}{R:Result->Shared->Prop}
theorem Xo7(cm:Cm e)(hx:Y.xe=λ_ _=>False)(hc:Y.calm=true)(eq:compTurn e d (.ref it) acc Y.env=Xex e d tg iter ifs act (.ref it) acc Y.env)(hg:PG Y tg g)(ht:PIfs Y ifs tt)(hm:PM Y act tm)
  (I:Inv Y pins σ H s) (T:Turn Y.prog Y.w Y.K tg J fp it tn) (h0:tn 0 s.heap) (hf:∀b∈fp,FpOk Y pins H b) (hb:tLp g tt tm J σ H F) (fin:∀σ' H' s',Inv Y pins σ' H' s'->F σ' H'->R (.ok .next) s'):
  codeAny (model Y.prog Y.w) Y.A (.compLoop e d (.ref it) acc Y.env) R s:=by
 obtain⟨W,⟨m0,w0⟩,turn⟩:=hb
 have stat:∀{H':Hp},(∀b∈fp,H' b=none)->∀b∈fp,FpOk Y pins H' b:=λhn b hb=>⟨hn b hb,(hf b hb).2⟩
 refine codeAny_loop rfl (λn s'=>∃i σ1 H2,Inv Y pins σ1 H2 s'/\tn i s'.heap/\(∀b∈fp,H2 b=none)/\W i n σ1 H2) (λn s' hI=>?_) m0 ⟨0, σ,H,I,h0,λb hb=>(hf b hb).1,w0⟩
 obtain⟨i, σ1,H2,I',st',fr',w'⟩:=hI
 rw[cm.den1,cm.und1]
 refine wpAny_noted ?_
 rw[eq]
 have no:∀{α : Type} {t:Sem α} {Q : α->Shared->Prop} {E':Value->Shared->Prop} {s₁ : Shared},wpAny (model Y.prog Y.w) Y.A t Q Y.xe s₁->wpAny (model Y.prog Y.w) Y.A t Q E' s₁:=λh=>wpAny_mono h (λ_ _ q=>q) λ_ _ z=>by rw[hx] at z;exact z.elim
 unfold Xex
 rcases turn i n σ1 H2 w' with ⟨stop,q⟩ | ⟨go,step⟩
 ·refine X3j (wpAny_standAt (X3j (thn (T.done Y rfl rfl rfl hc i pins s' σ1 H2 _ I' (stat fr') st' stop) λr s1 ⟨hr,I1⟩=>?_)))
  subst hr
  exact X3k (fin σ1 H2 s1 I1 q)
 ·refine X3j (wpAny_standAt (X3j (thn (T.item Y rfl rfl rfl hc i pins s' σ1 H2 _ I' (stat fr') st' go) λr s1 ⟨u,hr,h4⟩=>?_)))
  subst hr
  refine X3j (thn h4 λ_ s5 ⟨x,H5,I5,r5,y5,st5,fr5⟩=>?_)
  have I5':=I5.pinned (stat fr5) (T.obj _ _ st5)
  refine X3j (thn (no (hg _ s5 σ1 H5 x u _ I5' r5 (step x H5 y5))) λ_ s6 ⟨σ6,H6,I6,q6⟩=>?_)
  refine X3j (thn (no (ht _ s6 σ6 H6 _ I6 q6)) λb s7 ⟨H7,I7,q7⟩=>?_)
  have again:∀{s8:Shared} {σ8:St} {H8:Hp},Inv Y (pins++Xi0 fp s5.heap) σ8 H8 s8->(∃m',m'<n/\W (i+1) m' σ8 H8)->∃m,m<n/\∃i σ1 H2,Inv Y pins σ1 H2 s8/\tn i s8.heap/\(∀b∈fp,H2 b=none)/\W i m σ1 H2:=λ{s8 σ8 H8} I8 ⟨m',hm,w8⟩=>by
   refine⟨m',hm,i+1, σ8,H8,I8.unpinned,T.keep _ _ _ st5 λb hb o e=>(I8.pin (b,o) (X0f _ (X0f _ (Xdw hb e)))).1,λb hb=>?_,w8⟩
   obtain⟨o,e,d⟩:=T.obj _ _ st5 b hb
   exact(I8.pin (b,o) (X0f _ (X0f _ (Xdw hb e)))).2.1
  cases b with
  | false=>
   rw[X3m Xz1] at q7
   exact X3k ⟨rfl,again I7 q7⟩
  | true=>
   rw[X3n rfl] at q7
   exact X3j (thn (no (hm _ s7 σ6 H7 _ I7 q7)) λ_ s8 ⟨σ8,H8,I8,q8⟩=>X3k ⟨rfl,again I8 q8⟩)
theorem Xmd{prog:Program}{w:World}{A:Around}{env:Env}{itv:Value}{cl:Comprehension}(cm:Cm e)(hcl:(clausesOf e)[d]? = some cl)(has:cl.is_async=0)
  (h0:codeAny (model prog w) A (.compLoop e d itv acc env) R s)
  (h:wpAny (model prog w) A (pyIter itv) (λit' s'=>codeAny (model prog w) A (.compLoop e d it' acc env) R s') (notedBy (model prog w) A env λx s'=>R (.error x) s') s):
  codeAny (model prog w) A (.compStart e d itv acc env) R s:=by
 refine codeAny_of_tree ?_
 rw[cm.den2,cm.und2]
 refine wpAny_notedAt ?_
 unfold compStart
 rw[hcl]
 have e1:(Option.elim (some cl) false λx=>x.is_async != 0)=false:=by
  show (cl.is_async != 0)=false
  rw[has]
  rfl
 rw[e1,X3m Xz1]
 show wpAny _ A (ask >>= _) _ _ s
 refine X3j (wpAny_askSetting (wpAny_ite ?_))
 split
 ·first
   | exact X3j (X3k (X3k (And.intro rfl h0)))
   | exact X3k (And.intro rfl h0)
 ·first
   | exact X3j (wpAny_rule (X3j (wpAny_standAt (X3j (wpAny_mono h (λit' s' h'=>X3k (And.intro rfl h')) λ_ _ x=>x)))))
   | (refine X3j (wpAny_rule ?_);show wpAny _ _ (standAt cl.iter.pos >>= _) _ _ s;exact X3j (wpAny_standAt (X3j (wpAny_mono h (λit' s' h'=>X3k (And.intro rfl h')) λ_ _ x=>x))))
end
def Xrw (te:TE) (D:Addr):TM:=fun σ H Q=>te σ H λy H6=>∃ys,H6 D=some (.lst ys)/\ys.length<sizeLine/\Q σ (upd H6 D (.lst (ys++[y])))
theorem Xic{Y:Cx}{elt:Expr}{te:TE}{D:Addr}(he:PE Y elt te):PM Y (do let _ <-call (.builtin "list.append") [.ref D,<-eval elt Y.env]) (Xrw te D):=by
 intro pins s σ H Q I h
 refine X3j (thn (he pins s σ H _ I h) λyv s8 ⟨y,H8,I8,r8,ys,hD,hlt,q8⟩=>?_)
 exact X3j (thn (Xdp (X:=Y) _ s8 σ H8 (.ref D) [y] (.ref D) [yv] (λ_ H9=>Q σ H9) I8 rfl (.cons r8 .nil) ⟨_,ys,y,rfl,rfl,hD,hlt,q8⟩) λ_ s9 ⟨_,H9,I9,_,q9⟩=>X3k ⟨σ,H9,I9,q9⟩)
def Xxd (tk tv:TE) (D:Addr):TM:=fun σ H Q=>tk σ H λk H1=>tv σ H1 λv H2=>∃kvs ky,k=kV ky/\H2 D=some (.dK kvs)/\kvs.length<sizeLine/\Q σ (upd H2 D (.dK (putK kvs ky v)))
theorem Xuv{Y:Cx}{kx vx:Expr}{tk tv:TE}{D:Addr}(hk:PE Y kx tk)(hv:PE Y vx tv):PM Y (do
  let kv <-eval kx Y.env
  let vv <-holding [kv] (eval vx Y.env)
  standAt {kx.pos with endLine:=vx.pos.endLine,endCol:=vx.pos.endCol}
  holding [kv,vv] (dictSet D kv vv)) (Xxd tk tv D):=by
 intro pins s σ H Q I h
 refine X3j (thn (hk pins s σ H _ I h) λkv s1 ⟨k,H1,I1,rk,q1⟩=>X3j (wpAny_holding (thn (hv pins s1 σ H1 _ I1 q1) λvv s2 ⟨v,H2,I2,rv,kvs,ky,ek,hD,hl,q⟩=>X3j (wpAny_standAt (wpAny_holding ?_)))))
 subst ek
 obtain⟨z,hd,vs,rel,dd⟩:=Xui I2.hok hD
 have hz:vs.length<=sizeLine:=by rw[<-rel.length];exact z
 have hl':(putK kvs ky v).length<=sizeLine:=by have:=Xcm kvs ky v;omega
 refine wpAny_dictSet_pairs (knd:=Xau Y.prog Y.w) (hsz:=hz) (Xna rk) dd λh' dd' hs=>⟨σ,_,?_,q⟩
 have he:∃q,h'.get? D=some q:=let ⟨q,_,_,hq,_⟩:=dd'; ⟨q,hq⟩
 exact Xgp I2 (by rw[hD];exact True.intro) hs he (Xop hl' hd (rel.put ky rv) dd')
def mFor (wi:TI) (g:TG) (tt:TT) (tm:TM):TM:=fun σ H Q=>wi σ H λJ H1=>tLp g tt tm J σ H1 Q
theorem Xxe{Y:Cx}{e tg iter:Expr}{ifs:List Expr}{d:Nat}{D:Addr}{wi:TI}{g:TG}{tt:TT}{tm:TM}{act:Sem Unit}(cm:Cm e)(hx:Y.xe=λ_ _=>False)(hc:Y.calm=true)(hcl:(clausesOf e)[d]? = some ⟨tg,iter,ifs,0⟩)
  (eq:∀it,compTurn e d it (.ref D) Y.env=Xex e d tg iter ifs act it (.ref D) Y.env) (hi:PI Y tg iter wi) (hg:PG Y tg g) (ht:PIfs Y ifs tt) (hm:PM Y act tm)
  (hs:∀x,foldedSetIterable iter Y.env x=pure x:=by intro _;rfl):PM Y (do
   let x <-eval iter Y.env
   standAt iter.pos
   let x <-foldedSetIterable iter Y.env x
   let _ <-runOwn (.compStart e d (<-holding [x] (pyIter x)) (.ref D) Y.env) Y.env) (mFor wi g tt tm):=by
 intro pins s σ H Q I h
 refine X3j (thn (hi pins s σ H _ I h) λv s1 h1=>X3j (wpAny_standAt (X3j (wpAny_of_eq (hs v) (X3j (wpAny_holding (thn h1 λitv s2 h2=>?_)))))))
 obtain⟨it,fp,tn,J,H2,ei,I2,T,st2,f2,lp⟩:=h2
 subst ei
 refine X3j (wpAny_runOwn ?_)
 have go:∀s3,s3=s2->codeAny (model Y.prog Y.w) Y.A (.compLoop e d (.ref it) (.ref D) Y.env) (λr s'=>match r with | .ok _=>∃σ' H',Inv Y pins σ' H' s'/\Q σ' H' | .error e=>False) s3:=by
  rintro s3 rfl
  exact Xo7 cm hx hc (eq _) hg ht hm I2 T st2 f2 lp fun σ' H' s' I' q=>⟨σ',H',I',q⟩
 have st:=Xmd (s:=s2) (R:=λr s'=>match r with | .ok _=>∃σ' H',Inv Y pins σ' H' s'/\Q σ' H' | .error e=>False) cm hcl rfl (go s2 rfl) (T.self Y.A 0 s2 _ _ st2 (go s2 rfl))
 refine codeAny_mono st λr s' hr=>?_
 cases r with
 | ok f=>exact X3k hr
 | error e=>exact hr.elim
def Xuw (cap:List (Option Nat)) (o0:Addr->HO) (g:TG) (tt:TT) (tm:Addr->TM) (J:It) (σ:St) (H1:Hp) (F:Addr->Hp->Prop):Prop:=
 ∀D,H1 D=none->tLp g tt (tm D) J (capS cap σ) (upd H1 D (o0 D)) λ_ H2=>F D H2
def Xxf (cap:List (Option Nat)) (o0:HO) (g:TG) (tt:TT) (tm:Addr->TM) (J:It) (σ:St) (H1:Hp) (F:Addr->Hp->Prop):Prop:=
 ∀D,H1 D=none->tLp g tt (tm D) J (capS cap σ) (upd H1 D o0) λ_ H2=>F D H2
section
variable {X:Cx}{N:List Str}{cap:List (Option Nat)}{scope:Scope}{e tg iter:Expr}{ifs:List Expr}{g:TG}{tt:TT}{tm:Addr->TM}{E:Value->Shared->Prop}{newAcc:Sem Value}{ob:Obj}{o0:HO}{o1:Addr->HO}{act:Addr->Env->Sem Unit}
theorem Xg3(C:CompScope X N cap scope)(hcalm:X.calm=true)(cm:Cm e)(hcl:(clausesOf e)[0]? = some ⟨tg,iter,ifs,0⟩)
  (hnew:∀(s:Shared) (Q:Value->Shared->Prop) (E':Value->Shared->Prop),Q (.ref s.heap.objs.size) {s with heap:=s.heap.push ob}->wpAny (model X.prog X.w) X.A newAcc Q E' s)
  (hlay:∀pins σ H s,Inv X pins σ H s->Inv X pins σ (upd H s.heap.objs.size (o1 s.heap.objs.size)) {s with heap:=s.heap.push ob})
  (heq:∀it D env,compTurn e 0 it (.ref D) env=Xex e 0 tg iter ifs (act D env) it (.ref D) env)
  (hg:∀s0 H0 ex,PG (X.comp N scope s0 H0 ex) tg g) (ht:∀s0 H0 ex,PIfs (X.comp N scope s0 H0 ex) ifs tt) (hm:∀D s0 H0 ex,PM (X.comp N scope s0 H0 ex) (act D (X.comp N scope s0 H0 ex).env) (tm D))
  {pins:List (Addr×Obj)} {σ:St} {H:Hp} {s:Shared} {J:It} {fp:List Addr} {it:Addr} {tn:Nat->Heap->Prop} {F:Addr->Hp->Prop} {RR:Value->Addr->Result->Shared->Prop}
  (I:Inv X pins σ H s) (T:Turn X.prog X.w X.K tg J fp it tn) (h0:tn 0 s.heap) (hf:∀b∈fp,FpOk X pins H b) (hb:Xuw cap o1 g tt tm J σ H F)
  (fin:∀D L H' s' m,Inv X pins σ H' s'->FpOk X pins H' L->s'.heap.Ns L m->F D H'->RR (.ref D) L (.ok .next) s'):
  wpAny (model X.prog X.w) X.A newAcc (λacc s₃=>wpAny (model X.prog X.w) X.A (newFunctionEnv scope X.env.globals (Xeb X.env scope.names []) [] X.env.qual none .none (some X.env)) (λcenv s₄=>
   codeAny (model X.prog X.w) X.A (.compStart e 0 (.ref it) acc {cenv with scope:=relabel scope X.env}) (RR acc cenv.locals) s₄) E s₃) E s:=by
 have hDn:H s.heap.objs.size=none:=I.hok.fresh (Xzn _)
 have lp:=hb s.heap.objs.size hDn
 have flt:∀b∈fp,b<s.heap.objs.size:=λb hb=>by
  obtain⟨o,e,_⟩:=T.obj _ _ h0 b hb
  exact X3s e
 refine hnew s _ _ (Xnc ?_)
 have I3:Inv X pins σ (upd H s.heap.objs.size (o1 s.heap.objs.size)) {s with heap:=s.heap.push ob}:=hlay pins σ H s I
 generalize e3:({s with heap:=s.heap.push ob}:Shared)=s3 at I3
 have es3:s3.heap=s.heap.push ob:=by rw[<-e3]
 have hsz:s3.heap.objs.size=s.heap.objs.size+1:=by rw[es3,Heap.size_push]
 have hf3:∀b∈fp,FpOk X pins (upd H s.heap.objs.size (o1 s.heap.objs.size)) b:=λb hb=>by
  obtain⟨f0,f⟩:=hf b hb
  exact⟨by rw[Xae (Xzv (flt b hb))];exact f0,f⟩
 have flt3:∀b∈fp,b<s3.heap.objs.size:=λb hb=>by rw[hsz];exact X04 (flt b hb)
 have hk:∀b o,s3.heap.get? b=some o->(pushCells (s3.heap.push {cls:=.type "dict",data:=.dict #[]}) scope.names).get? b=some o:=λb o e=>pushCells_keeps _ _ b o (X3t _ e)
 have IY:=Xrk (tk:=s3.toks) C I3 hf3 flt3
 generalize eY:X.comp N scope s3 (upd H s.heap.objs.size (o1 s.heap.objs.size)) fp=Y at IY
 have hz3:(s3.heap.push {cls:=.type "dict",data:=.dict #[]}).objs.size=s3.heap.objs.size+1:=Heap.size_push ..
 have hst1:tn 0 (pushCells (s3.heap.push {cls:=.type "dict",data:=.dict #[]}) scope.names):=T.keep _ _ _ h0 λb hb o e=>hk b o (by rw[es3];exact X3t _ e)
 have fY:∀{H':Hp},(∀b∈fp,H' b=none)->∀b∈fp,FpOk Y [] H' b:=λ{H'} hn b hb=>by
  subst eY
  obtain⟨_,f1,f2,_,f4,_⟩:=hf3 b hb
  refine⟨hn b hb,Xzv (flt3 b hb),λz=>?_,.inl hb,λx c h=>?_,λp hp=>absurd (show p∈([]:List (Addr×Obj)) from hp) (by simp)⟩
  ·rcases Xzy.mp (I3.stkSub b z) with e | e
   ·exact f1 e
   ·exact f2 e
  ·rcases Xjd (s:=s3) C I3.ok hz3 h with ⟨a,_⟩ | ⟨_,a⟩
   ·exact λz=>X0r _ (X1q a (by rw[z];exact flt3 b hb))
   ·exact f4 x c a
 have loop:∀s4:Shared,s4 = {s3 with heap:=pushCells (s3.heap.push {cls:=.type "dict",data:=.dict #[]}) scope.names} ->
   codeAny (model X.prog X.w) X.A (.compLoop e 0 (.ref it) (.ref s.heap.objs.size) (compEnvC scope (Xjc X scope s3) s3.heap.objs.size X.env))
    (RR (.ref s.heap.objs.size) s3.heap.objs.size) s4:=by
  rintro s4 rfl
  have pP:Y.prog=X.prog:=by subst eY;rfl
  have pW:Y.w=X.w:=by subst eY;rfl
  have pK:Y.K=X.K:=by subst eY;rfl
  have pC:Y.calm=true:=by subst eY;exact hcalm
  have pA:Y.A=X.A:=by subst eY;rfl
  have pE:Y.env=compEnvC scope (Xjc X scope s3) s3.heap.objs.size X.env:=by subst eY;rfl
  have pX:Y.xe=λ_ _=>False:=by subst eY;rfl
  have T':Turn Y.prog Y.w Y.K tg J fp it tn:=by rw[pP,pW,pK];exact T
  have go:=Xo7 (Y:=Y) (acc:=.ref s.heap.objs.size) (pins:=[]) (R:=RR (.ref s.heap.objs.size) s3.heap.objs.size) cm pX pC (heq _ _ _) (by subst eY;exact hg _ _ _) (by subst eY;exact ht _ _ _) (show PM Y (act s.heap.objs.size Y.env) (tm s.heap.objs.size) by subst eY;exact hm _ _ _ _)
   IY T' hst1 (fY λb hb=>(hf3 b hb).1) lp ?_
  ·rw[pP,pW,pA,pE] at go
   exact go
  ·intro σ' H2 s1 I1 q
   have IX:Inv X pins σ H2 s1:=by
    subst eY
    refine I3.call' (ch:=fp) I1.os I1.base I1.hok I1.bare λb hb=>?_
    obtain⟨_,f1,_,f3,f4,f5⟩:=hf3 b hb
    exact⟨f3,f1,f4,f5⟩
   have hL:H2 s3.heap.objs.size=none:=by
    have z:=I1.free
    rw[pE] at z
    exact z
   obtain⟨m,hm,_⟩:=I1.loc
   rw[pE] at hm
   exact fin s.heap.objs.size s3.heap.objs.size H2 s1 m IX (I3.fpOk (Xzn _) hL) hm q
 have lp:=loop _ rfl
 have T1:=T.self
 subst e3
 exact Xmd cm hcl rfl lp (T1 X.A 0 _ _ _ hst1 lp)
structure AccA (X:Cx) (newAcc:Sem Value) (ob:Obj) (o1:Addr->HO):Prop where
 new:∀(s:Shared) (Q:Value->Shared->Prop) (E':Value->Shared->Prop),Q (.ref s.heap.objs.size) {s with heap:=s.heap.push ob}->wpAny (model X.prog X.w) X.A newAcc Q E' s
 lay:∀pins σ H s,Inv X pins σ H s->Inv X pins σ (upd H s.heap.objs.size (o1 s.heap.objs.size)) {s with heap:=s.heap.push ob}
structure Acc (X:Cx) (newAcc:Sem Value) (ob:Obj) (o0:HO):Prop where
 new:∀(s:Shared) (Q:Value->Shared->Prop) (E':Value->Shared->Prop),Q (.ref s.heap.objs.size) {s with heap:=s.heap.push ob}->wpAny (model X.prog X.w) X.A newAcc Q E' s
 lay:∀pins σ H s,Inv X pins σ H s->Inv X pins σ (upd H s.heap.objs.size o0) {s with heap:=s.heap.push ob}
theorem Xf4:Acc X (newList []) {cls:=.type "list",data:=.seq ([]:List Value).toArray} (.lst []):=⟨λs Q E' h=>wpAny_newObj_type h,λpins σ H s I=>I.lnew (t':=s.toks) .nil (X0m _)⟩
theorem Xrx:Acc X newDict {cls:=.type "dict",data:=.dict #[]} (.dK []):=⟨λs Q E' h=>wpAny_newObj_type h,λpins σ H s I=>I.laid (a:=s.heap.objs.size) (o:=.dK []) (t':=s.toks) (λ_ _ q=>X3t _ q) (Xzn _) (Xh6 s.heap I.big)⟩
def Xo8 (cap:List (Option Nat)) (o0:Addr->HO) (wi:TI) (g:TG) (tt:TT) (tm:Addr->TM):TE:=fun σ H Q=>wi σ H λJ H1=>Xuw cap o0 g tt tm J σ H1 λD H2=>Q (.ref D) H2
theorem Xme{wi:TI}{pos:Pos}{gens:List Comprehension}(ac:AccA X newAcc ob o1)(he:eval e X.env=comprehension e scope X.env pos newAcc false (eval iter X.env))(hcls:clausesOf e=⟨tg,iter,ifs,0⟩::gens)
  (C:CompScope X N cap scope) (hcalm:X.calm=true) (cm:Cm e) (hi:PI X tg iter wi)
  (heq:∀it D env,compTurn e 0 it (.ref D) env=Xex e 0 tg iter ifs (act D env) it (.ref D) env)
  (hg:∀s0 H0 ex,PG (X.comp N scope s0 H0 ex) tg g) (ht:∀s0 H0 ex,PIfs (X.comp N scope s0 H0 ex) ifs tt) (hm:∀D s0 H0 ex,PM (X.comp N scope s0 H0 ex) (act D (X.comp N scope s0 H0 ex).env) (tm D))
  (hs:∀x,foldedSetIterable iter X.env x=pure x):PE X e (Xo8 cap o1 wi g tt tm):=by
 intro pins s σ H Q I h
 rw[he]
 refine wpAny_comprehension_free (use:=none) hcls hs (Xl4 (Xfg C I.ok)) C.kind (λx hx hl=>by rw[C.uniq x hx,hl]) (thn (hi pins s σ H _ I h) λv s1 h1=>thn h1 λitv s2 h2=>?_)
 obtain⟨it,fp,tn,J,H2,ei,I2,T,st2,f2,R⟩:=h2
 subst ei
 refine Xg3 (RR:=λacc L=>compPost (model X.prog X.w) X.A X.xe none (EP X pins σ Q) acc L) C hcalm cm (by rw[hcls];rfl) ac.new ac.lay heq hg ht hm I2 T st2 f2 R ?_
 intro D L H' s' m I' fL hm q
 refine⟨m,hm,λh' hs'=>?_⟩
 obtain⟨f0,f1,_,f3,f4,f5⟩:=fL
 exact⟨.ref D,H',I'.turned (t':=s'.toks) (λb o hb e=>(hs'.2 b hb).trans e) f0 f1 f3 f4 f5,rfl,q⟩
def Xo9 (cap:List (Option Nat)) (o0:HO) (wi:TI) (g:TG) (tt:TT) (tm:Addr->TM):TE:=fun σ H Q=>wi σ H λJ H1=>Xxf cap o0 g tt tm J σ H1 λD H2=>Q (.ref D) H2
theorem Xid{wi:TI}{pos:Pos}{gens:List Comprehension}(ac:Acc X newAcc ob o0)(he:eval e X.env=comprehension e scope X.env pos newAcc false (eval iter X.env))(hcls:clausesOf e=⟨tg,iter,ifs,0⟩::gens)
  (C:CompScope X N cap scope) (hcalm:X.calm=true) (cm:Cm e) (hi:PI X tg iter wi)
  (heq:∀it D env,compTurn e 0 it (.ref D) env=Xex e 0 tg iter ifs (act D env) it (.ref D) env)
  (hg:∀s0 H0 ex,PG (X.comp N scope s0 H0 ex) tg g) (ht:∀s0 H0 ex,PIfs (X.comp N scope s0 H0 ex) ifs tt) (hm:∀D s0 H0 ex,PM (X.comp N scope s0 H0 ex) (act D (X.comp N scope s0 H0 ex).env) (tm D))
  (hs:∀x,foldedSetIterable iter X.env x=pure x):PE X e (Xo9 cap o0 wi g tt tm):=
 Xme (o1:=λ_=>o0) ⟨ac.new,ac.lay⟩ he hcls C hcalm cm hi heq hg ht hm hs
def Xpa (i:Nat) (cap:List (Option Nat)) (o0:HO) (wi:TI) (g:TG) (tt:TT) (tm:Addr->TM):TS:=λD σ H=>wi σ H λJ H1=>Xxf cap o0 g tt tm J σ H1 λl H2=>D.nx (σ.set i (some (.ref l))) H2
theorem Xmf{wi:TI}{i:Nat}{y:Str}{py spos cpos:Pos}{gens:List Comprehension}(ac:Acc X newAcc ob o0)(he:∀use,evalThenUse e X.env use=(do let _ <-comprehension e scope X.env cpos newAcc false (eval iter X.env) (some use)))(hcls:clausesOf e=⟨tg,iter,ifs,0⟩::gens)
  (C:CompScope X N cap scope) (hcalm:X.calm=true) (cm:Cm e) (hN:X.N.Nodup) (hiN:X.N[i]? = some y) (hy:X.env.scope.names.lookup y=some .local) (hi:PI X tg iter wi)
  (heq:∀it D env,compTurn e 0 it (.ref D) env=Xex e 0 tg iter ifs (act D env) it (.ref D) env)
  (hg:∀s0 H0 ex,PG (X.comp N scope s0 H0 ex) tg g) (ht:∀s0 H0 ex,PIfs (X.comp N scope s0 H0 ex) ifs tt) (hm:∀D s0 H0 ex,PM (X.comp N scope s0 H0 ex) (act D (X.comp N scope s0 H0 ex).env) (tm D))
  (hsw:swapsWith e (some (.Name y py)) spos.line X.env=pure true) (hs:∀x,foldedSetIterable iter X.env x=pure x):PS X (.Assign [.Name y py] e spos) (Xpa i cap o0 wi g tt tm):=by
 intro pins s σ H D I h
 rw[exec_Assign_Name_used _ _ _ _ hsw]
 refine X3j (wpAny_standAt (X3j ?_))
 rw[he]
 refine X3j (thn (wpAny_comprehension_free (use:=some (assign (.Name y py) X.env)) (Q:=λ_ s'=>SP X pins D .next s') hcls hs (Xl4 (Xfg C I.ok)) C.kind (λx hx hl=>by rw[C.uniq x hx,hl])
  (thn (hi pins s σ H _ I h) λv s1 h1=>thn h1 λitv s2 h2=>?_)) (λ_ s' hq=>X3k (X3k hq)))
 obtain⟨it,fp,tn,J,H2,ei,I2,T,st2,f2,R⟩:=h2
 subst ei
 refine Xg3 (o1:=λ_=>o0) (RR:=λacc L=>compPost (model X.prog X.w) X.A X.xe (some (assign (.Name y py) X.env)) (λ_ s'=>SP X pins D .next s') acc L) C hcalm cm (by rw[hcls];rfl) ac.new ac.lay heq hg ht hm I2 T st2 f2 R ?_
 intro l L H' s' m I' fL hm q
 obtain⟨f0,f1,_,f3,f4,f5⟩:=fL
 show wpAny _ X.A (assign (.Name y py) X.env (.ref l)) _ _ s'
 refine wpAny_assign_Name (Xix I' hN hiN (.inl hy) (show RelV (.ref l) (.ref l) from rfl) (λs3 I3 ⟨a,sb,ha⟩=>?_) (.inr hy))
 have hLa:L≠a:=by
  rcases ha with rfl | ha
  ·exact f1
  ·exact λz=>f4 y a ha z.symm
 refine⟨m,hm.sameBut sb hLa,λh' hs'=>?_⟩
 exact⟨_,H',I3.turned (t':=s3.toks) (λb o hb e=>(hs'.2 b hb).trans e) f0 f1 f3 f4 f5,q⟩
end
def act2 (elt tg iter tg2 iter2:Expr) (ifs ifs2:List Expr) (scope:Scope) (pos:Pos) (D:Addr) (env:Env):Sem Unit:=do
      let x <-eval iter2 env
      standAt iter2.pos
      let x <-foldedSetIterable iter2 env x
      let _ <-runOwn (.compStart (.ListComp elt [⟨tg,iter,ifs,0⟩,⟨tg2,iter2,ifs2,0⟩] scope pos) 1 (<-holding [x] (pyIter x)) (.ref D) env) env
theorem Xjv(elt tg iter tg2 iter2:Expr)(ifs ifs2:List Expr)(scope:Scope)(pos:Pos)(it:Value)(D:Addr)(env:Env):
  compTurn (.ListComp elt [⟨tg,iter,ifs,0⟩,⟨tg2,iter2,ifs2,0⟩] scope pos) 0 it (.ref D) env=Xex (.ListComp elt [⟨tg,iter,ifs,0⟩,⟨tg2,iter2,ifs2,0⟩] scope pos) 0 tg iter ifs (act2 elt tg iter tg2 iter2 ifs ifs2 scope pos D env) it (.ref D) env:=by
 unfold compTurn Xex act2
 dsimp only
 simp only[List.getElem?_cons_zero,List.getElem?_cons_succ,bind_assoc,pure_bind]
 simp
 rfl
section
variable {X:Cx}{N:List Str}{cap:List (Option Nat)}{scope:Scope}{tg iter tg2 iter2 elt kx vx:Expr}{ifs ifs2:List Expr}{g g2:TG}{tt tt2:TT}{te tk tv:TE}{wi wi2:TI}{pos:Pos}
theorem Xbu(C:CompScope X N cap scope)(hcalm:X.calm=true)(hi:PI X tg iter wi)
  (hg:∀s0 H0 ex,PG (X.comp N scope s0 H0 ex) tg g) (ht:∀s0 H0 ex,PIfs (X.comp N scope s0 H0 ex) ifs tt) (he:∀s0 H0 ex,PE (X.comp N scope s0 H0 ex) elt te)
  (hs:∀x,foldedSetIterable iter X.env x=pure x:=by intro _;rfl):PE X (.ListComp elt [⟨tg,iter,ifs,0⟩] scope pos) (Xy3 cap wi g tt te):=
 Xid (act := fun D env => do let _ <- call (.builtin "list.append") [.ref D, <- eval elt env]) Xf4 rfl rfl C hcalm Xg2 hi (fun it D env => rfl) hg ht (fun D s0 H0 ex => Xic (he s0 H0 ex)) hs
theorem Xg4{i:Nat}{y:Str}{py spos:Pos}(C:CompScope X N cap scope)(hcalm:X.calm=true)(hN:X.N.Nodup)(hiN:X.N[i]? = some y)(hy:X.env.scope.names.lookup y=some .local)(hi:PI X tg iter wi)
  (hg:∀s0 H0 ex,PG (X.comp N scope s0 H0 ex) tg g) (ht:∀s0 H0 ex,PIfs (X.comp N scope s0 H0 ex) ifs tt) (he:∀s0 H0 ex,PE (X.comp N scope s0 H0 ex) elt te)
  (hsw:swapsWith (.ListComp elt [⟨tg,iter,ifs,0⟩] scope pos) (some (.Name y py)) spos.line X.env=pure true:=by rfl)
  (hs:∀x,foldedSetIterable iter X.env x=pure x:=by intro _;rfl):PS X (.Assign [.Name y py] (.ListComp elt [⟨tg,iter,ifs,0⟩] scope pos) spos) (Xw0 i cap wi g tt te):=
 Xmf (act := fun D env => do let _ <- call (.builtin "list.append") [.ref D, <- eval elt env]) Xf4 (fun use => rfl) rfl C hcalm Xg2 hN hiN hy hi (fun it D env => rfl) hg ht (fun D s0 H0 ex => Xic (he s0 H0 ex)) hsw hs
theorem Xie(C:CompScope X N cap scope)(hcalm:X.calm=true)(hi:PI X tg iter wi)
  (hg:∀s0 H0 ex,PG (X.comp N scope s0 H0 ex) tg g) (ht:∀s0 H0 ex,PIfs (X.comp N scope s0 H0 ex) ifs tt) (hk:∀s0 H0 ex,PE (X.comp N scope s0 H0 ex) kx tk) (hv:∀s0 H0 ex,PE (X.comp N scope s0 H0 ex) vx tv)
  (hs:∀x,foldedSetIterable iter X.env x=pure x:=by intro _;rfl):PE X (.DictComp kx vx [⟨tg,iter,ifs,0⟩] scope pos) (Xo9 cap (.dK []) wi g tt (Xxd tk tv)):=
 Xid Xrx rfl rfl C hcalm Xuu hi (λit D env=>compTurn_dict kx vx tg iter ifs scope pos it D env) hg ht (λD s0 H0 ex=>Xuv (hk s0 H0 ex) (hv s0 H0 ex)) hs
theorem Xry(C:CompScope X N cap scope)(hcalm:X.calm=true)(hi:PI X tg iter wi)
  (hg:∀s0 H0 ex,PG (X.comp N scope s0 H0 ex) tg g) (ht:∀s0 H0 ex,PIfs (X.comp N scope s0 H0 ex) ifs tt)
  (hi2:∀s0 H0 ex,PI (X.comp N scope s0 H0 ex) tg2 iter2 wi2) (hg2:∀s0 H0 ex,PG (X.comp N scope s0 H0 ex) tg2 g2) (ht2:∀s0 H0 ex,PIfs (X.comp N scope s0 H0 ex) ifs2 tt2) (he:∀s0 H0 ex,PE (X.comp N scope s0 H0 ex) elt te)
  (hs:∀x,foldedSetIterable iter X.env x=pure x:=by intro _;rfl) (hs2:∀s0 H0 ex x,foldedSetIterable iter2 (X.comp N scope s0 H0 ex).env x=pure x:=by intro _ _ _ _;rfl):
  PE X (.ListComp elt [⟨tg,iter,ifs,0⟩,⟨tg2,iter2,ifs2,0⟩] scope pos) (Xo9 cap (.lst []) wi g tt λD=>mFor wi2 g2 tt2 (Xrw te D)):=
 Xid (act:=λD env=>act2 elt tg iter tg2 iter2 ifs ifs2 scope pos D env) Xf4 rfl rfl C hcalm Xg2 hi (λit D env=>Xjv ..) hg ht (λD s0 H0 ex=>Xxe (Y:=X.comp N scope s0 H0 ex) (e:=.ListComp elt [⟨tg,iter,ifs,0⟩,⟨tg2,iter2,ifs2,0⟩] scope pos) (d:=1) Xg2 rfl hcalm rfl (λit=>rfl) (hi2 s0 H0 ex) (hg2 s0 H0 ex) (ht2 s0 H0 ex) (Xic (he s0 H0 ex)) (hs2 s0 H0 ex)) hs
end
mutual
def DAt (H:Hp):PyData->V->Prop
 | .none,v=>v = .non
 | .bool b,v=>v = .bl b
 | .int i,v=>v = .int i
 | .str x,v=>v = .str x
 | .list ds,v=>∃p xs,v = .ref p/\H p=some (.lst xs)/\DAll H ds xs
 | .tuple ds,v=>∃p xs,v = .ref p/\H p=some (.tup xs)/\DAll H ds xs
 | .dict _,_=>False
def DAll (H:Hp):List PyData->List V->Prop
 | [],vs=>vs=[]
 | d::ds,vs=>∃v r,vs=v::r/\DAt H d v/\DAll H ds r
end
mutual
theorem DAt.same{H H':Hp}(s:Same H H'):∀(d:PyData) (v:V),DAt H d v->DAt H' d v
 | .none,v,h=>by unfold DAt at h ⊢; exact h
 | .bool b,v,h=>by unfold DAt at h ⊢; exact h
 | .int i,v,h=>by unfold DAt at h ⊢; exact h
 | .str x,v,h=>by unfold DAt at h ⊢; exact h
 | .list ds,v,h=>by
  unfold DAt at h ⊢
  obtain⟨p,xs,h1,h2,h3⟩:=h
  exact⟨p,xs,h1,s _ _ h2,DAll.same s ds xs h3⟩
 | .tuple ds,v,h=>by
  unfold DAt at h ⊢
  obtain⟨p,xs,h1,h2,h3⟩:=h
  exact⟨p,xs,h1,s _ _ h2,DAll.same s ds xs h3⟩
 | .dict _,v,h=>by unfold DAt at h;exact h.elim
theorem DAll.same{H H':Hp}(s:Same H H'):∀(ds:List PyData) (vs:List V),DAll H ds vs->DAll H' ds vs
 | [],vs,h=>by unfold DAll at h ⊢; exact h
 | d::ds,vs,h=>by
  unfold DAll at h ⊢
  obtain⟨v,r,h1,h2,h3⟩:=h
  exact⟨v,r,h1,DAt.same s d v h2,DAll.same s ds r h3⟩
end
theorem Xct{H:Hp}:DAll H [] []:=by unfold DAll;rfl
theorem Xey{H:Hp}{d:PyData}{ds:List PyData}{v:V}{vs:List V}(h:DAt H d v)(hs:DAll H ds vs):DAll H (d::ds) (v::vs):=by unfold DAll;exact⟨v,vs,rfl,h,hs⟩
theorem Xez{H:Hp}{d:PyData}{v:V}:∀{ds:List PyData} {vs:List V},DAll H ds vs->DAt H d v->DAll H (ds++[d]) (vs++[v])
 | [],vs,h,hd=>by
  unfold DAll at h
  subst h
  exact Xey hd Xct
 | e::ds,vs,h,hd=>by
  unfold DAll at h
  obtain⟨u,r,rfl,h2,h3⟩:=h
  exact Xey h2 (Xez h3 hd)
theorem Xd1{H:Hp}:∀{ds:List PyData} {vs:List V},DAll H ds vs->vs.length=ds.length
 | [],vs,h=>by unfold DAll at h;subst h;rfl
 | e::ds,vs,h=>by
  unfold DAll at h
  obtain⟨u,r,rfl,h2,h3⟩:=h
  rw[Xz6,Xz6,Xd1 h3]
theorem Xif{H:Hp}:∀{ds:List PyData} {vs:List V} {i:Nat} {d:PyData},DAll H ds vs->ds[i]? = some d->∃v,vs[i]? = some v/\DAt H d v
 | [],vs,i,d,h,e=>by simp at e
 | c::ds,vs,0,d,h,e=>by
  unfold DAll at h
  obtain⟨u,r,rfl,h2,h3⟩:=h
  simp at e
  subst e
  exact⟨u,rfl,h2⟩
 | c::ds,vs,i+1,d,h,e=>by
  unfold DAll at h
  obtain⟨u,r,rfl,h2,h3⟩:=h
  simpa using Xif h3 (by simpa using e)
theorem Xcn{H:Hp}(row:List Str):DAll H (row.map PyData.str) (row.map V.str):=by
 induction row with
 | nil=>exact Xct
 | cons x r ih=>exact Xey (by unfold DAt;rfl) ih
theorem Xpb{H:Hp}(row:List Int):DAll H (row.map PyData.int) (row.map V.int):=by
 induction row with
 | nil=>exact Xct
 | cons x r ih=>exact Xey (by unfold DAt;rfl) ih
theorem Xk0{H:Hp}{ds:List PyData}{p:Addr}{xs:List V}(h:H p=some (.tup xs))(hs:DAll H ds xs):DAt H (.tuple ds) (.ref p):=by unfold DAt;exact⟨p,xs,rfl,h,hs⟩
theorem Xdu{H:Hp}{ds:List PyData}{p:Addr}{xs:List V}(h:H p=some (.lst xs))(hs:DAll H ds xs):DAt H (.list ds) (.ref p):=by unfold DAt;exact⟨p,xs,rfl,h,hs⟩
theorem Xpc{H:Hp}{ds:List PyData}{v:V}(h:DAt H (.tuple ds) v):∃p xs,v = .ref p/\H p=some (.tup xs)/\DAll H ds xs:=by unfold DAt at h;exact h
section
variable {X:Cx}{pins:List (Addr×Obj)}{σ:St}{H:Hp}{s:Shared}
mutual
theorem Xcl(I:Inv X pins σ H s):∀(d:PyData) (v:V) (u:Value),DAt H d v->RelV v u->∃as,Reads s.heap u d as
 | .none,v,u,h,r=>by unfold DAt at h;subst h;cases r;exact⟨_,.none⟩
 | .bool b,v,u,h,r=>by unfold DAt at h;subst h;cases r;exact⟨_,.bool b⟩
 | .int i,v,u,h,r=>by unfold DAt at h;subst h;obtain⟨t,rfl⟩:=r;exact⟨_,.int i t⟩
 | .str x,v,u,h,r=>by unfold DAt at h;subst h;obtain⟨t,rfl⟩:=r;exact⟨_,.str x t⟩
 | .list ds,v,u,h,r=>by
  unfold DAt at h
  obtain⟨p,xs,rfl,hp,hs⟩:=h
  cases r
  obtain⟨its,rv,pl,hz⟩:=I.list (SqL.of (K:=X.K) hp)
  obtain⟨as,ra⟩:=Xef I ds xs its hs rv
  obtain⟨o,ho,hc,n,hd⟩:=pl.isList
  exact⟨_,.list ho hc hd (by simpa using ra)⟩
 | .tuple ds,v,u,h,r=>by
  unfold DAt at h
  obtain⟨p,xs,rfl,hp,hs⟩:=h
  cases r
  obtain⟨its,rv,pl,hz⟩:=I.tuple (SqT.of (K:=X.K) hp)
  obtain⟨as,ra⟩:=Xef I ds xs its hs rv
  obtain⟨o,ho,hc,n,hd⟩:=pl
  exact⟨_,.tuple ho hc hd (by simpa using ra)⟩
 | .dict _,v,u,h,r=>by unfold DAt at h;exact h.elim
theorem Xef(I:Inv X pins σ H s):∀(ds:List PyData) (vs:List V) (us:List Value),DAll H ds vs->Vals vs us->∃as,ReadsAll s.heap us ds as
 | [],vs,us,h,r=>by unfold DAll at h;subst h;cases r;exact⟨_,.nil⟩
 | d::ds,vs,us,h,r=>by
  unfold DAll at h
  obtain⟨v,vr,rfl,h1,h2⟩:=h
  cases r with
  | cons r1 r2=>
   obtain⟨a1,q1⟩:=Xcl I d v _ h1 r1
   obtain⟨a2,q2⟩:=Xef I ds vr _ h2 r2
   exact⟨_,.cons q1 q2⟩
end
theorem Xjw(hu:X.A.units+3<cLine):OpR X (compareOp .Eq) (λx y H Q=>∃d d',DAt H d x/\DAt H d' y/\d.canLay0=true/\d'.canLay0=true/\min d.depth d'.depth<=3/\Q (.bl (PyData.eqv d d')) H):=by
 intro pins s σ H x y v u Q I rx ry h
 obtain⟨d,d',h1,h2,c1,c2,hd,q⟩:=h
 obtain⟨as,ra⟩:=Xcl I d x v h1 rx
 obtain⟨bs,rb⟩:=Xcl I d' y u h2 ry
 exact SeqAt.compareEq_reads ra rb c1 c2 (by omega) ⟨.bl _,H,I,rfl,q⟩
theorem Xjx(hu:X.A.units+3<cLine):OpR X (compareOp .NotEq) (λx y H Q=>∃d d',DAt H d x/\DAt H d' y/\d.canLay0=true/\d'.canLay0=true/\min d.depth d'.depth<=3/\Q (.bl (!PyData.eqv d d')) H):=by
 intro pins s σ H x y v u Q I rx ry h
 obtain⟨d,d',h1,h2,c1,c2,hd,q⟩:=h
 obtain⟨as,ra⟩:=Xcl I d x v h1 rx
 obtain⟨bs,rb⟩:=Xcl I d' y u h2 ry
 exact SeqAt.compareNe_reads ra rb c1 c2 (by omega) ⟨.bl _,H,I,rfl,q⟩
theorem Xpd(hu:X.A.units+4<cLine):OpR X (compareOp .In) (λx y H Q=>∃d ds,DAt H d x/\DAt H (.list ds) y/\d.canLay0=true/\PyData.canLayAll0 ds=true/\d.depth<=3/\Q (.bl (ds.any λe=>PyData.eqv e d)) H):=by
 intro pins s σ H x y v u Q I rx ry h
 obtain⟨d,ds,h1,h2,c1,c2,hd,q⟩:=h
 obtain⟨as,ra⟩:=Xcl I d x v h1 rx
 obtain⟨bs,rb⟩:=Xcl I (.list ds) y u h2 ry
 exact SeqAt.in_list_reads rb ra c2 c1 (by omega) ⟨.bl _,H,I,rfl,q⟩
end
mutual
def Xce:PyData->Bool
 | .none | .int _=>true
 | .str x=>PyData.strOk x
 | .list xs | .tuple xs=>Xbx xs
 | .bool _ | .dict _=>false
def Xbx:List PyData->Bool
 | []=>true
 | x::xs=>Xce x&&Xbx xs
end
mutual
theorem Xas:∀d:PyData,Xce d=true->d.canLay0=true
 | .none,_=>rfl
 | .int _,_=>rfl
 | .str x,h=>h
 | .list xs,h=>Xbp xs h
 | .tuple xs,h=>Xbp xs h
 | .bool _,h=>nomatch h
 | .dict _,h=>nomatch h
theorem Xbp:∀ds:List PyData,Xbx ds=true->PyData.canLayAll0 ds=true
 | [],_=>rfl
 | d::ds,h=>by
  have h':(Xce d&&Xbx ds)=true:=h
  rw[Xz2] at h'
  show (d.canLay0&&PyData.canLayAll0 ds)=true
  rw[Xas d h'.1,Xbp ds h'.2]
  rfl
end
mutual
theorem Xg5:∀(d d':PyData),Xce d=true->Xce d'=true->(PyData.eqv d d'=true↔d=d')
 | .none,d',_,h=>by cases d'<;>simp[PyData.eqv]
 | .int i,d',_,h=>by cases d'<;>simp_all [PyData.eqv,Xce]
 | .str x,d',_,h=>by cases d'<;>simp_all [PyData.eqv,Xce]
 | .list xs,d',g,h=>by
  cases d' with
  | list ys=>
   have:=Xfk xs ys g h
   simp only[PyData.eqv,this,PyData.list.injEq]
  | _=>simp[PyData.eqv]
 | .tuple xs,d',g,h=>by
  cases d' with
  | tuple ys=>
   have:=Xfk xs ys g h
   simp only[PyData.eqv,this,PyData.tuple.injEq]
  | _=>simp[PyData.eqv]
 | .bool _,_,g,_=>nomatch g
 | .dict _,_,g,_=>nomatch g
theorem Xfk:∀(xs ys:List PyData),Xbx xs=true->Xbx ys=true->(PyData.eqvAll xs ys=true↔xs=ys)
 | [],[],_,_=>by simp[PyData.eqvAll]
 | [],_::_,_,_=>by simp[PyData.eqvAll]
 | _::_,[],_,_=>by simp[PyData.eqvAll]
 | x::xs,y::ys,g,h=>by
  have g':(Xce x&&Xbx xs)=true:=g
  have h':(Xce y&&Xbx ys)=true:=h
  rw[Xz2] at g' h'
  have e1:=Xg5 x y g'.1 h'.1
  have e2:=Xfk xs ys g'.2 h'.2
  simp only[PyData.eqvAll,Xz2,e1,e2,List.cons.injEq]
end
theorem Xpe{α : Type}[DecidableEq α](f : α->PyData)(inj:∀a b,f a=f b->a=b)(a b : α)(ha:Xce (f a)=true)(hb:Xce (f b)=true):PyData.eqv (f a) (f b)=decide (a=b):=by
 rw[X0y,Xg5 _ _ ha hb,decide_eq_true_eq]
 exact⟨inj a b,λe=>by rw[e]⟩
theorem plainAll_map{α : Type}(f : α->PyData):∀(xs:List α),(∀x∈xs,Xce (f x)=true)->Xbx (xs.map f)=true
 | [],_=>rfl
 | x::xs,h=>by
  show (Xce (f x)&&Xbx (xs.map f))=true
  rw[h x Xzr,plainAll_map f xs λy hy=>h y (Xzq _ hy)]
  rfl
section
variable {X:Cx}{tg:Expr}
def Xxg (tl:TE):TI:=fun σ H R=>tl σ H λx H1=>∃d kvs,x = .ref d/\((H1 d=some (.dK kvs)/\∀o,R (Itd d o kvs) (upd H1 d (.frz o (.dK kvs)))) \/ ∃o,H1 d=some (.frz o (.dK kvs))/\R (Itd d o kvs) H1)
theorem Xd2{l:Expr}{tl:TE}(hl:PE X l tl):PI X tg l (Xxg tl):=by
 intro pins s σ H R I h
 refine thn (hl pins s σ H _ I h) λv s1 ⟨x,H1,I1,r1,q1⟩=>?_
 obtain⟨d,kvs,e,q⟩:=q1
 subst e
 cases r1
 rcases q with ⟨hH,q⟩ | ⟨o,hH,q⟩
 ·obtain⟨hz,hm,vs,rv,o,es,ep,ho,hex,hd,r⟩:=I1.hok d _ hH
  have hlen:kvs.length=vs.length:=Paired.length rv
  refine wpAny_pyIter_dict (knd:=Xau X.prog X.w) hm ⟨o,es,ho,hex,hd,r⟩ ?_
  have I2:=I1.freeze hH ho
  refine⟨s1.heap.objs.size,[s1.heap.objs.size],_,_,_,rfl,I2.kept (t':=s1.toks) λb o e=>X3t _ e,Xgu d _ o es ep hd kvs (Xzv (X3s ho)),⟨_,Heap.get?_push_size _ rfl,rfl,by rw[hlen];rfl⟩,λb hb=>?_,q o⟩
  have e:b=s1.heap.objs.size:=by simpa using hb
  subst e
  exact I2.fpOk (Xzn _) (I2.hok.fresh (Xzn _))
 ·obtain⟨ho',hok⟩:=(show Xbh X.prog X.w H1 s1.heap d (.frz o (.dK kvs)) from I1.hok d _ hH)
  obtain⟨hz,hm,vs,rv,o',es,ep,ho,hex,hd,r⟩:=hok
  have eo:o'=o:=by rw[ho'] at ho;exact(Xz3 ho).symm
  subst eo
  have hlen:kvs.length=vs.length:=Paired.length rv
  refine wpAny_pyIter_dict (knd:=Xau X.prog X.w) hm ⟨o',es,ho,hex,hd,r⟩ ?_
  refine⟨s1.heap.objs.size,[s1.heap.objs.size],_,_,_,rfl,I1.kept (t':=s1.toks) λb o e=>X3t _ e,Xgu d _ o' es ep hd kvs (Xzv (X3s ho)),⟨_,Heap.get?_push_size _ rfl,rfl,by rw[hlen];rfl⟩,λb hb=>?_,q⟩
  have e:b=s1.heap.objs.size:=by simpa using hb
  subst e
  exact I1.fpOk (Xzn _) (I1.hok.fresh (Xzn _))
end
def hid (D:Addr) (H:Hp):Hp:=λb=>if b=D then none else H b
theorem Xd3(D:Addr)(H:Hp):Same (hid D H) H:=λb o e=>by
 unfold hid at e
 split at e
 ·cases e
 ·exact e
theorem Xpf(D:Addr)(H:Hp)(o:HO):hid D (upd H D o)=hid D H:=by
 funext b
 unfold hid
 split
 ·rfl
 ·rename_i h
  rw[Xae h]
theorem Xe0{D:Addr}{H H':Hp}(s:Same H H'):Same (hid D H) (hid D H'):=λb o e=>by
 unfold hid at e ⊢
 split at e
 ·cases e
 ·rename_i h
  rw[X3m h]
  exact s b o e
theorem Xfw{D b:Addr}{H:Hp}{o:HO}(h:H b=some o)(n:b≠D):hid D H b=some o:=by
 unfold hid
 rw[X3m n]
 exact h
theorem Xpg{D p:Addr}{H:Hp}{o:HO}{ds:List PyData}{xs:List V}(hD:H D=some o)(np:H p=none)(h:DAll (hid D (upd H p (.tup xs))) ds xs):DAt (hid D (upd H p (.tup xs))) (.tuple ds) (.ref p):=
 Xk0 (Xfw Xab (Xag hD np).symm) h
section
variable {tt:TT}{te:TE}{J:It}{σ:St}{H0 H1:Hp}{D:Addr}{F:St->Hp->Prop}{j:Nat}{xs0:List V}
theorem Xph(n:Nat)(vs:Nat->V)(ok:Nat->Bool)(dat:Nat->PyData)(acc:List PyData)(hH:H0 D=none)(s0:Same H0 H1)(hxs:H1 D=some (.lst xs0))(hall:DAll (hid D H1) acc xs0)(hbd:acc.length+n<sizeLine)
  (hgo:∀i H2,i<n->Same H0 H2->J.go i H2/\∀x H3,J.yld i H2 x H3->H3=H2/\x=vs i)
  (hst:∀H2,Same H0 H2->J.stop n H2)
  (tst:∀(i:Nat) H2 Q,i<n->Same H0 H2->(∀H',Same H2 H'->Q (ok i) H')->tt (σ.set j (some (vs i))) H2 Q)
  (step:∀(i:Nat) xs H2 Q,i<n->ok i=true->Same H0 H2->H2 D=some (.lst xs)->(∀v H',Same H2 H'->DAt (hid D H') (dat i) v->Q v H')->te (σ.set j (some (vs i))) H2 Q)
  (fin:∀σ' H2 xs,(∀v, σ'.set j v = σ.set j v)->Same H0 H2->H2 D=some (.lst xs)->DAll (hid D H2) (acc++((List.range n).filter ok).map dat) xs->F σ' H2):
  tLp (Xbm j) tt (Xrw te D) J σ H1 F:=by
 refine⟨wN n λi σ2 H2=>(∀v, σ2.set j v = σ.set j v)/\Same H0 H2/\∃xs,H2 D=some (.lst xs)/\DAll (hid D H2) (acc++((List.range i).filter ok).map dat) xs,⟨n,by simp,X0m _,λ_=>rfl,s0,xs0,hxs,by simpa using hall⟩,?_⟩
 rintro i m σ1 H2 ⟨rfl,hi,e,s2,xs,hD,hal⟩
 by_cases hlt:i<n
 ·obtain⟨h1,h2⟩:=hgo i H2 hlt s2
  refine .inr ⟨h1,λx H3 y=>?_⟩
  obtain⟨e1,e2⟩:=h2 x H3 y
  subst e1 e2
  show tt (σ1.set j (some (vs i))) H3 _
  rw[e]
  refine tst i H3 _ hlt s2 λH4 s4=>?_
  have s04:=s2.trans s4
  have hD4:=s4 _ _ hD
  have hal4:=DAll.same (Xe0 (D:=D) s4) _ _ hal
  have hss:∀v,(σ.set j (some (vs i))).set j v = σ.set j v:=λv=>by rw[X2s]
  have hl:xs.length<=acc.length+i:=by
   rw[Xd1 hal,Xzx,Xzl]
   have:((List.range i).filter ok).length<=i:=X0d (X0e ..) (by rw[X0j];omega)
   omega
  refine ite2b (λhk=>?_) (λhk=>?_)
  ·show te (σ.set j (some (vs i))) H4 _
   refine step i xs H4 _ hlt hk s04 hD4 λv H5 s5 hv=>?_
   refine⟨xs,s5 _ _ hD4,by omega,?_⟩
   refine wskip hlt ⟨hss,λb u e'=>?_,xs++[v],Xab,?_⟩
   ·rw[Xae (Xag e' hH)]
    exact s5 _ _ (s04 b u e')
   ·rw[Xpf,X0u,Xz5,Xzu,<-X17]
    simp only[X0p,hk,if_true,X20,Xz9,X3h]
    exact Xez (DAll.same (Xe0 (D:=D) s5) _ _ hal4) hv
  ·refine wskip hlt ⟨hss,s04,xs,hD4,?_⟩
   rw[X0u,Xz5]
   simpa [hk] using hal4
 ·have ei:i=n:=by omega
  subst ei
  exact .inl ⟨hst H2 s2,fin σ1 H2 xs e s2 hD hal⟩
theorem Xxh{tm:TM}(n:Nat)(vs:Nat->V)(acc:Nat->List PyData)(hH:H0 D=none)(s0:Same H0 H1)(hxs:H1 D=some (.lst xs0))(hall:DAll (hid D H1) (acc 0) xs0)(Eσ:St->Prop)(hE:Eσ σ)
  (hgo:∀i H2,i<n->Same H0 H2->J.go i H2/\∀x H3,J.yld i H2 x H3->H3=H2/\x=vs i)
  (hst:∀H2,Same H0 H2->J.stop n H2)
  (step:∀(i:Nat) σ1 xs H2 (Q:St->Hp->Prop),i<n->Eσ σ1->Same H0 H2->H2 D=some (.lst xs)->DAll (hid D H2) (acc i) xs->(∀σ' H' xs',Eσ σ'->Same H0 H'->H' D=some (.lst xs')->DAll (hid D H') (acc (i+1)) xs'->Q σ' H')->tm (σ1.set j (some (vs i))) H2 Q)
  (fin:∀σ' H2 xs,Same H0 H2->H2 D=some (.lst xs)->DAll (hid D H2) (acc n) xs->F σ' H2):
  tLp (Xbm j) tYes tm J σ H1 F:=by
 refine⟨wN n λi σ2 H2=>Eσ σ2/\Same H0 H2/\∃xs,H2 D=some (.lst xs)/\DAll (hid D H2) (acc i) xs,⟨n,by simp,X0m _,hE,s0,xs0,hxs,hall⟩,?_⟩
 rintro i m σ1 H2 ⟨rfl,hi,e,s2,xs,hD,hal⟩
 by_cases hlt:i<n
 ·obtain⟨h1,h2⟩:=hgo i H2 hlt s2
  refine .inr ⟨h1,λx H3 y=>?_⟩
  obtain⟨e1,e2⟩:=h2 x H3 y
  subst e1 e2
  unfold Xbm tYes
  dsimp only
  rw[X3n rfl]
  exact step i σ1 xs H3 _ hlt e s2 hD hal fun σ' H' xs' e' s' hD' hal'=>wskip hlt ⟨e',s',xs',hD',hal'⟩
 ·have ei:i=n:=by omega
  subst ei
  exact .inl ⟨hst H2 s2,fin σ1 H2 xs s2 hD hal⟩
end
section
variable {X:Cx}{pos np hpos:Pos}{body:List Stmt}{b0:Stmt}{suite:List Stmt}{x:Str}{Cc:Addr}{tb:(Addr->St->Hp->Prop)->TS}{th:TS}
def Xy8 (K:PySem.W.Frag) (Cc:Addr) (tb:(Addr->St->Hp->Prop)->TS) (th:TS):TS:=λD σ H=>∃R:Addr->St->Hp->Prop,tb R D σ H/\∀C σ1 H1,R C σ1 H1->PySem.W.exmOne K (.ref C) (.ref Cc)=some true/\th D σ1 H1
theorem Xux(hst:X.stack=X.env::X.outer)(hfr:X.env.frame=some X.env.locals)(hg:Gl X x)(hm:X.mg x=some (.ref Cc))
  (hb:∀pn R,PSs (X.tryC pn R) body (tb R)) (hh:∀pn ex,PSs (X.suite pn ex) (b0::suite) th) (hdb:(x==("__debug__" : Str))=false:=by decide):
  PS X (.Try body [.ExceptHandler (some (.Name x np)) none (b0::suite) hpos] [] [] pos) (Xy8 X.K Cc tb th):=by
 intro pins s σ H D I h
 obtain⟨R,hbd,hcx⟩:=h
 have hsubs:∀p∈X.pn++pins++[],p∈X.pn++pins:=λp hp=>by simpa using hp
 have hsubs':∀p∈X.pn++pins,p∈X.pn++pins++[]:=λp hp=>by simpa using hp
 have I0:Inv (X.tryC (X.pn++pins) R) [] σ H s:=I.as I.ok.hd I.ok.frames hsubs
 refine wpAny_Try_except (wpAny_mono (hb (X.pn++pins) R [] s σ H D I0 hbd) (λfl s1 q=>?_) λe s1 q=>?_)
 ·have toX:∀{σ':St} {H':Hp},Inv (X.tryC (X.pn++pins) R) [] σ' H' s1->Inv X pins σ' H' s1:=λJ=>J.back I.ok hsubs'
  cases fl with
  | next=>
   obtain⟨σ',H',J,q⟩:=q
   exact wpAny_execs_nil ⟨σ',H',toX J,q⟩
  | brk=>
   obtain⟨σ',H',J,q⟩:=q
   exact⟨σ',H',toX J,q⟩
  | cont=>
   obtain⟨σ',H',J,q⟩:=q
   exact⟨σ',H',toX J,q⟩
  | ret u=>
   obtain⟨v, σ',H',J,r,q⟩:=q
   exact⟨v, σ',H',toX J,r,q⟩
 ·obtain⟨σ1,Hc,sc,Ic,ex,c,H1,B,a0,rfl,hos,hbare,F,C,hC,hR⟩:=q
  cases hC
  obtain⟨hx,hth⟩:=hcx c σ1 H1 hR
  have F':Flown X.prog X.w (X.env::X.outer) Hc sc.heap H1 ex c B a0 s1.heap:=by rw[<-hst];exact F
  have hfrm:X.A.frames=some (X.env::X.outer):=by rw[<-hst];exact I.ok.frames
  have step:∀(h5:Heap) (tk:Nat),B.StaysIn h5->s1.heap.UpToSlots h5->Inv (X.re (X.pn++pins) X.A X.calm λ_ _=>True) [] σ1 H1 {s1 with heap:=h5,toks:=tk}:=λh5 tk st up=>by
   obtain⟨un,hok,_⟩:=F'.move st up
   refine Ic.call' (ch:=[]) hos ?_ hok hbare (λb z=>absurd z (by simp))
   show Un (frs X.stack) [] Hc H1 sc.heap h5
   rw[hst]
   exact un
  refine wpAny_looks_onW (L:=X.env.locals) hfrm hfr F'.fly λh4 held up4=>?_
  refine wpAny_landsW held λh5 fl5 up5=>?_
  have I5:=step h5 s1.toks fl5.1 (up4.trans up5)
  have I5S:Inv (X.suite (X.pn++pins) ex) [] σ1 H1 {s1 with heap:=h5}:=Inv.as (X:=X.re (X.pn++pins) X.A X.calm λ_ _=>True) I5 (λz=>absurd z (by decide)) I.ok.frames (λp hp=>hp)
  have LT:PySem.W.Looks (model X.prog X.w) h5 (typeOf (.ref ex)) (.ref c):=by
   obtain⟨ob,hob,hobc⟩:=fl5.there
   rw[<-hobc]
   exact(PySem.W.Looks.ld hob).andThen .now
  refine wpAny_handleBy_cons (codeAny_handlers_test ?_) (by intro q;cases q)
  refine Xh4 (X:=X.suite (X.pn++pins) ex) I5S (show Gl (X.suite (X.pn++pins) ex) x from hg) hm ?_ hdb
  refine(PySem.W.exm_one (I5S.kIn) LT hx).here ?_
  refine codeAny_handlers_suite (lands_againW fl5 λh6 fl6 up6=>?_)
  have up16:=(up4.trans up5).trans up6
  have I6:=step h6 s1.toks fl6.1 up16
  have I6S:Inv (X.suite (X.pn++pins) ex) [] σ1 H1 {s1 with heap:=h6}:=Inv.as (X:=X.re (X.pn++pins) X.A X.calm λ_ _=>True) I6 (λz=>absurd z (by decide)) I.ok.frames (λp hp=>hp)
  refine wpAny_mono (hh (X.pn++pins) ex [] _ _ _ _ I6S hth) (λfl s9 q9=>?_) λ_ _ z=>z.elim
  have goes:∀{σ':St} {H':Hp},Inv (X.suite (X.pn++pins) ex) [] σ' H' s9->Inv X pins σ' H' s9:=λJ=>J.back I.ok hsubs'
  cases fl with
  | next=>
   obtain⟨σ',H',J,q⟩:=q9
   exact⟨σ',H',goes J,q⟩
  | brk=>
   obtain⟨σ',H',J,q⟩:=q9
   exact⟨σ',H',goes J,q⟩
  | cont=>
   obtain⟨σ',H',J,q⟩:=q9
   exact⟨σ',H',goes J,q⟩
  | ret u=>
   obtain⟨v, σ',H',J,r,q⟩:=q9
   exact⟨v, σ',H',goes J,r,q⟩
end
section
variable {X:Cx}
theorem Xmg:X.calm=true->Xda X (.builtin "any") (λxs H Q=>∃(a:Addr) (bs:List Bool),xs=[.ref a]/\H a=some (.lst (bs.map V.bl))/\Q (.bl (bs.any id)) H):=by
 intro hc pins s σ H xs us Q I r h
 obtain⟨a,bs,rfl,ha,q⟩:=h
 obtain⟨u,rfl,ru⟩:=vals1 r
 cases ru
 obtain⟨its,rv,p,hz⟩:=I.list (SqL.of ha)
 have hl:=rv.length
 rw[Xzl] at hl
 refine call_any_walk (wpAny_pyIter_list p.isList ?_)
 have hlt:a≠s.heap.objs.size:=by
  obtain⟨o,ho,_⟩:=p.isList
  exact Xzv (X3s ho)
 refine⟨s.heap.objs.size,_,_,_,_,_,λj=>bs.getD j false,rfl,Walks.list (A:=X.A.in1) (show X.A.in1.handled=none from I.ok.hd hc) s.heap.objs.size a hlt its.toArray,⟨⟨_,Heap.get?_push_size _ rfl,rfl,rfl⟩,p.isList.push _⟩,λi v s' Q' E' hP hQ=>?_,λh' tk k=>?_⟩
 ·have hv:its[i]? = some v:=by simpa using hP
  have hi:i<its.length:=(Xz7.mp hv).1
  have g:(bs.map V.bl)[i]? = some (.bl (bs[i]'(by omega))):=by
   rw[Xz4,Xzo (by omega)]
   rfl
  obtain⟨u,hu,ru⟩:=rv.get g
  rw[hv] at hu
  cases hu
  cases ru
  have e:bs.getD i false=bs[i]'(by omega):=by simp[List.getD,(by omega:i<bs.length)]
  have hQ':Q' (bs.getD i false) s':=hQ
  rw[e] at hQ'
  exact wpAny_truthy_bool hQ'
 ·refine⟨.bl (bs.any id),H,I.kept (t':=tk) λb o e=>k b o (λz=>?_) (X3t _ e),?_,q⟩
  ·have z':b=s.heap.objs.size:=by simpa using z
   exact absurd (X3s e) (by rw[z'];exact X0r _)
  ·show Value.bool _=Value.bool _
   congr 1
   rw[Xzp,<-hl]
   rw[X0y,X03,X03]
   constructor
   ·rintro ⟨j,hj,e⟩
    have hj':=X0l.mp hj
    refine⟨_,X0b hj',?_⟩
    simpa [List.getD,hj'] using e
   ·rintro ⟨b,hb,e⟩
    obtain⟨j,hj,rfl⟩:=X0q.mp hb
    exact⟨j,X0l.mpr hj,by simpa [List.getD,hj] using e⟩
def Xxi:V->List V->Hp->VK->Prop:=λx vs H Q=>∃l xs y,x = .ref l/\vs=[y]/\H l=some (.lst xs)/\Xdn y=true/\xs.all Xdn=true/\Q (.int (xs.countP λz=>eqV z y)) H
theorem Xhv{y:V}:∀{xs:List V} {its:List Value},Vals xs its->xs.all Xdn=true->its.countP (eqU y)=xs.countP λz=>eqV z y
 | _,_,.nil,_=>rfl
 | _,_,.cons (a:=a) (b:=b) r t,f=>by
  rw[List.all_cons,Xz2] at f
  rw[X0x,X0x,Xhv t f.2,Xom r f.1]
theorem Xrz:MtM X "list.count" Xxi:=by
 intro pins s σ H x vs v us Q I rx rv h
 obtain⟨l,xs,y,rfl,rfl,hH,fy,fs,q⟩:=h
 cases rx
 obtain⟨u,rfl,ru⟩:=rv.one
 obtain⟨z,its,n,r,hl,e⟩:=I.lstM hH
 refine call_meets F.slot_list_count ⟨_,e,rfl⟩ F.entry_list_count (F.args_list_count_2 _ _) (SeqAt.list_countAt l its.toArray n _ _ u (eqU y)) ⟨e,λw hw=>Xdy ru fy r fs w (by simpa using hw),?_⟩
 refine⟨.int _,H,I.tok _,⟨_,rfl⟩,?_⟩
 have e2:((its.toArray.toList.countP (eqU y):Nat):Int)=((xs.countP λz=>eqV z y:Nat):Int):=by rw[<-Xhv r fs]
 exact e2 ▸ q
theorem Xjy:Xda X (.builtin "sorted") (λxs H Q=>∃a ks,xs=[.ref a]/\H a=some (.lst (ks.map V.str))/\ks.length<64/\∀l,H l=none->Q (.ref l) (upd H l (.lst ((srt ks).map V.str)))):=by
 intro pins s σ H xs us Q I r h
 obtain⟨a,ks,rfl,ha,h64,q⟩:=h
 obtain⟨u,rfl,rx⟩:=vals1 r
 cases rx
 obtain⟨its,rv,pl,hz⟩:=I.list (SqL.of ha)
 have hl:=rv.length
 rw[Xzl] at hl
 refine sorted_strs pl.isList (Xc2 rv) (by omega) λout ss' h1 h2 h3=>?_
 obtain⟨e,he⟩:=sortedAll_at s.heap its out
 have es:ss'=srt ks:=Xgz h2 h3
 subst es
 have hf:H (s.heap.objs.size+1)=none:=I.hok.fresh (X05 _)
 refine⟨.ref (s.heap.objs.size+1),_,I.laid (t':=s.toks) (h':=sortedAll s.heap its out) (o:=.lst ((srt ks).map V.str)) (λb ob q=>sortedAll_old q) (X05 _) ?_,rfl,q _ hf⟩
 refine⟨by rw[Xzl,h2.length_eq,X3l];omega,out.toList,e,Xjm h1,?_⟩
 rw[he]
def Xxj:R2:=λx y H Q=>∃a b xs ys,x = .ref a/\y = .ref b/\H a=some (.tup xs)/\H b=some (.tup ys)/\xs.length+ys.length<=sizeLine/\∀p H',Same H H'->H' p=some (.tup (xs++ys))->Q (.ref p) H'
theorem Xr0:OpR X (binaryOp .Add) Xxj:=by
 intro pins s σ H x y v u Q I rx ry h
 obtain⟨a,b,xs,ys,rfl,rfl,ha,hb,hz,q⟩:=h
 by_cases hx:xs=[]
 ·subst hx
  cases rx
  cases ry
  obtain⟨its,r1,p1,_⟩:=I.tuple (SqT.of (K:=X.K) ha)
  obtain⟨its2,r2,p2,_⟩:=I.tuple (SqT.of (K:=X.K) hb)
  cases r1
  obtain⟨⟨cls,dd,data,sl⟩,ho,hc,n,hd⟩:=id p1
  obtain⟨⟨cls2,dd2,data2,sl2⟩,ho2,hc2,n2,hd2⟩:=id p2
  simp only at hc hd hc2 hd2
  subst hc hd hc2 hd2
  exact concat_meets ⟨_,ho,rfl⟩ ⟨_,ho2,rfl⟩ noFill_tuple_add seq_tuple_add PySem.F.slot_tuple_add PySem.F.entry_tuple_add (PySem.F.args_tuple_add_2 _ _)
   (tuple_addW0 a b _ _ n n2 dd dd2 sl sl2 (by simp)) ⟨ho,ho2,⟨.ref b,H,I,rfl,q b H (Same.refl H) hb⟩⟩
 ·refine Xuf pins s σ H (.ref a) (.ref b) v u Q I rx ry ⟨a,b,xs,ys,rfl,rfl,SqT.of ha,SqT.of hb,hx,hz,λhy=>?_,λhy p np=>?_⟩
  ·subst hy
   exact q a H (Same.refl H) (by rw[X0t];exact ha)
  ·exact q p _ ((Same.refl H).step np) Xab
end
end L2
namespace HT
open PySem PySem.Spec PyProof.Rows PySem.Calls L2
section
variable {prog:Program}{w:World}{A:Around}{E:Value->Shared->Prop}{s:Shared}
end
end HT
namespace L2
open PySem PySem.Spec PyProof.Rows
section
variable {X:Cx}{pos p2:Pos}{e:Expr}{te:TE}
def tRevT (te:TE):TE:=fun σ H Q=>te σ H λx H1=>∃a xs,x = .ref a/\H1 a=some (.tup xs)/\∀p,H1 p=none->Q (.ref p) (upd H1 p (.tup xs.reverse))
end
section
variable {X:Cx}{es:List Expr}{t:L2.St->Hp->(Hp->Prop)->Prop}{e:Expr}{te:TE}{pos:Pos}
theorem Xig(ts:List Str):(tupleText ts).length<=piled ts+3:=by
 unfold tupleText
 rw[strLen_append,strLen_append]
 have e1:((("(" : String):Str)).length=1:=rfl
 have e3:(((if ts.length==1 then ",)" else ")" : String):Str)).length<=2:=by split<;>decide
 rw[e1]
 by_cases h:ts=[]
 ·subst h
  have:(Str.join ", " []).length=0:=rfl
  omega
 ·have:=join_length_add ts h
  omega
theorem Xhw{P:Program}{w:World}:∀{ss:List Str} {us:List Value},(∀z∈ss,z.length<=20/\∀c∈z.cps.toList,c<16 ^ 8)->Vals (ss.map V.str) us->ReprAll P w us (ss.map reprText)
 | [],_,_,r=>by cases r;exact .nil
 | z::ss,_,h,r=>by
  cases r with
  | cons r1 r2=>
   obtain⟨tk,rfl⟩:=r1
   obtain⟨h1,h2⟩:=h z Xzr
   have:=StrLaws.reprText_len z h2
   exact .cons (ReprIs.str z tk (by rw[X3l];omega)) (Xhw (λy hy=>h y (Xzq _ hy)) r2)
end
def codP (c:Addr) (q:Str):Heap->Prop:=λh=>h.CodeRec (.ref c) q
def lamP (f:Addr) (fd:FuncData):Heap->Prop:=λh=>∃o,h.get? f=some o/\o.data = .func fd
theorem Xpi{c:Addr}{q:Str}:∀h1 h2:Heap,codP c q h1->(∀o,h1.get? c=some o->h2.get? c=some o)->codP c q h2:=by
 rintro h1 h2 ⟨c1,o,vs,t,e,ho,r⟩ k
 cases e
 exact⟨c,o,vs,t,rfl,k _ ho,r⟩
theorem Xjz{f:Addr}{fd:FuncData}:∀h1 h2:Heap,lamP f fd h1->(∀o,h1.get? f=some o->h2.get? f=some o)->lamP f fd h2:=by
 rintro h1 h2 ⟨o,ho,r⟩ k
 exact⟨o,k _ ho,r⟩
theorem Xuy{CX:CXT}{P:Program}{w:World}{K:PySem.W.Frag}{mg:Str->Option Value}{base:Heap}{A:Around}{outer:List Env}{s:Shared}{H:Hp}{k:Nat}{f c:Addr}{name qual:Str}{params:Arguments}{body:Expr}{scope:Scope}{pm ctv:Value}
  {N ps:List Str} {us:List Value} {vs:List V} {Q:VK} {E:XK} {t:TE}
  (hf:H f=some (.ext (lamP f (PySem.W.kla_fn name qual params body scope [] pm (.ref c) ctv)))) (hc:H c=some (.ext (codP c qual))) (S:FnScope N ps scope) (hr:Room (k+1) A) (e0:Env0 P w K mg base A outer s H)
  (hl:vs.length=ps.length) (r:Vals vs us) (hb:bindArgs (PySem.W.kla_fn name qual params body scope [] pm (.ref c) ctv) ⟨us,[]⟩=pure (ps.zip us))
  (ht:PE (cxOf CX P w K mg base N qual scope f (.ref c) A outer s H E) body t) (hq:t (start N vs) H Q):
  codeAny (model P w) A (.call (.ref f) ⟨us,[]⟩) (CR CX outer P w H s Q E) s:=by
 obtain⟨⟨of,hof,hod⟩,_⟩:=e0.hok f _ hf
 obtain⟨hcod,_⟩:=e0.hok c _ hc
 have lim:s.heap.NoLimit:=e0.mod.nolimit.keeps λb o e=>(e0.bs b o e).1
 have hkind:∀y∈ps.zip us,scope.names.lookup y.1=some .local\/(scope.names.lookup y.1=some .cell/\((cellsFrom (s.heap.objs.size+1) scope.names []).lookup y.1).isSome=true):=λ⟨n,v⟩ hy=>by
  rcases S.par n (X2x hy).1 with q | q
  ·exact .inl q
  ·exact .inr ⟨q,PySem.W.cellsFrom_some _ _ _ (.inl q)⟩
 refine PySem.W.kla_callFunE hr.depth hof hod S.co S.gen rfl hcod ?_
 rw[hb]
 refine X3k ?_
 refine wpAny_newFunctionEnv_cells S.kind hkind λenv he s1 x=>?_
 subst he
 refine⟨lim.keeps x.toInCall.keep,PySem.W.kla_codeExpr ?_⟩
 have I:Inv (cxOf CX P w K mg base N qual scope f (.ref c) A outer s H E) [] (start N vs) H s1:=Xi6 S hr.hd e0 hl r x
 refine wpAny_mono (ht [] s1 (start N vs) H _ I hq) (λu s' hs=>?_) λe s' hs=>hs
 obtain⟨v,H',J,rv,q⟩:=hs
 exact⟨v,H',J.os,J.bare,J.base,J.hok,rv,q⟩
def BmOk (mg:Str->Option Value) (base:Heap):Prop:=∃bm ob,mg "__builtins__" = some (.ref bm)/\bm≠builtinsNs/\base.get? bm=some ob/\ob.cls = .type "module" /\ ob.dict=some builtinsNs/\ob.data = .plain
def Xa5 (T:Addr) (pos:Pos) (q:Str) (H:Hp):Prop:=H T=some (.tbl #[]) \/ ∃c,H T=some (.tbl #[rawInt pos.line,rawInt pos.col,.ref c])/\H c=some (.ext (codP c q))
def tLam (T:Addr) (q:Str) (params:Arguments) (body:Expr) (scope:Scope) (pos:Pos):TE:=λ_ H Q=>Xa5 T pos q H /\
 ∀(f c:Addr) (pm ctv:Value) (H':Hp),H f=none->H' f=some (.ext (lamP f (PySem.W.kla_fn "<lambda>" q params body scope [] pm (.ref c) ctv)))->H' c=some (.ext (codP c q))->Xa5 T pos q H'->(∀b o,H b=some o->b≠T->H' b=some o)->Q (.ref f) H'
section
variable {X:Cx}{T c0:Addr}{params:Arguments}{body:Expr}{scope:Scope}{pos:Pos}{q:Str}
theorem Xuz{pins:List (Addr×Obj)}{σ:St}{H:Hp}{s:Shared}{h':Heap}{tk:Nat}{fd:FuncData}{o:Obj}(I:Inv X pins σ H s)(k:∀b o,s.heap.get? b=some o->h'.get? b=some o)(hsz:s.heap.objs.size<=h'.objs.size)(ho:o.data = .func fd)(hfr:o.isFreed=false):
  Inv X pins σ (upd H h'.objs.size (.ext (lamP h'.objs.size fd))) {s with heap:=h'.push o,toks:=tk}:=by
 refine I.laid (t':=tk) (h':=h'.push o) (λb ob e=>X3t _ (k b ob e)) hsz ?_
 exact⟨⟨o,Heap.get?_push_size _ hfr,ho⟩,⟨o,Heap.get?_push_size _ hfr⟩,Xjz⟩
theorem Xr1{pins:List (Addr×Obj)}{σ:St}{H:Hp}{s:Shared}{h':Heap}{tk:Nat}{fd:FuncData}{o:Obj}{c:Addr}{ps:Array Value}(I:Inv X pins σ H s)(hT:H T=some (.tbl #[]))(hx:Heap.ExtBut T s.heap h')(hge:s.heap.objs.size<=c)(hlt:c<h'.objs.size)
  (hrec:h'.CodeRec (.ref c) q) (htb:h'.get? T=some (PySem.W.tabObj (#[]++ps))) (ho:o.data = .func fd) (hfr:o.isFreed=false):
  Inv X pins σ (upd (upd (upd H T (.tbl ps)) c (.ext (codP c q))) h'.objs.size (.ext (lamP h'.objs.size fd))) {s with heap:=h'.push o,toks:=tk}:=by
 have htb':h'.get? T=some {cls:=.none,data:=.fields ps}:=by simpa using htb
 have nf:∀b u,s.heap.get? b=some u->b≠c/\b≠h'.objs.size:=λb u e=>by
  have z:=Xz8 (X3s e) hge
  exact⟨Xzv z,Xzv (X1q z hlt)⟩
 have nH:∀b u,H b=some u->b≠c/\b≠h'.objs.size:=λb u e=>by
  have z:=Xz8 (I.hok.lt e) hge
  exact⟨Xzv z,Xzv (X1q z hlt)⟩
 have nT:∀b,H b=none->b≠T:=λb n z=>by rw[z,hT] at n;cases n
 have kp:∀b u,b≠T->s.heap.get? b=some u->(h'.push o).get? b=some u:=λb u n e=>X3t _ (hx b u n e)
 have up:∀b u,H b=some u->b≠T->(upd (upd (upd H T (.tbl ps)) c (.ext (codP c q))) h'.objs.size (.ext (lamP h'.objs.size fd))) b=some u:=λb u e n=>by
  rw[Xae (nH b u e).2,Xae (nH b u e).1,Xae n];exact e
 refine I.step (g':=s.gens) (d':=s.drawn) (t':=tk) (h':=h'.push o) (ch:=[]) (λ_ z=>nomatch z) (λb u _ _ _ e n=>kp b u (nT b n) e) (λb u _ _ _ e n=>⟨u.slots,kp b u (nT b n) e⟩) (λb u _ e n=>?_) (λb u _ e=>?_)
  (λb xs e=>up b _ e λz=>by rw[z,hT] at e;cases e) (λb u v e=>up b _ e λz=>by rw[z,hT] at e;cases e) (λb pz e=>?_) (λm hn=>(hn.extBut hx (nT _ I.free)).push _) ?_ I.bare
 ·rw[Xae (nf b u e).2,Xae (nf b u e).1,Xae (nT b n)];exact n
 ·by_cases z:b=T
  ·exact⟨_,z ▸ X3t _ htb'⟩
  ·exact⟨u,kp b u z e⟩
 ·by_cases z:b=T
  ·subst z
   rw[hT] at e
   cases e
   refine⟨ps,?_⟩
   rw[Xae (nH b _ hT).2,Xae (nH b _ hT).1,Xab]
   simp
  ·exact⟨#[],by rw[up b _ e z];simp⟩
 ·intro b u e
  by_cases z1:b=h'.objs.size
  ·subst z1
   rw[Xab] at e
   cases e
   exact⟨⟨o,Heap.get?_push_size _ hfr,ho⟩,⟨o,Heap.get?_push_size _ hfr⟩,Xjz⟩
  ·rw[Xae z1] at e
   by_cases z2:b=c
   ·subst z2
    rw[Xab] at e
    cases e
    obtain⟨c1,oc,vs,t,e1,hoc,r⟩:=hrec
    cases e1
    exact⟨⟨b,oc,vs,t,rfl,X3t _ hoc,r⟩,⟨oc,X3t _ hoc⟩,Xpi⟩
   ·rw[Xae z2] at e
    by_cases z3:b=T
    ·subst z3
     rw[Xab] at e
     cases e
     exact X3t _ htb'
    ·rw[Xae z3] at e
     refine(I.hok b u e).stay (λd v hd g=>kp d v ?_ g) (λd g=>up d _ g λz=>by rw[z,hT] at g;cases g) λd xs g=>up d _ g λz=>by rw[z,hT] at g;cases g
     rcases hd with rfl | hd
     ·exact z3
     ·intro z
      rw[z,hT] at hd
      cases hd
theorem Xxk(hbm:BmOk X.mg X.base)(hdef:defaultsOf params X.env=([],[]))(hcl:closureFor scope X.env=pure [])(hcode:X.env.code = .ref c0)(hhd:PySem.W.codeHdIn X.K c0 T=true)(hq:X.env.qual ++ "<lambda>" = q):
  PE X (.Lambda params body scope pos) (tLam T q params body scope pos):=by
 intro pins s σ H Q I h
 obtain⟨tab,k⟩:=h
 obtain⟨bm,ob,b1,b2,b3,b4,b5,b6⟩:=hbm
 have hg:s.heap.Ns mainGlobals X.mg:=I.mod.glob.keeps I.bk
 have C:PySem.W.CodeHd s.heap c0 T:=PySem.W.codeHd_of_K I.kIn hhd
 have nb:bm≠T:=λz=>by
  have n:=(I.bs bm ob b3).2
  rw[z] at n
  rcases tab with e | ⟨c,e,_⟩<;>(rw[e] at n;cases n)
 have hbG:bm≠mainGlobals:=λz=>by
  obtain⟨o,es,ep,e,hd,_⟩:=I.mod.glob
  rw[z,e] at b3;cases b3;rw[hd] at b6;cases b6
 have hB:s.heap.BuiltinsAt X.mg T:=⟨bm,ob,b1,b2,hbG,nb,I.bk _ _ b3,b4,b5,b6⟩
 refine PySem.W.kla_eval hdef ?_
 rw[hq]
 rcases tab with e | ⟨c,e,ec⟩
 ·have hP:s.heap.get? T=some (PySem.W.tabObj #[]):=I.hok T _ e
  have hgT:mainGlobals≠T:=λz=>by
   obtain⟨o,es,ep,e2,hd,_⟩:=hg
   rw[z,hP] at e2;cases e2;cases hd
  refine PySem.W.kla_makeFunction (mg:=X.mg) (clos:=[]) hcl I.ok.glob hg hcode C hP trivial rfl hgT hB λc' ctv h' tk hx hge hlt hrec htb=>?_
  have J:=Xr1 (tk:=tk) (o:=PySem.W.kla_obj "<lambda>" q params body scope [] ((X.mg "__name__").getD .none) c' ctv) I e hx hge hlt hrec htb rfl rfl
  have ltf:∀b o,H b=some o->b<c':=λb o eb=>Xz8 (I.hok.lt eb) hge
  have ncT:c'≠T:=(Xzv (ltf _ _ e)).symm
  have nfc:c'≠h'.objs.size:=Xzv hlt
  have nTf:T≠h'.objs.size:=Xzv (X1q (ltf _ _ e) hlt)
  refine⟨.ref h'.objs.size,_,J,rfl,k _ c' _ ctv _ (I.hok.fresh (X2c (X2f hge hlt))) Xab (by rw[Xae nfc,Xab]) (.inr ⟨c',by rw[Xae nTf,Xae ncT.symm,Xab],by rw[Xae nfc,Xab]⟩) λb o eb nb=>?_⟩
  rw[Xae (Xzv (X1q (ltf _ _ eb) hlt)),Xae (Xzv (ltf _ _ eb)),Xae nb]
  exact eb
 ·have hP:s.heap.get? T=some (PySem.W.tabObj #[rawInt pos.line,rawInt pos.col,.ref c]):=I.hok T _ e
  refine PySem.W.kla_makeFunctionHit (mg:=X.mg) (clos:=[]) (cv:=.ref c) hcl I.ok.glob hg hcode C hP trivial (by simp[codeAmong,rawInt]) hB λctv h' tk hk hsz=>?_
  have J:=Xuz (tk:=tk) (fd:=PySem.W.kla_fn "<lambda>" q params body scope [] ((X.mg "__name__").getD .none) (.ref c) ctv) (o:={cls:=.type "function",data:=.func (PySem.W.kla_fn "<lambda>" q params body scope [] ((X.mg "__name__").getD .none) (.ref c) ctv)}) I hk hsz rfl rfl
  have nf:∀b o,H b=some o->b≠h'.objs.size:=λb o eb=>Xzv (Xz8 (I.hok.lt eb) hsz)
  refine⟨.ref h'.objs.size,_,J,rfl,k _ c _ ctv _ (I.hok.fresh hsz) Xab (by rw[Xae (nf _ _ ec)];exact ec) (.inr ⟨c,by rw[Xae (nf _ _ e)];exact e,by rw[Xae (nf _ _ ec)];exact ec⟩) λb o eb _=>?_⟩
  rw[Xae (nf b o eb)]
  exact eb
end
end L2
namespace SH
open PySem PySem.Spec PyProof.Rows L2
structure Bl (mg:Str->Option Value):Prop where
 len:mg "len" = none
 range:mg "range" = none
 list:mg "list" = none
 min:mg "min" = none
 isi:mg "isinstance" = none
 all:mg "all" = none
 str:mg "str" = none
 val:mg "ValueError" = none
 sorted:mg "sorted" = none
 set:mg "set" = none
 enum:mg "enumerate" = none
 int:mg "int" = none
 bool:mg "bool" = none
 tuple:mg "tuple" = none
 any:mg "any" = none
 dict:mg "dict" = none
 sum:mg "sum" = none
 max:mg "max" = none
structure DrawOk (H:Hp) (dr sc:Addr):Prop where
 ex:∃(ns:List Int) (p:Nat) (c m k:Int),H dr=some (.lst [.ref sc,.int p,.int c,.int m,.int k])/\H sc=some (.lst (ns.map V.int))/\p<=ns.length/\ns.length<=63/\0<=m/\m<1000000007
def Xk1 (K:PySem.W.Frag):Sp:=λvs H Q _=>∃(a:Addr) (ns:List Int),vs=[.ref a]/\SqL K H a (ns.map V.int)/\ns.length<=63/\∀dr sc H',H dr=none->H sc=none->DrawOk H' dr sc->Same H H'->Q (.ref dr) H'
def Xtq:Sp:=λvs H Q _=>∃(dr sc:Addr) (n:Int),vs=[.ref dr,.int n]/\0<n/\n<=1000/\DrawOk H dr sc /\
 ∀r H',0<=r->r<n->DrawOk H' dr sc->(∀b o,H b=some o->b≠dr->H' b=some o)->Q (.int r) H'
abbrev NP:List Str:=["_law_draw", "_law_many", "_law_cell", "_law_got"]
def D5 (H:Hp) (dr sc:Addr) (ns:List Int) (p:Nat) (c m k:Int):Prop:=H dr=some (.lst [.ref sc,.int p,.int c,.int m,.int k])/\H sc=some (.lst (ns.map V.int))
theorem cpow3{m:Int}(h0:0<=m)(h1:m<1000000007):CPow m 3:=⟨by decide,by decide,by omega⟩
def putR (row:List Str) (x:Str) (a b:Nat):List Str:=row.take a++[x]++(row.drop a).take (b - a)++[x]++row.drop b
theorem Xj0(row:List Str)(x:Str)(a b:Nat)(hab:a<=b):(putR row x a b).Perm (x::x::row):=by
 unfold putR
 have e:row=row.take a++((row.drop a).take (b - a)++row.drop b):=by
  have e1:row.drop b=(row.drop a).drop (b - a):=by rw[List.drop_drop];congr 1;omega
  rw[e1,X0v,X0v]
 generalize hA:row.take a=A at *
 generalize hB:(row.drop a).take (b - a)=B at *
 generalize hC:row.drop b=C at *
 rw[e]
 have p1:(A++[x]++B++[x]++C).Perm (x::(A++B++[x]++C)):=by
  have:A++[x]++B++[x]++C=A++x::(B++[x]++C):=by simp
  rw[this]
  refine X1z.trans ?_
  simp
 refine p1.trans (List.Perm.cons x ?_)
 have:A++B++[x]++C=(A++B)++x::C:=by simp
 rw[this]
 refine X1z.trans ?_
 simp
def Xu0:Sp:=λvs H Q _=>∃(r:Addr) (row:List Str) (x:Str) (a b:Nat),vs=[.ref r,.str x,.int a,.int b]/\H r=some (.lst (row.map V.str))/\row.length<=1000/\a<=b/\b<=row.length /\
 ∀l H',H l=none->H' l=some (.lst ((putR row x a b).map V.str))->Same H H'->Q (.ref l) H'
abbrev NPut:List Str:=["_law_row_here", "_law_name", "_law_at", "_law_to", "_law_told"]
def plcF (x:Str):Nat->List Str->List Int
 | _,[]=>[]
 | n,y::r=>if y=x then (n:Int)::plcF x (n+1) r else plcF x (n+1) r
def plc (row:List Str) (x:Str):List Int:=plcF x 0 row
theorem Xj1(x y:Str):∀(n:Nat) (r:List Str),plcF x n (r++[y])=plcF x n r++(if y=x then [((n+r.length:Nat):Int)] else [])
 | n,[]=>by
  show (if y=x then ((n:Nat):Int)::plcF x (n+1) [] else plcF x (n+1) [])=_
  split<;>simp[plcF]
 | n,z::r=>by
  have ih:=Xj1 x y (n+1) r
  show (if z=x then (n:Int)::plcF x (n+1) (r++[y]) else plcF x (n+1) (r++[y]))=(if z=x then (n:Int)::plcF x (n+1) r else plcF x (n+1) r)++_
  rw[ih,Xz6,show n+1+r.length=n+(r.length+1) by omega]
  split<;>simp
theorem Xf5(x:Str):∀(n:Nat) (r:List Str),(plcF x n r).length=r.count x
 | _,[]=>rfl
 | n,z::r=>by
  show (if z=x then (n:Int)::plcF x (n+1) r else plcF x (n+1) r).length=_
  rw[List.count_cons]
  split
  ·rename_i e
   rw[Xz6,Xf5,X3n (by simpa using e)]
  ·rename_i e
   rw[Xf5,X3m (by simpa using e)]
   rfl
theorem Xk2(row:List Str)(x:Str):(plc row x).length=row.count x:=Xf5 x 0 row
theorem Xih(r:List Str)(x y:Str):plc (r++[y]) x=plc r x++(if y=x then [(r.length:Int)] else []):=by
 have e:=Xj1 x y 0 r
 rw[X2t] at e
 exact e
structure Wh (H:Hp) (kvs:List (Key×V)) (row:List Str):Prop where
 keys:∀k∈kvs.map (·.1),∃x,k=Sum.inr x/\x∈row
 val:∀x∈row,∃l,valV kvs (Sum.inr x:Key)=some (.ref l)/\H l=some (.lst ((plc row x).map V.int))
 none:∀x,x∉row->valV kvs (Sum.inr x:Key)=none
 nd:(kvs.map (·.1)).Nodup
 len:kvs.length<=row.length
theorem Xj2{kvs:List (Key×V)}{k:Key}{v:V}{l:V}(h:valV kvs k=some l):(putK kvs k v).map (·.1)=kvs.map (·.1):=by
 unfold putK
 rw[Xcs,h,X3n X24,X0h]
 refine X00 λp _=>?_
 show (if p.1=k then (p.1,v) else p).1=p.1
 split<;>rfl
theorem Wh.snoc{H H':Hp}{kvs:List (Key×V)}{row:List Str}(w:Wh H kvs row)(y:Str)(l:Addr)(hl:H' l=some (.lst ((plc (row++[y]) y).map V.int)))
  (s:∀b xs,H b=some (.lst xs)->H' b=some (.lst xs)):Wh H' (putK kvs (Sum.inr y) (.ref l)) (row++[y]):=by
 refine⟨λk hk=>?_,λx hx=>?_,λx hx=>?_,?_,?_⟩
 ·by_cases hy:y∈row
  ·obtain⟨l0,e,_⟩:=w.val y hy
   rw[Xj2 e] at hk
   obtain⟨x,e1,e2⟩:=w.keys k hk
   exact⟨x,e1,X0w _ e2⟩
  ·rw[Xeq _ (w.none y hy),Xzu] at hk
   rcases Xzw.mp hk with hk | hk
   ·obtain⟨x,e1,e2⟩:=w.keys k hk
    exact⟨x,e1,X0w _ e2⟩
   ·exact⟨y,by simpa using hk,by simp⟩
 ·rw[Xep]
  by_cases e:x=y
  ·subst e
   exact⟨l,X3n rfl,hl⟩
  ·have hx':x∈row:=by
    rcases Xzw.mp hx with z | z
    ·exact z
    ·exact absurd (Xzs.mp z) e
   obtain⟨l0,e1,e2⟩:=w.val x hx'
   refine⟨l0,by rw[X3m (λz=>e (X1j z))];exact e1,?_⟩
   rw[Xih,X3m (λz=>e z.symm),X0t]
   exact s _ _ e2
 ·rw[Xep]
  have h1:x∉row:=λz=>hx (X0w _ z)
  have h2:x≠y:=λz=>hx (by rw[z];simp)
  rw[X3m (λz=>h2 (X1j z))]
  exact w.none x h1
 ·by_cases hy:y∈row
  ·obtain⟨l0,e,_⟩:=w.val y hy
   rw[Xj2 e]
   exact w.nd
  ·exact Xun _ w.nd (w.none y hy)
 ·have:=Xcm kvs (Sum.inr y:Key) (.ref l)
  have:=w.len
  rw[Xzx,X0z]
  omega
def Xii:Sp:=λvs H Q _=>∃(r:Addr) (row:List Str),vs=[.ref r]/\H r=some (.lst (row.map V.str))/\row.length<=1000 /\
 ∀d kvs H',H d=none->H' d=some (.dK kvs)->Wh H' kvs row->Same H H'->Q (.ref d) H'
abbrev NWh:List Str:=["_law_row_here", "_law_told", "_law_at"]
def inn (a b:Int) (ys:List Int):List Int:=ys.filter λt=>decide (a<t)&&decide (t<b)
theorem Xpj(a b:Int)(ys:List Int):(inn a b ys).length<=ys.length:=X0e ..
def words3:List Str:=["same", "cross", "around"]
def Xhn (a b c e:Int) (same:Bool):Str:=
 if (same||decide (0<(inn a b [c,e]).length))=true then words3.getD (inn a b [c,e]).length "apart" else if c<a/\b<e then "within" else "apart"
def spWord:Sp:=λvs H Q _=>∃(d l1 l2:Addr) (kvs:List (Key×V)) (x y:Str) (a b c e:Int),vs=[.ref d,.str x,.str y]/\Rd H d (.dK kvs)/\valV kvs (Sum.inr x:Key)=some (.ref l1)/\valV kvs (Sum.inr y:Key)=some (.ref l2) /\
 H l1=some (.lst [.int a,.int b])/\H l2=some (.lst [.int c,.int e])/\∀H',Same H H'->Q (.str (Xhn a b c e (decide (x=y)))) H'
abbrev NWo:List Str:=["_law_where_here", "_law_one", "_law_other", "_law_low", "_law_high", "_law_inner"]
theorem Rd.same{H H':Hp}{d:Addr}{o:HO}(r:Rd H d o)(s:Same H H'):Rd H' d o:=by
 rcases r with r | ⟨u,r⟩
 ·exact .inl (s _ _ r)
 ·exact .inr ⟨u,s _ _ r⟩
theorem DGet.rd{H:Hp}{a:Addr}{kvs:List (Key×V)}{x:Str}{v:V}(e:Rd H a (.dK kvs))(h:valV kvs (Sum.inr x:Key)=some v):DGet H a (.str x) (some v):=.inl ⟨kvs,Sum.inr x,e,rfl,h.symm⟩
theorem Xu1{row:List Str}{x:Str}(h:row.count x=2):∃a b,plc row x=[a,b]:=by
 have e:=Xk2 row x
 rw[h] at e
 match q:plc row x,e with
 | [a,b],_=>exact⟨a,b,rfl⟩
abbrev NBa:List Str:=["_law_row_here", "_law_name", "_law_where_here", "_law_met", "_law_at", "_law_other"]
abbrev NBc:List Str:=["_law_one", "_law_name", "_law_where_here"]
abbrev Xk3:Str := "kqvzbdgmprtxhnjfwlycsaeiou"
def signOf (i:Nat):Str:=⟨#[(Xk3.cps.toList).getD i 0]⟩
def Xj3 (st:Nat) (late:Bool) (k:Nat):Str:=
 if late=true then (repS "m" ((st+k * k) % 7)++signOf ((st+k) % 26)) ++ "y" else signOf ((st+k) % 26)++repS "m" ((st+k * k) % 7)
def Xat (st:Nat) (late:Bool) (n:Nat):List Str:=(List.range n).map (Xj3 st late)
theorem Xnj:∀st<26,∀late:Bool,(Xat st late 14).Nodup:=by decide +kernel
theorem Xf6{st:Nat}{late:Bool}{n:Nat}(hs:st<26)(hn:n<=14):(Xat st late n).Nodup:=by
 refine(Xnj st hs late).sublist ?_
 unfold Xat
 refine List.Sublist.map _ ?_
 have e:List.range 14=List.range n++(List.range (14 - n)).map (n + ·):=by
  rw[<-List.range_add]
  congr 1
  omega
 rw[e]
 exact List.sublist_append_left ..
def But (dr:Addr) (H H':Hp):Prop:=∀b o,H b=some o->b≠dr->H' b=some o
theorem But.refl(dr:Addr)(H:Hp):But dr H H:=λ_ _ e _=>e
theorem But.trans{dr:Addr}{H H1 H2:Hp}(a:But dr H H1)(b:But dr H1 H2):But dr H H2:=λc o e h=>b c o (a c o e h) h
theorem But.same{dr:Addr}{H H1 H2:Hp}(a:But dr H H1)(b:Same H1 H2):But dr H H2:=λc o e h=>b c o (a c o e h)
theorem But.free{dr b:Addr}{H H':Hp}{o:HO}(a:But dr H H')(hd:H' dr=some o)(h:H' b=none):H b=none:=by
 cases q:H b with
 | none=>rfl
 | some u=>
  by_cases e:b=dr
  ·rw[e,hd] at h;cases h
  ·rw[a b u q e] at h;cases h
theorem But.upd{dr a:Addr}{H H':Hp}{o:HO}(x:But dr H H')(h:H a=none):But dr H (L2.upd H' a o):=λb u e hb=>by
 rw[Xae (Xag e h)]
 exact x b u e hb
theorem DrawOk.at{H:Hp}{dr sc:Addr}(d:DrawOk H dr sc):∃xs,H dr=some (.lst xs):=let ⟨_,_,_,_,_,h,_⟩:=d.ex; ⟨_,h⟩
theorem DrawOk.same{H H':Hp}{dr sc:Addr}(d:DrawOk H dr sc)(s:Same H H'):DrawOk H' dr sc:=
 let ⟨ns,p,c,m,k,h1,h2,r⟩:=d.ex; ⟨ns,p,c,m,k,s _ _ h1,s _ _ h2,r⟩
theorem DrawOk.upd{H:Hp}{dr sc a:Addr}{o:HO}(d:DrawOk H dr sc)(h1:a≠dr)(h2:a≠sc):DrawOk (L2.upd H a o) dr sc:=
 let ⟨ns,p,c,m,k,e1,e2,r⟩:=d.ex; ⟨ns,p,c,m,k,by rw[Xae h1.symm];exact e1,by rw[Xae h2.symm];exact e2,r⟩
theorem DrawOk.ne{H:Hp}{dr sc a:Addr}(d:DrawOk H dr sc)(h:H a=none):a≠dr/\a≠sc:=by
 obtain⟨ns,p,c,m,k,e1,e2,r⟩:=d.ex
 exact⟨(Xag e1 h).symm,(Xag e2 h).symm⟩
def Xk4:Sp:=λvs H Q _=>∃(dr sc:Addr) (n:Nat),vs=[.ref dr,.int n]/\n<=14/\DrawOk H dr sc /\
 ∀l st late H',H l=none->st<26->H' l=some (.lst ((Xat st late n).map V.str))->l≠sc->DrawOk H' dr sc->But dr H H'->Q (.ref l) H'
abbrev FnPick (P:Program) (w:World) (K:PySem.W.Frag) (mg:Str->Option Value) (base:Heap):Prop:=Fn P w K mg base CX0 1 "_law_pick" ["_law_draw", "_law_many"] Xtq
abbrev NNa:List Str:=["_law_draw", "_law_many", "_law_base", "_law_start", "_law_late", "_law_told", "_law_k", "_law_sign", "_law_hum"]
theorem Xu2{i:Nat}(h:i<26):atI Xk3.cps.toList (i:Int)=some ((Xk3.cps.toList).getD i 0):=by
 have hl:i<Xk3.cps.toList.length:=h
 refine Xdm ?_
 rw[Xzo hl]
 simp[List.getD,Xzo hl]
theorem Xc4{l:List Str}(h:l.Nodup){row:List Str}(p:row.Perm (l++l)):∀y∈row,row.count y=2:=λy hy=>by
 rw[p.count_eq,X1w]
 have hy':y∈l:=by
  rcases Xzw.mp (p.mem_iff.mp hy) with z | z
  ·exact z
  ·exact z
 have e1:l.count y<=1:=List.nodup_iff_count.mp h y
 have e2:0<l.count y:=X25.mpr hy'
 omega
theorem Xj4{A row more:List Str}{x:Str}(p:row.Perm (A++A))(q:more.Perm (x::x::row)):more.Perm ((A++[x])++(A++[x])):=by
 refine q.trans (((p.cons x).cons x).trans ?_)
 have e:(A++[x])++(A++[x])=A++x::(A++x::[]):=by simp
 rw[e]
 refine List.Perm.trans ?_ X1z.symm
 refine List.Perm.cons x ?_
 have e2:A++(A++x::[])=(A++A)++x::[]:=by simp
 rw[e2]
 refine List.Perm.trans ?_ X1z.symm
 simp
abbrev NRo:List Str:=["_law_draw", "_law_names_here", "_law_cut", "_law_row_here", "_law_name", "_law_at", "_law_to", "_law_more"]
def Xyn:Sp:=λvs H Q _=>∃(dr sc:Addr) (m:Nat),vs=[.ref dr,.int m]/\m<=14/\DrawOk H dr sc /\
 ∀(l:Addr) (row:List Str) (n st:Nat) (late:Bool) (H':Hp),H l=none->n<=m->st<26->H' l=some (.lst (row.map V.str))->row.Perm (Xat st late n++Xat st late n)->DrawOk H' dr sc->But dr H H'->Q (.ref l) H'
def Xij:Sp:=λvs H Q _=>∃(a:Addr) (row:List Str),vs=[.ref a]/\H a=some (.lst (row.map V.str))/\row.length<=1000/\∀H',Same H H'->Q (.bl true) H'
theorem Xe1(K:PySem.W.Frag)(T:String):PySem.W.kitOne K (.type T) (.type T)=some true:=by
 unfold PySem.W.kitOne
 rw[X3n (beq_self_eq_true _)]
theorem Xg6(row:List Str)(x:Str):((List.range row.length).filter λi=>decide (row.getD i Str.empty=x)).map (λi:Nat=>(i:Int))=plc row x:=by
 have go:∀n,n<=row.length->((List.range n).filter λi=>decide (row.getD i Str.empty=x)).map (λi:Nat=>(i:Int))=plc (row.take n) x:=by
  intro n
  induction n with
  | zero=>intro _;rfl
  | succ n ih=>
   intro h
   have hn:n<row.length:=by omega
   have e:row.getD n Str.empty=row[n]:=by simp[List.getD,hn]
   rw[X0u,Xz5,Xzu,ih (by omega),Xzz hn,Xih,X0p,e,X0c,X15 (by omega)]
   by_cases q:row[n]=x
   ·rw[X3n q,X3n (X3o q)]
    rfl
   ·rw[X3m q,X3m (by simpa using q)]
    rfl
 rw[go _ (Xzn _),X0n]
def okN (x:Str):Prop:=x.length<=20/\∀c∈x.cps.toList,c<0x110000
def Xu3 (C:Addr):Sp:=λvs H Q E=>∃(r:Addr) (row:List Str) (x:Str),vs=[.ref r,.str x]/\H r=some (.lst (row.map V.str))/\okN x /\
 (x∈row->∀H',Same H H'->Q .non H')/\(x∉row->∀H',Same H H'->E (.ref C) none H')
def spDitches:Sp:=λvs H Q _=>∃(r:Addr) (row:List Str),vs=[.ref r]/\H r=some (.lst (row.map V.str))/\row.length<=60 /\
 ∀l H',H l=none->H' l=some (.lst ((dit row).map V.str))->Same H H'->Q (.ref l) H'
def Xpk (C:Addr):Sp:=λvs H Q E=>∃(r:Addr) (row:List Str) (x:Str),vs=[.ref r,.str x]/\H r=some (.lst (row.map V.str))/\okN x/\row.length<=1000 /\
 (x∈row->∃a b,plc row x=[a,b]/\∀l H',H l=none->H' l=some (.tup [.int a,.int b])->Same H H'->Q (.ref l) H')/\(x∉row->∀H',Same H H'->E (.ref C) none H')
abbrev NEn:List Str:=["row", "name", "found"]
abbrev NEc:List Str:=["at", "end", "name"]
end SH
namespace L2
open PySem PySem.Spec PyProof.Rows
theorem Xcu(x y:Str):decide (V.str x=V.str y)=decide (x=y):=by
 by_cases z:x=y
 ·rw[z];simp
 ·rw[X3p z,X3p (λq=>z (by injection q))]
theorem Xy9(row:List Str):∀v∈row.map V.str,Xdn v=true:=λv h=>by
 obtain⟨x,_,rfl⟩:=Xz0.mp h
 rfl
theorem Xa0{α : Type}(f : α->V)(d : α)(xs:List α){i:Nat}(hi:i<xs.length):(xs.map f).getD i .non=f (xs.getD i d):=by simp[List.getD,hi]
end L2
namespace SH
open PySem PySem.Spec PyProof.Rows L2
theorem Wh.names{H:Hp}{kvs:List (Key×V)}{row:List Str}(w:Wh H kvs row):∃ss:List Str,kvs.map (·.1)=ss.map (λx=>(Sum.inr x:Key))/\ss.Nodup/\∀x,x∈ss↔x∈row:=by
 have e:∀ks:List Key,(∀k∈ks,∃x,k=Sum.inr x)->∃ss:List Str,ks=ss.map (λx=>(Sum.inr x:Key)):=by
  intro ks
  induction ks with
  | nil=>intro _;exact⟨[],rfl⟩
  | cons k r ih=>
   intro h
   obtain⟨x,rfl⟩:=h k Xzr
   obtain⟨ss,rfl⟩:=ih λk hk=>h k (Xzq _ hk)
   exact⟨x::ss,rfl⟩
 obtain⟨ss,hs⟩:=e (kvs.map (·.1)) λk hk=>let ⟨x,h,_⟩:=w.keys k hk; ⟨x,h⟩
 have inj:∀x,x∈ss↔(Sum.inr x:Key)∈kvs.map (·.1):=λx=>by
  rw[hs,Xz0]
  constructor
  ·exact λh=>⟨x,h,rfl⟩
  ·rintro ⟨y,hy,e⟩
   rw[<-X1j e];exact hy
 refine⟨ss,hs,?_,λx=>?_⟩
 ·have:=w.nd
  rw[hs] at this
  exact List.Pairwise.of_map _ (λa b hab e=>hab (congrArg _ e)) this
 ·rw[inj]
  constructor
  ·intro h
   obtain⟨y,e,hy⟩:=w.keys _ h
   rw[X1j e];exact hy
  ·intro h
   obtain⟨l,e,_⟩:=w.val x h
   exact Xgr e
structure Isl (row:List Str):Prop where
 ex:∃n st late,n<=14/\st<26/\row.Perm (Xat st late n++Xat st late n)
theorem Xe2{st n:Nat}{late:Bool}(hn:n<=14){x:Str}(h:x∈Xat st late n):x∈Xat st late 14:=by
 unfold Xat at h ⊢
 obtain⟨i,hi,rfl⟩:=Xz0.mp h
 exact Xz0.mpr ⟨i,X0l.mpr (by have:=X0l.mp hi;omega),rfl⟩
instance (x:Str):Decidable (okN x):=inferInstanceAs (Decidable (_/\_))
theorem Xnk:∀st<26,∀late:Bool,∀x∈Xat st late 14,okN x:=by decide +kernel
theorem Isl.two{row:List Str}(h:Isl row):∀y∈row,row.count y=2:=by
 obtain⟨n,st,late,hn,hs,p⟩:=h.ex
 exact Xc4 (Xf6 hs hn) p
theorem Isl.len{row:List Str}(h:Isl row):row.length<=28:=by
 obtain⟨n,st,late,hn,hs,p⟩:=h.ex
 have:=p.length_eq
 unfold Xat at this
 simp at this
 omega
theorem Isl.ok{row:List Str}(h:Isl row):∀y∈row,okN y:=λy hy=>by
 obtain⟨n,st,late,hn,hs,p⟩:=h.ex
 refine Xnk st hs late y (Xe2 hn ?_)
 rcases Xzw.mp (p.mem_iff.mp hy) with z | z<;>exact z
def Xc5:List Str->Str
 | [] => "noneatal"
 | y::_=>Txt.slice y none (some 7)++Str.ofString "q"
theorem stranger14:∀st<26,∀late:Bool,∀y∈Xat st late 14,okN (Txt.slice y none (some 7)++Str.ofString "q")/\Txt.slice y none (some 7)++Str.ofString "q" ∉ Xat st late 14:=by decide +kernel
theorem Isl.stranger{row:List Str}(h:Isl row):okN (Xc5 row)/\Xc5 row∉row:=by
 cases row with
 | nil=>exact⟨by decide +kernel,by simp⟩
 | cons y r=>
  obtain⟨n,st,late,hn,hs,p⟩:=h.ex
  have sub:∀z∈y::r,z∈Xat st late 14:=λz hz=>Xe2 hn (by rcases Xzw.mp (p.mem_iff.mp hz) with q | q<;>exact q)
  obtain⟨h1,h2⟩:=stranger14 st hs late y (sub y Xzr)
  exact⟨h1,λz=>h2 (sub _ z)⟩
theorem Xpl{x:Str}(h:okN x):Xce (.str x)=true:=by
 show PyData.strOk x=true
 unfold PyData.strOk
 rw[<-Array.all_toList,X0a]
 intro c hc
 exact X3o (h.2 c hc)
theorem Xpm{row:List Str}{x:Str}{i:Int}:i∈plc row x ↔ ∃k:Nat,i=k/\row[k]? = some x:=by
 rw[<-Xg6,Xz0]
 constructor
 ·rintro ⟨k,hk,rfl⟩
  obtain⟨h1,h2⟩:=Xzm.mp hk
  have hk':=X0l.mp h1
  refine⟨k,rfl,?_⟩
  have:=X3q h2
  rw[Xzo hk']
  simpa [List.getD,hk'] using this
 ·rintro ⟨k,rfl,hk⟩
  have hk':k<row.length:=(Xz7.mp hk).1
  refine⟨k,Xzm.mpr ⟨X0l.mpr hk',X3o ?_⟩,rfl⟩
  simp[List.getD,hk]
theorem Xxl(row:List Str)(x:Str):(plc row x).Pairwise (· < ·):=by
 rw[<-Xg6,X18]
 refine List.Pairwise.imp ?_ (List.Pairwise.filter _ (List.pairwise_lt_range (n:=row.length)))
 intro a b h
 omega
def pl (row:List Str) (x:Str):Int×Int:=((plc row x).getD 0 0,(plc row x).getD 1 0)
theorem Xxm{row:List Str}{x:Str}{a b:Int}(h:plc row x=[a,b]):pl row x=(a,b):=by
 unfold pl
 rw[h]
 rfl
theorem Xg7{row:List Str}{x:Str}(h:row.count x=2):plc row x=[(pl row x).1,(pl row x).2]:=by
 obtain⟨a,b,e⟩:=Xu1 h
 rw[Xxm e,e]
theorem Xd5{row:List Str}{x:Str}(h:row.count x=2):(pl row x).1<(pl row x).2:=by
 have h1:=Xxl row x
 rw[Xg7 h] at h1
 simpa using h1
theorem Xk5{row:List Str}{x y:Str}(hx:row.count x=2)(hy:row.count y=2)(n:x≠y):(pl row x).1≠(pl row y).1/\(pl row x).1≠(pl row y).2/\(pl row x).2≠(pl row y).1/\(pl row x).2≠(pl row y).2:=by
 have key:∀i,i∈plc row x->i∈plc row y->False:=λi h1 h2=>by
  obtain⟨k,e1,g1⟩:=Xpm.mp h1
  obtain⟨m,e2,g2⟩:=Xpm.mp h2
  have:k=m:=by omega
  subst this
  rw[g1] at g2
  exact n (Xz3 g2)
 rw[Xg7 hx,Xg7 hy] at key
 refine⟨λe=>key (pl row x).1 (by simp) (by rw[e];simp),λe=>key (pl row x).1 (by simp) (by rw[e];simp),λe=>key (pl row x).2 (by simp) (by rw[e];simp),λe=>key (pl row x).2 (by simp) (by rw[e];simp)⟩
def nIn (a b:Int) (ys:List Int):Nat:=(inn a b ys).length
theorem nIn2(a b c e:Int):nIn a b [c,e]=(if a<c/\c<b then 1 else 0)+(if a<e/\e<b then 1 else 0):=by
 unfold nIn inn
 simp only[X0p,X20,Xz2,decide_eq_true_eq]
 split<;>split<;>rfl
def lieT (a b c e:Int):Str:=if a=c/\b=e then "same" else if nIn c e [a,b]=1 then "cross" else if nIn c e [a,b]=2 then "within" else if nIn a b [c,e]=2 then "around" else "apart"
theorem Xr2{a b c e:Int}(h1:a<b)(h2:c<e)(n1:a≠c)(n2:a≠e)(n3:b≠c)(n4:b≠e):lieT a b c e=Xhn a b c e false:=by
  unfold lieT Xhn
  rw[X3m (λz=>n1 z.1)]
  have e1:=nIn2 a b c e
  have e2:=nIn2 c e a b
  have e3:(inn a b [c,e]).length=nIn a b [c,e]:=rfl
  rw[e3]
  generalize nIn a b [c,e]=p at *
  generalize nIn c e [a,b]=q at *
  by_cases p1:a<c/\c<b<;>by_cases p2:a<e/\e<b<;>by_cases q1:c<a/\a<e<;>by_cases q2:c<b/\b<e <;>
    (first | rw[X3n p1] at e1 | rw[X3m p1] at e1)<;>(first | rw[X3n p2] at e1 | rw[X3m p2] at e1) <;>
    (first | rw[X3n q1] at e2 | rw[X3m q1] at e2)<;>(first | rw[X3n q2] at e2 | rw[X3m q2] at e2)<;>subst e1 e2<;>first
    | (exfalso;omega)
    | rfl
    | (have hw:(c<a/\b<e):=by omega
       rw[X3n hw];rfl)
    | (have hw:¬(c<a/\b<e):=by omega
       rw[X3m hw];rfl)
theorem Xr3{a b:Int}:lieT a b a b=Xhn a b a b true:=by
 unfold lieT Xhn
 rw[X3n ⟨rfl,rfl⟩,Bool.true_or,X3n rfl]
 have e1:=nIn2 a b a b
 have e3:(inn a b [a,b]).length=nIn a b [a,b]:=rfl
 rw[e3,e1,X3m (by omega),X3m (by omega)]
 rfl
def lieR (row:List Str) (x y:Str):Str:=lieT (pl row x).1 (pl row x).2 (pl row y).1 (pl row y).2
theorem Xc6{row:List Str}{x y:Str}(hx:row.count x=2)(hy:row.count y=2):lieR row x y=Xhn (pl row x).1 (pl row x).2 (pl row y).1 (pl row y).2 (decide (x=y)):=by
 unfold lieR
 by_cases n:x=y
 ·subst n
  rw[X3o rfl]
  exact Xr3
 ·rw[X3p n]
  obtain⟨n1,n2,n3,n4⟩:=Xk5 hx hy n
  exact Xr2 (Xd5 hx) (Xd5 hy) n1 n2 n3 n4
def crs (row:List Str):List (Str×Str):=(dit row).flatMap λx=>((dit row).filter λy=>decide (ltS x y)&&decide (lieR row x y = "cross")).map λy=>(x,y)
def prD (p:Str×Str):PyData:=.tuple [.str p.1,.str p.2]
structure Spn (H:Hp) (kvs:List (Key×V)) (row:List Str) (ns:List Str):Prop where
 keys:kvs.map (·.1)=ns.map (λx=>(Sum.inr x:Key))
 val:∀x∈ns,∃l,valV kvs (Sum.inr x:Key)=some (.ref l)/\H l=some (.tup [.int (pl row x).1,.int (pl row x).2])
theorem Spn.mono{H H':Hp}{kvs:List (Key×V)}{row ns:List Str}(s:Spn H kvs row ns)(h:Same H H'):Spn H' kvs row ns:=⟨s.keys,λx hx=>let ⟨l,h1,h2⟩:=s.val x hx; ⟨l,h1,h _ _ h2⟩⟩
end SH
namespace L2
open PySem
theorem hu3{A:Around}{k:Nat}(hr:Room k A):A.units+3<cLine:=by have:=hr.units;omega
theorem hu4{A:Around}{k:Nat}(hr:Room k A):A.units+4<cLine:=by have:=hr.units;omega
end L2
namespace SH
open PySem PySem.Spec PyProof.Rows L2
structure Row2 (row:List Str):Prop where
 two:∀y∈row,row.count y=2
 ok:∀y∈row,okN y
 len:row.length<=60
theorem Isl.row2{row:List Str}(h:Isl row):Row2 row:=⟨h.two,h.ok,by have:=h.len;omega⟩
def spSpans:Sp:=λvs H Q _=>∃(r:Addr) (row:List Str),vs=[.ref r]/\H r=some (.lst (row.map V.str))/\Row2 row /\
 ∀d kvs H',H d=none->H' d=some (.dK kvs)->Spn H' kvs row (dit row)->Same H H'->Q (.ref d) H'
def Lie4 (a b c e:Int):Prop:=c<=e/\(b=e->a=c)
theorem lie4{row:List Str}{x y:Str}(hx:row.count x=2)(hy:row.count y=2):Lie4 (pl row x).1 (pl row x).2 (pl row y).1 (pl row y).2:=
 ⟨Int.le_of_lt (Xd5 hy),λe=>by
  by_cases n:x=y
  ·rw[n]
  ·exact absurd e (Xk5 hx hy n).2.2.2⟩
theorem Xxn{a b c e:Int}(n:¬(a=c/\b=e))(h:((decide (c<a)&&decide (a<e))==(decide (c<b)&&decide (b<e)))=false):lieT a b c e = "cross" := by
 unfold lieT
 rw[X3m n,X3n]
 rw[nIn2]
 rw[<-Bool.decide_and,<-Bool.decide_and] at h
 by_cases q1:c<a/\a<e<;>by_cases q2:c<b/\b<e<;>simp[q1,q2] at h ⊢
theorem Xxo{a b c e:Int}(n:¬(a=c/\b=e))(h:((decide (c<a)&&decide (a<e))==(decide (c<b)&&decide (b<e)))=true)(h2:(decide (c<a)&&decide (a<e))=true):lieT a b c e = "within" := by
 unfold lieT
 rw[h2,beq_iff_eq] at h
 simp only[Xz2,decide_eq_true_eq] at h2
 have h3:c<b/\b<e:=by simpa using h.symm
 rw[X3m n,nIn2,X3n h2,X3n h3,X3m (by decide),X3n rfl]
theorem Xu4{a b c e:Int}(l:Lie4 a b c e)(n:¬(a=c/\b=e))(h:((decide (c<a)&&decide (a<e))==(decide (c<b)&&decide (b<e)))=true)(h2:(decide (c<a)&&decide (a<e))=false):lieT a b c e=if (decide (a<c)&&decide (c<b))=true then "around" else "apart" := by
 unfold lieT
 rw[h2,beq_iff_eq] at h
 have h2:¬(c<a/\a<e):=λz=>by rw[X3o z.1,X3o z.2] at h2;cases h2
 have h3:¬(c<b/\b<e):=λz=>by rw[X3o z.1,X3o z.2] at h;cases h
 rw[X3m n,nIn2,X3m h2,X3m h3,X3m (by decide),X3m (by decide),nIn2]
 obtain⟨l1,l2⟩:=l
 have key:a<c/\c<b->a<e/\e<b:=λz=>by
  have:b≠e:=λq=>n ⟨l2 q,q⟩
  omega
 by_cases q:a<c/\c<b
 ·rw[X3n q,X3n (key q),X3n rfl,X3n (by simp[q])]
 ·rw[X3m q,X3m (by split<;>decide),X3m (by simpa using q)]
def spLieOf:Sp:=λvs H Q _=>∃(p q:Addr) (a b c e:Int),vs=[.ref p,.ref q]/\H p=some (.tup [.int a,.int b])/\H q=some (.tup [.int c,.int e])/\Lie4 a b c e/\∀H',Same H H'->Q (.str (lieT a b c e)) H'
theorem Xg8{ta tb tc:TE}{σ:L2.St}{H:Hp}{Q:VK}{x y z:Int}(ha:∀Q':VK,Q' (.int x) H->ta σ H Q')(hb:∀Q':VK,Q' (.int y) H->tb σ H Q')(hc:∀Q':VK,Q' (.int z) H->tc σ H Q')(h:Q (.bl (decide (x<y)&&decide (y<z))) H):
  Xog (rI0 λi j=>.bl (decide (i<j))) (rI0 λi j=>.bl (decide (i<j))) ta tb tc σ H Q:=by
 refine ha _ (hb _ ⟨x,y,rfl,rfl,_,rfl,?_⟩)
 refine ite2b (λq=>hc _ ⟨y,z,rfl,rfl,?_⟩) (λq=>?_)
 ·rw[q,X09] at h
  exact h
 ·rw[q,X08] at h
  exact h
def Xeg:Sp:=λvs H Q _=>∃(r:Addr) (row:List Str),vs=[.ref r]/\H r=some (.lst (row.map V.str))/\Row2 row /\
 ∀l xs H',H l=none->H' l=some (.lst xs)->DAll (hid l H') ((crs row).map prD) xs->Same H H'->Q (.ref l) H'
abbrev NSp:List Str:=["name", "row"]
abbrev NLo:List Str:=["here", "there", "first", "last"]
abbrev NCr:List Str:=["row", "span"]
abbrev NCc:List Str:=["one", "other", "span"]
theorem Spn.snoc{H H':Hp}{kvs:List (Key×V)}{row ns:List Str}{x:Str}{l:Addr}(s:Spn H kvs row ns)(nx:x∉ns)(h:H' l=some (.tup [.int (pl row x).1,.int (pl row x).2]))(k:∀b xs,H b=some (.tup xs)->H' b=some (.tup xs)):
  Spn H' (putK kvs (Sum.inr x) (.ref l)) row (ns++[x]):=by
 have hn:valV kvs (Sum.inr x:Key)=none:=by
  cases e:valV kvs (Sum.inr x:Key) with
  | none=>rfl
  | some v=>
   exfalso
   have:=Xgr e
   rw[s.keys] at this
   obtain⟨y,hy,e2⟩:=Xz0.mp this
   rw[X1j e2] at hy
   exact nx hy
 refine⟨by rw[Xeq _ hn,Xzu,Xzu,s.keys];rfl,λy hy=>?_⟩
 rw[Xep]
 by_cases e:y=x
 ·subst e
  exact⟨l,X3n rfl,h⟩
 ·have hy':y∈ns:=by
   rcases Xzw.mp hy with z | z
   ·exact z
   ·exact absurd (Xzs.mp z) e
  obtain⟨l0,h1,h2⟩:=s.val y hy'
  exact⟨l0,by rw[X3m (λz=>e (X1j z))];exact h1,k _ _ h2⟩
theorem Spn.get{H:Hp}{kvs:List (Key×V)}{row ns:List Str}{d:Addr}{x:Str}(s:Spn H kvs row ns)(hd:Rd H d (.dK kvs))(hx:x∈ns):∃l,DGet H d (.str x) (some (.ref l))/\H l=some (.tup [.int (pl row x).1,.int (pl row x).2]):=by
 obtain⟨l,h1,h2⟩:=s.val x hx
 exact⟨l,DGet.rd hd h1,h2⟩
theorem Spn.at{H:Hp}{kvs:List (Key×V)}{row ns:List Str}(s:Spn H kvs row ns)(i:Nat)(hi:i<ns.length):(kvs.map λp=>kV p.1).getD i .non = .str (ns.getD i Str.empty):=by
 have e:(kvs.map λp=>kV p.1)=ns.map V.str:=by
  have:(kvs.map λp=>kV p.1)=(kvs.map (·.1)).map kV:=by rw[X0h];rfl
  rw[this,s.keys,X0h]
  rfl
 rw[e]
 exact Xa0 V.str Str.empty ns hi
theorem Spn.len{H:Hp}{kvs:List (Key×V)}{row ns:List Str}(s:Spn H kvs row ns):kvs.length=ns.length:=by
 have:=congrArg List.length s.keys
 simpa using this
theorem Xb6{ns:List Str}{i:Nat}(hi:i<ns.length):ns.getD i Str.empty∈ns:=by
 have:ns.getD i Str.empty=ns[i]:=by simp[List.getD,hi]
 rw[this]
 exact X0b hi
theorem Wh.two'{H:Hp}{kvs:List (Key×V)}{row:List Str}{x:Str}(w:Wh H kvs row)(hx:x∈row)(h:row.count x=2):∃l,valV kvs (Sum.inr x:Key)=some (.ref l)/\H l=some (.lst [.int (pl row x).1,.int (pl row x).2]):=by
 obtain⟨l,h1,h2⟩:=w.val x hx
 rw[Xg7 h] at h2
 exact⟨l,h1,h2⟩
theorem Xb7{H:Hp}:∀{ss:List Str} {xs:List V},DAll H (ss.map PyData.str) xs->xs=ss.map V.str
 | [],xs,h=>by unfold List.map DAll at h;exact h
 | s::ss,xs,h=>by
  rw[Xz9] at h
  unfold DAll at h
  obtain⟨v,r,rfl,h1,h2⟩:=h
  unfold DAt at h1
  rw[h1,Xb7 h2]
  rfl
def Xfl:Sp:=λvs H Q _=>∃(r:Addr) (row:List Str),vs=[.ref r]/\H r=some (.lst (row.map V.str))/\(∀y∈row,y.length<=20)/\∀H',Same H H'->Q (.str (Xc5 row)) H'
def spTuple:Sp:=λvs H Q _=>∃(v:V) (ss:List Str),vs=[v]/\DAt H (.tuple (ss.map PyData.str)) v/\ss.length<=1000/\∀H',Same H H'->Q (.bl true) H'
def Xdg (how:Str) (off:Bool):Bool:=if how = "within" then off else (!decide (how = "apart") || !off)
def told (ss:List Str):List Str:=srt (ddup ss)
def Xah (row plot:List Str):Bool:=decide (plot=told plot)&&plot.all (λx=>decide (x∈row))&&plot.all λx=>(dit row).all λy=>Xdg (lieR row x y) (decide (y∈plot))
def trD (t:Str×Str×Str):PyData:=.tuple [.str t.1,.str t.2.1,.str t.2.2]
def barB (row:List Str) (x y:Str):Bool:=decide (lieR row x y = "within")||(decide (lieR row x y = "apart")&&decide (ltS x y))
def bars (row:List Str):List (Str×Str×Str):=(dit row).flatMap λx=>((dit row).filter (barB row x)).map λy=>(x,y,lieR row x y)
def Xfm (bs:List (Str×Str×Str)) (plot:List Str):Bool:=bs.all λt => !(decide (t.1∈plot) && !decide (decide (t.2.1∈plot)=decide (t.2.2 = "within")))
def Xpn (row plot:List Str):Bool:=decide (plot=(dit row).filter λy=>decide (y∈plot))&&Xfm (bars row) plot
theorem Xnl{a b c e:Int}(h1:a<b)(h2:c<e)(n1:a≠c)(n2:a≠e)(n3:b≠c)(n4:b≠e)(h:lieT a b c e = "apart"):lieT c e a b = "apart" := by
 unfold lieT at h ⊢
 rw[X3m (λz=>n1 z.1)] at h
 rw[X3m (λz=>n1 z.1.symm)]
 have e1:=nIn2 a b c e
 have e2:=nIn2 c e a b
 generalize nIn a b [c,e]=p at *
 generalize nIn c e [a,b]=q at *
 by_cases p1:a<c/\c<b<;>by_cases p2:a<e/\e<b<;>by_cases q1:c<a/\a<e<;>by_cases q2:c<b/\b<e <;>
  (first | rw[X3n p1] at e1 | rw[X3m p1] at e1)<;>(first | rw[X3n p2] at e1 | rw[X3m p2] at e1) <;>
  (first | rw[X3n q1] at e2 | rw[X3m q1] at e2)<;>(first | rw[X3n q2] at e2 | rw[X3m q2] at e2)<;>subst e1 e2<;>first
  | (exfalso;omega)
  | rfl
  | (exfalso;revert h;decide +kernel)
theorem Xnm{row:List Str}{x y:Str}(hx:row.count x=2)(hy:row.count y=2)(h:lieR row x y = "apart"):lieR row y x = "apart" := by
 by_cases n:x=y
 ·subst n;exact h
 ·obtain⟨n1,n2,n3,n4⟩:=Xk5 hx hy n
  exact Xnl (Xd5 hx) (Xd5 hy) n1 n2 n3 n4 h
theorem Xe3(row:List Str)(x:Str):lieR row x x = "same" := by
 unfold lieR lieT
 rw[X3n ⟨rfl,rfl⟩]
theorem Xf7{l:List Str}(h:l.Pairwise ltS):l.Pairwise leS:=h.imp λh=>Xxb h
theorem Xb8{l:List Str}(h:l.Pairwise ltS):l.Nodup:=h.imp λh=>Xjp h
theorem Xik{l:List Str}(h:l.Nodup):(ddup l).Perm l:=Xee (Xec l) h (Xeu l)
theorem Xil{l:List Str}(h:l.Pairwise ltS):told l=l:=Xjs ((Xbg _).trans (Xik (Xb8 h))) (Xd9 _) (Xf7 h)
theorem Xk6(l:List Str):(told l).Pairwise ltS:=Xdt l
theorem Xr4{l:List Str}{x:Str}:x∈told l↔x∈l:=Xaj
theorem Xeh{row plot:List Str}:(plot=(dit row).filter λy=>decide (y∈plot))↔(plot=told plot/\∀x∈plot,x∈row):=by
 constructor
 ·intro h
  have hp:plot.Pairwise ltS:=by
   rw[h]
   exact(Xdt row).filter _
  refine⟨(Xil hp).symm,λx hx=>?_⟩
  rw[h] at hx
  exact Xaj.mp (Xzm.mp hx).1
 ·rintro ⟨h1,h2⟩
  have hp:plot.Pairwise ltS:=by rw[h1];exact Xk6 plot
  have hq:((dit row).filter λy=>decide (y∈plot)).Pairwise ltS:=(Xdt row).filter _
  refine Xjs (Xee (Xb8 hp) (Xb8 hq) λx=>?_) (Xf7 hp) (Xf7 hq)
  rw[Xzm,decide_eq_true_eq,Xaj]
  exact⟨λh=>⟨h2 x h,h⟩,λh=>h.2⟩
theorem Xf8{row:List Str}{t:Str×Str×Str}:t∈bars row↔t.1∈row/\t.2.1∈row/\barB row t.1 t.2.1=true/\t.2.2=lieR row t.1 t.2.1:=by
 unfold bars
 rw[List.mem_flatMap]
 constructor
 ·rintro ⟨x,hx,h⟩
  obtain⟨y,hy,rfl⟩:=Xz0.mp h
  obtain⟨h1,h2⟩:=Xzm.mp hy
  exact⟨Xaj.mp hx,Xaj.mp h1,h2,rfl⟩
 ·rintro ⟨h1,h2,h3,h4⟩
  refine⟨t.1,Xaj.mpr h1,Xz0.mpr ⟨t.2.1,Xzm.mpr ⟨Xaj.mpr h2,h3⟩,?_⟩⟩
  rw[<-h4]
theorem Xk7{row plot:List Str}(h:∀y∈row,row.count y=2):Xpn row plot=Xah row plot:=by
 unfold Xpn Xah
 by_cases hp:plot=(dit row).filter λy=>decide (y∈plot)
 ·obtain⟨p1,p2⟩:=Xeh.mp hp
  have e1:plot.all (λx=>decide (x∈row))=true:=X0a.mpr λx hx=>X3o (p2 x hx)
  rw[X3o hp,X3o p1,e1,X09,X09]
  show Xfm (bars row) plot=(true&&_)
  rw[X09,X0y]
  unfold Xfm
  rw[X0a,X0a]
  constructor
  ·intro hf x hx
   rw[X0a]
   intro y hy
   have hyr:=Xaj.mp hy
   unfold Xdg
   by_cases hw:lieR row x y = "within"
   ·rw[X3n hw]
    have:=hf (x,y,lieR row x y) (Xf8.mpr ⟨p2 x hx,hyr,by unfold barB;rw[X3o hw];rfl,rfl⟩)
    simpa [hx,hw] using this
   ·rw[X3m hw]
    by_cases ha:lieR row x y = "apart"
    ·have hne:x≠y:=λz=>by
      rw[z,Xe3] at ha
      revert ha
      decide
     have ha2:=Xnm (h x (p2 x hx)) (h y hyr) ha
     have key:y∉plot:=λhy2=>by
      rcases Xgy x y with hle | hle
      ·have hlt:=ltS_of hle hne
       have:=hf (x,y,lieR row x y) (Xf8.mpr ⟨p2 x hx,hyr,by unfold barB;rw[X3o ha,X3o hlt,X2i,X3i],rfl⟩)
       rw[ha] at this
       simp[hx,hy2] at this
       revert this
       decide
      ·have hlt:=ltS_of hle (λz=>hne z.symm)
       have:=hf (y,x,lieR row y x) (Xf8.mpr ⟨hyr,p2 x hx,by unfold barB;rw[X3o ha2,X3o hlt,X2i,X3i],rfl⟩)
       rw[ha2] at this
       simp[hx,hy2] at this
       revert this
       decide
     rw[X3p key]
     simp
    ·rw[X3p ha]
     rfl
  ·intro hf t ht
   obtain⟨h1,h2,h3,h4⟩:=Xf8.mp ht
   by_cases hx:t.1∈plot
   ·have:=hf t.1 hx
    rw[X0a] at this
    have:=this t.2.1 (Xaj.mpr h2)
    rw[h4]
    unfold Xdg at this
    by_cases hw:lieR row t.1 t.2.1 = "within"
    ·rw[X3n hw] at this
     simp[hw,X3q this]
    ·rw[X3m hw] at this
     have ha:lieR row t.1 t.2.1 = "apart" := by
      unfold barB at h3
      rw[X3p hw,Bool.false_or,Xz2] at h3
      exact X3q h3.1
     rw[ha] at this
     have hn:t.2.1∉plot:=by simpa using this
     have hne:¬(("apart" : Str) = "within"):=by decide
     simp[hn,ha,hne]
   ·simp[hx]
 ·rw[X3p hp,X08]
  by_cases p1:plot=told plot
  ·have:¬ ∀x∈plot,x∈row:=λp2=>hp (Xeh.mpr ⟨p1,p2⟩)
   have e1:plot.all (λx=>decide (x∈row))=false:=by
    rw[X19]
    intro z
    rw[X0a] at z
    exact this λx hx=>X3q (z x hx)
   rw[e1,Bool.and_false,X08]
  ·rw[X3p p1,X08,X08]
theorem Xmh(a b:List Str)(h:PyData.tuple (a.map PyData.str)=PyData.tuple (b.map PyData.str)):a=b:=by
 injection h with h
 exact(X26 (λx y e=>by injection e)).mp h
theorem Xhx{ss:List Str}(h:∀y∈ss,okN y):Xbx (ss.map PyData.str)=true:=plainAll_map PyData.str ss λx hx=>Xpl (h x hx)
theorem Xcf{ss:List Str}(h:∀y∈ss,okN y):Xce (.tuple (ss.map PyData.str))=true:=Xhx h
theorem Xcg{ss:List Str}(h:∀y∈ss,okN y):Xce (.list (ss.map PyData.str))=true:=Xhx h
theorem Xca:∀(ss:List Str),PyData.depthAll (ss.map PyData.str)=0
 | []=>rfl
 | s::ss=>by
  rw[Xz9]
  unfold PyData.depthAll
  rw[Xca ss]
  rfl
theorem Xpo(a b:List Str):min (PyData.depth (.tuple (a.map PyData.str))) (PyData.depth (.tuple (b.map PyData.str)))<=3:=by
 have e:PyData.depth (.tuple (a.map PyData.str))=PyData.depthAll (a.map PyData.str)+1:=rfl
 rw[e,Xca]
 omega
theorem Xim{a b:List Str}(ha:∀y∈a,okN y)(hb:∀y∈b,okN y):PyData.eqv (.tuple (a.map PyData.str)) (.tuple (b.map PyData.str))=decide (a=b):=
 Xpe (λl:List Str=>PyData.tuple (l.map PyData.str)) Xmh a b (Xcf ha) (Xcf hb)
theorem Xcv{H:Hp}{p:Addr}{ss:List Str}(h:H p=some (.tup (ss.map V.str))):DAt H (.tuple (ss.map PyData.str)) (.ref p):=Xk0 h (Xcn ss)
def spTold (K:PySem.W.Frag):Sp:=λvs H Q _=>∃(p:Addr) (ss:List Str),vs=[.ref p]/\(SqL K H p (ss.map V.str)\/SqT K H p (ss.map V.str))/\ss.length<=60 /\
 ∀l H',H l=none->H' l=some (.tup ((told ss).map V.str))->Same H H'->Q (.ref l) H'
theorem Xj5{α : Type}(d : α)(p : α->Bool)(xs:List α):((List.range xs.length).map λi=>p (xs.getD i d)).any id=xs.any p:=by
 have e:(List.range xs.length).map (λi=>p (xs.getD i d))=xs.map p:=by
  have:=Xa7 d (λ_=>true) xs
  rw[X0o.mpr (λ_ _=>rfl),X0o.mpr (λ_ _=>rfl)] at this
  conv=>rhs;rw[<-this]
  rw[X0h]
  rfl
 rw[e,List.any_map]
 rfl
end SH
namespace L2
open PySem PySem.Spec PyProof.Rows
theorem Xxp{X:Cx}{o e:Expr}{es:List Expr}{to:TE}{t:TA}{name:Str}{apos cpos:Pos}{T id:String}{r:V->List V->Hp->VK->Prop}(K:PySem.W.Frag)(hK:X.K=K)(pa:PlainAttrs T)(slot:Slot T name id)(hty:typeOf (.builtin id)=pure (.type "method_descriptor"))(hm:MtR X id r)(ho:PE X o to)(ha:PA X (e::es) t)
  (hbase:attributeBase o name X.env (eval o X.env)=eval o X.env:=by rfl)
  (hfew:((backTo cpos (starEach (e::es) X.env)).all (λx => !x.1)&&(backToKw cpos (keywordEach [] X.env)).all (λx=>x.1.isSome)
   && decide ((e::es).length+([]:List Keyword).length+(if ([]:List Keyword).isEmpty then 0 else 1)<30))=true:=by rfl)
  (hline:(apos.endLine==cpos.line)=true:=by rfl) (hs:starEach (e::es) X.env=(false,eval e X.env)::starEach es X.env:=by rfl) (hplain:(backTo cpos (starEach es X.env)).any (·.1)=false:=by rfl):
  PE X (.Call (.Attribute o name apos) (e::es) [] cpos) (tBM K T r to t):=by
 subst hK
 exact Xon pa slot hty hm ho ha hbase hfew hline hs hplain
def Xxq (K:PySem.W.Frag) (i:Nat):TE:=fun σ H Q=>∃v, σ[i]? = some (some v)/\∃p ss,v = .ref p/\(SqL K H p (ss.map V.str)\/SqT K H p (ss.map V.str))/\ss.length<=60/\∀l H',H l=none->H' l=some (.lst ((dit ss).map V.str))->Same H H'->Q (.ref l) H'
theorem Xmi{X:Cx}{i:Nat}{x:Str}{pos p1 p2 q1 q2:Pos}(hc:X.calm=true)(hg1:Gl X "sorted")(hm1:X.mg "sorted" = none)(hg2:Gl X "set")(hm2:X.mg "set" = none)(hv:PE X (.Name x pos) (tVar i))
  (h1:starEach [.Call (.Name "set" p2) [.Name x pos] [] q2] X.env=[(false,eval (.Call (.Name "set" p2) [.Name x pos] [] q2) X.env)]:=by rfl) (h2:starEach [.Name x pos] X.env=[(false,eval (.Name x pos) X.env)]:=by rfl):
  PE X (.Call (.Name "sorted" p1) [.Call (.Name "set" p2) [.Name x pos] [] q2] [] q1) (Xxq X.K i):=by
 intro pins s σ H Q I h
 obtain⟨v,hv1,p,ss,ev,hq,hl,k⟩:=h
 refine(Xal (Xcd hc) hg1 hm1 (by rfl) (Xaa (Xa8 (Xev hc) hg2 hm2 (by rfl) (Xaa hv Xac) (by decide) (by decide) h2) Xac) (by decide) (by decide) h1) pins s σ H Q I ?_
 refine⟨v,hv1,p,ss,by rw[ev],hq,by unfold scanBound;omega,λa na=>?_⟩
 have hdl:=Xdz ss
 refine⟨a,ddup ss,rfl,Xab,by omega,λl ls nl hp hs=>?_⟩
 rw[Xgz hp hs]
 have s1:Same H (upd H a (SetO X.prog X.w a (ddup ss))):=(Same.refl H).step na
 exact k l _ (s1.free nl) Xab (s1.step nl)
end L2
namespace SH
open PySem PySem.Spec PyProof.Rows L2
theorem Isl.dlen{row:List Str}(h:Isl row):(dit row).length<=14:=by
 obtain⟨n,st,late,hn,hs,p⟩:=h.ex
 have hp:(dit row).Perm (Xat st late n):=Xee (Xg0 row) (Xf6 hs hn) λx=>by
  rw[Xaj,p.mem_iff,Xzw,or_self]
 rw[hp.length_eq]
 unfold Xat
 rw[Xzl,X0j]
 exact hn
def Xco (ss:List Str) (x:Str):List Str:=srt (ss.filter (λy=>decide (y≠x))++(if x∈ss then [] else [x]))
def spFlip:Sp:=λvs H Q _=>∃(p:Addr) (ss:List Str) (x:Str),vs=[.ref p,.str x]/\H p=some (.tup (ss.map V.str))/\ss.length<=60 /\
 ∀q H',H q=none->H' q=some (.tup ((Xco ss x).map V.str))->Same H H'->Q (.ref q) H'
theorem Xmj{ss:List Str}{x y:Str}(h:y∈Xco ss x):y∈ss\/y=x:=by
 unfold Xco at h
 rw[Xds,Xzw] at h
 rcases h with h | h
 ·exact .inl (Xzm.mp h).1
 ·split at h
  ·simp at h
  ·exact .inr (Xzs.mp h)
def Xpp:Sp:=λvs H Q _=>∃(b p:Addr) (xs:List V) (bs:List (Str×Str×Str)) (ss:List Str),vs=[.ref b,.ref p]/\H b=some (.lst xs)/\DAll H (bs.map trD) xs/\H p=some (.tup (ss.map V.str)) /\
 ∀H',Same H H'->Q (.bl (Xfm bs ss)) H'
def spBars:Sp:=λvs H Q _=>∃(r:Addr) (row:List Str),vs=[.ref r]/\H r=some (.lst (row.map V.str))/\Row2 row /\
 ∀l xs H',H l=none->H' l=some (.lst xs)->DAll H' ((bars row).map trD) xs->Same H H'->Q (.ref l) H'
theorem Xu5{H:Hp}{t:Str×Str×Str}{v:V}(h:DAt H (trD t) v):∃p,v = .ref p/\H p=some (.tup [.str t.1,.str t.2.1,.str t.2.2]):=by
 obtain⟨p,xs,rfl,hp,hs⟩:=Xpc h
 have:=Xb7 (ss:=[t.1,t.2.1,t.2.2]) hs
 rw[this] at hp
 exact⟨p,rfl,hp⟩
def Xcb (row:List Str) (x:Str) (ys:List Str):List (Str×Str×Str):=(ys.filter (barB row x)).map λy=>(x,y,lieR row x y)
def Xcj (row:List Str) (i:Nat):List (Str×Str×Str):=((dit row).take i).flatMap λx=>Xcb row x (dit row)
theorem Xk8(row:List Str):Xcj row (dit row).length=bars row:=by
 unfold Xcj
 rw[X0n]
 rfl
theorem Xj6(row:List Str){i:Nat}(hi:i<(dit row).length):Xcj row (i+1)=Xcj row i++Xcb row ((dit row).getD i Str.empty) (dit row):=by
 unfold Xcj
 rw[Xzz hi,X21,X3b,List.flatMap_nil,X0t]
 simp[List.getD,hi]
theorem Xj7(row:List Str)(x:Str){j:Nat}(hj:j<(dit row).length):Xcb row x ((dit row).take (j+1))=Xcb row x ((dit row).take j)++(if barB row x ((dit row).getD j Str.empty)=true then [(x,(dit row).getD j Str.empty,lieR row x ((dit row).getD j Str.empty))] else []):=by
 unfold Xcb
 have e:(dit row).getD j Str.empty=(dit row)[j]:=by simp[List.getD,hj]
 rw[Xzz hj,Xz5,Xzu,e,X0p]
 split<;>rfl
theorem Xg9(row:List Str)(x:Str)(ys:List Str):(Xcb row x ys).length<=ys.length:=by
 unfold Xcb
 rw[Xzl]
 exact X0e ..
theorem Xk9(row:List Str)(i:Nat):(Xcj row i).length<=i * (dit row).length:=by
 unfold Xcj
 rw[List.length_flatMap]
 have h:∀l:List Str,(l.map λx=>(Xcb row x (dit row)).length).sum<=l.length * (dit row).length:=by
  intro l
  induction l with
  | nil=>simp
  | cons x l ih=>
   rw[Xz9,X1s,Xz6,Nat.succ_mul]
   have:=Xg9 row x (dit row)
   omega
 refine X0d (h _) (Nat.mul_le_mul_right _ ?_)
 rw[X0c]
 omega
abbrev NFl:List Str:=["_law_plot", "_law_name"]
abbrev NFl1:List Str:=["_law_one", "_law_name"]
abbrev NFi:List Str:=["_law_bars_here", "_law_plot", "_law_one", "_law_other", "_law_word_here"]
abbrev NBr:List Str:=["_law_row_here", "_law_where_here", "_law_told", "_law_one", "_law_other", "_law_word_here"]
def spBankOf:Sp:=λvs H Q _=>∃(p:Addr) (ss:List Str) (x:Str),vs=[.ref p,.str x]/\H p=some (.tup (ss.map V.str))/\∀H',Same H H'->Q (.str (if x∈ss then "off" else "home")) H'
theorem DrawOk.ntup{H:Hp}{dr sc:Addr}(d:DrawOk H dr sc):∀q ys,H q=some (.tup ys)->q≠dr:=λq ys e z=>by
 obtain⟨xs,h⟩:=d.at
 rw[z,h] at e
 cases e
def mid (row:List Str) (x:Str):List Str:=((row.dropWhile λy=>decide (y≠x)).tail).takeWhile λy=>decide (y≠x)
theorem Xtr{x y:Str}{r:List Str}(h:x∉y::r):decide (y≠x)=true:=by
 have:y≠x:=λe=>h (by rw[e];exact Xzr)
 simpa using this
theorem Xnn{A R:List Str}{x:Str}(h:x∉A):(A++x::R).dropWhile (λy=>decide (y≠x))=x::R:=by
 induction A with
 | nil=>rw[X12,X1m,X3m (by simp)]
 | cons y r ih=>
  rw[List.cons_append,X1m,X3n (Xtr h)]
  exact ih λz=>h (Xzq _ z)
theorem Xno{A R:List Str}{x:Str}(h:x∉A):(A++x::R).takeWhile (λy=>decide (y≠x))=A:=by
 induction A with
 | nil=>rw[X12,X1n,X3m (by simp)]
 | cons y r ih=>
  rw[List.cons_append,X1n,X3n (Xtr h)]
  rw[ih λz=>h (Xzq _ z)]
theorem Xha{A B C:List Str}{x:Str}(hA:x∉A)(hB:x∉B):mid (A++x::(B++x::C)) x=B:=by
 unfold mid
 rw[Xnn hA,List.tail_cons,Xno hB]
theorem split1{x:Str}:∀{row:List Str},x∈row->∃A R,row=A++x::R/\x∉A:=by
 intro row
 induction row with
 | nil=>intro h;cases h
 | cons y r ih=>
  intro h
  by_cases e:x=y
  ·exact⟨[],r,by rw[e];rfl,by simp⟩
  ·obtain⟨A,R,h1,h2⟩:=ih ((Xzy.mp h).resolve_left e)
   exact⟨y::A,R,by rw[h1];rfl,λz=>(Xzy.mp z).elim e h2⟩
theorem split2{row:List Str}{x:Str}(h:row.count x=2):∃A B C,row=A++x::(B++x::C)/\x∉A/\x∉B/\x∉C:=by
 obtain⟨A,R,h1,h2⟩:=split1 (X25.mp (by omega:0<row.count x))
 rw[h1,X1w,X10.mpr h2,X2b] at h
 have hR:R.count x=1:=by omega
 obtain⟨B,C,h3,h4⟩:=split1 (X25.mp (by omega:0<R.count x))
 rw[h3,X1w,X10.mpr h4,X2b] at hR
 exact⟨A,B,C,by rw[h1,h3],h2,h4,X10.mp (by omega)⟩
theorem Xe4(x:Str):∀(n:Nat) (l r:List Str),plcF x n (l++r)=plcF x n l++plcF x (n+l.length) r
 | n,[],r=>rfl
 | n,y::l,r=>by
  have ih:=Xe4 x (n+1) l r
  have e:n+(y::l).length=n+1+l.length:=by rw[Xz6];omega
  rw[e]
  show (if y=x then (n:Int)::plcF x (n+1) (l++r) else plcF x (n+1) (l++r))=(if y=x then (n:Int)::plcF x (n+1) l else plcF x (n+1) l)++_
  rw[ih]
  split<;>rfl
theorem Xf9(x:Str):∀(n:Nat) (l:List Str),∀i∈plcF x n l,(n:Int)<=i/\i<n+l.length
 | n,[]=>λi h=>by cases h
 | n,y::l=>λi h=>by
  have ih:=Xf9 x (n+1) l
  have h':i=n\/i∈plcF x (n+1) l:=by
   change i∈(if y=x then (n:Int)::plcF x (n+1) l else plcF x (n+1) l) at h
   split at h
   ·exact Xzy.mp h
   ·exact .inr h
  rw[Xz6]
  rcases h' with rfl | h'
  ·omega
  ·have:=ih i h'
   omega
theorem Xga{x:Str}:∀(n:Nat) (l:List Str),x∉l->plcF x n l=[]
 | _,[],_=>rfl
 | n,y::l,h=>by
  show (if y=x then (n:Int)::plcF x (n+1) l else plcF x (n+1) l)=[]
  rw[X3m (λe=>h (by rw[e];exact Xzr))]
  exact Xga _ _ λz=>h (Xzq _ z)
theorem Xu6{row:List Str}{x y:Str}(hx:row.count x=2)(n:x≠y):nIn (pl row x).1 (pl row x).2 (plc row y)=(mid row x).count y:=by
 obtain⟨A,B,C,e,hA,hB,hC⟩:=split2 hx
 have ex:plc row x=[(A.length:Int),((A.length+1+B.length:Nat):Int)]:=by
  unfold plc
  rw[e,Xe4,Xga _ _ hA]
  show []++(if x=x then _ else _)=_
  rw[X3n rfl,Xe4,Xga _ _ hB]
  show []++(_::([]++(if x=x then _ else _)))=_
  rw[X3n rfl,Xga _ _ hC]
  simp
 have ey:plc row y=plcF y 0 A++(plcF y (A.length+1) B++plcF y (A.length+1+B.length+1) C):=by
  unfold plc
  rw[e,Xe4]
  show _++(if x=y then _ else _)=_
  rw[X3m n,Xe4]
  show _++(_++(if x=y then _ else _))=_
  rw[X3m n]
  simp
 rw[Xxm ex,ey]
 unfold nIn inn
 rw[Xz5,Xz5]
 have e1:(plcF y 0 A).filter (λt=>decide ((A.length:Int)<t)&&decide (t<((A.length+1+B.length:Nat):Int)))=[]:=by
  rw[X1o]
  intro i hi
  have:=Xf9 y 0 A i hi
  simp
  intro
  omega
 have e2:(plcF y (A.length+1) B).filter (λt=>decide ((A.length:Int)<t)&&decide (t<((A.length+1+B.length:Nat):Int)))=plcF y (A.length+1) B:=by
  rw[X0o]
  intro i hi
  have:=Xf9 y (A.length+1) B i hi
  simp
  omega
 have e3:(plcF y (A.length+1+B.length+1) C).filter (λt=>decide ((A.length:Int)<t)&&decide (t<((A.length+1+B.length:Nat):Int)))=[]:=by
  rw[X1o]
  intro i hi
  have:=Xf9 y _ C i hi
  simp
  intro
  omega
 rw[e1,e2,e3,X12,X0t,Xf5]
 rw[e,Xha hA hB]
def Xax (row:List Str) (x y:Str):Prop:=lieR row x y = "cross"
instance (row:List Str) (x y:Str):Decidable (Xax row x y):=inferInstanceAs (Decidable (_=_))
theorem Xfn{a b c e:Int}:Xhn a b c e false = "cross" ↔ nIn a b [c,e]=1:=by
 unfold Xhn
 have e3:(inn a b [c,e]).length=nIn a b [c,e]:=rfl
 have h2:(inn a b [c,e]).length<=2:=Xpj a b [c,e]
 rw[e3] at *
 generalize nIn a b [c,e]=q at *
 match q,h2 with
 | 0,_=>
  rw[X3m (by decide)]
  split<;>decide
 | 1,_=>rw[X3n (by decide)];decide
 | 2,_=>rw[X3n (by decide)];decide
theorem Xe5{row:List Str}{x y:Str}(hx:row.count x=2)(hy:row.count y=2)(n:x≠y):Xax row x y↔(mid row x).count y=1:=by
 unfold Xax
 rw[Xc6 hx hy,X3p n,Xfn,<-Xg7 hy,Xu6 hx n]
theorem Xch{row:List Str}{x:Str}(hx:row.count x=2):¬Xax row x x:=by
 unfold Xax lieR lieT
 rw[X3n ⟨rfl,rfl⟩]
 decide
theorem Xbj{row:List Str}{x y:Str}(hx:row.count x=2)(hy:row.count y=2)(h:Xax row x y):Xax row y x:=by
 by_cases n:x=y
 ·subst n;exact h
 ·obtain⟨n1,n2,n3,n4⟩:=Xk5 hx hy n
  unfold Xax at *
  rw[Xc6 hx hy,X3p n,Xfn,nIn2] at h
  rw[Xc6 hy hx,X3p (λe=>n e.symm),Xfn,nIn2]
  have l1:=Xd5 hx
  have l2:=Xd5 hy
  generalize (pl row x).1=a at *
  generalize (pl row x).2=b at *
  generalize (pl row y).1=c at *
  generalize (pl row y).2=e at *
  by_cases p1:a<c/\c<b<;>by_cases p2:a<e/\e<b<;>by_cases q1:c<a/\a<e<;>by_cases q2:c<b/\b<e <;>
  (first | rw[X3n p1] at h | rw[X3m p1] at h)<;>(first | rw[X3n p2] at h | rw[X3m p2] at h) <;>
  (first | rw[X3n q1] | rw[X3m q1])<;>(first | rw[X3n q2] | rw[X3m q2])<;>omega
theorem Xhy{x:Str}{p:Str->Bool}(h:p x=true):∀row:List Str,mid (row.filter p) x=(mid row x).filter p:=by
 have tk:∀l:List Str,(l.filter p).takeWhile (λy=>decide (y≠x))=(l.takeWhile λy=>decide (y≠x)).filter p:=by
  intro l
  induction l with
  | nil=>rfl
  | cons y r ih=>
   by_cases e:y=x
   ·subst e
    rw[X0p,X3n h,X1n,X3m (by simp),X1n,X3m (by simp)]
    rfl
   ·rw[X1n,X3n (X3o e),X0p,X0p]
    by_cases q:p y=true
    ·rw[X3n q,X3n q,X1n,X3n (X3o e),ih]
    ·rw[X3m q,X3m q,ih]
 intro row
 unfold mid
 rw[<-tk]
 congr 1
 induction row with
 | nil=>rfl
 | cons y r ih=>
  by_cases e:y=x
  ·subst e
   rw[X0p,X3n h,X1m,X3m (by simp),X1m,X3m (by simp)]
   rfl
  ·rw[X1m,X3n (X3o e),<-ih,X0p]
   by_cases q:p y=true
   ·rw[X3n q,X1m,X3n (X3o e)]
   ·rw[X3m q]
theorem Xla{row row':List Str}{x y:Str}(hx:row.count x=2)(hy:row.count y=2)(hx':row'.count x=2)(hy':row'.count y=2)
  (e:row.filter (λz=>decide (z=x\/z=y))=row'.filter (λz=>decide (z=x\/z=y))):Xax row x y↔Xax row' x y:=by
 by_cases n:x=y
 ·subst n
  exact⟨λh=>absurd h (Xch hx),λh=>absurd h (Xch hx')⟩
 ·rw[Xe5 hx hy n,Xe5 hx' hy' n]
  have h1:∀r:List Str,(mid r x).count y=(mid (r.filter λz=>decide (z=x\/z=y)) x).count y:=λr=>by
   rw[Xhy (by simp),List.count_filter (by simp)]
  rw[h1 row,h1 row',e]
def Xbk (row:List Str):Prop:=∀x∈row,∀y∈row,∀z∈row,Xax row x y->Xax row x z->¬Xax row y z
theorem Xlb:Xbk []:=λx h=>by cases h
theorem Xhb{row more:List Str}{x:Str}(h:Xbk row)(h2:∀y∈row,row.count y=2)(h2':∀y∈more,more.count y=2)(hin:∀y∈more,y=x\/y∈row)
  (hf:∀p:Str->Bool,p x=false->more.filter p=row.filter p) (hb:∀y∈more,∀z∈more,Xax more x y->Xax more x z->¬Xax more y z):Xbk more:=by
 intro a ha b hb' c hc k1 k2 k3
 have s12:=Xbj (h2' a ha) (h2' b hb') k1
 have s13:=Xbj (h2' a ha) (h2' c hc) k2
 have s23:=Xbj (h2' b hb') (h2' c hc) k3
 by_cases ea:a=x
 ·subst ea;exact hb b hb' c hc k1 k2 k3
 by_cases eb:b=x
 ·subst eb;exact hb a ha c hc s12 k3 k2
 by_cases ec:c=x
 ·subst ec;exact hb a ha b hb' s13 s23 k1
 have ra:=(hin a ha).resolve_left ea
 have rb:=(hin b hb').resolve_left eb
 have rc:=(hin c hc).resolve_left ec
 have go:∀u v:Str,u≠x->v≠x->u∈row->v∈row->u∈more->v∈more->Xax more u v->Xax row u v:=λu v nu nv hu hv mu mv k=>
  (Xla (h2' u mu) (h2' v mv) (h2 u hu) (h2 v hv) (hf _ (by
   rw[decide_eq_false_iff_not]
   rintro (e | e)
   ·exact nu e.symm
   ·exact nv e.symm))).mp k
 exact h a ra b rb c rc (go a b ea eb ra rb ha hb' k1) (go a c ea ec ra rc ha hc k2) (go b c eb ec rb rc hb' hc k3)
theorem Xlc{row:List Str}{x:Str}{a b:Nat}(hab:a<=b){p:Str->Bool}(h:p x=false):(putR row x a b).filter p=row.filter p:=by
 unfold putR
 have e:row=row.take a++((row.drop a).take (b - a)++row.drop b):=by
  have e1:row.drop b=(row.drop a).drop (b - a):=by rw[List.drop_drop];congr 1;omega
  rw[e1,X0v,X0v]
 conv=>rhs;rw[e]
 simp[Xz5,X0p,h]
theorem Xr5{A C:List Str}{x y:Str}(hx:(A++[x,x]++C).count x=2)(hy:(A++[x,x]++C).count y=2):¬Xax (A++[x,x]++C) x y:=by
 by_cases n:x=y
 ·subst n;exact Xch hx
 ·rw[Xe5 hx hy n]
  have hA:x∉A:=by
   rw[<-X10]
   rw[X1w,X1w,X2b,X2b] at hx
   omega
  have e:A++[x,x]++C=A++x::([]++x::C):=by simp
  rw[e,Xha hA (by simp)]
  simp
theorem Xld{row:List Str}{x:Str}{a:Nat}{p:Str->Bool}(h:p x=false):(row.take a++[x,x]++row.drop a).filter p=row.filter p:=by
 simp[Xz5,X0p,h]
 rw[<-Xz5,X0v]
theorem Xpq{F:List Str}{x y:Str}(hF:F.Nodup)(hx:x∈F)(n:x≠y):(mid (F++F.reverse) x).count y≠1:=by
 obtain⟨A,B,rfl,hA⟩:=split1 hx
 have hB:x∉B:=by
  have h1:=(X02.mp hF).2.1
  exact(X01.mp h1).1
 have e:(A++x::B)++(A++x::B).reverse=A++x::((B++B.reverse)++x::A.reverse):=by simp
 rw[e,Xha hA (by simp[hB]),X1w,List.count_reverse]
 omega
theorem Xcw{ns:List Str}(hn:ns.Nodup)(c:Nat){x y:Str}(h2:∀z∈ns,(ns++(ns.take c).reverse++(ns.drop c).reverse).count z=2)
  (h:(x∈ns.take c/\y∈ns.take c)\/(x∈ns.drop c/\y∈ns.drop c)):¬Xax (ns++(ns.take c).reverse++(ns.drop c).reverse) x y:=by
 have sub:(∀z,z∈ns.take c->z∈ns)/\∀z,z∈ns.drop c->z∈ns:=⟨λz=>X1u,λz=>X1v⟩
 have hx:x∈ns:=h.elim (λz=>sub.1 _ z.1) λz=>sub.2 _ z.1
 have hy:y∈ns:=h.elim (λz=>sub.1 _ z.2) λz=>sub.2 _ z.2
 by_cases n:x=y
 ·subst n;exact Xch (h2 x hx)
 rw[Xe5 (h2 x hx) (h2 y hy) n]
 have key:(mid (ns++(ns.take c).reverse++(ns.drop c).reverse) x).count y=(mid ((ns++(ns.take c).reverse++(ns.drop c).reverse).filter λz=>decide (z=x\/z=y)) x).count y:=by
  rw[Xhy (by simp),List.count_filter (by simp)]
 rw[key]
 have dj:∀z,z∈ns.take c->z∈ns.drop c->False:=by
  have:=hn
  rw[<-X0v c ns] at this
  intro z h1 h2
  exact(X02.mp this).2.2 z h1 z h2 rfl
 have e0:ns.filter (λz=>decide (z=x\/z=y))=(ns.take c).filter (λz=>decide (z=x\/z=y))++(ns.drop c).filter (λz=>decide (z=x\/z=y)):=by
  rw[<-Xz5,X0v]
 rw[Xz5,Xz5,e0,List.filter_reverse,List.filter_reverse]
 rcases h with ⟨h1,h2⟩ | ⟨h1,h2⟩
 ·have e:(ns.drop c).filter (λz=>decide (z=x\/z=y))=[]:=by
   rw[X1o]
   intro z hz q
   rcases X3q q with q | q
   ·exact dj x h1 (q ▸ hz)
   ·exact dj y h2 (q ▸ hz)
  rw[e,X0t,List.reverse_nil,X0t]
  exact Xpq ((hn.sublist (X1i ..)).filter _) (Xzm.mpr ⟨h1,by simp⟩) n
 ·have e:(ns.take c).filter (λz=>decide (z=x\/z=y))=[]:=by
   rw[X1o]
   intro z hz q
   rcases X3q q with q | q
   ·exact dj x (q ▸ hz) h1
   ·exact dj y (q ▸ hz) h2
  rw[e,X12,List.reverse_nil,X0t]
  exact Xpq ((hn.sublist (List.drop_sublist ..)).filter _) (Xzm.mpr ⟨h1,by simp⟩) n
theorem noThree_grid{ns:List Str}(hn:ns.Nodup)(c:Nat)(h2:∀z∈ns,(ns++(ns.take c).reverse++(ns.drop c).reverse).count z=2):Xbk (ns++(ns.take c).reverse++(ns.drop c).reverse):=by
 have mem:∀z,z∈ns++(ns.take c).reverse++(ns.drop c).reverse->z∈ns.take c\/z∈ns.drop c:=by
  intro z hz
  rw[<-Xzw,X0v]
  simp only[Xzw,List.mem_reverse] at hz
  rcases hz with (h | h) | h
  ·exact h
  ·exact X1u h
  ·exact X1v h
 intro x hx y hy z hz k1 k2 k3
 rcases mem x hx with a | a<;>rcases mem y hy with b | b<;>rcases mem z hz with d | d
 ·exact Xcw hn c h2 (.inl ⟨a,b⟩) k1
 ·exact Xcw hn c h2 (.inl ⟨a,b⟩) k1
 ·exact Xcw hn c h2 (.inl ⟨a,d⟩) k2
 ·exact Xcw hn c h2 (.inr ⟨b,d⟩) k3
 ·exact Xcw hn c h2 (.inl ⟨b,d⟩) k3
 ·exact Xcw hn c h2 (.inr ⟨a,d⟩) k2
 ·exact Xcw hn c h2 (.inr ⟨a,b⟩) k1
 ·exact Xcw hn c h2 (.inr ⟨a,b⟩) k1
def spBarredN:Sp:=λvs H Q _=>∃(r:Addr) (row:List Str) (x:Str),vs=[.ref r,.str x]/\H r=some (.lst (row.map V.str))/\row.length<=1000/\(∀y∈row,row.count y=2)/\x∈row /\
 ∀b H',(b=false->∀y∈row,∀z∈row,Xax row x y->Xax row x z->¬Xax row y z)->Same H H'->Q (.bl b) H'
def spRowN:Sp:=λvs H Q _=>∃(dr sc nl:Addr) (ns:List Str),vs=[.ref dr,.ref nl]/\DrawOk H dr sc/\H nl=some (.lst (ns.map V.str))/\nl≠dr/\ns.Nodup/\ns.length<=14 /\
 ∀(l:Addr) (row:List Str) (H':Hp),H l=none->H' l=some (.lst (row.map V.str))->row.Perm (ns++ns)->Xbk row->DrawOk H' dr sc->But dr H H'->Q (.ref l) H'
def spIslandN:Sp:=λvs H Q _=>∃(dr sc:Addr) (m:Nat),vs=[.ref dr,.int m]/\m<=14/\DrawOk H dr sc /\
 ∀(l:Addr) (row:List Str) (n st:Nat) (late:Bool) (H':Hp),H l=none->n<=m->st<26->H' l=some (.lst (row.map V.str))->row.Perm (Xat st late n++Xat st late n)->Xbk row->DrawOk H' dr sc->But dr H H'->Q (.ref l) H'
theorem Xj8{p:Prop}{_:Decidable p}(h:decide p=false):¬p:=X3r h
theorem Wh.pl{H:Hp}{kvs:List (Key×V)}{row:List Str}{x:Str}(w:Wh H kvs row)(hx:x∈row)(h:row.count x=2):∃l,valV kvs (Sum.inr x:Key)=some (.ref l)/\H l=some (.lst [.int (pl row x).1,.int (pl row x).2]):=by
 obtain⟨l,h1,h2⟩:=w.val x hx
 rw[Xg7 h] at h2
 exact⟨l,h1,h2⟩
def deg2 {α : Type} (R : α -> α->Bool) (l:List α):Nat:=(l.map λx=>l.countP (R x)).sum
theorem Xr6{a b:List Nat}(p:a.Perm b):a.sum=b.sum:=by
 induction p with
 | nil=>rfl
 | cons x _ ih=>simp[ih]
 | swap x y l=>simp;omega
 | trans _ _ h1 h2=>exact h1.trans h2
theorem Xpr{α : Type}{R : α -> α->Bool}{a b:List α}(p:a.Perm b):deg2 R a=deg2 R b:=by
 unfold deg2
 have e:(a.map λx=>a.countP (R x))=a.map λx=>b.countP (R x):=X00 λx _=>p.countP_eq _
 rw[e]
 exact Xr6 (p.map _)
theorem Xei{α : Type}(f g : α->Nat):∀l:List α,(l.map λx=>f x+g x).sum=(l.map f).sum+(l.map g).sum
 | []=>rfl
 | x::r=>by simp[Xei f g r];omega
theorem Xbs{α : Type}(p : α->Bool):∀l:List α,(l.map λx=>if p x=true then 1 else 0).sum=l.countP p
 | []=>rfl
 | x::r=>by
  rw[Xz9,X1s,Xbs p r,X0x]
  omega
theorem Xmk{α : Type}:∀l:List α,(l.map λ_=>0).sum=0
 | []=>rfl
 | _::r=>by rw[Xz9,X1s,Xmk r]
theorem mantel{α : Type}[DecidableEq α]{R : α -> α->Bool}:∀(n:Nat) (l:List α),l.length=n->l.Nodup->(∀x∈l,R x x=false)->(∀x∈l,∀y∈l,R x y=R y x) ->
  (∀x∈l,∀y∈l,∀z∈l,R x y=true->R x z=true->R y z=false)->2 * deg2 R l<=n * n:=by
 intro n
 induction n using Nat.strongRecOn with
 | ind n ih=>
  intro l hl nd irr sy tri
  by_cases h:∃u∈l,∃v∈l,R u v=true
  ·obtain⟨u,hu,v,hv,huv⟩:=h
   have nuv:u≠v:=λe=>by subst e;rw[irr u hu] at huv;cases huv
   have p1:l.Perm (u::l.erase u):=List.perm_cons_erase hu
   have hv':v∈l.erase u:=(List.mem_erase_of_ne nuv.symm).mpr hv
   have p2:l.Perm (u::v::(l.erase u).erase v):=p1.trans (List.Perm.cons u (List.perm_cons_erase hv'))
   generalize (l.erase u).erase v=r at p2
   have hlen:=p2.length_eq
   simp only[Xz6] at hlen
   have nd':=p2.nodup_iff.mp nd
   have mr:∀x∈r,x∈l:=λx hx=>p2.mem_iff.mpr (Xzq _ (Xzq _ hx))
   have ndr:r.Nodup:=(X01.mp (X01.mp nd').2).2
   have ihr:=ih r.length (by omega) r rfl ndr (λx hx=>irr x (mr x hx)) (λx hx y hy=>sy x (mr x hx) y (mr y hy)) (λx hx y hy z hz=>tri x (mr x hx) y (mr y hy) z (mr z hz))
   have e:deg2 R l=2+2 * (r.countP (R u)+r.countP (R v))+deg2 R r:=by
    rw[Xpr p2]
    unfold deg2
    rw[Xz9,Xz9,X1s,X1s]
    have ef:(r.map λx=>(u::v::r).countP (R x))=r.map λx=>((if R u x=true then 1 else 0)+(if R v x=true then 1 else 0))+r.countP (R x):=by
     refine X00 λx hx=>?_
     rw[X0x,X0x,sy x (mr x hx) u hu,sy x (mr x hx) v hv]
     omega
    rw[ef,Xei,Xei,Xbs,Xbs,X0x,X0x,X0x,X0x,irr u hu,irr v hv,huv,sy v hv u hu,huv]
    simp
    omega
   have le:r.countP (R u)+r.countP (R v)<=r.length:=by
    rw[<-Xbs (R u),<-Xbs (R v),<-Xei]
    have:∀m:List α,(∀x∈m,x∈l)->(m.map λx=>(if R u x=true then 1 else 0)+(if R v x=true then 1 else 0)).sum<=m.length:=by
     intro m
     induction m with
     | nil=>intro _;exact Xzn _
     | cons x t iht=>
      intro hm
      have h1:=iht λy hy=>hm y (Xzq _ hy)
      have hx:=hm x Xzr
      have h2:(if R u x=true then 1 else 0)+(if R v x=true then 1 else 0)<=1:=by
       by_cases a:R u x=true
       ·have:=tri u hu v hv x hx huv a
        rw[this,X3n a]
        decide
       ·rw[X3m a]
        split<;>decide
      rw[Xz9,X1s,Xz6]
      omega
    exact this r mr
   have hn:n=r.length+2:=by omega
   rw[e,hn]
   have:(r.length+2) * (r.length+2)=r.length * r.length+4 * r.length+4:=by
    rw[Nat.add_mul,Nat.mul_add];omega
   rw[this]
   omega
  ·have z:deg2 R l=0:=by
    unfold deg2
    have:(l.map λx=>l.countP (R x))=l.map λ_=>0:=by
     refine X00 λx hx=>?_
     rw[List.countP_eq_zero]
     intro y hy q
     exact h ⟨x,hx,y,hy,q⟩
    rw[this]
    exact Xmk l
   rw[z]
   exact X0m _
theorem Xml{α β : Type}(p : α -> β->Bool)(m:List β):∀l:List α,(l.map λx=>m.countP (p x)).sum=(m.map λy=>l.countP λx=>p x y).sum
 | []=>by
  show 0=_
  induction m with
  | nil=>rfl
  | cons y r ih=>rw[Xz9,X1s,<-ih];rfl
 | x::l=>by
  rw[Xz9,X1s,Xml p m l]
  have e:(m.map λy=>(x::l).countP λx=>p x y)=m.map λy=>(if p x y=true then 1 else 0)+l.countP λx=>p x y:=by
   refine X00 λy _=>?_
   rw[X0x]
   omega
  rw[e,Xei,Xbs]
theorem Xu7{row:List Str}(h2:∀y∈row,row.count y=2):2 * (crs row).length=deg2 (λx y=>decide (Xax row x y)) (dit row):=by
 have e:(crs row).length=((dit row).map λx=>(dit row).countP λy=>decide (ltS x y)&&decide (Xax row x y)).sum:=by
  unfold crs
  rw[List.length_flatMap]
  congr 1
  refine X00 λx _=>?_
  rw[Xzl,X1h]
  rfl
 have e2:=Xml (λx y=>decide (ltS x y)&&decide (Xax row x y)) (dit row) (dit row)
 have e3:2 * (crs row).length=((dit row).map λx=>(dit row).countP λy=>decide (ltS x y)&&decide (Xax row x y)).sum+((dit row).map λy=>(dit row).countP λx=>decide (ltS x y)&&decide (Xax row x y)).sum:=by
  rw[<-e2,e];omega
 rw[e3,<-Xei]
 unfold deg2
 congr 1
 refine X00 λx hx=>?_
 rw[<-Xbs,<-Xbs,<-Xbs,<-Xei]
 congr 1
 refine X00 λy hy=>?_
 have hx':=Xaj.mp hx
 have hy':=Xaj.mp hy
 by_cases c:Xax row x y
 ·have c':=Xbj (h2 x hx') (h2 y hy') c
  have n:x≠y:=λe=>by subst e;exact Xch (h2 x hx') c
  by_cases l:ltS x y
  ·have l':¬ltS y x:=λq=>Xc3 x (Xdr l q)
   simp[c,c',l,l']
  ·have l':ltS y x:=ltS_of (Xkz.mp l) n.symm
   simp[c,c',l,l']
 ·have c':¬Xax row y x:=λq=>c (Xbj (h2 y hy') (h2 x hx') q)
  simp[c,c']
theorem Xts{row:List Str}(h2:∀y∈row,row.count y=2)(h3:Xbk row)(hl:(dit row).length<=14):(crs row).length<=49:=by
 have m:=mantel (R:=λx y=>decide (Xax row x y)) (dit row).length (dit row) rfl (Xg0 row) (λx hx=>X3p (Xch (h2 x (Xaj.mp hx))))
  (λx hx y hy=>by
   by_cases c:Xax row x y
   ·rw[X3o c,X3o (Xbj (h2 x (Xaj.mp hx)) (h2 y (Xaj.mp hy)) c)]
   ·rw[X3p c,X3p λq=>c (Xbj (h2 y (Xaj.mp hy)) (h2 x (Xaj.mp hx)) q)])
  (λx hx y hy z hz a b=>X3p (h3 x (Xaj.mp hx) y (Xaj.mp hy) z (Xaj.mp hz) (X3q a) (X3q b)))
 rw[<-Xu7 h2] at m
 have:(dit row).length * (dit row).length<=14 * 14:=Nat.mul_le_mul hl hl
 omega
def upB (row:List Str) (x y:Str):Bool:=decide (y=x)||decide (lieR row x y = "within")
def span (row:List Str) (x:Str):Nat:=((pl row x).2 - (pl row x).1).toNat
theorem Xr7(a b c e:Int):lieT a b c e = "same" \/ lieT a b c e = "cross" \/ lieT a b c e = "within" \/ lieT a b c e = "around" \/ lieT a b c e = "apart" := by
 unfold lieT
 split
 ·exact .inl rfl
 ·split
  ·exact .inr (.inl rfl)
  ·split
   ·exact .inr (.inr (.inl rfl))
   ·split
    ·exact .inr (.inr (.inr (.inl rfl)))
    ·exact .inr (.inr (.inr (.inr rfl)))
theorem Xle{row:List Str}{x y:Str}(hx:row.count x=2)(hy:row.count y=2)(n:x≠y)(h:lieR row x y = "around"):span row y<span row x:=by
 obtain⟨n1,n2,n3,n4⟩:=Xk5 hx hy n
 have l1:=Xd5 hx
 have l2:=Xd5 hy
 unfold span
 unfold lieR lieT at h
 rw[X3m (λz=>n1 z.1)] at h
 split at h
 ·exact absurd h (by decide)
 ·split at h
  ·exact absurd h (by decide)
  ·split at h
   ·rename_i q
    rw[nIn2] at q
    generalize (pl row x).1=a at *
    generalize (pl row x).2=b at *
    generalize (pl row y).1=c at *
    generalize (pl row y).2=e at *
    by_cases p1:a<c/\c<b
    ·by_cases p2:a<e/\e<b
     ·omega
     ·rw[X3n p1,X3m p2] at q;omega
    ·rw[X3m p1] at q
     split at q<;>omega
   ·exact absurd h (by decide)
theorem Xps{row:List Str}{x y:Str}(hx:row.count x=2)(hy:row.count y=2)(h:lieR row x y = "same"):x=y:=by
 refine Classical.byContradiction λn=>?_
 obtain⟨n1,n2,n3,n4⟩:=Xk5 hx hy n
 unfold lieR lieT at h
 rw[X3m (λz=>n1 z.1)] at h
 split at h
 ·exact absurd h (by decide)
 ·split at h
  ·exact absurd h (by decide)
  ·split at h
   ·exact absurd h (by decide)
   ·exact absurd h (by decide)
theorem least{α : Type}(f : α->Nat):∀l:List α,l≠[]->∃a∈l,∀b∈l,f a<=f b
 | [],h=>absurd rfl h
 | [a],_=>⟨a,Xzr,λb hb=>by rw[Xzs.mp hb];exact Xzn _⟩
 | a::c::r,_=>by
  obtain⟨m,hm,hl⟩:=least f (c::r) (by simp)
  by_cases q:f a<=f m
  ·exact⟨a,Xzr,λb hb=>by
    rcases Xzy.mp hb with e | e
    ·rw[e];exact Xzn _
    ·exact X0d q (hl b e)⟩
  ·exact⟨m,Xzq _ hm,λb hb=>by
    rcases Xzy.mp hb with e | e
    ·rw[e];omega
    ·exact hl b e⟩
def cands (row:List Str):List (List Str):=(dit row).map (λa=>(dit row).filter (upB row a))++(crs row).map λp=>(dit row).filter λy=>upB row p.1 y||upB row p.2 y
theorem Xj9{row S:List Str}(h2:∀y∈row,row.count y=2)(h3:Xbk row)(hne:S≠[])(hg:Xah row S=true):S∈cands row:=by
 have hg':=hg
 rw[<-Xk7 h2] at hg'
 unfold Xpn at hg'
 rw[Xz2] at hg'
 have hS:=X3q hg'.1
 unfold Xah at hg
 rw[Xz2,Xz2] at hg
 obtain⟨⟨_,hrow⟩,hal⟩:=hg
 have inr:∀x∈S,x∈row:=λx hx=>X3q (X0a.mp hrow x hx)
 have al:∀x∈S,∀y∈row,Xdg (lieR row x y) (decide (y∈S))=true:=λx hx y hy=>X0a.mp (X0a.mp hal x hx) y (Xaj.mpr hy)
 have within:∀x∈S,∀y∈row,lieR row x y = "within" -> y∈S:=λx hx y hy e=>by
  have:=al x hx y hy
  unfold Xdg at this
  rw[X3n e] at this
  exact X3q this
 have apart:∀x∈S,∀y∈S,lieR row x y ≠ "apart" := λx hx y hy e=>by
  have:=al x hx y (inr y hy)
  unfold Xdg at this
  rw[X3m (by rw[e];decide),e,X3o hy] at this
  exact absurd this (by decide)
 have how:∀a∈S,∀c∈S,upB row a c=false->¬span row c<span row a->Xax row a c:=λa ha c hc hu hs=>by
  have hu':=Bool.or_eq_false_iff.mp hu
  have n1:c≠a:=X3r hu'.1
  have n2:=X3r hu'.2
  rcases Xr7 (pl row a).1 (pl row a).2 (pl row c).1 (pl row c).2 with q | q | q | q | q
  ·exact absurd (Xps (h2 a (inr a ha)) (h2 c (inr c hc)) q).symm n1
  ·exact q
  ·exact absurd q n2
  ·exact absurd (Xle (h2 a (inr a ha)) (h2 c (inr c hc)) (λe=>n1 e.symm) q) hs
  ·exact absurd q (apart a ha c hc)
 have upin:∀a∈S,∀y∈row,upB row a y=true->y∈S:=λa ha y hy q=>by
  rcases X2z.mp q with q | q
  ·rw[X3q q];exact ha
  ·exact within a ha y hy (X3q q)
 obtain⟨a,ha,la⟩:=least (span row) S hne
 unfold cands
 rw[Xzw]
 by_cases hall:∀c∈S,upB row a c=true
 ·left
  rw[Xz0]
  refine⟨a,Xaj.mpr (inr a ha),?_⟩
  rw[hS]
  refine X2q λy hy=>?_
  by_cases q:y∈S
  ·rw[hall y q,X3o q]
  ·rw[X3p q,X19]
   exact λz=>q (upin a ha y (Xaj.mp hy) z)
 ·right
  have hne2:S.filter (λc => !upB row a c)≠[]:=λe=>hall λc hc=>by
   rw[X1o] at e
   have:=e c hc
   simpa using this
  obtain⟨b,hb,lb⟩:=least (span row) _ hne2
  obtain⟨hbS,hbu⟩:=Xzm.mp hb
  have hbu:upB row a b=false:=by simpa using hbu
  have cab:=how a ha b hbS hbu (by have:=la b hbS;omega)
  have all2:∀c∈S,upB row a c=true\/upB row b c=true:=λc hc=>by
   refine Classical.byContradiction λz=>?_
   have z1:upB row a c=false:=by
    cases q:upB row a c with
    | false=>rfl
    | true=>exact absurd (.inl q) z
   have z2:upB row b c=false:=by
    cases q:upB row b c with
    | false=>rfl
    | true=>exact absurd (.inr q) z
   have k1:=how a ha c hc z1 (by have:=la c hc;omega)
   have k2:=how b hbS c hc z2 (by have:=lb c (Xzm.mpr ⟨hc,by simp[z1]⟩);omega)
   exact h3 a (inr a ha) b (inr b hbS) c (inr c hc) cab k1 k2
  have key:∀p q:Str,p∈S->q∈S->(∀c∈S,upB row p c=true\/upB row q c=true)->(dit row).filter (λy=>upB row p y||upB row q y)=S:=λp q hp hq h=>by
   conv=>rhs;rw[hS]
   refine X2q λy hy=>?_
   by_cases m:y∈S
   ·rw[X3o m,X2z];exact h y m
   ·rw[X3p m,Bool.or_eq_false_iff]
    exact⟨X19.mpr λz=>m (upin p hp y (Xaj.mp hy) z),X19.mpr λz=>m (upin q hq y (Xaj.mp hy) z)⟩
  have nab:a≠b:=λe=>by subst e;exact Xch (h2 a (inr a ha)) cab
  have mk:∀p q:Str,p∈S->q∈S->ltS p q->Xax row p q->(p,q)∈crs row:=λp q hp hq l c=>by
   unfold crs
   rw[List.mem_flatMap]
   refine⟨p,Xaj.mpr (inr p hp),Xz0.mpr ⟨q,Xzm.mpr ⟨Xaj.mpr (inr q hq),?_⟩,rfl⟩⟩
   rw[Xz2]
   exact⟨X3o l,X3o c⟩
  rw[Xz0]
  by_cases l:ltS a b
  ·exact⟨(a,b),mk a b ha hbS l cab,key a b ha hbS all2⟩
  ·have l':=ltS_of (Xkz.mp l) nab.symm
   exact⟨(b,a),mk b a hbS ha l' (Xbj (h2 a (inr a ha)) (h2 b (inr b hbS)) cab),key b a hbS ha λc hc=>(all2 c hc).symm⟩
theorem Xpt{α : Type}[DecidableEq α]:∀{a b:List α},a.Nodup->(∀x∈a,x∈b)->a.length<=b.length
 | [],_,_,_=>X0m _
 | x::r,b,h,s=>by
  obtain⟨h1,h2⟩:=X01.mp h
  have hx:=s x Xzr
  have:=Xpt (a:=r) (b:=b.erase x) h2 λy hy=>(List.mem_erase_of_ne (show y≠x from λe=>h1 (e ▸ hy))).mpr (s y (Xzq _ hy))
  rw[List.length_erase_of_mem hx] at this
  have:0<b.length:=List.length_pos_of_mem hx
  rw[Xz6]
  omega
theorem Xin{row:List Str}{L:List (List Str)}(h2:∀y∈row,row.count y=2)(h3:Xbk row)(hl:(dit row).length<=14)(nd:L.Nodup)(h:∀S∈L,S≠[]/\Xah row S=true):L.length<64:=by
 have l1:=Xpt nd λS hS=>Xj9 h2 h3 (h S hS).1 (h S hS).2
 have l2:=Xts h2 h3 hl
 unfold cands at l1
 rw[Xzx,Xzl,Xzl] at l1
 omega
end SH
namespace L2
open PySem PySem.Spec PyProof.Rows
open PySem.W (KasT kas_asc kas_desc kas_rev kas_tail3 kas_descPart kas_count kas_place kas_bin kas_sort kas_ask kas_item kat_run kat_snds kat_kind kat_lt KatLex kat_cons kat_go kat_yes kat_no kat_one kat_nil KatTups)
def KAll {α : Type} (n:Nat) (P : α->Prop):KasT α->Prop
 | .ret a=>P a
 | .ask i j k=>i<n/\j<n/\∀b,KAll n P (k b)
theorem KAll.bind{α β : Type}{n:Nat}{P : α->Prop}{Q : β->Prop}{f : α->KasT β}(hf:∀a,P a->KAll n Q (f a)):∀{t:KasT α},KAll n P t->KAll n Q (t.bind f)
 | .ret a,h=>hf a h
 | .ask i j k,h=>⟨h.1,h.2.1,λb=>KAll.bind hf (h.2.2 b)⟩
def Gd (n:Nat) (p:Array Nat):Prop:=p.Perm (List.toArray (List.range n))
theorem Gd.lt{n:Nat}{p:Array Nat}(h:Gd n p)(hn:0<n)(i:Nat):p.getD i 0<n:=by
 by_cases hi:i<p.size
 ·have e:p.getD i 0=p[i]:=by simp[Array.getD,hi]
  rw[e]
  have:p[i]∈p:=Array.getElem_mem hi
  have:=h.mem_iff.mp this
  simpa using this
 ·have e:p.getD i 0=0:=by simp[Array.getD,hi]
  rw[e]
  exact hn
theorem Gd.rev{n:Nat}{p:Array Nat}(h:Gd n p)(i j:Nat):Gd n (kas_rev p i j):=(mirror_perm p i j _).trans h
theorem Xlf{n:Nat}(hn:0<n){p:Array Nat}(h:Gd n p):∀f m,KAll n (λ_=>True) (kas_asc p f m)
 | 0,_=>trivial
 | f+1,m=>⟨h.lt hn _,h.lt hn _,λb=>by
  cases b with
  | true=>exact trivial
  | false=>exact Xlf hn h f (m+1)⟩
theorem Xgb{n:Nat}(hn:0<n):∀f (p:Array Nat) m q,Gd n p->KAll n (λr=>Gd n r.1) (kas_desc f p m q)
 | 0,p,m,q,h=>h
 | f+1,p,m,q,h=>⟨h.lt hn _,h.lt hn _,λb=>by
  cases b with
  | true=>
   show KAll n _ (if q > 0 then kas_desc f (kas_rev p (m - (q+1)) m) (m+1) 0 else kas_desc f p (m+1) 0)
   split
   ·exact Xgb hn f _ _ _ (h.rev _ _)
   ·exact Xgb hn f _ _ _ h
  | false=>
   refine⟨h.lt hn _,h.lt hn _,λd=>?_⟩
   cases d with
   | true=>exact h
   | false=>exact Xgb hn f _ _ _ h⟩
theorem Xka{n:Nat}(hn:0<n){p:Array Nat}(h:Gd n p)(m r:Nat):KAll n (λr=>Gd n r.2) (kas_tail3 m r p):=by
 unfold kas_tail3
 refine KAll.bind (P:=λ_=>True) (Q:=λ(r:Nat×Array Nat)=>Gd n r.2) (λa _=>?_) (Xlf hn (h.rev 0 m) _ _)
 exact h.rev 0 m
theorem Xfx{n:Nat}(hn:0<n){p:Array Nat}(h:Gd n p)(m r:Nat):KAll n (λr=>Gd n r.2) (kas_descPart m r p):=by
 refine KAll.bind (P:=λr=>Gd n r.1) (λa ha=>?_) (Xgb hn _ _ _ _ h)
 split
 ·exact Xka hn (ha.rev _ _) _ _
 ·exact Xka hn ha _ _
theorem Xpu{n:Nat}(hn:0<n){p:Array Nat}(h:Gd n p)(r:Nat):KAll n (λr=>Gd n r.2) (kas_count r p):=by
 refine KAll.bind (P:=λ_=>True) (λa _=>?_) (Xlf hn h _ _)
 split
 ·exact h
 ·split
  ·refine⟨h.lt hn _,h.lt hn _,λb=>?_⟩
   cases b with
   | true=>exact h
   | false=>exact Xfx hn (h.rev _ _) _ _
  ·exact Xfx hn h _ _
theorem Xhc{n:Nat}(hn:0<n){p:Array Nat}(h:Gd n p)(k:Nat):∀f l r,KAll n (λ_=>True) (kas_place p k f l r)
 | 0,_,_=>trivial
 | f+1,l,r=>by
  show KAll n _ (if l ≥ r then _ else _)
  split
  ·exact trivial
  ·refine⟨h.lt hn _,h.lt hn _,λb=>?_⟩
   cases b with
   | true=>exact Xhc hn h k f _ _
   | false=>exact Xhc hn h k f _ _
theorem Xpv{n:Nat}(hn:0<n):∀f (p:Array Nat) k,Gd n p->KAll n (Gd n) (kas_bin f p k)
 | 0,p,_,h=>h
 | f+1,p,k,h=>KAll.bind (P:=λ_=>True) (λl _=>Xpv hn f _ _ ((bubble_perm p k _).trans h)) (Xhc hn h k _ _ _)
theorem Xgc{n:Nat}(hn:0<n):KAll n (Gd n) (kas_sort n):=by
 refine KAll.bind (P:=λr=>Gd n r.2) (λa ha=>?_) (Xpu hn (X22 _) n)
 split
 ·exact Xpv hn _ _ _ ha
 ·exact ha
section
variable {prog:Program}{w:World}{A:Around}{E:Value->Shared->Prop}{s:Shared}
def TupS (h:Heap) (v:Value):Prop:=∃a o xs n ss,v = .ref a/\h.get? a=some o/\o.cls = .type "tuple" /\ o.data = .seq xs n/\StrsAre xs.toList ss/\ss≠[]
theorem Xhz:∀{vs:List Value},(∀v∈vs,TupS s.heap v)->∃fs,KatTups s.heap vs fs/\fs.length=vs.length/\∀f∈fs,∃x t,f = .str x t
 | [],_=>⟨[],KatTups.nil,rfl,λ_ h=>by cases h⟩
 | v::vs,h=>by
  obtain⟨fs,h1,h2,h3⟩:=Xhz (vs:=vs) λu hu=>h u (Xzq _ hu)
  obtain⟨a,o,xs,n,ss,rfl,g1,g2,g3,g4,g5⟩:=h v Xzr
  obtain⟨f,x,t,hf,rfl⟩:∃f x t,xs[0]? = some f/\f = .str x t:=by
   have e:xs[0]? = xs.toList[0]?:=by simp
   rw[e]
   generalize xs.toList=l at g4
   cases g4 with
   | nil=>exact absurd rfl g5
   | cons x t r=>exact⟨_,x,t,rfl,rfl⟩
  exact⟨_::fs,KatTups.cons g1 g2 g3 hf h1,by simp[h2],λf hf=>by
   rcases Xzy.mp hf with e | e
   ·exact⟨x,t,e⟩
   ·exact h3 f e⟩
end
section
variable {X:Cx}
end
section
variable {X:Cx}
theorem Xio:Xda X (.builtin "sorted") (λxs H Q=>∃(a:Addr) (ks:List Str),xs=[.ref a]/\H a=some (.tup (ks.map V.str))/\ks.length<64/\∀l,H l=none->Q (.ref l) (upd H l (.lst ((srt ks).map V.str)))):=by
 intro pins s σ H xs us Q I r h
 obtain⟨a,ks,rfl,ha,h64,q⟩:=h
 obtain⟨u,rfl,rx⟩:=vals1 r
 cases rx
 obtain⟨its,r2,p2,_⟩:=I.tuple (SqT.of (K:=X.K) ha)
 obtain⟨o,ho,hc,n,hd⟩:=id p2
 have hl:its.length=ks.length:=by
  have:=r2.length
  rw[Xzl] at this
  exact this.symm
 refine Xdq h64 (λR k=>wpAny_collect_seq a (.inr rfl) ho hc hd (λh' kk=>k _ _ ks kk rfl rfl (by simpa using Xc2 r2) (X06 _)) (by rw[Xzp,hl,X3l];omega)) λs1 s' vs ls e k1 o1 g1 k2 o2 g2 he st p so=>?_
 refine Xfi I h64 k1 o1 g1 k2 o2 g2 he st p λl hl=>?_
 rw[Xgz p so]
 exact q l hl
theorem Xpw(hu:X.A.units+4<cLine):OpR X (compareOp .NotIn) (λx y H Q=>∃d ds,DAt H d x/\DAt H (.list ds) y/\d.canLay0=true/\PyData.canLayAll0 ds=true/\d.depth<=3/\Q (.bl (!ds.any λe=>PyData.eqv e d)) H):=by
 intro pins s σ H x y v u Q I rx ry h
 obtain⟨d,ds,h1,h2,c1,c2,hd,q⟩:=h
 obtain⟨as,ra⟩:=Xcl I d x v h1 rx
 obtain⟨bs,rb⟩:=Xcl I (.list ds) y u h2 ry
 exact SeqAt.notIn_list_reads rb ra c2 c1 (by omega) ⟨.bl _,H,I,rfl,q⟩
end
end L2
namespace SH
open PySem PySem.Spec PyProof.Rows L2
def tupD (ss:List Str):PyData:=.tuple (ss.map PyData.str)
def Plts (row:List Str) (H:Hp) (ps:List Addr):Prop:=∀p∈ps,∃ss:List Str,H p=some (.tup (ss.map V.str))/\Xah row ss=true
theorem Xa2{row ss:List Str}(h:Xah row ss=true):(∀x∈ss,x∈row)/\ss.Pairwise ltS:=by
 unfold Xah at h
 rw[Xz2,Xz2] at h
 refine⟨λx hx=>X3q (X0a.mp h.1.2 x hx),?_⟩
 rw[X3q h.1.1]
 exact Xk6 ss
theorem Xgd{row ss:List Str}(h:Xah row ss=true):ss.length<=(dit row).length:=
 Xpt (Xb8 (Xa2 h).2) λx hx=>Xaj.mpr ((Xa2 h).1 x hx)
theorem Xge(row:List Str):Xah row []=true:=by
 unfold Xah
 rw[Xil .nil]
 rfl
theorem Xpx{row ss:List Str}{x:Str}(h2:∀y∈row,row.count y=2)(h:Xah row ss=true)(hx:x∈row)(n:x∉ss)(hf:Xfm (bars row) (srt (ss++[x]))=true):Xah row (srt (ss++[x]))=true:=by
 rw[<-Xk7 h2]
 unfold Xpn
 rw[hf,Bool.and_true]
 obtain⟨hr,hl⟩:=Xa2 h
 have nd:(ss++[x]).Nodup:=by
  rw[X02]
  exact⟨Xb8 hl,by simp,λa ha b hb e=>n (by rw[Xzs.mp hb] at e;exact e ▸ ha)⟩
 refine X3o (Xeh.mpr ⟨?_,λy hy=>?_⟩)
 ·unfold told
  have e1:srt (ddup (srt (ss++[x])))=srt (srt (ss++[x])):=Xjt (Xik ((Xbg _).nodup_iff.mpr nd))
  have e2:srt (srt (ss++[x]))=srt (ss++[x]):=Xjs (Xbg _) (Xd9 _) (Xd9 _)
  exact(e1.trans e2).symm
 ·rcases Xzw.mp (Xds.mp hy) with q | q
  ·exact hr y q
  ·rw[Xzs.mp q];exact hx
theorem Xxr{ss:List Str}{x:Str}:srt (ss++[x])≠[]:=λe=>by
 have:x∈srt (ss++[x]):=Xds.mpr (by simp)
 rw[e] at this
 cases this
structure Fresh (row:List Str) (H:Hp) (f:Addr) (xs:List V) (Ts:List (List Str)):Prop where
 at':H f=some (.lst xs)
 all:DAll H (Ts.map tupD) xs
 nd:Ts.Nodup
 ok:∀T∈Ts,T≠[]/\Xah row T=true
theorem Fresh.same{row:List Str}{H H':Hp}{f:Addr}{xs:List V}{Ts:List (List Str)}(h:Fresh row H f xs Ts)(s:Same H H'):Fresh row H' f xs Ts:=⟨s _ _ h.at',DAll.same s _ _ h.all,h.nd,h.ok⟩
abbrev NPl:List Str:=["_law_row_here", "_law_bars_here", "_law_names_here", "_law_told", "_law_layer", "_law_k", "_law_fresh", "_law_plot", "_law_name", "_law_over"]
end SH
namespace L2
open PySem PySem.Spec PyProof.Rows
def Tups (H:Hp) (ps:List Addr) (Ts:List (List Str)):Prop:=ps.length=Ts.length/\∀i,i<ps.length->H (ps.getD i 0)=some (.tup ((Ts.getD i []).map V.str))
theorem Tups.same{H H':Hp}{ps:List Addr}{Ts:List (List Str)}(h:Tups H ps Ts)(s:Same H H'):Tups H' ps Ts:=⟨h.1,λi hi=>s _ _ (h.2 i hi)⟩
theorem Tups.nil(H:Hp):Tups H [] []:=⟨rfl,λi hi=>absurd hi (X07 _)⟩
theorem Tups.cons{H:Hp}{p:Addr}{T:List Str}{ps:List Addr}{Ts:List (List Str)}(h:H p=some (.tup (T.map V.str)))(r:Tups H ps Ts):Tups H (p::ps) (T::Ts):=by
 refine⟨by simp[r.1],λi hi=>?_⟩
 cases i with
 | zero=>exact h
 | succ i=>exact r.2 i (by simpa using hi)
theorem Tups.app{H:Hp}:∀{ps qs:List Addr} {Ts Us:List (List Str)},Tups H ps Ts->Tups H qs Us->Tups H (ps++qs) (Ts++Us)
 | [],qs,Ts,Us,h,g=>by
  have:Ts=[]:=X0i.mp h.1.symm
  rw[this];exact g
 | p::ps,qs,[],Us,h,g=>by have:=h.1;simp at this
 | p::ps,qs,T::Ts,Us,h,g=>by
  have r:Tups H ps Ts:=⟨by simpa using h.1,λi hi=>by simpa using h.2 (i+1) (by simpa using hi)⟩
  exact Tups.cons (h.2 0 (by simp)) (Tups.app r g)
theorem Tups.mem{H:Hp}{ps:List Addr}{Ts:List (List Str)}(h:Tups H ps Ts){p:Addr}(hp:p∈ps):∃T∈Ts,H p=some (.tup (T.map V.str)):=by
 obtain⟨i,hi,rfl⟩:=X0q.mp hp
 have hi':i<Ts.length:=by rw[<-h.1];exact hi
 have:=h.2 i hi
 have e1:ps.getD i 0=ps[i]:=by simp[List.getD,hi]
 have e2:Ts.getD i []=Ts[i]:=by simp[List.getD,hi']
 rw[e1,e2] at this
 exact⟨_,X0b hi',this⟩
open PySem.W (KasT kas_asc kas_desc kas_rev kas_tail3 kas_descPart kas_count kas_place kas_bin kas_sort kas_ask kas_item kat_run kat_snds kat_kind kat_lt KatLex kat_cons kat_go kat_yes kat_no kat_one kat_nil KatTups)
def kRun {α : Type} (lt:Nat->Nat->Bool):KasT α -> α
 | .ret a=>a
 | .ask i j k=>kRun lt (k (lt i j))
theorem Xc7{α β : Type}{lt:Nat->Nat->Bool}{f : α->KasT β}:∀t:KasT α,kRun lt (t.bind f)=kRun lt (f (kRun lt t))
 | .ret _=>rfl
 | .ask i j k=>Xc7 (k (lt i j))
theorem Xlg{α : Type}{n:Nat}{lt:Nat->Nat->Bool}{P : α->Prop}{G : α->Shared->Prop}{s:Shared}{cmp:Nat->Nat->(Bool->Shared->Prop)->Shared->Prop}(hc:∀i j C,i<n->j<n->C (lt i j) s->cmp i j C s):
  ∀{t:KasT α},KAll n P t->G (kRun lt t) s->t.kasWp cmp G s
 | .ret a,_,h=>h
 | .ask i j k,h,g=>hc i j _ h.1 h.2.1 (Xlg hc (h.2.2 _) g)
theorem KAll.run{α : Type}{n:Nat}{lt:Nat->Nat->Bool}{P : α->Prop}:∀{t:KasT α},KAll n P t->P (kRun lt t)
 | .ret a,h=>h
 | .ask i j k,h=>KAll.run (t:=k (lt i j)) (h.2.2 (lt i j))
structure Lin (n:Nat) (lt:Nat->Nat->Bool):Prop where
 irr:∀i,lt i i=false
 tr:∀i j k,lt i j=true->lt j k=true->lt i k=true
 tot:∀i j,i<n->j<n->i≠j->lt i j=true\/lt j i=true
section
variable {n:Nat}{lt:Nat->Nat->Bool}{p:Array Nat}
def SoTo (lt:Nat->Nat->Bool) (p:Array Nat) (m:Nat):Prop:=∀i j,i<j->j<m->lt (p.getD i 0) (p.getD j 0)=true
def DeTo (lt:Nat->Nat->Bool) (p:Array Nat) (m:Nat):Prop:=∀i j,i<j->j<m->lt (p.getD j 0) (p.getD i 0)=true
theorem Gd.size{p:Array Nat}(h:Gd n p):p.size=n:=by
 have:=h.size_eq
 simpa using this
theorem Gd.inj{p:Array Nat}(h:Gd n p){i j:Nat}(hi:i<n)(hj:j<n)(ne:i≠j):p.getD i 0≠p.getD j 0:=λe=>by
 have sz:=h.size
 have nd:p.toList.Nodup:=by
  have q:p.toList.Perm (List.range n):=by simpa using h.toList
  exact q.nodup_iff.mpr List.nodup_range
 have hi':i<p.toList.length:=by rw[Xzt,sz];exact hi
 have hj':j<p.toList.length:=by rw[Xzt,sz];exact hj
 have e1:p.getD i 0=p.toList[i]:=by simp[Array.getD,sz,hi]
 have e2:p.getD j 0=p.toList[j]:=by simp[Array.getD,sz,hj]
 rw[e1,e2] at e
 exact ne ((X2u nd).mp e)
theorem Lin.flip(L:Lin n lt)(h:Gd n p){i j:Nat}(hi:i<n)(hj:j<n)(ne:i≠j)(e:lt (p.getD i 0) (p.getD j 0)=false):lt (p.getD j 0) (p.getD i 0)=true:=by
 have hn:0<n:=by omega
 rcases L.tot _ _ (h.lt hn i) (h.lt hn j) (h.inj hi hj ne) with z | z
 ·rw[z] at e;cases e
 ·exact z
theorem Xlh(L:Lin n lt)(h:Gd n p):∀f m,1<=m->m+f<=n->SoTo lt p m->m<=kRun lt (kas_asc p f m)/\kRun lt (kas_asc p f m)<=m+f/\SoTo lt p (kRun lt (kas_asc p f m)) /\
  (kRun lt (kas_asc p f m)<m+f->lt (p.getD (kRun lt (kas_asc p f m)) 0) (p.getD (kRun lt (kas_asc p f m) - 1) 0)=true)
 | 0,m,_,_,so=>⟨Xzn _,Xzn _,so,λz=>absurd z (by show ¬m<m+0;omega)⟩
 | f+1,m,h1,hn,so=>by
  have e:kRun lt (kas_asc p (f+1) m)=kRun lt (if lt (p.getD m 0) (p.getD (m - 1) 0)=true then KasT.ret m else kas_asc p f (m+1)):=rfl
  cases c:lt (p.getD m 0) (p.getD (m - 1) 0) with
  | true=>
   rw[e,c,X3n rfl]
   exact⟨Xzn _,by show m<=_;omega,so,λ_=>c⟩
  | false=>
   rw[e,c,X3m (by decide)]
   have c':=L.flip h (by omega) (by omega) (by omega) c
   obtain⟨a1,a2,a3,a4⟩:=Xlh L h f (m+1) (by omega) (by omega) (λi j hij hj=>by
    by_cases hjm:j<m
    ·exact so i j hij hjm
    ·have:j=m:=by omega
     subst this
     by_cases hi:i=j - 1
     ·subst hi;exact c'
     ·exact L.tr _ _ _ (so i (j - 1) (by omega) (by omega)) c')
   exact⟨by omega,by omega,a3,λz=>a4 (by omega)⟩
theorem Xmm(L:Lin n lt)(h:Gd n p):∀f m,1<=m->m+f<=n->DeTo lt p m->∃r,kRun lt (kas_desc f p m 0)=(p,r,0)/\m<=r/\r<=m+f/\DeTo lt p r
 | 0,m,_,_,so=>⟨m,rfl,Xzn _,Xzn _,so⟩
 | f+1,m,h1,hn,so=>by
  have e:kRun lt (kas_desc (f+1) p m 0)=kRun lt (if lt (p.getD m 0) (p.getD (m - 1) 0)=true then (if 0 > 0 then kas_desc f (kas_rev p (m - (0+1)) m) (m+1) 0 else kas_desc f p (m+1) 0)
   else .ask (p.getD (m - 1) 0) (p.getD m 0) λd=>if d=true then .ret (p,m,0) else kas_desc f p (m+1) (0+1)):=rfl
  cases c:lt (p.getD m 0) (p.getD (m - 1) 0) with
  | true=>
   rw[e,c,X3n rfl,X3m (by omega)]
   obtain⟨r,a1,a2,a3,a4⟩:=Xmm L h f (m+1) (by omega) (by omega) (λi j hij hj=>by
    by_cases hjm:j<m
    ·exact so i j hij hjm
    ·have:j=m:=by omega
     subst this
     by_cases hi:i=j - 1
     ·subst hi;exact c
     ·exact L.tr _ _ _ c (so i (j - 1) (by omega) (by omega)))
   exact⟨r,a1,by omega,by omega,a4⟩
  | false=>
   rw[e,c,X3m (by decide)]
   have c':=L.flip h (by omega) (by omega) (by omega) c
   refine⟨m,?_,Xzn _,by omega,so⟩
   show kRun lt (if lt (p.getD (m - 1) 0) (p.getD m 0)=true then _ else _)=_
   rw[X3n c']
   rfl
theorem Xip(p:Array Nat)(i:Nat):p.getD i 0=(p[i]?).getD 0:=by simp
theorem Xtt{m:Nat}(hm:m<=p.size){i:Nat}(hi:i<m):(kas_rev p 0 m).getD i 0=p.getD (m - 1 - i) 0:=by
 rw[Xip,Xip]
 show ((mirror p 0 m ((m - 0) / 2))[i]?).getD 0=_
 rw[getElem?_mirror_all hm,X3n (by omega)]
 congr 2
 omega
theorem Xpy(L:Lin n lt)(h:Gd n p)(hn:1<=n):∃m p',kRun lt (kas_count n p)=(m,p')/\1<=m/\m<=n/\Gd n p'/\SoTo lt p' m:=by
 have sz:=h.size
 unfold kas_count
 rw[Xc7]
 obtain⟨a1,a2,a3,a4⟩:=Xlh (lt:=lt) L h (n - 1) 1 (Xzn _) (by omega) (λi j hij hj=>by omega)
 generalize kRun lt (kas_asc p (n - 1) 1)=r at *
 by_cases e1:(r==n)=true
 ·rw[X3n e1]
  exact⟨r,p,rfl,a1,by omega,h,a3⟩
 ·rw[X3m e1]
  have rn:r≠n:=λz=>e1 (by rw[z];exact beq_self_eq_true _)
  by_cases e2:r > 1
  ·rw[X3n e2]
   refine⟨r,p,?_,a1,by omega,h,a3⟩
   show kRun lt (if lt (p.getD 0 0) (p.getD (r - 1) 0)=true then _ else _)=_
   rw[X3n (a3 0 (r - 1) (by omega) (by omega))]
   rfl
  ·rw[X3m e2]
   obtain rfl:r=1:=by omega
   have a4:=a4 (by omega)
   unfold kas_descPart
   rw[Xc7]
   obtain⟨r2,b1,b2,b3,b4⟩:=Xmm (lt:=lt) L h (n - (1+1)) (1+1) (by omega) (by omega) (λi j hij hj=>by
    have:j=1:=by omega
    subst this
    have:i=0:=by omega
    subst this
    exact a4)
   rw[b1]
   dsimp only
   rw[X3m (by omega)]
   unfold kas_tail3
   rw[Xc7]
   have hrv:=h.rev 0 r2
   obtain⟨c1,c2,c3,_⟩:=Xlh (lt:=lt) L hrv (n - r2) r2 (by omega) (by omega) (λi j hij hj=>by
    rw[Xtt (by omega) (by omega),Xtt (by omega) (by omega)]
    exact b4 _ _ (by omega) (by omega))
   exact⟨_,_,rfl,by omega,by omega,hrv,c3⟩
theorem Xhd(L:Lin n lt)(h:Gd n p){k:Nat}(hk:k<n)(so:SoTo lt p k):∀f l r,r - l<=f->l<=r->r<=k->(∀i,i<l->lt (p.getD i 0) (p.getD k 0)=true)->(∀i,r<=i->i<k->lt (p.getD k 0) (p.getD i 0)=true) ->
  kRun lt (kas_place p k f l r)<=k/\(∀i,i<kRun lt (kas_place p k f l r)->lt (p.getD i 0) (p.getD k 0)=true)/\(∀i,kRun lt (kas_place p k f l r)<=i->i<k->lt (p.getD k 0) (p.getD i 0)=true)
 | 0,l,r,hf,hlr,hr,hl,hg=>by
  have:l=r:=by omega
  subst this
  exact⟨hr,hl,hg⟩
 | f+1,l,r,hf,hlr,hr,hl,hg=>by
  unfold kas_place
  by_cases e:l ≥ r
  ·rw[X3n e]
   have:l=r:=by omega
   subst this
   exact⟨hr,hl,hg⟩
  ·rw[X3m e]
   have e2:kRun lt (KasT.ask (p.getD k 0) (p.getD ((l+r) / 2) 0) λc=>if c=true then kas_place p k f l ((l+r) / 2) else kas_place p k f ((l+r) / 2+1) r)=kRun lt (if lt (p.getD k 0) (p.getD ((l+r) / 2) 0)=true then kas_place p k f l ((l+r) / 2) else kas_place p k f ((l+r) / 2+1) r):=rfl
   rw[e2]
   have hm1:l<=(l+r) / 2:=by omega
   have hm2:(l+r) / 2<r:=by omega
   generalize (l+r) / 2=md at *
   cases c:lt (p.getD k 0) (p.getD md 0) with
   | true=>
    rw[X3n rfl]
    refine Xhd L h hk so f l md (by omega) (by omega) (by omega) hl λi h1 h2=>?_
    by_cases e3:i=md
    ·rw[e3];exact c
    ·exact L.tr _ _ _ c (so md i (by omega) h2)
   | false=>
    rw[X3m (by decide)]
    have c':=L.flip h hk (by omega) (by omega) c
    refine Xhd L h hk so f (md+1) r (by omega) (by omega) hr (λi hi=>?_) hg
    by_cases e3:i=md
    ·rw[e3];exact c'
    ·exact L.tr _ _ _ (so i md (by omega) (by omega)) c'
theorem Xtu{k l:Nat}(hk:k<p.size)(hl:l<=k)(i:Nat):(bubble p k (k - l)).getD i 0=if i=l then p.getD k 0 else if l<i/\i<=k then p.getD (i - 1) 0 else p.getD i 0:=by
 simp only[Xip]
 rw[getElem?_bubble hk _ (by omega),show k - (k - l)=l by omega]
 by_cases h1:i=l
 ·rw[X3n h1,X3n h1]
 ·rw[X3m h1,X3m h1]
  by_cases h2:l<i/\i<=k
  ·rw[X3n h2,X3n h2]
  ·rw[X3m h2,X3m h2]
theorem Xpz(L:Lin n lt):∀f (p:Array Nat) k,Gd n p->k+f<=n->SoTo lt p k->SoTo lt (kRun lt (kas_bin f p k)) (k+f)
 | 0,p,k,_,_,so=>so
 | f+1,p,k,h,hk,so=>by
  have sz:=h.size
  have e:kRun lt (kas_bin (f+1) p k)=kRun lt ((kas_place p k k 0 k).bind λl=>kas_bin f (bubble p k (k - l)) (k+1)):=rfl
  rw[e,Xc7]
  obtain⟨a1,a2,a3⟩:=Xhd (lt:=lt) L h (k:=k) (by omega) so k 0 k (by omega) (by omega) (Xzn _) (λi z=>absurd z (X07 _)) (λi h1 h2=>by omega)
  generalize kRun lt (kas_place p k k 0 k)=l at *
  have:=Xpz L f (bubble p k (k - l)) (k+1) ((bubble_perm p k _).trans h) (by omega) (λi j hij hj=>by
   rw[Xtu (by omega) a1,Xtu (by omega) a1]
   by_cases i1:i=l
   ·rw[X3n i1,X3m (by omega),X3n (by omega)]
    exact a3 _ (by omega) (by omega)
   ·rw[X3m i1]
    by_cases i2:l<i/\i<=k
    ·rw[X3n i2,X3m (by omega),X3n (by omega)]
     exact so _ _ (by omega) (by omega)
    ·rw[X3m i2]
     by_cases j1:j=l
     ·rw[X3n j1]
      exact a2 i (by omega)
     ·rw[X3m j1]
      by_cases j2:l<j/\j<=k
      ·rw[X3n j2]
       by_cases z:i=j - 1
       ·omega
       ·exact so _ _ (by omega) (by omega)
      ·rw[X3m j2]
       exact so _ _ hij (by omega))
  rw[show k+(f+1)=k+1+f by omega]
  exact this
theorem Xmn(L:Lin n lt)(hn:0<n):SoTo lt (kRun lt (kas_sort n)) n:=by
 unfold kas_sort
 rw[Xc7]
 obtain⟨m,p',e,h1,h2,h3,h4⟩:=Xpy (lt:=lt) L (p:=List.toArray (List.range n)) (X22 _) hn
 rw[e]
 dsimp only
 by_cases hm:m<n
 ·rw[X3n hm]
  have:=Xpz L (n - max m 1) p' (max m 1) h3 (by omega) (by rw[show max m 1=m by omega];exact h4)
  rwa [show max m 1+(n - max m 1)=n by omega] at this
 ·rw[X3m hm]
  have:m=n:=by omega
  subst this
  exact h4
end
open PySem.W (KasT kas_asc kas_desc kas_rev kas_tail3 kas_descPart kas_count kas_place kas_bin kas_sort kas_ask kas_item kat_run kat_snds kat_kind kat_lt KatLex kat_cons kat_go kat_yes kat_no kat_one kat_nil KatTups)
def ltL:List Str->List Str->Bool
 | [],[]=>false
 | [],_::_=>true
 | _::_,[]=>false
 | x::a,y::b=>if x=y then ltL a b else decide (ltS x y)
theorem Xhe:∀a,ltL a a=false
 | []=>rfl
 | x::a=>by
  show (if x=x then ltL a a else _)=false
  rw[X3n rfl]
  exact Xhe a
theorem Xp0:∀a b c,ltL a b=true->ltL b c=true->ltL a c=true
 | [],[],c,h,_=>by cases h
 | [],_::_,[],_,g=>by cases g
 | [],_::_,_::_,_,_=>rfl
 | _::_,[],_,h,_=>by cases h
 | _::_,_::_,[],_,g=>by cases g
 | x::a,y::b,z::c,h,g=>by
  have h:(if x=y then ltL a b else decide (ltS x y))=true:=h
  have g:(if y=z then ltL b c else decide (ltS y z))=true:=g
  show (if x=z then ltL a c else decide (ltS x z))=true
  by_cases e1:x=y
  ·subst e1
   rw[X3n rfl] at h
   by_cases e2:x=z
   ·rw[X3n e2] at g ⊢
    exact Xp0 a b c h g
   ·rw[X3m e2] at g ⊢
    exact g
  ·rw[X3m e1] at h
   by_cases e2:y=z
   ·subst e2
    rw[X3m e1]
    exact h
   ·rw[X3m e2] at g
    have q:=Xdr (X3q h) (X3q g)
    rw[X3m (Xjp q)]
    exact X3o q
theorem Xli:∀a b,a≠b->ltL a b=true\/ltL b a=true
 | [],[],n=>absurd rfl n
 | [],_::_,_=>.inl rfl
 | _::_,[],_=>.inr rfl
 | x::a,y::b,n=>by
  show (if x=y then ltL a b else decide (ltS x y))=true\/(if y=x then ltL b a else decide (ltS y x))=true
  by_cases e:x=y
  ·subst e
   rw[X3n rfl,X3n rfl]
   exact Xli a b λz=>n (by rw[z])
  ·rw[X3m e,X3m (λz=>e z.symm)]
   rcases Xgy x y with z | z
   ·exact .inl (X3o (ltS_of z e))
   ·exact .inr (X3o (ltS_of z λq=>e q.symm))
theorem Xxs{Ts:List (List Str)}(nd:Ts.Nodup):Lin Ts.length λi j=>ltL (Ts.getD i []) (Ts.getD j []) where
 irr i:=Xhe _
 tr i j k:=Xp0 _ _ _
 tot i j hi hj ne:=Xli _ _ λe=>ne (by
  have e1:Ts.getD i []=Ts[i]:=by simp[List.getD,hi]
  have e2:Ts.getD j []=Ts[j]:=by simp[List.getD,hj]
  rw[e1,e2] at e
  exact(X2u nd).mp e)
theorem Xnp{Ts:List (List Str)}{p:Array Nat}(g:Gd Ts.length p)(so:SoTo (λi j=>ltL (Ts.getD i []) (Ts.getD j [])) p Ts.length):
  (p.toList.map λi=>Ts.getD i []).Perm Ts/\(p.toList.map λi=>Ts.getD i []).Pairwise λa b=>ltL a b=true:=by
 constructor
 ·have e:((List.range Ts.length).map λi=>Ts.getD i [])=Ts:=by
   refine X1y (by simp) λi h1 h2=>?_
   simp[X1g,List.getElem_range,List.getD,h2]
  have q:p.toList.Perm (List.range Ts.length):=by
   have:=g.toList
   simpa using this
  have:=q.map λi=>Ts.getD i []
  rw[e] at this
  exact this
 ·rw[List.pairwise_iff_getElem]
  intro i j hi hj hij
  have sz:=g.size
  rw[Xzl,Xzt,sz] at hi hj
  have:=so i j hij hj
  rw[X1g,X1g]
  have e1:p.getD i 0=p.toList[i]'(by rw[Xzt,sz];exact hi):=by simp[Array.getD,sz,hi]
  have e2:p.getD j 0=p.toList[j]'(by rw[Xzt,sz];exact hj):=by simp[Array.getD,sz,hj]
  rw[e1,e2] at this
  exact this
section
variable {prog:Program}{w:World}{A:Around}{E:Value->Shared->Prop}{s:Shared}
theorem Xp1{b fin:Bool}{C:Bool->Shared->Prop}:∀{us vs:List Value} {as bs:List Str} (i:Nat),StrsAre us as->StrsAre vs bs->fin=decide (as.length<bs.length)->C (ltL as bs) s->KatLex prog w A b fin C (us.zip vs) i s
 | _,_,_,_,_,.nil,.nil,hf,h=>kat_nil (by rw[hf];exact h)
 | _,_,_,_,_,.nil,.cons _ _ _,hf,h=>kat_nil (by rw[hf];exact h)
 | _,_,_,_,_,.cons _ _ _,.nil,hf,h=>kat_nil (by rw[hf];exact h)
 | _,_,_,_,i,.cons x t r,.cons y u r',hf,h=>by
  have h:C (if x=y then ltL _ _ else decide (ltS x y)) s:=h
  refine kat_cons (eqBool_str ?_)
  refine kat_go (λe=>kat_yes (Xp1 (i+1) r r' ?_ ?_)) (λe=>kat_no ?_)
  ·rw[hf]
   simp
  ·rw[X3n (by simpa using e)] at h
   exact h
  ·have e:¬x=y:=by simpa using e
   rw[X3m e] at h
   cases (b&&i==0) with
   | true=>exact oneLt_str h
   | false=>exact kat_one _ _ (PyProof.Rows.lt_str h)
def TupO (h:Heap) (v:Value) (ss:List Str):Prop:=∃a o xs n,v = .ref a/\h.get? a=some o/\o.cls = .type "tuple" /\ o.data = .seq xs n/\StrsAre xs.toList ss
theorem Xu8{b:Bool}{x y:Value}{as bs:List Str}{C:Bool->Shared->Prop}(hx:TupO s.heap x as)(hy:TupO s.heap y bs)(h:C (ltL as bs) s):wpAny (model prog w) A (keyLt' (tuples' b) x y) C E s:=by
 obtain⟨a,o,xs,n,rfl,h1,_,h2,h3⟩:=hx
 obtain⟨b,o',ys,n',rfl,g1,_,g2,g3⟩:=hy
 refine kat_lt h1 h2 g1 g2 (Xp1 0 h3 g3 ?_ h)
 have e1:=h3.length
 have e2:=g3.length
 rw[Xzt] at e1 e2
 rw[e1,e2]
theorem TupO.toS{h:Heap}{v:Value}{ss:List Str}(t:TupO h v ss)(n:ss≠[]):TupS h v:=by
 obtain⟨a,o,xs,k,e,h1,h2,h3,h4⟩:=t
 exact⟨a,o,xs,k,ss,e,h1,h2,h3,h4,n⟩
theorem TupO.kept{h h':Heap}{v:Value}{ss:List Str}(t:TupO h v ss)(k:∀b o,o.cls = .type "tuple" -> h.get? b=some o->h'.get? b=some o):TupO h' v ss:=by
 obtain⟨a,o,xs,n,e,h1,h2,h3,h4⟩:=t
 exact⟨a,o,xs,n,e,k a o h2 h1,h2,h3,h4⟩
def Xxt (h:Heap) (vs:List Value) (Ts:List (List Str)):Prop:=vs.length=Ts.length/\∀i,i<vs.length->TupO h (vs.getD i .none) (Ts.getD i [])
theorem Xnq{a:Addr}{vs:List Value}{Ts:List (List Str)}{n:Nat}{P:PySem.Fin->Shared->Prop}(ho:s.heap.get? a=some (seqObj "list" vs.toArray n))(hv:Xxt s.heap vs Ts)(hne:[]∉Ts)(nd:Ts.Nodup)(h64:vs.length<64)
  (h:∀p:Array Nat,Gd vs.length p->SoTo (λi j=>ltL (Ts.getD i []) (Ts.getD j [])) p vs.length->P (.done (.ret .none)) {s with heap:=sortedHeap s.heap a vs (p.toList.map λi=>vs.getD i Value.none).toArray}):
  wpAny (model prog w) A (Builtin.«list.sort» ⟨[.ref a],[]⟩) P E s:=by
 rw[list_sort_plain]
 have ha:a<s.heap.objs.size:=X3s ho
 have L:=Xxs nd
 rw[<-hv.1] at L
 have mem:∀i,i<vs.length->Ts.getD i []∈Ts:=λi hi=>by
  have hi':i<Ts.length:=by rw[<-hv.1];exact hi
  have:Ts.getD i []=Ts[i]:=by simp[List.getD,hi']
  rw[this];exact X0b hi'
 refine X3j (listItems_at ho rfl ?_)
 refine X3j (listUpdate_at ho rfl ?_)
 obtain⟨e1,ho1⟩:∃e1,(s.heap.update a (Obj.mapSeq λ_ => #[])).get? a=some (seqObj "list" #[] e1):=⟨_,get?_update_seq ho (λ_ => #[])⟩
 refine X3j (seqEpoch_at ho1 rfl ?_)
 refine X3j (wpAny_newTuple ?_)
 refine X3j (wpAny_newList ?_)
 refine wpAny_holding ?_
 have ho6:(((s.heap.update a (Obj.mapSeq λ_ => #[])).push (seqObj "tuple" vs.toArray 0)).push (seqObj "list" #[] 0)).get? a=some (seqObj "list" #[] e1):=by
  rw[Heap.get?_push_ne _ _ _ (by rw[size_push',Heap.size_update];exact Xzv (X04 ha)),Heap.get?_push_ne _ _ _ (by rw[Heap.size_update];exact Xzv ha)]
  exact ho1
 have hk6:∀b o,o.cls = .type "tuple" -> s.heap.get? b=some o->(((s.heap.update a (Obj.mapSeq λ_ => #[])).push (seqObj "tuple" vs.toArray 0)).push (seqObj "list" #[] 0)).get? b=some o:=λb o g2 g1=>by
  have hne:b≠a:=λe=>by
   rw[e,ho] at g1
   have e1:=Xz3 g1
   rw[<-e1] at g2
   exact absurd (show Value.type "list" = Value.type "tuple" from g2) (by decide)
  exact X3t _ (X3t _ (by rw[Heap.get?_update_ne _ _ _ _ hne];exact g1))
 have hv6:∀i,i<vs.length->TupO (((s.heap.update a (Obj.mapSeq λ_ => #[])).push (seqObj "tuple" vs.toArray 0)).push (seqObj "list" #[] 0)) (vs.getD i .none) (Ts.getD i []):=λi hi=>(hv.2 i hi).kept hk6
 show wpAny (model prog w) A _ P E {s with heap:=((s.heap.update a (Obj.mapSeq λ_ => #[])).push (seqObj "tuple" vs.toArray 0)).push (seqObj "list" #[] 0)}
 dsimp only
 have hsz:vs.toArray.size=vs.length:=by simp
 by_cases h2:vs.toArray.size<2
 ·rw[X3n h2,X3n h2]
  refine X3j (X3k ?_)
  rw[StateT.run_pure]
  refine X3j (X3k ?_)
  dsimp only
  refine X3j (seqEpoch_at ho6 rfl ?_)
  refine X3j (listUpdate_at ho6 rfl ?_ (hsz2:=by rw[Array.size_map];show (pairsOf vs).size<=_;rw[pairsOf_size,X3l];omega))
  simp only[bne_self_eq_false,X0g,if_false]
  have q:=h (List.toArray (List.range vs.length)) (X22 _) (λi j hij hj=>by omega)
  refine X3k ?_
  have e:(arrOf (SortSt.mk' general' (vs.toArray.zip vs.toArray) #[] 7 none)).map (·.2)=(((List.range vs.length).toArray).toList.map λi=>vs.getD i Value.none).toArray:=by
   show ((vs.toArray.zip vs.toArray).map (·.2))=_
   apply Array.toList_inj.mp
   simp only[Array.toList_map,List.zip_toArray]
   rw[List.map_snd_zip (Xzn _)]
   refine X1y (by simp) λi h1 h2=>?_
   simp[List.getD,h1]
  rw[e]
  exact q
 ·rw[X3m h2,X3m h2]
  obtain⟨fs,t1,t2,t3⟩:=Xhz (s:={s with heap:=((s.heap.update a (Obj.mapSeq λ_ => #[])).push (seqObj "tuple" vs.toArray 0)).push (seqObj "list" #[] 0)}) (vs:=vs) λv hm=>by
   obtain⟨i,hi,rfl⟩:=X0q.mp hm
   have e:vs.getD i .none=vs[i]:=by simp[List.getD,hi]
   have:=hv6 i hi
   rw[e] at this
   exact TupO.toS this λz=>hne (z ▸ mem i hi)
  refine X3j (kat_kind (T:=.type "str") t1 (by omega) (λv hm=>?_) (by decide) ?_)
  ·obtain⟨x,t,rfl⟩:=t3 v hm
   exact .now
  have eb:((Value.type "str") != Value.type "tuple")=true:=by decide
  rw[eb]
  refine X3j (wpAny_mono (kat_run (κ:=tuples' true) (ks:=vs) (vs:=vs) (Q:=λst' s'=>s' = {s with heap:=((s.heap.update a (Obj.mapSeq λ_ => #[])).push (seqObj "tuple" vs.toArray 0)).push (seqObj "list" #[] 0)}/\failedOf st'=none/\∃p,Gd vs.length p/\SoTo (λi j=>ltL (Ts.getD i []) (Ts.getD j [])) p vs.length/\(arrOf st').map (·.2)=(p.toList.map λi=>vs.getD i Value.none).toArray)
   (G:=λp s'=>s' = {s with heap:=((s.heap.update a (Obj.mapSeq λ_ => #[])).push (seqObj "tuple" vs.toArray 0)).push (seqObj "list" #[] 0)}/\Gd vs.length p/\SoTo (λi j=>ltL (Ts.getD i []) (Ts.getD j [])) p vs.length) rfl (by omega) h64 (λp st' s' a1 a2 a3 a4=>⟨a4.1,a3,p,a4.2.1,a4.2.2,kat_snds rfl a2⟩) ?_) ?_ λ_ _ e=>e)
  ·refine Xlg (n:=vs.length) (lt:=λi j=>ltL (Ts.getD i []) (Ts.getD j [])) (λi j C hi hj hC=>?_) (Xgc (n:=vs.length) (by omega)) ⟨rfl,(Xgc (n:=vs.length) (by omega)).run,Xmn L (by omega)⟩
   show wpAny _ _ (keyLt' (tuples' true) (vs.getD i Value.none) (vs.getD j Value.none)) C _ _
   exact Xu8 (hv6 i hi) (hv6 j hj) hC
  rintro ⟨⟨⟩,st'⟩ s' ⟨rfl,hf,p,hp,so,ea⟩
  dsimp only
  refine X3j (seqEpoch_at ho6 rfl ?_)
  have hps:=hp.size
  refine X3j (listUpdate_at ho6 rfl ?_ (hsz2:=by
   rw[ea,Xzp,Xzl,Xzt,hps,X3l];omega))
  rw[hf]
  simp only[bne_self_eq_false,X0g,if_false]
  rw[ea]
  exact X3k (h p hp so)
theorem Xu9{l:Addr}{vs:List Value}{Ts:List (List Str)}{Q:Value->Shared->Prop}(hl:s.heap.IsList l vs.toArray)(hv:Xxt s.heap vs Ts)(hne:[]∉Ts)(nd:Ts.Nodup)(h64:vs.length<64)
  (h:∀p:Array Nat,Gd vs.length p->SoTo (λi j=>ltL (Ts.getD i []) (Ts.getD j [])) p vs.length->Q (.ref (s.heap.objs.size+1)) {s with heap:=sortedAll s.heap vs (p.toList.map λi=>vs.getD i Value.none).toArray}):
  wpAny (model prog w) A (call (.builtin "sorted") [.ref l]) Q E s:=by
 refine Calls.call_function_entry kind_sorted plain_sorted entry_sorted (args_sorted1 _) ?_
 unfold Builtin.«sorted»
 refine X3j (m:=checkCount "sorted" 1 1 _) (X3k ?_)
 refine X3j (collect_list hl ?_)
 refine X3j (wpAny_newList ?_)
 have hsz:((s.heap.push (seqObj "list" #[] 0)).update s.heap.objs.size (Obj.mapSeq (· ++ vs.toArray))).objs.size=s.heap.objs.size+1:=by
  rw[Heap.size_update,size_push']
 have hoL:(((s.heap.push (seqObj "list" #[] 0)).update s.heap.objs.size (Obj.mapSeq (· ++ vs.toArray))).push (seqObj "list" vs.toArray 0)).get? (s.heap.objs.size+1)=some (seqObj "list" vs.toArray 0):=by
  rw[<-hsz];exact Heap.get?_push_size _ rfl
 have keep:∀b o,s.heap.get? b=some o->(((s.heap.push (seqObj "list" #[] 0)).update s.heap.objs.size (Obj.mapSeq (· ++ vs.toArray))).push (seqObj "list" vs.toArray 0)).get? b=some o:=λb o q=>by
  have hlt:b<s.heap.objs.size:=X3s q
  rw[Heap.get?_push_ne _ _ _ (by rw[hsz];exact Xzv (X04 hlt)),Heap.get?_update_ne _ _ _ _ (Xzv hlt),Heap.get?_push_ne _ _ _ (Xzv hlt)]
  exact q
 show wpAny _ _ _ _ _ {s with heap:=((s.heap.push (seqObj "list" #[] 0)).update s.heap.objs.size (Obj.mapSeq (· ++ vs.toArray))).push (seqObj "list" vs.toArray 0)}
 rw[hsz]
 refine X3j (wpAny_holding (wpAny_call_entry slot_list_sort ⟨_,hoL,rfl⟩ entry_list_sort (Xnq hoL ⟨hv.1,λi hi=>(hv.2 i hi).kept λb o _=>keep b o⟩ hne nd h64 λp a1 a2=>⟨_,rfl,?_⟩) (args_list_sort _)))
 exact X3k ⟨_,rfl,h p a1 a2⟩
end
section
variable {X:Cx}
theorem Xkb:Xda X (.builtin "sorted") (λxs H Q=>∃(a:Addr) (ps:List Addr) (Ts:List (List Str)),xs=[.ref a]/\H a=some (.lst (ps.map V.ref))/\Tups H ps Ts/\[]∉Ts/\Ts.Nodup/\ps.length<64 /\
  ∀(l:Addr) (ps':List Addr) (Ts':List (List Str)),H l=none->Tups H ps' Ts'->Ts'.Perm Ts->(Ts'.Pairwise λa b=>ltL a b=true)->Q (.ref l) (upd H l (.lst (ps'.map V.ref)))):=by
 intro pins s σ H xs us Q I r h
 obtain⟨a,ps,Ts,rfl,ha,ht,hne,nd,h64,q⟩:=h
 obtain⟨u,rfl,rx⟩:=vals1 r
 cases rx
 obtain⟨its,rv,pl,hz⟩:=I.list (SqL.of ha)
 have hits:its=ps.map Value.ref:=by
  clear ht h64 q hz pl ha
  induction ps generalizing its with
  | nil=>cases rv;rfl
  | cons p t ih=>
   cases rv with
   | cons r t'=>cases r;rw[ih _ t'];rfl
 subst hits
 have hget:∀i,i<ps.length->(ps.map Value.ref).getD i .none = .ref (ps.getD i 0):=λi hi=>by simp[List.getD,hi]
 refine Xu9 pl.isList (Ts:=Ts) ⟨by rw[Xzl];exact ht.1,λi hi=>?_⟩ hne nd (by rw[Xzl];exact h64) λp h1 h2=>?_
 ·rw[Xzl] at hi
  obtain⟨its2,r2,p2,_⟩:=I.tuple (SqT.of (K:=X.K) (ht.2 i hi))
  obtain⟨o,ho,hc,n,hd⟩:=id p2
  exact⟨ps.getD i 0,o,its2.toArray,n,hget i hi,ho,hc,hd,by simpa using Xc2 r2⟩
 ·rw[Xzl] at h1 h2
  obtain⟨e,he⟩:=sortedAll_at s.heap (ps.map Value.ref) (p.toList.map λi=>(ps.map Value.ref).getD i Value.none).toArray
  have hf:H (s.heap.objs.size+1)=none:=I.hok.fresh (X05 _)
  have hps:=h1.size
  have lt:∀i∈p.toList,i<ps.length:=λi hi=>by
   have q:p.toList.Perm (List.range ps.length):=by
    have:=h1.toList
    simpa using this
   simpa using q.mem_iff.mp hi
  have eo:(p.toList.map λi=>(ps.map Value.ref).getD i Value.none)=(p.toList.map λi=>ps.getD i 0).map Value.ref:=by
   rw[X0h]
   exact X00 λi hi=>hget i (lt i hi)
  have hst:=Xnp (Ts:=Ts) (by rw[<-ht.1];exact h1) (by rw[<-ht.1];exact h2)
  refine⟨.ref (s.heap.objs.size+1),_,I.laid (t':=s.toks) (h':=sortedAll s.heap (ps.map Value.ref) _) (o:=.lst ((p.toList.map λi=>ps.getD i 0).map V.ref)) (λb ob q=>sortedAll_old q) (X05 _) ?_,rfl,q _ _ (p.toList.map λi=>Ts.getD i []) hf ⟨by simp,λi hi=>?_⟩ hst.1 hst.2⟩
  ·refine⟨by rw[Xzl,Xzl,Xzt,hps,X3l];omega,_,e,?_,he⟩
   show Vals ((p.toList.map λi=>ps.getD i 0).map V.ref) (p.toList.map λi=>(ps.map Value.ref).getD i Value.none)
   rw[eo]
   generalize (p.toList.map λi=>ps.getD i 0)=z
   induction z with
   | nil=>exact .nil
   | cons p t ih=>exact .cons rfl ih
  ·rw[Xzl] at hi
   have g1:(p.toList.map λi=>ps.getD i 0).getD i 0=ps.getD (p.toList[i]) 0:=by rw[List.getD_eq_getElem?_getD,Xz4,Xzo hi];rfl
   have g2:(p.toList.map λi=>Ts.getD i []).getD i []=Ts.getD (p.toList[i]) []:=by rw[List.getD_eq_getElem?_getD,Xz4,Xzo hi];rfl
   rw[g1,g2]
   exact ht.2 _ (lt _ (X0b hi))
end
theorem Xxu(x y:Str)(xs ys:List Str):ltL (x::xs) (y::ys)=if x=y then ltL xs ys else decide (ltS x y):=rfl
theorem Xxv:ltL [] []=false:=rfl
theorem Xxw(y:Str)(ys:List Str):ltL [] (y::ys)=true:=rfl
theorem Xxx(x:Str)(xs:List Str):ltL (x::xs) []=false:=rfl
theorem Xr8(A:Around)(s:Shared)(a:Str)(t:Tok)(c:Str)(u:Tok):∃e,SeqAt.EqAt A s (.str a t) (.str c u) e/\(e=true↔a=c):=
 ⟨(a==c),SeqAt.EqAt.str_str a t c u,by simp⟩
theorem Xr9(A:Around)(s:Shared)(a:Str)(t:Tok)(c:Str)(u:Tok)(prog:Program)(w:World)(E:Value->Shared->Prop)(Q:Value->Shared->Prop)(h:Q (.bool (decide (ltS a c))) s):
  wpAny (model prog w) A (richCompare .Lt (.str a t) (.str c u)) Q E s:=
 (PyProof.Rows.lt_str h:wpAny (model prog w) A (compareOp .Lt (.str a t) (.str c u)) Q E s)
section
open PySem.SeqAt
open PySem.AutoSeq1 (wpAny_loadPart')
open PySem.MeetsSeq PySem.MeetsSeq2 PySem.MeetsSeq3
theorem Xho(l b:Addr)(items items2:Array Value)(n n2:Nat)(dd dd2:Option Addr)(sl sl2:Array (Option Value))(ns ms:List Str)(hi:StrsAre items.toList ns)(hj:StrsAre items2.toList ms):
  Meets (Builtin.«tuple.__lt__» ⟨[.ref l,.ref b],[]⟩)
   (λ_ R s=>s.heap.get? l=some {cls:=.type "tuple",dict:=dd,data:=.seq items n,slots:=sl}/\s.heap.get? b=some {cls:=.type "tuple",dict:=dd2,data:=.seq items2 n2,slots:=sl2} /\
    R (.ok (.ret (.bool (ltL ns ms)))) s):=
 .of_wp λprog w A R s h=>by
  obtain⟨hp,g,d,tk,os⟩:=s;obtain⟨hl,hb,h⟩:=h
  have f2:=AutoSeq1.sub_tuple_tuple
  have z1:items.size=ns.length:=by rw[<-hi.length];simp
  have z2:items2.size=ms.length:=by rw[<-hj.length];simp
  wp_walk using wpAny_loadPart' hl,wpAny_loadPart' hb,wpAny_forIn_list _ (λrest b s'=>b.1=none/\s'=⟨hp,g,d,tk,os⟩/\∃(vs ws:List Value) (ns' ms':List Str),rest=vs.zip ws /\
   StrsAre vs ns'/\StrsAre ws ms'/\ns'.length+items2.size=ms'.length+items.size/\R (.ok (.ret (.bool (ltL ns' ms')))) ⟨hp,g,d,tk,os⟩) _
  case turn=>
   rintro ⟨y,x⟩ rest b s' ⟨hb',rfl,vs,ws,ns',ms',hz,hvi,hwi,hlen,hR⟩
   cases hvi with
   | nil=>rw[List.zip_nil_left] at hz;cases hz
   | cons a t hvi'=>
    cases hwi with
    | nil=>rw[List.zip_nil_right] at hz;cases hz
    | cons c u hwi'=>
     rw[List.zip_cons_cons] at hz
     injection hz with hyx hrest
     injection hyx with hy hx
     subst hy hx
     rw[Xxu] at hR
     simp only[Xz6] at hlen
     obtain⟨e,he,hiff⟩:=Xr8 A.in1 ⟨hp,g,d,tk,os⟩ a t c u
     refine X3j (he prog w _ _ ?_)
     cases e with
     | true=>
      rw[X3n (hiff.mp rfl)] at hR
      wp_walk
      exact⟨rfl,rfl,_,_,_,_,hrest,hvi',hwi',by omega,hR⟩
     | false=>
      rw[X3m (λq=>absurd (hiff.mpr q) Xz1)] at hR
      have hri:=Xr9 A.in1 ⟨hp,g,d,tk,os⟩ a t c u prog w
      wp_walk using hri
      exact⟨_,rfl,by simpa using hR⟩
  case fin=>
   rintro ⟨b1,b2⟩ s' ⟨hb',rfl,vs,ws,ns',ms',hz,hvi,hwi,hlen,hR⟩
   simp only at hb'
   subst hb'
   have hv:ltL ns' ms'=decide (items.size<items2.size):=by
    cases hvi with
    | nil=>
     cases hwi with
     | nil=>
      simp only[X1d] at hlen
      rw[Xxv]
      exact(X3p (by omega)).symm
     | cons c u hw=>
      simp only[X1d,Xz6] at hlen
      rw[Xxw]
      exact(X3o (by omega)).symm
    | cons a t hv=>
     cases hwi with
     | nil=>
      simp only[X1d,Xz6] at hlen
      rw[Xxx]
      exact(X3p (by omega)).symm
     | cons c u hw=>
      rw[List.zip_cons_cons] at hz
      cases hz
   rw[hv] at hR
   wp_walk
   exact⟨_,rfl,by simpa [Builtin.Tuple.tupleCompareSizes] using hR⟩
  case h=>
   exact⟨rfl,rfl,items.toList,items2.toList,ns,ms,rfl,hi,hj,by omega,h⟩
end
open PySem.W (KasT kas_sort kas_ask kas_item kat_run kat_snds kat_kind kat_lt KatLex kat_cons kat_go kat_yes kat_no kat_one kat_nil KatTups)
section
variable {prog:Program}{w:World}{A:Around}{E:Value->Shared->Prop}{s:Shared}
theorem Xlj{l b:Addr}{items items2:Array Value}{ns ms:List Str}{Q:Value->Shared->Prop}(hl:IsTup s.heap l items)(hb:IsTup s.heap b items2)(hi:StrsAre items.toList ns)(hj:StrsAre items2.toList ms)
  (hu:A.units<cLine) (h:Q (.bool (ltL ns ms)) s):wpAny (model prog w) A (compareOp .Lt (.ref l) (.ref b)) Q E s:=by
 obtain⟨⟨cls,dd,data,sl⟩,ho,hc,n,hd⟩:=id hl
 obtain⟨⟨cls2,dd2,data2,sl2⟩,ho2,hc2,n2,hd2⟩:=id hb
 simp only at hc hd hc2 hd2
 subst hc hd hc2 hd2
 exact richCompare_meets_room (op:=.Lt) ⟨_,ho,rfl⟩ ⟨_,ho2,rfl⟩ PySem.F.slot_tuple_lt PySem.F.entry_tuple_lt (PySem.F.args_tuple_lt_2 _ _) (Xho l b items items2 n n2 dd dd2 sl sl2 ns ms hi hj)
  ⟨ho,ho2,show Value.bool (ltL ns ms)≠Value.notImplemented/\Q (.bool (ltL ns ms)) s from ⟨(λx=>nomatch x),h⟩⟩ hu
def ltNL (n:Nat) (a:List Str) (m:Nat) (b:List Str):Bool:=if n=m then ltL a b else decide (n<m)
theorem Xtv{vs:List Value}{ss:List Str}(h:StrsAre vs ss):ItemsAre (Xau prog w) (ss.map Sum.inr) vs:=by
 induction h with
 | nil=>exact .nil
 | cons x t r ih=>exact .cons (show Xh3 (.inr x) (.str x t)=true by simp[Xh3,Value.isStrOf]) ih
def Xp2 (h:Heap) (v:Value) (n:Nat) (ss:List Str):Prop:=∃a o xs k t u,v = .ref a/\h.get? a=some o/\o.cls = .type "tuple" /\ o.data = .seq xs k/\xs.toList=[.int n t,u]/\TupO h u ss
theorem Xva{x y:Value}{n m:Nat}{as bs:List Str}{C:Bool->Shared->Prop}(hu:A.units<cLine)(hx:Xp2 s.heap x n as)(hy:Xp2 s.heap y m bs)(h:C (ltNL n as m bs) s):wpAny (model prog w) A (keyLt' (tuples' true) x y) C E s:=by
 obtain⟨a,o,xs,k,t,u,rfl,h1,h2,h3,h4,h5⟩:=hx
 obtain⟨b,o',ys,k',t',u',rfl,g1,g2,g3,g4,g5⟩:=hy
 refine kat_lt h1 h3 g1 g3 ?_
 rw[h4,g4]
 have ef:decide (xs.size<ys.size)=false:=by
  have e1:xs.size=2:=by rw[<-Xzt,h4];rfl
  have e2:ys.size=2:=by rw[<-Xzt,g4];rfl
  rw[e1,e2];decide
 rw[ef]
 show KatLex prog w A true false C [(.int n t,.int m t'),(u,u')] 0 s
 unfold ltNL at h
 refine kat_cons (wpAny_eqBool_int ?_)
 refine kat_go (λe=>kat_yes ?_) (λe=>kat_no ?_)
 ·have e:n=m:=by have:=X3q e;omega
  rw[X3n e] at h
  obtain⟨c,oc,cs,kc,rfl,c1,c2,c3,c4⟩:=h5
  obtain⟨d,od,ds,kd,rfl,d1,d2,d3,d4⟩:=g5
  refine kat_cons (wpAny_eqBool_tuple (knd:=Xau prog w) hu ⟨oc,cs,kc,c1,c2,c3,Xtv c4⟩ ⟨od,ds,kd,d1,d2,d3,Xtv d4⟩ ?_)
  refine kat_go (λe2=>kat_yes (kat_nil ?_)) (λe2=>kat_no ?_)
  ·have e2:as=bs:=by
    have:=X3q e2
    exact X26 (λ_ _ q=>X1j q) |>.mp this
   rw[e2,Xhe] at h
   exact h
  ·exact kat_one _ _ (Xlj ⟨oc,c1,c2,kc,c3⟩ ⟨od,d1,d2,kd,d3⟩ c4 d4 hu h)
 ·have e:¬n=m:=λz=>by
   have:=X3r e
   omega
  rw[X3m e] at h
  refine oneLt_int ?_
  have:decide ((n:Int)<(m:Int))=decide (n<m):=by simp
  rw[this]
  exact h
end
open PySem.W (KasT kas_sort kas_ask kas_item kat_run kat_snds kat_kind KatTups)
section
variable {X:Cx}{pins:List (Addr×Obj)}{σ:List (Option V)}{H:Hp}{s:Shared}
theorem Inv.unpin{p:Addr×Obj}(I:Inv X (p::pins) σ H s):Inv X pins σ H s:=
 I.pins_of λq hq=>I.pin q (X0f _ (Xzq _ hq))
theorem Xp3{D:Addr}{e1:Nat}{ys:List V}{out:List Value}(I:Inv X ((D,seqObj "list" #[] e1)::pins) σ H s)(hD:X.s₀.heap.objs.size<=D)(hnp:∀p∈X.pn++pins,p.1≠D)(hv:Vals ys out)(hz:ys.length<=sizeLine):
  Inv X pins σ (upd H D (.lst ys)) {s with heap:=s.heap.update D (Obj.mapSeq λ_=>out.toArray)}:=by
 obtain⟨hg,hn,hl,hf,_⟩:=I.pin (D,seqObj "list" #[] e1) (X0f _ Xzr)
 have J:=I.unpin
 have sb:=X3u s.heap D (Obj.mapSeq λ_=>out.toArray)
 obtain⟨c2,hc2⟩:∃c2,(s.heap.update D (Obj.mapSeq λ_=>out.toArray)).get? D=some (seqObj "list" out.toArray c2):=⟨_,get?_update_seq hg λ_=>out.toArray⟩
 have kp:∀b o,b≠D->s.heap.get? b=some o->(s.heap.update D (Obj.mapSeq λ_=>out.toArray)).get? b=some o:=λb o n e=>(sb.2 b n).trans e
 have nD:∀b u,H b=some u->b≠D:=λb u e z=>by rw[z,hn] at e;cases e
 have up:∀b u,H b=some u->(upd H D (.lst ys)) b=some u:=λb u e=>by rw[Xae (nD b u e)];exact e
 refine J.step (g':=s.gens) (d':=s.drawn) (t':=s.toks) (ch:=[D]) (λb hb=>?_) (λb o _ _ hc e _=>kp b o (λz=>hc (by rw[z];exact X1a _)) e) (λb o _ _ hc e _=>⟨o.slots,kp b o (λz=>hc (by rw[z];exact X1a _)) e⟩)
  (λb o hc e n=>?_) (λb o hc e=>⟨o,kp b o (λz=>hc (by rw[z];exact X1a _)) e⟩) (λb xs e=>up b _ e) (λb o u e=>up b _ e) (λb pz e=>⟨#[],by rw[up b _ e];simp⟩) (λm hm=>hm.sameBut sb (Ne.symm hl)) ?_ J.bare
 ·rw[Xzs.mp hb]
  refine⟨.inr hD,hl,λx c e z=>?_,λp hp=>hnp p hp⟩
  obtain⟨v,o,ho,hd⟩:=J.cell x c e
  rw[z,hg] at ho
  cases ho
  cases hd
 ·rw[Xae (λz=>hc (by rw[z];exact X1a _))]
  exact n
 ·intro b u e
  by_cases z:b=D
  ·subst z
   rw[Xab] at e
   cases e
   exact⟨hz,out,c2,hv,hc2⟩
  ·rw[Xae z] at e
   refine(J.hok b u e).stay (λd v hd g=>kp d v ?_ g) (λd g=>up d _ g) λd xs g=>up d _ g
   rcases hd with rfl | hd
   ·exact z
   ·exact nD d _ hd
end
open PySem.W (KasT kas_sort kas_ask kas_item kat_run kat_snds kat_kind KatTups)
def ltP' (Ts:List (List Str)) (i j:Nat):Bool:=ltNL (Ts.getD i []).length (Ts.getD i []) (Ts.getD j []).length (Ts.getD j [])
theorem Xsa(n:Nat)(a:List Str):ltNL n a n a=false:=by unfold ltNL;rw[X3n rfl];exact Xhe a
theorem Xvb{n m k:Nat}{a b c:List Str}(h:ltNL n a m b=true)(g:ltNL m b k c=true):ltNL n a k c=true:=by
 unfold ltNL at *
 by_cases e1:n=m
 ·rw[X3n e1] at h
  by_cases e2:m=k
  ·rw[X3n e2] at g
   rw[X3n (e1.trans e2)]
   exact Xp0 _ _ _ h g
  ·rw[X3m e2] at g
   rw[X3m (by omega)]
   have:=X3q g
   exact X3o (by omega)
 ·rw[X3m e1] at h
  have h:=X3q h
  by_cases e2:m=k
  ·rw[X3m (by omega)]
   exact X3o (by omega)
  ·rw[X3m e2] at g
   have g:=X3q g
   rw[X3m (by omega)]
   exact X3o (by omega)
theorem Xsb{n m:Nat}{a b:List Str}(h:a≠b):ltNL n a m b=true\/ltNL m b n a=true:=by
 unfold ltNL
 by_cases e:n=m
 ·rw[X3n e,X3n e.symm]
  exact Xli _ _ h
 ·rw[X3m e,X3m (Ne.symm e)]
  rcases Nat.lt_or_ge n m with z | z
  ·exact .inl (X3o z)
  ·exact .inr (X3o (by omega))
theorem linP{Ts:List (List Str)}(nd:Ts.Nodup):Lin Ts.length (ltP' Ts) where
 irr i:=Xsa _ _
 tr i j k:=Xvb
 tot i j hi hj ne:=Xsb λe=>ne (by
  have e1:Ts.getD i []=Ts[i]:=by simp[List.getD,hi]
  have e2:Ts.getD j []=Ts[j]:=by simp[List.getD,hj]
  rw[e1,e2] at e
  exact(X2u nd).mp e)
def Turns (X:Cx) (f:Addr) (H:Hp) (ps:List Addr) (Ts:List (List Str)):Prop:=
 ∀(pins:List (Addr×Obj)) (σ:L2.St) (s1:Shared) (H1:Hp) (i:Nat),i<ps.length->Same H H1->Inv X pins σ H1 s1 ->
  wpAny (model X.prog X.w) X.A.in1.in1 (call (.ref f) [.ref (ps.getD i 0)]) (λu s'=>∃t H2,u = .ref t/\Inv X pins σ H2 s'/\H2 t=some (.tup [.int (Ts.getD i []).length,.ref (ps.getD i 0)])/\Same H1 H2) (λ_ _=>False) s1
section
variable {X:Cx}{pins:List (Addr×Obj)}{σ:L2.St}{H:Hp}{s:Shared}
theorem Xvc{t p:Addr}{n:Nat}{ss:List Str}(I:Inv X pins σ H s)(ht:H t=some (.tup [.int n,.ref p]))(hp:H p=some (.tup (ss.map V.str))):Xp2 s.heap (.ref t) n ss:=by
 obtain⟨its,r,⟨o,ho,hc,k,hd⟩,_⟩:=I.tuple (SqT.of (K:=X.K) ht)
 obtain⟨its2,r2,⟨o2,ho2,hc2,k2,hd2⟩,_⟩:=I.tuple (SqT.of (K:=X.K) hp)
 cases r with
 | cons r1 r'=>
  cases r' with
  | cons r2' r''=>
   cases r''
   obtain⟨tk,rfl⟩:∃tk,_=Value.int n tk:=r1
   cases r2'
   exact⟨t,o,_,k,tk,.ref p,rfl,ho,hc,hd,rfl,p,o2,_,k2,rfl,ho2,hc2,hd2,by simpa using Xc2 r2⟩
theorem Xp4{D kS:Addr}{e1:Nat}{ks:List V}{st:SortSt}{out:List Addr}{A:Around}{E:Value->Shared->Prop}{P:PySem.Fin->Shared->Prop}(I:Inv X ((D,seqObj "list" #[] e1)::pins) σ H s)(hD:X.s₀.heap.objs.size<=D)(hnp:∀p∈X.pn++pins,p.1≠D)
  (hk:H kS=some (.lst ks)) (ho:(arrOf st).map (·.2)=(out.map Value.ref).toArray) (hf:failedOf st=none) (hz:out.length<64) (h:∀s',Inv X pins σ (upd (upd H kS (.lst [])) D (.lst (out.map V.ref))) s'->P (.done (.ret .none)) s'):
  wpAny (model X.prog X.w) A (ksk_tail D false e1 (.ref kS) st) P E s:=by
 obtain⟨z,its,n,r,hl,e⟩:=I.lstM hk
 have J:=I.lset (its':=[]) (f:=λ_ => #[]) (ys:=[]) (t':=s.toks) hk e rfl .nil (by decide)
 unfold ksk_tail
 try dsimp only
 rw[ho]
 simp only[X0g,if_false]
 refine X3j (listUpdate_at e rfl ?_ (by rw[Xzp,<-hl];exact z) (X0m _))
 refine X3j (wpAny_letGo ?_)
 obtain⟨hg,_⟩:=J.pin (D,seqObj "list" #[] e1) (X0f _ Xzr)
 refine X3j (seqEpoch_at hg rfl ?_)
 refine X3j (listUpdate_at hg rfl ?_ (X0m _) (by rw[Xzp,Xzl,X3l];omega))
 rw[hf]
 simp only[bne_self_eq_false,X0g,if_false]
 refine X3k (h _ ?_)
 have vr:Vals (out.map V.ref) (out.map Value.ref):=by
  clear ho hz h
  induction out with
  | nil=>exact .nil
  | cons p t ih=>exact .cons rfl ih
 exact Xp3 J hD hnp vr (by rw[Xzl,X3l];omega)
theorem Xxy{D kS:Addr}{e1:Nat}{ks:List V}{ps:List Addr}{Ts:List (List Str)}{its:List Value}{A:Around}{E:Value->Shared->Prop}{P:PySem.Fin->Shared->Prop}(I:Inv X ((D,seqObj "list" #[] e1)::pins) σ H s)(hu:A.units<cLine)(hD:X.s₀.heap.objs.size<=D)(hnp:∀p∈X.pn++pins,p.1≠D)
  (hk:H kS=some (.lst ks)) (hlen:its.length=ps.length) (hT:ps.length=Ts.length) (nd:Ts.Nodup) (hp:∀i,i<ps.length->Xp2 s.heap (its.getD i .none) (Ts.getD i []).length (Ts.getD i [])) (h64:ps.length<64)
  (h:∀(p:Array Nat) s',Gd ps.length p->SoTo (ltP' Ts) p ps.length->Inv X pins σ (upd (upd H kS (.lst [])) D (.lst ((p.toList.map λi=>ps.getD i 0).map V.ref))) s'->P (.done (.ret .none)) s'):
  wpAny (model X.prog X.w) A (ksk_end D false (ps.map Value.ref).toArray e1 (.ref kS) its.toArray) P E s:=by
 have hsz:(ps.map Value.ref).toArray.size=ps.length:=by simp
 have L:=linP nd
 rw[<-hT] at L
 have outs:∀p:Array Nat,Gd ps.length p->(p.toList.map λi=>(ps.map Value.ref).getD i Value.none)=((p.toList.map λi=>ps.getD i 0).map Value.ref):=λp g=>by
  rw[X0h]
  refine X00 λi hi=>?_
  have hi':i<ps.length:=by
   have:=(Array.perm_iff_toList_perm.mp g).mem_iff.mp hi
   simpa using this
  simp[List.getD,hi']
 unfold ksk_end
 try dsimp only
 simp only[X0g,if_false]
 by_cases h2:(ps.map Value.ref).toArray.size<2
 ·rw[X3n h2,X3n h2]
  refine X3j (X3k ?_)
  rw[StateT.run_pure]
  refine X3j (X3k ?_)
  try dsimp only
  have g0:Gd ps.length (List.toArray (List.range ps.length)):=X22 _
  refine Xp4 (st:=SortSt.mk' general' (its.toArray.zip (ps.map Value.ref).toArray) #[] 7 none) (out:=(List.toArray (List.range ps.length)).toList.map λi=>ps.getD i 0) I hD hnp hk ?_ rfl (by simpa using h64) λs' J=>h _ s' g0 (λi j hij hj=>by omega) J
  rw[<-outs _ g0]
  show ((its.toArray.zip (ps.map Value.ref).toArray).map (·.2))=_
  apply Array.toList_inj.mp
  simp only[Array.toList_map,List.zip_toArray]
  rw[List.map_snd_zip (by simp[hlen])]
  refine X1y (by simp) λi h1 h2=>?_
  simp[List.getD] at h1 ⊢
  simp[h1]
 ·rw[X3m h2,X3m h2]
  have fst:∀(l:List Value) (q:∀v∈l,∃n ss,Xp2 s.heap v n ss),∃fs,KatTups s.heap l fs/\fs.length=l.length/\∀f∈fs,∃(x:Int) (t:Tok),f = .int x t:=by
   intro l
   induction l with
   | nil=>exact λ_=>⟨[],KatTups.nil,rfl,λ_ h=>by cases h⟩
   | cons v l ih=>
    intro q
    obtain⟨fs,t1,t2,t3⟩:=ih λu hm=>q u (Xzq _ hm)
    obtain⟨n,ss,a,o,xs,k,t,u,rfl,g1,g2,g3,g4,_⟩:=q v Xzr
    refine⟨.int n t::fs,KatTups.cons g1 g2 g3 ?_ t1,by simp[t2],λf hf=>?_⟩
    ·have:xs[0]? = xs.toList[0]?:=by simp
     rw[this,g4];rfl
    ·rcases Xzy.mp hf with e | e
     ·exact⟨_,_,e⟩
     ·exact t3 f e
  obtain⟨fs,t1,t2,t3⟩:=fst its λv hv=>by
   obtain⟨i,hi,rfl⟩:=X0q.mp hv
   have:=hp i (by omega)
   have e:its.getD i .none=its[i]:=by simp[List.getD,hi]
   rw[e] at this
   exact⟨_,_,this⟩
  refine X3j (kat_kind (T:=.type "int") t1 (by omega) (λv hm=>?_) (by decide) ?_)
  ·obtain⟨x,t,rfl⟩:=t3 v hm
   exact .now
  have eb:((Value.type "int") != Value.type "tuple")=true:=by decide
  rw[eb]
  refine X3j (wpAny_mono (kat_run (κ:=tuples' true) (ks:=its) (vs:=ps.map Value.ref) (Q:=λst' s'=>s'=s/\failedOf st'=none/\∃p,Gd ps.length p/\SoTo (ltP' Ts) p ps.length/\(arrOf st').map (·.2)=(p.toList.map λi=>(ps.map Value.ref).getD i Value.none).toArray)
   (G:=λp s'=>s'=s/\Gd ps.length p/\SoTo (ltP' Ts) p ps.length) (by simp[hlen]) (by rw[Xzl];omega) (by rw[Xzl];exact h64) (λp st' s' a1 a2 a3 a4=>⟨a4.1,a3,p,a4.2.1,a4.2.2,kat_snds (by simp[hlen]) a2⟩) ?_) ?_ λ_ _ e=>e)
  ·rw[Xzl]
   refine Xlg (n:=ps.length) (lt:=ltP' Ts) (λi j C hi hj hC=>?_) (Xgc (n:=ps.length) (by omega)) ⟨rfl,(Xgc (n:=ps.length) (by omega)).run,Xmn L (by omega)⟩
   show wpAny _ _ (keyLt' (tuples' true) (its.getD i Value.none) (its.getD j Value.none)) C _ _
   exact Xva hu (hp i hi) (hp j hj) hC
  rintro ⟨⟨⟩,st'⟩ s' ⟨rfl,hf,p,g,so,ea⟩
  try dsimp only
  refine Xp4 (out:=p.toList.map λi=>ps.getD i 0) I hD hnp hk (by rw[ea,outs p g]) hf (by rw[Xzl,Xzt,g.size];exact h64) λs' J=>h p s' g so J
end
section
variable {X:Cx}{pins:List (Addr×Obj)}{σ:L2.St}{H:Hp}{s:Shared}
theorem Xvd{D kS f:Addr}{e1:Nat}{ps:List Addr}{Ts:List (List Str)}{A:Around}{E:Value->Shared->Prop}{P:PySem.Fin->Shared->Prop}(hA:A=X.A.in1.in1)(I:Inv X ((D,seqObj "list" #[] e1)::pins) σ (upd H kS (.lst [])) s)(hkS:H kS=none)(hu:A.units<cLine)(hD:X.s₀.heap.objs.size<=D)(hnp:∀p∈X.pn++pins,p.1≠D)(hDn:H D=none)
  (hT:Tups H ps Ts) (nd:Ts.Nodup) (h64:ps.length<64) (turn:Turns X f H ps Ts)
  (h:∀(p:Array Nat) (H':Hp) s',Gd ps.length p->SoTo (ltP' Ts) p ps.length->Same H H'->H' D=some (.lst ((p.toList.map λi=>ps.getD i 0).map V.ref))->Inv X pins σ H' s'->P (.done (.ret .none)) s'):
  wpAny (model X.prog X.w) A (ksk_rest D (.ref f) false (ps.map Value.ref).toArray e1 (.ref kS)) P E s:=by
 subst hA
 unfold ksk_rest
 refine X3j (wpAny_rule ?_)
 first
  | rw[List.forIn_toArray]
  | (rw[<-X2j];simp only[List.toList_toArray])
  | rw[<-X2j]
 refine X3j (ksk_fold (λi s'=>∃(H':Hp) (ks:List V),Inv X ((D,seqObj "list" #[] e1)::pins) σ H' s'/\Same H H'/\H' kS=some (.lst ks)/\ks.length=i/\∀j,j<i->∃t,ks[j]? = some (.ref t)/\H' t=some (.tup [.int (Ts.getD j []).length,.ref (ps.getD j 0)])) (ps.map Value.ref) 0 s
  ⟨_,[],I,Same.upd0 hkS,Xab,rfl,λj hj=>absurd hj (X07 _)⟩ ?step ?done)
 case step=>
  rintro j x s' hx ⟨H',ks,J,sm,hk,hkl,hks⟩
  simp only[X2t] at hkl hks ⊢
  obtain⟨hj,ex⟩:=Xz7.mp hx
  rw[Xzl] at hj
  have ex':x = .ref (ps.getD j 0):=by rw[<-ex];simp[List.getD,hj]
  subst ex'
  refine X3j (wpAny_attempt (wpAny_mono (turn _ σ s' H' j hj sm J) (λv s'' he=>?_) λ_ _ hF=>hF.elim))
  obtain⟨t,H2,rfl,J2,ht,sm2⟩:=he
  try dsimp only
  have hk2:=sm2 _ _ hk
  obtain⟨z,its,n,r,hl,e⟩:=J2.lstM hk2
  have ntk:t≠kS:=λq=>by rw[q,hk2] at ht;cases ht
  refine X3j (listUpdate_at e rfl ?_ (by rw[Xzp,<-hl];exact z) (by rw[Array.size_push,Xzp,<-hl,hkl,X3l];omega))
  refine X3k ⟨rfl,_,ks++[.ref t],J2.lset (ys:=ks++[.ref t]) (its':=its++[.ref t]) (t':=s''.toks) hk2 e (by simp) (r.append (.cons (show RelV (.ref t) (.ref t) from rfl) .nil)) (by rw[Xzx,X0z,hkl,X3l];omega),(sm.trans sm2).upd hkS,Xab,by simp[hkl],λi hi=>?_⟩
  by_cases q:i=j
  ·subst q
   exact⟨t,by rw[List.getElem?_append_right (by omega),hkl];simp,by rw[Xae ntk];exact ht⟩
  ·obtain⟨t',a1,a2⟩:=hks i (by omega)
   refine⟨t',by rw[List.getElem?_append_left (by omega)];exact a1,?_⟩
   rw[Xae λq=>by rw[q,hk] at a2;cases a2]
   exact sm2 _ _ a2
 case done=>
  rintro s' ⟨H',ks,J,sm,hk,hkl,hks⟩
  simp only[X2t,Xzl] at hkl hks
  try dsimp only
  obtain⟨z,its,n,r,hl,e⟩:=J.lstM hk
  refine X3j (listItems_at e rfl ?_)
  have hTs:=hT.same sm
  have nkD:kS≠D:=λq=>by
   obtain⟨_,hn,_⟩:=J.pin (D,seqObj "list" #[] e1) (X0f _ Xzr)
   have hn:H' D=none:=hn
   rw[<-q,hk] at hn
   cases hn
  refine Xxy (ks:=ks) J hu hD hnp hk (by omega) hT.1 nd (λi hi=>?_) h64 λp s2 g so J2=>h p _ s2 g so ((sm.upd hkS).upd hDn) Xab J2
  obtain⟨t,a1,a2⟩:=hks i hi
  obtain⟨u,hu1,hu2⟩:=r.get a1
  have hu2:u=Value.ref t:=hu2
  have e2:its.getD i .none = .ref t:=by simp[List.getD,hu1,hu2]
  rw[e2]
  exact Xvc J a2 (hTs.2 i hi)
theorem Xnr{l f:Addr}{ps:List Addr}{Ts:List (List Str)}{Q:VK}(I:Inv X pins σ H s)(hu:X.A.in1.in1.units<cLine)(hl:H l=some (.lst (ps.map V.ref)))(hT:Tups H ps Ts)(nd:Ts.Nodup)(h64:ps.length<64)(turn:Turns X f H ps Ts)
  (h:∀(D:Addr) (p:Array Nat) (H':Hp),H D=none->Gd ps.length p->SoTo (ltP' Ts) p ps.length->Same H H'->H' D=some (.lst ((p.toList.map λi=>ps.getD i 0).map V.ref))->Q (.ref D) H'):
  wpAny (model X.prog X.w) X.A (call (.builtin "sorted") [.ref l] [(Str.ofString "key",.ref f)]) (EP X pins σ Q) X.xe s:=by
 obtain⟨its,rv,pl,hz⟩:=I.list (SqL.of hl)
 have hits:its=ps.map Value.ref:=by
  clear hT h64 turn h pl hl hz
  induction ps generalizing its with
  | nil=>cases rv;rfl
  | cons p t ih=>
   cases rv with
   | cons r t'=>cases r;rw[ih _ t'];rfl
 subst hits
 refine call_function_entry_kw kind_sorted plain_sorted entry_sorted (ksk_s1 _ _) ?_
 unfold Builtin.«sorted»
 refine X3j (m:=checkCount "sorted" 1 1 _) (X3k ?_)
 refine X3j (collect_list pl.isList ?_ (by rw[Xzl,X3l];omega))
 refine X3j (wpAny_newList ?_ (by rw[Xzl,X3l];omega))
 generalize hvs:ps.map Value.ref=vs at *
 have hvl:vs.length=ps.length:=by rw[<-hvs,Xzl]
 have hsz:((s.heap.push (seqObj "list" #[] 0)).update s.heap.objs.size (Obj.mapSeq (· ++ vs.toArray))).objs.size=s.heap.objs.size+1:=by
  rw[Heap.size_update,size_push']
 have hoL:(((s.heap.push (seqObj "list" #[] 0)).update s.heap.objs.size (Obj.mapSeq (· ++ vs.toArray))).push (seqObj "list" vs.toArray 0)).get? (s.heap.objs.size+1)=some (seqObj "list" vs.toArray 0):=by
  rw[<-hsz];exact Heap.get?_push_size _ rfl
 have keep:∀b o,s.heap.get? b=some o->(((s.heap.push (seqObj "list" #[] 0)).update s.heap.objs.size (Obj.mapSeq (· ++ vs.toArray))).push (seqObj "list" vs.toArray 0)).get? b=some o:=λb o q=>by
  have hlt:b<s.heap.objs.size:=X3s q
  rw[Heap.get?_push_ne _ _ _ (by rw[hsz];exact Xzv (X04 hlt)),Heap.get?_update_ne _ _ _ _ (Xzv hlt),Heap.get?_push_ne _ _ _ (Xzv hlt)]
  exact q
 have hszA:(((s.heap.push (seqObj "list" #[] 0)).update s.heap.objs.size (Obj.mapSeq (· ++ vs.toArray))).push (seqObj "list" vs.toArray 0)).objs.size=s.heap.objs.size+2:=by
  rw[size_push',hsz]
 show wpAny _ _ _ _ _ {s with heap:=((s.heap.push (seqObj "list" #[] 0)).update s.heap.objs.size (Obj.mapSeq (· ++ vs.toArray))).push (seqObj "list" vs.toArray 0)}
 rw[hsz]
 generalize hhA:((s.heap.push (seqObj "list" #[] 0)).update s.heap.objs.size (Obj.mapSeq (· ++ vs.toArray))).push (seqObj "list" vs.toArray 0)=hA at *
 refine X3j (wpAny_holding (wpAny_call_entry_kw slot_list_sort ⟨_,hoL,rfl⟩ entry_list_sort ?body (ksk_l1 _ _)))
 case body=>
  show wpAny (model X.prog X.w) X.A.in1.in1 (Builtin.«list.sort» ⟨[.ref (s.heap.objs.size+1)],[(Str.ofString "key",.ref f)]⟩) _ _ _
  rw[ksk_t1]
  unfold ksk_tree
  refine X3j (listItems_at hoL rfl ?_)
  refine X3j (listUpdate_at hoL rfl ?_ (by rw[Xzp,hvl,X3l];omega) (X0m _))
  obtain⟨e1,ho1⟩:∃e1,(hA.update (s.heap.objs.size+1) (Obj.mapSeq λ_=>(#[]:Array Value))).get? (s.heap.objs.size+1)=some (seqObj "list" #[] e1):=⟨_,get?_update_seq hoL λ_ => #[]⟩
  refine X3j (seqEpoch_at ho1 rfl ?_)
  refine X3j (wpAny_newTuple ?_ (by show vs.length<=_;rw[hvl,X3l];omega))
  refine X3j (wpAny_newList ?_ (X0m _))
  refine wpAny_holding ?_
  have hkS:((hA.update (s.heap.objs.size+1) (Obj.mapSeq λ_=>(#[]:Array Value))).push (seqObj "tuple" vs.toArray 0)).objs.size=s.heap.objs.size+3:=by rw[size_push',Heap.size_update,hszA]
  have k6:∀b o,s.heap.get? b=some o->(((hA.update (s.heap.objs.size+1) (Obj.mapSeq λ_=>(#[]:Array Value))).push (seqObj "tuple" vs.toArray 0)).push (seqObj "list" #[] 0)).get? b=some o:=λb o e=>by
   refine X3t _ (X3t _ ?_)
   rw[Heap.get?_update_ne _ _ _ _ (Xzv (X04 (X3s e)))]
   exact keep b o e
  have ho6:(((hA.update (s.heap.objs.size+1) (Obj.mapSeq λ_=>(#[]:Array Value))).push (seqObj "tuple" vs.toArray 0)).push (seqObj "list" #[] 0)).get? (s.heap.objs.size+1)=some (seqObj "list" #[] e1):=X3t _ (X3t _ ho1)
  have hk6:(((hA.update (s.heap.objs.size+1) (Obj.mapSeq λ_=>(#[]:Array Value))).push (seqObj "tuple" vs.toArray 0)).push (seqObj "list" #[] 0)).get? (s.heap.objs.size+3)=some (seqObj "list" #[] 0):=by rw[<-hkS];exact Heap.get?_push_size _ rfl
  have J0:Inv X pins σ (upd H (s.heap.objs.size+3) (.lst [])) {s with heap:=((hA.update (s.heap.objs.size+1) (Obj.mapSeq λ_=>(#[]:Array Value))).push (seqObj "tuple" vs.toArray 0)).push (seqObj "list" #[] 0)}:=
   I.laid (t':=s.toks) (o:=.lst []) k6 (by omega) ⟨by decide,[],0,.nil,hk6⟩
  have hDn:H (s.heap.objs.size+1)=none:=I.hok.fresh (X05 _)
  have hnp:∀p∈X.pn++pins,p.1≠s.heap.objs.size+1:=λp hp=>Xzv (X04 (X3s (I.pin p hp).1))
  have J1:Inv X ((s.heap.objs.size+1,seqObj "list" #[] e1)::pins) σ (upd H (s.heap.objs.size+3) (.lst [])) {s with heap:=((hA.update (s.heap.objs.size+1) (Obj.mapSeq λ_=>(#[]:Array Value))).push (seqObj "tuple" vs.toArray 0)).push (seqObj "list" #[] 0)}:=by
   refine J0.pins_of λp hp=>?_
   rcases Xzy.mp hp with rfl | hp
   ·exact⟨ho6,by rw[Xae (by show s.heap.objs.size+1≠s.heap.objs.size+3;omega)];exact hDn,X3g (X04 I.lt),I.nofs (X05 _),λv q=>by cases q⟩
   ·exact J0.pin p (X0f _ hp)
  rw[hkS]
  subst hvs
  refine Xvd (f:=f) rfl J1 (I.hok.fresh (by omega)) hu (X0d I.sz (X05 _)) hnp hDn hT nd h64 turn λp H' s' g so sm hD' J=>⟨_,rfl,?_⟩
  exact X3k ⟨_,rfl,⟨.ref (s.heap.objs.size+1),H',J,rfl,h _ p H' hDn g so sm hD'⟩⟩
end
structure FunT (K:PySem.W.Frag) (x:Str) (st:Stmt) (f:Addr) (fd:FuncData) (T:Addr):Prop where
 ex:∃(oc:Value) (od:Option Addr) (kV doc pm:Value) (an:Option Addr) (c0:Addr) (ct:Value) (osl:Array (Option Value)),
  fd=PySem.W.fnOf x x (Xdc st) (Xb9 st) (defScope st) .none kV doc pm an (.ref c0) ct/\K.lookup f=some ⟨oc,od,.func fd,osl⟩/\PySem.W.codeIn K (.ref c0) x=true/\PySem.W.codeHdIn K c0 T=true
 kp:PySem.W.keepIn K (.ref f)=true
structure DefT (K:PySem.W.Frag) (x:Str) (st:Stmt) (T:Addr):Prop where
 ex:∃f fd,PySem.W.nsIn K mainGlobals x=some (some (.ref f))/\PySem.W.keepIn K (.ref f)=true/\FunT K x st f fd T/\Fun K x x st f fd
theorem DefT.of{K:PySem.W.Frag}{x:Str}{st:Stmt}{f c0 T:Addr}{oc:Value}{od an:Option Addr}{osl:Array (Option Value)}{kV doc pm ct:Value}(a:PySem.W.nsIn K mainGlobals x=some (some (.ref f)))
  (l:K.lookup f=some ⟨oc,od,.func (PySem.W.fnOf x x (Xdc st) (Xb9 st) (defScope st) .none kV doc pm an (.ref c0) ct),osl⟩) (c:PySem.W.codeIn K (.ref c0) x=true) (k:PySem.W.keepIn K (.ref f)=true) (t:PySem.W.codeHdIn K c0 T=true):DefT K x st T:=
 ⟨⟨f,_,a,k,⟨⟨oc,od,kV,doc,pm,an,c0,ct,osl,rfl,l,c,t⟩,k⟩,Xtk l c k⟩⟩
section
variable {P:Program}{w:World}{K:PySem.W.Frag}{mg:Str->Option Value}{base:Heap}
theorem FunT.ok{x:Str}{st:Stmt}{f T:Addr}{fd:FuncData}{N ps:List Str}{k:Nat}{sp:Sp}(F:FunT K x st f fd T)(S:FnScope N ps (defScope st))(len:∀vs H Q E,sp vs H Q E->vs.length=ps.length)
  (hbody:∀(c0:Addr),PySem.W.codeHdIn K c0 T=true->∀(A:Around) (outer:List Env) (s:Shared) (H:Hp) (vs:List V) (Q:VK) (E:XK),Room k (A.deeper (envOfC x (defScope st) s.heap.objs.size f (.ref c0)))->sp vs H Q E ->
   ∃t,PSs (cxOf CX0 P w K mg base N x (defScope st) f (.ref c0) A outer s H E).nox (Xb9 st) t/\t {nx:=λ_ H'=>Q .non H',rt:=Q} (start N vs) H):FnOk P w K mg base CX0 (k+1) f fd ps sp:=by
 obtain⟨oc,od,kV,doc,pm,an,c0,ct,osl,rfl,lk,hcd,hhd⟩:=F.ex
 refine Xud lk hcd S len λA outer s H vs Q E hr hsp=>?_
 obtain⟨t,h,q⟩:=hbody c0 hhd A outer s H vs Q E hr hsp
 exact⟨t,h.nox,q⟩
end
section
variable {X:Cx}
def Xxz (X:Cx) (ta tk:TA):TE:=fun σ H Q=>ta σ H λvs H1=>tk σ H1 λzs H2=>∃(l f:Addr) (ps:List Addr) (Ts:List (List Str)),vs=[.ref l]/\zs=[.ref f]/\H2 l=some (.lst (ps.map V.ref))/\Tups H2 ps Ts/\Ts.Nodup/\ps.length<64/\Turns X f H2 ps Ts /\
 ∀(D:Addr) (p:Array Nat) (H':Hp),H2 D=none->Gd ps.length p->SoTo (ltP' Ts) p ps.length->Same H2 H'->H' D=some (.lst ((p.toList.map λi=>ps.getD i 0).map V.ref))->Q (.ref D) H'
theorem Xsc{x:Str}{p pos:Pos}{e:Expr}{es:List Expr}{kws:List Keyword}{ta tk:TA}(hu:X.A.in1.in1.units<cLine)(hg:Gl X x)(hm:X.mg x=none)(hv:bootBuiltins x=some (.builtin "sorted"))(ha:PA X (e::es) ta)(hkw:PK X kws tk)
  (hks:(backToKw pos (keywordEach kws X.env)).filterMap (·.1)=[Str.ofString "key"]:=by rfl)
  (hn:x ≠ "__name__" := by decide) (hdb:(x==("__debug__" : Str))=false:=by decide)
  (he:backTo pos (starEach (e::es) X.env)=(false,eval e X.env)::backTo pos (starEach es X.env):=by rfl)
  (hplain:(backTo pos (starEach (e::es) X.env)).any (·.1)=false:=by rfl)
  (hall:(backToKw pos (keywordEach kws X.env)).all (·.1.isSome)=true:=by rfl)
  (hno:(backToKw pos (keywordEach kws X.env)).any (·.1.isNone)=false:=by rfl):PE X (.Call (.Name x p) (e::es) kws pos) (Xxz X ta tk):=by
 intro pins s σ H Q I h
 refine wpAny_Call_Name_kw (Xhq I hg hm hv ?_ hn hdb)
 refine callWith_kw (thn (ha pos pins s σ H _ I h) λus s1 ⟨vs,H1,I1,r1,q1⟩=>thn (hkw pos pins s1 σ H1 _ I1 q1) λws s2 ⟨zs,H2,I2,r2,q2⟩=>?_) he hplain hall hno
 rw[hks]
 obtain⟨l,f,ps,Ts,rfl,rfl,hl,hT,nd,h64,turn,k⟩:=q2
 obtain⟨u,rfl,rx⟩:=vals1 r1
 obtain⟨v,rfl,rf⟩:=vals1 r2
 cases rx
 cases rf
 exact Xnr I2 hu hl hT nd h64 turn k
theorem Xp5{k:Nat}{f c:Addr}{x qual:Str}{params:Arguments}{body:Expr}{scope:Scope}{pm ctv:Value}{H:Hp}{ps:List Addr}{Ts:List (List Str)}(hf:H f=some (.ext (lamP f (PySem.W.kla_fn "<lambda>" qual params body scope [] pm (.ref c) ctv))))(hc:H c=some (.ext (codP c qual)))
  (S:FnScope [x] [x] scope) (hr:Room (k+3) X.A) (hb:∀u,bindArgs (PySem.W.kla_fn "<lambda>" qual params body scope [] pm (.ref c) ctv) ⟨[u],[]⟩=pure ([x].zip [u]))
  (hkey:∀(A:Around) (outer:List Env) (s1:Shared) (H1:Hp) (i:Nat),i<ps.length->Same H H1->Room k (A.deeper (envOfC qual scope s1.heap.objs.size f (.ref c)))->∃t,PE (cxOf CX0 X.prog X.w X.K X.mg X.base [x] qual scope f (.ref c) A outer s1 H1 E0) body t /\
   ∀Q:VK,(∀t H2,H2 t=some (.tup [.int (Ts.getD i []).length,.ref (ps.getD i 0)])->Same H1 H2->Q (.ref t) H2)->t (start [x] [.ref (ps.getD i 0)]) H1 Q):Turns X f H ps Ts:=by
 intro pins σ s1 H1 i hi sm I
 have hr1:Room (k+1) X.A.in1.in1:=(Room.in1 (k:=k+2) hr).in1
 obtain⟨t,ht,hq⟩:=hkey X.A.in1.in1 X.stack s1 H1 i hi sm (hr1.deeper _)
 refine wpAny_call (codeAny_mono (Xuy (Q:=λv H2=>∃t,v = .ref t/\H2 t=some (.tup [.int (Ts.getD i []).length,.ref (ps.getD i 0)])/\Same H1 H2) (sm _ _ hf) (sm _ _ hc) S hr1 I.env0.in1.in1 rfl (.cons (show RelV (.ref (ps.getD i 0)) (.ref (ps.getD i 0)) from rfl) .nil) (hb _) ht (hq _ λt H2 a b=>⟨t,rfl,a,b⟩)) λr s' hq'=>?_)
 cases r with
 | error e=>exact hq'.elim
 | ok fl=>
  cases fl with
  | next=>exact False.elim hq'
  | brk=>exact False.elim hq'
  | cont=>exact False.elim hq'
  | ret u=>
   obtain⟨v,H2,J,rv,t,rfl,a,b⟩:=I.after hq'
   exact⟨t,H2,rv,J,a,b⟩
end
end L2
namespace SH
open PySem PySem.Spec PyProof.Rows L2
theorem Xfo{how:Str}{off:Bool}:Xdg how off=true↔(how = "within" -> off=true)/\(how = "apart" -> off=false):=by
 unfold Xdg
 by_cases h:how = "within"
 ·rw[X3n h]
  have n:how ≠ "apart" := by rw[h];decide
  exact⟨λz=>⟨λ_=>z,λz=>absurd z n⟩,λz=>z.1 h⟩
 ·rw[X3m h]
  by_cases g:how = "apart"
  ·rw[X3o g]
   constructor
   ·exact λz=>⟨λq=>absurd q h,λ_=>by simpa using z⟩
   ·intro z
    rw[z.2 g]
    rfl
  ·rw[X3p g]
   exact⟨λ_=>⟨λq=>absurd q h,λq=>absurd q g⟩,λ_=>rfl⟩
theorem Xcx{row S:List Str}:Xah row S=true↔S.Pairwise ltS/\(∀x∈S,x∈row)/\(∀x∈S,∀y∈row,lieR row x y = "within" -> y∈S)/\(∀x∈S,∀y∈S,lieR row x y ≠ "apart"):=by
 constructor
 ·intro h
  obtain⟨h1,h2⟩:=Xa2 h
  unfold Xah at h
  rw[Xz2] at h
  have al:∀x∈S,∀y∈row,Xdg (lieR row x y) (decide (y∈S))=true:=λx hx y hy=>X0a.mp (X0a.mp h.2 x hx) y (Xaj.mpr hy)
  refine⟨h2,h1,λx hx y hy e=>X3q ((Xfo.mp (al x hx y hy)).1 e),λx hx y hy e=>?_⟩
  have:=(Xfo.mp (al x hx y (h1 y hy))).2 e
  rw[X3o hy] at this
  cases this
 ·rintro ⟨h1,h2,h3,h4⟩
  unfold Xah
  rw[Xz2,Xz2]
  refine⟨⟨X3o (Xil h1).symm,X0a.mpr λx hx=>X3o (h2 x hx)⟩,X0a.mpr λx hx=>X0a.mpr λy hy=>Xfo.mpr ⟨λe=>X3o (h3 x hx y (Xaj.mp hy) e),λe=>X3p λz=>h4 x hx y z e⟩⟩
theorem Xe6{a b c e:Int}(h:lieT a b c e = "within"):c<a/\a<e/\c<b/\b<e:=by
 unfold lieT at h
 split at h
 ·exact absurd h (by decide)
 ·split at h
  ·exact absurd h (by decide)
  ·split at h
   ·rename_i q
    rw[nIn2] at q
    by_cases p1:c<a/\a<e
    ·by_cases p2:c<b/\b<e
     ·exact⟨p1.1,p1.2,p2.1,p2.2⟩
     ·rw[X3n p1,X3m p2] at q;omega
    ·rw[X3m p1] at q
     split at q<;>omega
   ·split at h
    ·exact absurd h (by decide)
    ·exact absurd h (by decide)
theorem Xej{row:List Str}{x y:Str}(hx:row.count x=2)(h:lieR row x y = "within"):span row x<span row y:=by
 have l1:=Xd5 hx
 obtain⟨h1,h2,h3,h4⟩:=Xe6 h
 unfold span
 omega
theorem Xkc{S:List Str}{p:Str->Bool}(h:S.Pairwise ltS):(S.filter p).Pairwise ltS:=h.filter p
theorem Xp6{row S:List Str}(h2:∀y∈row,row.count y=2)(h:Xah row S=true)(ne:S≠[]):∃x∈S,Xah row (S.filter λy=>decide (y≠x))=true:=by
 obtain⟨p1,p2,p3,p4⟩:=Xcx.mp h
 obtain⟨x,hx,lx⟩:=least (span row) S ne
 refine⟨x,hx,Xcx.mpr ⟨Xkc p1,λy hy=>p2 y (Xzm.mp hy).1,λy hy z hz e=>?_,λy hy z hz=>p4 y (Xzm.mp hy).1 z (Xzm.mp hz).1⟩⟩
 obtain⟨hy1,hy2⟩:=Xzm.mp hy
 refine Xzm.mpr ⟨p3 y hy1 z hz e,X3o λq=>?_⟩
 subst q
 have:=Xej (h2 y (p2 y hy1)) e
 have:=lx y hy1
 omega
theorem Xkd{S:List Str}{x:Str}(h:S.Pairwise ltS)(hx:x∈S):srt ((S.filter λy=>decide (y≠x))++[x])=S:=by
 have nd:=Xb8 h
 refine Xjs ((Xbg _).trans (Xee ?_ nd λy=>?_)) (Xd9 _) (Xf7 h)
 ·rw[X02]
  refine⟨nd.filter _,by simp,λa ha b hb e=>?_⟩
  rw[Xzs.mp hb] at e
  exact X3q (Xzm.mp ha).2 e
 ·rw[Xzw,Xzs,Xzm]
  constructor
  ·rintro (z | z)
   ·exact z.1
   ·rw[z];exact hx
  ·intro z
   by_cases e:y=x
   ·exact .inr e
   ·exact .inl ⟨z,X3o e⟩
theorem Xsd{S:List Str}{x:Str}(h:S.Pairwise ltS)(hx:x∈S):(S.filter λy=>decide (y≠x)).length+1=S.length:=by
 have e:=Xkd h hx
 have:=congrArg List.length e
 rw[(Xbg _).length_eq,Xzx] at this
 exact this
theorem Xhf{H:Hp}:∀{Ts:List (List Str)} {xs:List V},DAll H (Ts.map tupD) xs->∃ps:List Addr,xs=ps.map V.ref/\Tups H ps Ts
 | [],xs,h=>by unfold List.map DAll at h;exact⟨[],h,Tups.nil H⟩
 | T::Ts,xs,h=>by
  rw[Xz9] at h
  unfold DAll at h
  obtain⟨v,vr,rfl,h1,h2⟩:=h
  obtain⟨p,ys,rfl,hp,hy⟩:=Xpc h1
  rw[Xb7 hy] at hp
  obtain⟨ps,rfl,hq⟩:=Xhf h2
  exact⟨p::ps,rfl,Tups.cons hp hq⟩
theorem Xke{H:Hp}:∀{ps:List Addr} {Ts:List (List Str)},Tups H ps Ts->DAll H (Ts.map tupD) (ps.map V.ref)
 | [],Ts,h=>by
  have:Ts=[]:=X0i.mp h.1.symm
  rw[this]
  unfold List.map DAll
  rfl
 | p::ps,[],h=>by have:=h.1;simp at this
 | p::ps,T::Ts,h=>by
  rw[Xz9,Xz9]
  unfold DAll
  exact⟨.ref p,ps.map V.ref,rfl,Xcv (h.2 0 (by simp)),Xke ⟨by simpa using h.1,λi hi=>by simpa using h.2 (i+1) (by simpa using hi)⟩⟩
theorem Xve{row T:List Str}(h2:∀y∈row,row.count y=2)(h:Xah row T=true):Xfm (bars row) T=true:=by
 rw[<-Xk7 h2] at h
 unfold Xpn at h
 rw[Xz2] at h
 exact h.2
def Cov (row:List Str) (Us:List (List Str)) (j:Nat) (Ts:List (List Str)):Prop:=∀i,i<j->∀x∈row,x∉Us.getD i []->Xah row (srt (Us.getD i []++[x]))=true->srt (Us.getD i []++[x])∈Ts
theorem Xlk{α : Type}{R : α -> α->Prop}(irr:∀a,¬R a a)(tr:∀a b c,R a b->R b c->R a c):∀{A B:List α},A.Pairwise R->B.Pairwise R->(∀x,x∈A↔x∈B)->A=B
 | [],[],_,_,_=>rfl
 | [],b::_,_,_,h=>absurd ((h b).mpr Xzr) (by simp)
 | a::_,[],_,_,h=>absurd ((h a).mp Xzr) (by simp)
 | a::A,b::B,hA,hB,h=>by
  obtain⟨a1,a2⟩:=X1r.mp hA
  obtain⟨b1,b2⟩:=X1r.mp hB
  have e:a=b:=by
   rcases Xzy.mp ((h a).mp Xzr) with z | z
   ·exact z
   ·rcases Xzy.mp ((h b).mpr Xzr) with u | u
    ·exact u.symm
    ·exact absurd (tr _ _ _ (a1 b u) (b1 a z)) (irr a)
  subst e
  rw[Xlk irr tr a2 b2 λx=>?_]
  constructor
  ·intro hx
   rcases Xzy.mp ((h x).mp (Xzq _ hx)) with z | z
   ·exact absurd (z ▸ a1 x hx) (irr a)
   ·exact z
  ·intro hx
   rcases Xzy.mp ((h x).mpr (Xzq _ hx)) with z | z
   ·exact absurd (z ▸ b1 x hx) (irr a)
   ·exact z
def LayC (row:List Str) (n:Nat) (Us:List (List Str)):Prop:=∀T,T∈Us↔Xah row T=true/\T.length=n
end SH
namespace L2
open PySem PySem.Spec PyProof.Rows
theorem Xiq{X:Cx}{tg l:Expr}{tl:TE}(K:PySem.W.Frag)(h:X.K=K)(hl:PE X l tl):PI X tg l (Xwj K tl):=by subst h;exact Xa4 hl
theorem Xns{t u:TS}{D:Ends}{σ:St}{H:Hp}(P:St->Hp->Prop)(h2:∀σ' H',P σ' H'->u D σ' H')(h1:∀nx,(∀σ' H',P σ' H'->nx σ' H')->t {D with nx:=nx} σ H):tSeq t u D σ H:=h1 (u D) h2
end L2
namespace SH
open PySem PySem.Spec PyProof.Rows L2
def spOne:Sp:=λvs H Q _=>∃(dr sc l:Addr) (xs:List V),vs=[.ref dr,.ref l]/\DrawOk H dr sc/\H l=some (.lst xs)/\l≠dr/\0<xs.length/\xs.length<=1000 /\
 ∀(i:Nat) (H':Hp),i<xs.length->DrawOk H' dr sc->But dr H H'->Q (xs.getD i .non) H'
def mostL (a b c:List Str):List Str:=srt ((a.filter λx=>decide (x∈b)||decide (x∈c))++(b.filter λx=>decide (x∈c) && !decide (x∈a)))
theorem lt_uniq{a b:List Str}(ha:a.Pairwise ltS)(hb:b.Pairwise ltS)(h:∀x,x∈a↔x∈b):a=b:=Xlk Xc3 (λ_ _ _=>Xdr) ha hb h
end SH
set_option maxHeartbeats 3200000
namespace L2
open PySem PySem.Spec PyProof.Rows PySem.Calls
def it5 (mask:Nat):Nat->Nat->Nat
 | 0,i=>i
 | m+1,i=>it5 mask m ((i * 5+1) % (mask+1))
theorem Xza:∀i<8,∀j<8,∃m<8,it5 7 m i=j:=by decide +kernel
theorem Xx0:∀i<16,∀j<16,∃m<16,it5 15 m i=j:=by decide +kernel
theorem Xx1:∀i<32,∀j<32,∃m<32,it5 31 m i=j:=by decide +kernel
def Mask (mask:Nat):Prop:=mask=7\/mask=15\/mask=31
theorem Xvf{mask:Nat}(h:Mask mask):∀i<mask+1,∀j<mask+1,∃m<mask+1,it5 mask m i=j:=by
 rcases h with rfl | rfl | rfl
 ·exact Xza
 ·exact Xx0
 ·exact Xx1
section
variable {mask:Nat}{owner:Array (Option Nat)}
abbrev Free (owner:Array (Option Nat)) (j:Nat):Prop:=owner.getD j (some 0)=none
theorem Xkf(fuel i p:Nat):(∃j,SetTable.layClean.free mask owner (fuel+1) i p=some j/\Free owner j) \/
  (¬Free owner i/\SetTable.layClean.free mask owner (fuel+1) i p=SetTable.layClean.free mask owner fuel ((i * 5+1+p / 32) % (mask+1)) (p / 32)):=by
 rw[SetTable.layClean.free]
 cases hf:(List.range (SetTable.runEnd mask i+1 - i)).find? λk=>(owner.getD (i+k) (some 0)).isNone with
 | some k=>
  left
  refine⟨i+k,rfl,?_⟩
  have:=List.find?_some hf
  exact Option.isNone_iff_eq_none.mp this
 | none=>
  right
  refine⟨λz=>?_,rfl⟩
  rw[List.find?_eq_none] at hf
  have hr:0<SetTable.runEnd mask i+1 - i:=by
   unfold SetTable.runEnd
   split<;>omega
  have:=hf 0 (X0l.mpr hr)
  rw[Nat.add_zero] at this
  have z:owner.getD i (some 0)=none:=z
  rw[z] at this
  exact this rfl
theorem Xtw:∀fuel i,(∃m,m<fuel/\Free owner (it5 mask m i))->∃j,SetTable.layClean.free mask owner fuel i 0=some j/\Free owner j
 | 0,_,⟨_,h,_⟩=>absurd h (X07 _)
 | fuel+1,i,⟨m,hm,hf⟩=>by
  rcases Xkf (mask:=mask) (owner:=owner) fuel i 0 with h | ⟨h1,h2⟩
  ·exact h
  ·rw[h2]
   cases m with
   | zero=>exact absurd hf h1
   | succ m=>exact Xtw fuel _ ⟨m,by omega,hf⟩
theorem Xtx:∀c fuel i p,p<32 ^ c->i<mask+1->(∀i,i<mask+1->∃m,m<fuel/\Free owner (it5 mask m i))->∃j,SetTable.layClean.free mask owner (fuel+c) i p=some j/\Free owner j
 | 0,fuel,i,p,hp,hi,h=>by
  have:p=0:=by omega
  subst this
  exact Xtw fuel i (h i hi)
 | c+1,fuel,i,p,hp,hi,h=>by
  rcases Xkf (mask:=mask) (owner:=owner) (fuel+c) i p with h' | ⟨_,h2⟩
  ·exact h'
  ·rw[<-Nat.add_assoc,h2]
   exact Xtx c fuel _ _ (by rw[Nat.pow_succ] at hp;omega) (X3a _ (by omega)) h
def Xf1 (owner:Array (Option Nat)):List Nat:=owner.toList.filterMap id
theorem Xse{j k:Nat}(h:Free owner j):(Xf1 (owner.setIfInBounds j (some k))).Perm (k::Xf1 owner):=by
 have hj:j<owner.size:=by
  by_cases q:j<owner.size
  ·exact q
  ·have h:owner.getD j (some 0)=none:=h
   simp[Array.getD,q] at h
 have h':owner.toList[j]'(by simpa using hj)=none:=by
  have h:owner.getD j (some 0)=none:=h
  simpa [Array.getD,hj] using h
 unfold Xf1
 rw[Array.toList_setIfInBounds]
 have e:∀(l:List (Option Nat)) (j:Nat) (hj:j<l.length),l[j]=none->((l.set j (some k)).filterMap id).Perm (k::l.filterMap id):=by
  intro l
  induction l with
  | nil=>intro j hj;exact absurd hj (X07 _)
  | cons o l ih=>
   intro j hj hn
   cases j with
   | zero=>
    have:o=none:=hn
    subst this
    simp
   | succ j=>
    have:=ih j (by simpa using hj) (by simpa using hn)
    cases o with
    | none=>simpa using this
    | some v=>
     simp only[List.set_cons_succ,X1b,id]
     exact(this.cons v).trans (List.Perm.swap k v _)
 exact e _ j (by simpa using hj) h'
theorem Xp7(hn:(Xf1 owner).length<owner.size):∃j,j<owner.size/\Free owner j:=by
 refine Classical.byContradiction λz=>?_
 have all:∀o∈owner.toList,o≠none:=λo ho e=>by
  obtain⟨j,hj,e2⟩:=X0q.mp ho
  have hj':j<owner.size:=by simpa using hj
  refine z ⟨j,hj',?_⟩
  show owner.getD j (some 0)=none
  rw[<-e,<-e2]
  simp[Array.getD,hj']
 have:(Xf1 owner).length=owner.toList.length:=by
  unfold Xf1
  generalize owner.toList=l at all
  clear hn z
  induction l with
  | nil=>rfl
  | cons o l ih=>
   cases o with
   | none=>exact absurd rfl (all none Xzr)
   | some v=>
    have:=ih λo ho=>all o (Xzq _ ho)
    simp only[X1b,id,Xz6,this]
 exact absurd hn (by rw[this,Xzt];exact X0r _)
end
theorem Xvg(h:Int):SetTable.bits h<32 ^ 14:=by
 unfold SetTable.bits
 have h1:h % (2 ^ 64:Int)<2 ^ 64:=X11 _ (by decide)
 have h2:0<=h % (2 ^ 64:Int):=X2k _ (by decide)
 have:(h % (2 ^ 64:Int)).toNat<2 ^ 64:=by omega
 exact Xz8 this (by decide)
def layF (mask:Nat) (acc:Option (Array (Option Nat)×Nat)) (h:Int):Option (Array (Option Nat)×Nat):=do
 let (owner,k) <-acc
 let j <-SetTable.layClean.free mask owner (SetTable.turns mask) (SetTable.bits h % (mask+1)) (SetTable.bits h)
 pure (owner.setIfInBounds j (some k),k+1)
theorem Xp8{mask:Nat}(hm:Mask mask):∀(hs:List Int) (owner:Array (Option Nat)) (k:Nat),owner.size=mask+1->(Xf1 owner).Perm (List.range k)->k+hs.length<=mask ->
  ∃owner',hs.foldl (layF mask) (some (owner,k))=some (owner',k+hs.length)/\owner'.size=mask+1/\(Xf1 owner').Perm (List.range (k+hs.length))
 | [],owner,k,h1,h2,_=>⟨owner,rfl,h1,h2⟩
 | h::hs,owner,k,h1,h2,h3=>by
  have hl:(Xf1 owner).length=k:=by rw[h2.length_eq,X0j]
  rw[Xz6] at h3
  obtain⟨j0,hj0,hf0⟩:=Xp7 (owner:=owner) (by omega)
  obtain⟨j,e,hf⟩:=Xtx (mask:=mask) (owner:=owner) 14 (mask+1) (SetTable.bits h % (mask+1)) (SetTable.bits h) (Xvg h) (X3a _ (by omega)) λi hi=>by
   obtain⟨m,hm1,hm2⟩:=Xvf hm i hi j0 (by omega)
   exact⟨m,hm1,by rw[hm2];exact hf0⟩
  have e1:layF mask (some (owner,k)) h=some (owner.setIfInBounds j (some k),k+1):=by
   show (do let j <-SetTable.layClean.free mask owner (SetTable.turns mask) (SetTable.bits h % (mask+1)) (SetTable.bits h);pure (owner.setIfInBounds j (some k),k+1))=_
   have:SetTable.turns mask=mask+1+14:=by unfold SetTable.turns;omega
   rw[this,e]
   rfl
  rw[X2e,e1]
  obtain⟨o',a1,a2,a3⟩:=Xp8 hm hs (owner.setIfInBounds j (some k)) (k+1) (by simpa using h1) (by
   refine(Xse hf).trans ((h2.cons k).trans ?_)
   rw[X0u]
   exact(List.perm_append_singleton k (List.range k)).symm) (by omega)
  rw[show k+(h::hs).length=k+1+hs.length by rw[Xz6];omega]
  exact⟨o',a1,a2,a3⟩
theorem Xll(mask:Nat)(hs:Array Int):SetTable.layClean mask hs=(hs.toList.foldl (layF mask) (some (Array.replicate (mask+1) none,0))).map (·.1):=by
 unfold SetTable.layClean
 rw[<-Array.foldl_toList]
 rfl
theorem Xfy:∀(owner:Array (Option Nat)),((List.range owner.size).filterMap λj=>(owner.getD j none).map (j, ·)).map (·.2)=Xf1 owner:=by
 intro owner
 unfold Xf1
 rw[List.map_filterMap]
 have e:owner.toList=(List.range owner.size).map λj=>owner.getD j none:=by
  refine X1y (by simp) λi h1 h2=>?_
  have:i<owner.size:=by simpa using h1
  simp[Array.getD,this]
 rw[e,List.filterMap_map]
 congr 1
 funext j
 show Option.map _ (Option.map _ (owner.getD j none))=owner.getD j none
 cases owner.getD j none<;>rfl
theorem Xvh{mask finger moves:Nat}{led plain:Bool}{hs:Array Int}(hm:Mask mask)(hn:hs.size<=mask):
  ∃t o,SetTable.laid mask finger moves led plain hs=some (t,o)/\o.toList.Perm (List.range hs.size)/\t.fits hs.size=true/\t.led=led/\t.plain=plain:=by
 obtain⟨owner,e1,e2,e3⟩:=Xp8 hm hs.toList (Array.replicate (mask+1) none) 0 (by simp) (by
  unfold Xf1
  rw[Array.toList_replicate]
  have:∀n,(List.replicate n (none:Option Nat)).filterMap id=[]:=λn=>by
   induction n with
   | zero=>rfl
   | succ n ih=>rw[X1c];simpa using ih
  rw[this]
  exact X06 _) (by simpa using hn)
 rw[Xzt,X2t] at e1 e3
 have ec:SetTable.layClean mask hs=some owner:=by rw[Xll,e1];rfl
 unfold SetTable.laid
 rw[ec]
 refine⟨_,_,rfl,?_,?_,rfl,rfl⟩
 ·show (((List.range (mask+1)).filterMap λj=>(owner.getD j none).map (j, ·)).map (·.2)).Perm _
  rw[<-e2,Xfy]
  exact e3
 ·have l1:(((List.range (mask+1)).filterMap λj=>(owner.getD j none).map (j, ·))).length=hs.size:=by
   have:=congrArg List.length (Xfy owner)
   rw[Xzl,e2,e3.length_eq,X0j] at this
   exact this
  simp only[SetTable.fits,SetTable.fill,Xz2,beq_iff_eq,decide_eq_true_eq,Xzp,Xzl,l1]
  exact⟨trivial,by simpa using hn⟩
theorem Xsf{mask finger moves:Nat}{led plain:Bool}(hm:Mask mask):∃t,SetTable.laid mask finger moves led plain #[]=some (t, #[])/\t.mask=mask/\t.place = #[]/\t.dummies = #[]/\t.led=led/\t.plain=plain:=by
 have ec:SetTable.layClean mask #[]=some (Array.replicate (mask+1) none):=rfl
 unfold SetTable.laid
 rw[ec]
 have l0:((List.range (mask+1)).filterMap λj=>((Array.replicate (mask+1) (none:Option Nat)).getD j none).map (j, ·))=[]:=by
  rw[List.filterMap_eq_nil_iff]
  intro j hj
  have:j<mask+1:=X0l.mp hj
  simp[Array.getD,this]
 refine⟨⟨mask, #[], #[],finger,led,moves,plain⟩,?_,rfl,rfl,rfl,rfl,rfl⟩
 show some (_,_)=_
 rw[l0]
 rfl
def reord (es:Array (Int×Value)) (laid:Option (SetTable×Array Nat)):Sem (Array (Int×Value)×SetTable):=do
 let some (t,order):=laid | unsupported "internal:set-table-without-room"
 let es':=order.filterMap (es[·]?)
 if es'.size != es.size then unsupported "internal:set-table-lost-an-element"
 pure (es',t)
theorem Xlm(a:Addr)(wanted:Nat):setRelay a wanted=(do
  let (es,_,t) <-setState a
  if SetTable.sizeAbove wanted > sizeLine then unsupported "set:memory"
  let (es,t) <-reord es (t.relaid (es.map (·.1)) wanted)
  storeSet a es t):=rfl
theorem Xln(s o:Addr)(each:Sem Unit):setMerge s o each=(do
  if s==o then return
  let (eo,epoch,to) <-setState o
  if eo.isEmpty then return
  setRoomFor s eo.size
  let (_,_,ts) <-setState s
  match ts.road to with
  | .slotForSlot=>storeSet s eo {to with finger:=ts.finger,led:=ts.led&&to.led,moves:=ts.moves,plain:=ts.plain&&to.plain}
  | .clean=>
   let (es,t) <-reord eo (SetTable.laid ts.mask ts.finger ts.moves (led:=ts.led&&to.led) (plain:=ts.plain&&to.plain) (eo.map (·.1)))
   storeSet s es t
  | .oneByOne=>
   for (h,x) in <-setWalkUnseen o [s] (some s) do
    let _ <-holding [x] (setAddHashed s x h)
    each
    if (<-setState o).2.1 != epoch then unsupported "set.changed-during-merge"):=rfl
def Xlo (es:Array (Int×Value)) (t:SetTable):Sem Unit:=do
 if !t.led&&es.size > 1 then unsupported "set:maker-not-led"
theorem Xnt(a:Addr):setWalk a=(do
  let (es,epoch,t) <-setState a
  if <-setsByText then return pickOrder ((<-ask).params.setOrder a epoch) es
  if !t.plain&&decide (es.size > 1) then return (<-drawOrder es.size es.toList).toArray
  Xlo es t
  return es):=rfl
theorem Xsg:∀m<16,5<=m->(SetTable.sizeAbove (m * 2) - 1=15\/SetTable.sizeAbove (m * 2) - 1=31)/\m<=SetTable.sizeAbove (m * 2) - 1/\¬SetTable.sizeAbove (m * 2) > sizeLine:=by decide +kernel
section
variable {P:Program}{w:World}{A:Around}{E:Value->Shared->Prop}{s:Shared}{a b c:Addr}{ks ls:List Str}
theorem wp_reord{es:Array (Int×Value)}{t:SetTable}{o:Array Nat}{Q:Array (Int×Value)×SetTable->Shared->Prop}(h:o.toList.Perm (List.range es.size))(q:∀es':Array (Int×Value),es'.toList.Perm es.toList->es'.size=es.size->Q (es',t) s):
  wpAny (model P w) A (reord es (some (t,o))) Q E s:=by
 have p:(o.filterMap (es[·]?)).toList.Perm es.toList:=by
  rw[Array.toList_filterMap]
  have:=h.filterMap (λi=>es[i]?)
  rwa [filterMap_getElem?_range] at this
 have z:(o.filterMap (es[·]?)).size=es.size:=by rw[<-Xzt,p.length_eq,Xzt]
 unfold reord
 dsimp only
 rw[z]
 simp only[bne_self_eq_false,X0g,if_false]
 exact X3k (q _ p z)
theorem Xe7{Q:Bool->Shared->Prop}(hT:s.TypeIs (.ref a) "set")(h:Q true s):wpAny (model P w) A (Builtin.Frozenset.isAnySet (.ref a)) Q E s:=by
 unfold Builtin.Frozenset.isAnySet
 show wpAny _ _ (isInstance (.ref a) (.type "set") >>= λb=>_) _ _ s
 refine X3j (wpAny_isInstance hT sub_set_self ?_)
 exact X3k h
theorem Xvi{Q:Value->Shared->Prop}(hT:s.TypeIs (.ref a) "set")(h:Q (.type "set") s):wpAny (model P w) A (Builtin.Frozenset.baseOf a) Q E s:=by
 unfold Builtin.Frozenset.baseOf
 refine X3j (wpAny_isInstance hT sub_set_self ?_)
 exact X3k h
theorem SSet.typeIs(S:SSet P w s.heap a ks):s.TypeIs (.ref a) "set" := by
 obtain⟨o,_,_,_,_,ho,hex,_⟩:=S
 exact⟨o,ho,hex.1⟩
structure Nu (w:World) (h:Heap) (a:Addr) (n:Nat):Prop where
 ex:∃o ep t,h.get? a=some o/\o.ExactSet/\o.data = .set #[] ep t/\t.place = #[]/\t.dummies = #[]/\Mask t.mask/\n<=t.mask/\t.led = !Xbr w/\t.plain=true
theorem Xsh{t:SetTable}(h1:t.place = #[])(h2:t.dummies = #[]):t.fits 0=true:=by
 simp[SetTable.fits,SetTable.fill,h1,h2]
theorem Xvj{n:Nat}{Q:Unit->Shared->Prop}{o:Obj}{ep:Nat}(ho:s.heap.get? a=some o)(hex:o.ExactSet)(hd:o.data = .set #[] ep (.fresh 0 0 (!Xbr w)))(hn:n<16)
  (h:∀h',Heap.SameBut a s.heap h'->Nu w h' a n->Q () {s with heap:=h'}):wpAny (model P w) A (setRoomFor a n) Q E s:=by
 have hf:(SetTable.fresh 0 0 (!Xbr w)).fits (#[]:Array (Int×Value)).size=true:=rfl
 unfold setRoomFor
 refine X3j (wpAny_setState_of ho hd hf ?_)
 dsimp only
 by_cases hr:n * 5 ≥ 21
 ·have e:(SetTable.fresh 0 0 (!Xbr w)).roomFor n=some (n * 2):=by
   unfold SetTable.roomFor
   rw[X3n (by show (0+0+n) * 5 ≥ 7 * 3;omega)]
   show some ((0+n) * 2)=_
   rw[X2t]
  rw[e]
  dsimp only
  rw[Xlm]
  refine X3j (wpAny_setState_of ho hd hf ?_)
  dsimp only
  obtain⟨m1,m2,m3⟩:=Xsg n hn (by omega)
  have hM:Mask (SetTable.sizeAbove (n * 2) - 1):=.inr m1
  rw[X3m m3]
  obtain⟨t,e1,t1,t2,t3,t4,t5⟩:=Xsf (finger:=(SetTable.fresh 0 0 (!Xbr w)).finger) (moves:=(SetTable.fresh 0 0 (!Xbr w)).movedTo (SetTable.sizeAbove (n * 2) - 1)) (led := !Xbr w) (plain:=true) hM
  have e2:(SetTable.fresh 0 0 (!Xbr w)).relaid ((#[]:Array (Int×Value)).map (·.1)) (n * 2)=some (t, #[]):=by
   unfold SetTable.relaid
   rw[Array.map_empty]
   exact e1
  rw[e2]
  refine X3j (wp_reord (es := #[]) (by simp) λes' p z=>?_)
  have:es' = #[]:=Array.eq_empty_of_size_eq_zero z
  subst this
  refine wpAny_storeSet_of ho hd ?_ (X0m _)
  have g:=Heap.get?_update_self (Obj.putSet #[] t) ho (by rw[putSet_of #[] t hd];rfl)
  rw[putSet_of #[] t hd] at g
  exact h _ (X3u _ a _) ⟨_,ep+1,t,g,hex,rfl,t2,t3,by rw[t1];exact hM,by rw[t1];exact m2,t4,t5⟩
 ·have e:(SetTable.fresh 0 0 (!Xbr w)).roomFor n=none:=by
   unfold SetTable.roomFor
   rw[X3m (by show ¬(0+0+n) * 5 ≥ 7 * 3;omega)]
  rw[e]
  exact X3k (h _ (Heap.SameBut.refl a _) ⟨o,ep,_,ho,hex,hd,rfl,rfl,.inl rfl,by show n<=7;omega,rfl,rfl⟩)
theorem Xsi{id:String}{Q:Unit->Shared->Prop}{o:Obj}{ep:Nat}(ho:s.heap.get? c=some o)(hex:o.ExactSet)(hd:o.data = .set #[] ep (.fresh 0 0 (!Xbr w)))(S:SSet P w s.heap b ls)(hl:ls.length<16)(hcb:c≠b)
  (h:∀h',Heap.SameBut c s.heap h'->SSet P w h' c ls->Q () {s with heap:=h'}):wpAny (model P w) A (Builtin.Frozenset.merge id c b) Q E s:=by
 obtain⟨ob,eo,epo,to,lso,hob,hexo,hdo,helo,hsto,hpo,hbo,hfo,hlo,hplo⟩:=S
 have hz:eo.size=ls.length:=by
  have:=hsto.length
  rw[Xzl,Xzt] at this
  rw[this,hpo.length_eq]
 unfold Builtin.Frozenset.merge
 refine X3j (wpAny_setEpoch_of hob hdo hfo ?_)
 rw[Xln]
 rw[X3m (by simpa using hcb)]
 refine X3j (wpAny_setState_of hob hdo hfo ?_)
 dsimp only
 by_cases he:eo.isEmpty=true
 ·rw[X3n he]
  have e0:eo = #[]:=by simpa using he
  have:ls=[]:=X0i.mp (by rw[<-hz,e0];rfl)
  subst this
  exact X3k (h _ (Heap.SameBut.refl c _) ⟨o, #[],ep,_,[],ho,hex,hd,λe he=>by simp at he,.nil,X06 _,by decide,rfl,rfl,λ_=>rfl⟩)
 ·rw[X3m he]
  refine X3j (Xvj ho hex hd (by rw[hz];exact hl) λh1 sb1 nu=>?_)
  obtain⟨o1,ep1,t1,ho1,hex1,hd1,p1,p2,hM,hn1,l1,pl1⟩:=nu.ex
  have hf1:t1.fits (#[]:Array (Int×Value)).size=true:=Xsh p1 p2
  refine X3j (wpAny_setState_of (s:={s with heap:=h1}) ho1 hd1 hf1 ?_)
  dsimp only
  have fin:∀(es':Array (Int×Value)) (t':SetTable),es'.toList.Perm eo.toList->t'.fits es'.size=true->t'.led = !Xbr w->(t'.plain=true->es'.size=0)->Q () {s with heap:=h1.update c (Obj.putSet es' t')}:=λes' t' pp ff fl fp=>by
   obtain⟨ls',st',q'⟩:=Xet pp hsto
   have z':es'.size=eo.size:=by rw[<-Xzt,pp.length_eq,Xzt]
   have g:=Heap.get?_update_self (Obj.putSet es' t') ho1 (by rw[putSet_of es' t' hd1];rfl)
   rw[putSet_of es' t' hd1] at g
   exact h _ (sb1.trans (X3u _ c _)) ⟨_,es',ep1+1,t',ls',g,hex1,rfl,helo.perm pp,st',q'.trans hpo,by rw[z'];exact hbo,ff,fl,fp⟩
  have hroad:t1.road to=if (t1.mask==to.mask&&to.dummies.isEmpty)=true then SetTable.Road.slotForSlot else SetTable.Road.clean:=by
   unfold SetTable.road
   have:(t1.fill != 0)=false:=by simp[SetTable.fill,p1,p2]
   rw[this,X3m (by decide)]
  rw[hroad]
  by_cases hr:(t1.mask==to.mask&&to.dummies.isEmpty)=true
  ·rw[X3n hr]
   dsimp only
   refine wpAny_storeSet_of (s:={s with heap:=h1}) ho1 hd1 ?_ (fits_of_scanBound hbo)
   exact fin eo _ (X06 _) hfo (by show (t1.led&&to.led)=_;rw[l1,hlo,X2i]) (by show (t1.plain&&to.plain)=true->_;rw[pl1,X09];exact hplo)
  ·rw[X3m hr]
   dsimp only
   obtain⟨t2,od,e1,e2,e3,e4,e5⟩:=Xvh (finger:=t1.finger) (moves:=t1.moves) (led:=t1.led&&to.led) (plain:=t1.plain&&to.plain) (hs:=eo.map (·.1)) hM (by rw[Array.size_map];exact hn1)
   rw[e1]
   rw[Array.size_map] at e2 e3
   refine X3j (wp_reord e2 λes' pp zz=>?_)
   refine wpAny_storeSet_of (s:={s with heap:=h1}) ho1 hd1 ?_ (fits_of_scanBound (by rw[zz];exact hbo))
   exact fin es' t2 pp (by rw[zz];exact e3) (by rw[e4,l1,hlo,X2i]) (by rw[e5,pl1,X09,zz];exact hplo)
def Wl (P:Program) (w:World) (wl:Array (Int×Value)) (ks:List Str):Prop:=ElemsOf (PySem.strKind P w) wl.toList/\∃zs,StrsAre (wl.toList.map (·.2)) zs/\zs.Perm ks
theorem Xzb{es wl:Array (Int×Value)}{ls0:List Str}(hel:ElemsOf (PySem.strKind P w) es.toList)(hs:StrsAre (es.toList.map (·.2)) ls0)(hp:ls0.Perm ks)(pp:wl.toList.Perm es.toList):Wl P w wl ks:=by
 obtain⟨zs,st,q⟩:=Xet pp hs
 exact⟨hel.perm pp,zs,st,q.trans hp⟩
theorem Xkg{Q:Option Bool×Unit->Shared->Prop}{f:Int×Value->Option Bool×Unit->Sem (ForInStep (Option Bool×Unit))}(hf:∀(x:Int×Value) (r:Option Bool×Unit),(∀p,x.2 ≠ .ref p)->f x r=pure (.yield (none,()))):
  ∀(l:List (Int×Value)),(∀e∈l,∀p,e.2 ≠ .ref p)->Q (none,()) s->wpAny (model P w) A (forIn l (none,()) f) Q E s
 | [],_,h=>by rw[X28];exact X3k h
 | x::l,hn,h=>by
  rw[X2y,hf x _ (hn x Xzr)]
  exact X3j (X3k (Xkg hf l (λe he=>hn e (Xzq _ he)) h))
end
section
variable {P:Program}{w:World}{A:Around}{E:Value->Shared->Prop}{s:Shared}{a b c:Addr}{ks ls:List Str}
theorem Xhg{l:List (Int×Value)}(h:ElemsOf (PySem.strKind P w) l):∀e∈l,∀p,e.2 ≠ .ref p:=λe he p z=>by
 have:=(h e he).2
 rw[z] at this
 cases this
theorem Xkh{Q:Option Bool×Unit->Shared->Prop}{f:Int×Value->Option Bool×Unit->Sem (ForInStep (Option Bool×Unit))}(hf:∀(x:Int×Value) (r:Option Bool×Unit),(∀p,x.2 ≠ .ref p)->f x r=pure (.yield (none,())))
  {es:Array (Int×Value)} (hn:∀e∈es.toList,∀p,e.2 ≠ .ref p) (h:Q (none,()) s):wpAny (model P w) A (forIn es (none,()) f) Q E s:=by
 rw[<-X2j]
 exact Xkg hf _ hn h
theorem Xp9{Q:Bool->Shared->Prop}(S:SSet P w s.heap a ks)(F:SSet P w s.heap b ls)(h:Q true s):wpAny (model P w) A (setsQuiet [a,b]) Q E s:=by
 obtain⟨o,es,ep,t,l0,ho,hex,hd,hel,hst,hp,hb,hf,hl,hpl⟩:=S
 obtain⟨o',es',ep',t',l0',ho',hex',hd',hel',hst',hp',hb',hf',hl',hpl'⟩:=F
 have hq:∀(x:Int×Value) (r:Option Bool×Unit),(∀p,x.2 ≠ .ref p)->(match x.2 with
   | Value.ref a=>do
    let __do_lift <-specialOf x.2 (Str.ofString "__eq__")
    if (__do_lift != some (Value.builtin "object.__eq__"))=true then pure (ForInStep.done (some false,())) else pure (ForInStep.yield (none,()))
   | x=>pure (ForInStep.yield (none,())):Sem (ForInStep (Option Bool×Unit)))=pure (.yield (none,())):=λx r hx=>by
  split
  ·rename_i e;exact absurd e (hx _)
  ·rfl
 unfold setsQuiet
 simp only[X2y,X28]
 refine X3j (X3j (X3j (wpAny_setEntries_of ho hd hf (X3j (Xkh hq (Xhg hel) (X3k ?_))))))
 refine X3j (X3j (wpAny_setEntries_of ho' hd' hf' (X3j (Xkh hq (Xhg hel') (X3k ?_)))))
 exact X3k (X3k h)
theorem wp_unseen{Q:Array (Int×Value)->Shared->Prop}(S:SSet P w s.heap a ks)(F:SSet P w s.heap c ls)(hac:a≠c)
  (h:∀wl h' d,Wl P w wl ks->Heap.SameBut c s.heap h'->SSet P w h' c ls->Q wl {s with heap:=h',drawn:=d}):wpAny (model P w) A (setWalkUnseen a [c] (some c)) Q E s:=by
 obtain⟨o,es,ep,t,l0,ho,hex,hd,hel,hst,hp,hb,hf,hl,hpl⟩:=id S
 have wl1:∀wl:Array (Int×Value),wl.toList.Perm es.toList->Wl P w wl ks:=λwl pp=>Xzb hel hst hp pp
 have walk:wpAny (model P w) A (setWalk a) Q E s:=by
  rw[Xnt]
  refine X3j (wpAny_setState_of ho hd hf ?_)
  dsimp only
  unfold setsByText
  refine X3j (X3j (wpAny_askSetting (X3k ?_)))
  show wpAny _ _ (if Xbr w=true then _ else _) _ _ s
  cases hw:Xbr w with
  | true=>
   rw[X3n rfl]
   refine X3j (wpAny_askSetting (X3k ?_))
   exact h _ s.heap s.drawn (wl1 _ (Xji _ es)) (Heap.SameBut.refl c _) F
  | false=>
   rw[X3m (by decide)]
   by_cases hc:(!t.plain&&decide (es.size > 1))=true
   ·rw[X3n hc]
    refine X3j (Xfs _ _ _ _ (Xzt) λos d po=>X3k ?_)
    exact h _ s.heap d (wl1 _ (by simpa using po)) (Heap.SameBut.refl c _) F
   ·rw[X3m hc]
    have hm:Xlo es t=pure ():=by
     unfold Xlo
     rw[hl,hw]
     rfl
    refine X3j (wpAny_of_eq hm (X3k ?_))
    exact h _ s.heap s.drawn (wl1 _ (X06 _)) (Heap.SameBut.refl c _) F
 unfold setWalkUnseen
 refine X3j (wpAny_setState_of ho hd hf ?_)
 dsimp only
 unfold setsByText
 refine X3j (X3j (wpAny_askSetting (X3k ?_)))
 show wpAny _ _ (if (Xbr w||(t.led&&t.plain)||decide (es.size<=1))=true then setWalk a else _) _ _ s
 by_cases hc:(Xbr w||(t.led&&t.plain)||decide (es.size<=1))=true
 ·rw[X3n hc]
  exact walk
 ·rw[X3m hc]
  refine X3j (Xp9 S F ?_)
  simp only[X2h,X0g,if_false]
  refine X3j (wpAny_rule ?_)
  obtain⟨oc,ec,epc,tc,lc,hoc,hexc,hdc,helc,hstc,hpc,hbc,hfc,hlc,hplc⟩:=id F
  refine X3j (wpAny_setState_of hoc hdc hfc ?_)
  dsimp only
  by_cases hs:((tc.led && !t.led)||(tc.plain && !t.plain))=true
  ·rw[X3n hs]
   refine X3j (wpAny_storeSet_of hoc hdc (X3k ?_) (fits_of_scanBound hbc))
   obtain⟨g,S1⟩:_/\SSet P w (s.heap.update c (Obj.putSet ec {tc with led:=tc.led&&t.led,plain:=tc.plain&&t.plain})) c ls:=by
    have g:=Heap.get?_update_self (Obj.putSet ec {tc with led:=tc.led&&t.led,plain:=tc.plain&&t.plain}) hoc (by rw[putSet_of ec _ hdc];rfl)
    rw[putSet_of ec _ hdc] at g
    exact⟨g,_,ec,epc+1,_,lc,g,hexc,rfl,helc,hstc,hpc,hbc,hfc,by show (tc.led&&t.led)=_;rw[hlc,hl,X2i],by
     show (tc.plain&&t.plain)=true->_
     intro z
     rw[Xz2] at z
     exact hplc z.1⟩
   exact h _ _ s.drawn (wl1 _ (X06 _)) (X3u _ c _) S1
  ·rw[X3m hs]
   exact X3k (h _ s.heap s.drawn (wl1 _ (X06 _)) (Heap.SameBut.refl c _) F)
def xor1 (ks:List Str) (x:Str):List Str:=if x∈ks then ks.erase x else ks++[x]
theorem Xcy{α : Type}(xs:Array α)(i:Nat):(SetTable.eraseAt xs i).toList=xs.toList.eraseIdx i:=by
 unfold SetTable.eraseAt
 rw[Array.toList_append,Array.toList_extract,Array.toList_extract,List.eraseIdx_eq_take_drop_succ]
 simp[List.extract]
 exact X2n (by simp)
theorem Xmo:∀(l:List Str),l.Nodup->∀(j:Nat) (hj:j<l.length),l.erase l[j]=l.eraseIdx j
 | x::l,nd,0,_=>by simp
 | x::l,nd,j+1,hj=>by
  obtain⟨h1,h2⟩:=X01.mp nd
  have hj':j<l.length:=by simpa using hj
  have ne:x≠l[j]:=λe=>h1 (e ▸ X0b hj')
  rw[List.getElem_cons_succ,List.eraseIdx_cons_succ,List.erase_cons_tail (by simpa using ne),Xmo l h2 j hj']
theorem Xfz{α β : Type}(f : α -> β):∀(l:List α) (j:Nat),(l.eraseIdx j).map f=(l.map f).eraseIdx j
 | [],_=>rfl
 | x::l,0=>rfl
 | x::l,j+1=>by simp[Xfz f l j]
theorem Xh0:∀{vs:List Value} {ls:List Str} (i:Nat),StrsAre vs ls->StrsAre (vs.eraseIdx i) (ls.eraseIdx i)
 | _,_,_,.nil=>by simp;exact .nil
 | _,_,0,.cons x t h=>h
 | _,_,i+1,.cons x t h=>.cons x t (Xh0 i h)
theorem Xvk{vs:List Value}{ls:List Str}(h:StrsAre vs ls){i:Nat}(hi:i<vs.length):∃t,vs[i] = .str (ls.getD i Str.empty) t:=by
 induction h generalizing i with
 | nil=>exact absurd hi (X07 _)
 | cons x t _ ih=>
  cases i with
  | zero=>exact⟨t,rfl⟩
  | succ i=>exact ih (by simpa using hi)
theorem Xqa{x:Str}{tk:Tok}{Q:Unit->Shared->Prop}(S:SSet P w s.heap a ks)(nd:ks.Nodup)(hr:ks.length+1<scanBound)
  (h:∀h',Heap.SameBut a s.heap h'->SSet P w h' a (xor1 ks x)->Q () {s with heap:=h'}):
  wpAny (model P w) A (holding [.str x tk] do
   if !(<-setDiscardHashed a (.str x tk) ((PySem.strKind P w).hash x)) then
    let _ <-setAddHashed a (.str x tk) ((PySem.strKind P w).hash x)) Q E s:=by
 obtain⟨o,es,ep,t,l0,ho,hex,hd,hel,hs,hp,hb,hf,hl,hpl⟩:=id S
 have hkey:(PySem.strKind P w).is x (.str x tk)=true:=strKind_is P w x tk
 have hin:x∈ks ↔ ∃e∈es.toList,(PySem.strKind P w).is x e.2=true:=hp.mem_iff.symm.trans (Xl8 hs)
 have hlen:es.size=ks.length:=by
  have:=hs.length
  rw[Xzl,Xzt] at this
  rw[this,hp.length_eq]
 refine wpAny_holding (X3j ?_)
 unfold setDiscardHashed setFind setFindIn
 refine X3j (X3j (wpAny_setState_of ho hd hf ?_))
 dsimp only
 rw[byScan_of (knd:=PySem.strKind P w) rfl hb hel]
 simp only[↓reduceIte]
 refine X3j (wpAny_rule (X3j (wpAny_setScan_of hkey ho hd hf hel ?_)))
 cases hf1:List.findIdx? (λe=>(PySem.strKind P w).is x e.2) es.toList with
 | none=>
  dsimp only
  have hx:x∉ks:=λz=>by
   obtain⟨e,he,q⟩:=hin.mp z
   have:=List.findIdx?_eq_none_iff.mp hf1 e he
   rw[q] at this
   cases this
  refine X3k (X3k ?_)
  simp only[Bool.not_false,if_true]
  refine X3j (sset_add S hr λb h' sb S'=>X3k ?_)
  refine h h' sb ?_
  unfold xor1
  rw[X3m hx]
  rw[X3m hx] at S'
  exact S'
 | some j=>
  dsimp only
  obtain⟨hj,hpj,_⟩:=X2g.mp hf1
  have hx:x∈ks:=hin.mpr ⟨es.toList[j],X0b hj,hpj⟩
  rw[X2t]
  refine X3k ?_
  dsimp only
  refine X3j (wpAny_setState_of ho hd hf ?_)
  dsimp only
  have hjs:j<es.size:=by simpa using hj
  have zE:(SetTable.eraseAt es j).size=es.size - 1:=by
   rw[<-Xzt,Xcy,X1p hj,Xzt]
  refine X3j (wpAny_storeSet_of ho hd ?_ (fits_of_scanBound (by rw[zE];omega)))
  refine X3j (wpAny_point (X3k ?_))
  simp only[X2h,X0g,if_false]
  refine X3k ?_
  have g:=Heap.get?_update_self (Obj.putSet (SetTable.eraseAt es j) (t.drop j)) ho (by rw[putSet_of _ _ hd];rfl)
  rw[putSet_of _ _ hd] at g
  have hfs:t.place.size=es.size/\t.fill<=t.mask:=by
   simpa [SetTable.fits,Xz2] using hf
  have hdrop:(t.drop j).fits (es.size - 1)=true/\(t.drop j).led=t.led/\(t.drop j).plain=t.plain:=by
   unfold SetTable.drop
   have hjp:j<t.place.size:=by rw[hfs.1];exact hjs
   rw[getElem?_pos t.place j hjp]
   dsimp only
   refine⟨?_,rfl,rfl⟩
   have z1:(SetTable.eraseAt t.place j).size=t.place.size - 1:=by
    rw[<-Xzt,Xcy,X1p (by simpa using hjp),Xzt]
   have z2:∀p v,(SetTable.insertAt t.dummies p v).size=t.dummies.size+1:=λp v=>by
    have:=(SetTable.insertAt_perm t.dummies p v).length_eq
    simpa using this
   simp only[SetTable.fits,SetTable.fill,Xz2,beq_iff_eq,decide_eq_true_eq,z1,z2]
   have:=hfs.2
   unfold SetTable.fill at this
   omega
  have hl0j:l0.getD j Str.empty=x:=by
   obtain⟨tt,e⟩:=Xvk hs (i:=j) (by simpa using hj)
   rw[X1g] at e
   rw[e] at hpj
   obtain⟨t3,e3⟩:=Value.isStrOf_shape (x:=x) (v:=.str (l0.getD j Str.empty) tt) hpj
   injection e3
  have hl0:l0.length=es.size:=by
   have:=hs.length
   rw[Xzl,Xzt] at this
   exact this.symm
  have nd0:l0.Nodup:=hp.nodup_iff.mpr nd
  have ere:l0.eraseIdx j=l0.erase x:=by
   have hj0:j<l0.length:=by omega
   have e:l0[j]=x:=by rw[<-hl0j];simp[List.getD,hj0]
   rw[<-e]
   exact(Xmo l0 nd0 j hj0).symm
  refine h _ (X3u _ a _) ⟨_,_,ep+1,_,l0.eraseIdx j,g,hex,rfl,?_,?_,?_,by rw[zE];omega,by rw[zE];exact hdrop.1,hdrop.2.1.trans hl,?_⟩
  ·intro e he
   rw[Xcy] at he
   exact hel e (List.mem_of_mem_eraseIdx he)
  ·rw[Xcy]
   have:(es.toList.eraseIdx j).map (·.2)=(es.toList.map (·.2)).eraseIdx j:=by
    exact Xfz _ _ _
   rw[this]
   exact Xh0 j hs
  ·rw[ere]
   unfold xor1
   rw[X3n hx]
   exact hp.erase x
  ·rw[hdrop.2.2,zE]
   intro z
   rw[hpl z]
end
def Xzc (a:Addr) (h:Int) (x:Value):Sem Unit:=holding [x] do
 if !(<-setDiscardHashed a x h) then
  let _ <-setAddHashed a x h
theorem Xmp(ks:List Str)(x:Str):(xor1 ks x).length<=ks.length+1:=by
 unfold xor1
 split
 ·exact Nat.le_succ_of_le (List.length_erase_le ..)
 ·rw[Xzx];exact Xzn _
theorem Xqb{ks:List Str}{x:Str}(h:ks.Nodup):(xor1 ks x).Nodup:=by
 unfold xor1
 split
 ·exact h.erase x
 ·rename_i hx
  exact X02.mpr ⟨h,by simp,λa ha b hb e=>hx (by rw[Xzs.mp hb] at e;exact e ▸ ha)⟩
theorem Xsj{ks:List Str}{x y:Str}(h:ks.Nodup):y∈xor1 ks x↔(y∈ks/\y≠x)\/(y=x/\x∉ks):=by
 unfold xor1
 split
 ·rename_i hx
  rw[h.mem_erase_iff]
  constructor
  ·exact λz=>.inl ⟨z.2,z.1⟩
  ·rintro (z | z)
   ·exact⟨z.2,z.1⟩
   ·exact absurd hx z.2
 ·rename_i hx
  rw[Xzw,Xzs]
  constructor
  ·rintro (z | z)
   ·exact .inl ⟨z,λe=>hx (e ▸ z)⟩
   ·exact .inr ⟨z,hx⟩
  ·rintro (z | z)
   ·exact .inl z.1
   ·exact .inr z.1
theorem xorF:∀(zs ms:List Str),ms.Nodup->zs.Nodup->(zs.foldl xor1 ms).Nodup/\(zs.foldl xor1 ms).length<=ms.length+zs.length/\∀y,y∈zs.foldl xor1 ms↔(y∈ms/\y∉zs)\/(y∉ms/\y∈zs)
 | [],ms,h,_=>⟨h,Xzn _,λy=>by simp⟩
 | z::zs,ms,h,hz=>by
  obtain⟨n1,n2⟩:=X01.mp hz
  obtain⟨a1,a2,a3⟩:=xorF zs (xor1 ms z) (Xqb h) n2
  refine⟨a1,?_,λy=>?_⟩
  ·have:=Xmp ms z
   rw[Xz6]
   rw[X2e]
   omega
  ·rw[X2e,a3,Xsj h,Xzy]
   by_cases e:y=z
   ·subst e
    by_cases g:y∈ms<;>simp[g,n1]
   ·by_cases g:y∈ms<;>simp[g,e]
section
variable {P:Program}{w:World}{A:Around}{E:Value->Shared->Prop}{s:Shared}{a b c:Addr}{ks ls:List Str}
theorem Xmq{id:String}{ep:Nat}{f:Int×Value->PUnit->Sem (ForInStep PUnit)}(hf:∀x u,f x u=(do Xzc c x.1 x.2; Builtin.Frozenset.unchanged id a ep;pure (.yield ⟨⟩))){o:Obj}{es:Array (Int×Value)}{t:SetTable}(hd:o.data = .set es ep t)(hft:t.fits es.size=true)(hac:a≠c):
  ∀(l:List (Int×Value)) (zs ms:List Str) (s:Shared) (Q:PUnit->Shared->Prop),s.heap.get? a=some o->ElemsOf (PySem.strKind P w) l->StrsAre (l.map (·.2)) zs->SSet P w s.heap c ms->ms.Nodup->ms.length+l.length<scanBound ->
   (∀h',Heap.SameBut c s.heap h'->SSet P w h' c (zs.foldl xor1 ms)->Q ⟨⟩ {s with heap:=h'})->wpAny (model P w) A (forIn l PUnit.unit f) Q E s
 | [],zs,ms,s,Q,_,_,hz,hS,_,_,h=>by
  rw[X28]
  cases hz
  exact X3k (h s.heap (Heap.SameBut.refl c _) hS)
 | (hh,x)::l,zs,ms,s,Q,ho,hel,hz,hS,nd,hb,h=>by
  have hz0:StrsAre (x::l.map (·.2)) zs:=hz
  clear hz
  cases hz0 with
  | cons y t' hz=>
   obtain⟨⟨k,hk,he⟩,_⟩:=hel.head
   have hk:(PySem.strKind P w).is k (.str y t')=true:=hk
   obtain⟨t3,e3⟩:=Value.isStrOf_shape (x:=k) (v:=.str y t') hk
   injection e3 with e3 _
   subst e3
   have he:hh=(PySem.strKind P w).hash y:=he
   subst he
   rw[Xz6] at hb
   rw[X2y,hf]
   refine X3j (X3j (Xqa hS nd (by omega) λh1 sb1 S1=>?_))
   have ho1:h1.get? a=some o:=(sb1.2 a hac).trans ho
   refine X3j ?_
   unfold Builtin.Frozenset.unchanged
   refine X3j (wpAny_setEpoch_of (s:={s with heap:=h1}) ho1 hd hft ?_)
   simp only[bne_self_eq_false,X0g,if_false]
   refine X3k (X3k ?_)
   have hl:=Xmp ms y
   exact Xmq hf hd hft hac l _ (xor1 ms y) {s with heap:=h1} Q ho1 hel.tail hz S1 (Xqb nd) (by omega) λh2 sb2 S2=>h h2 (sb1.trans sb2) S2
def Xx2 (i:String) (l:Addr) (r:Value):Sem Value:=do
 let result <-Builtin.Frozenset.newFrom i (<-Builtin.Frozenset.baseOf l) r
 holding [result] (Builtin.Frozenset.symmetricDifferenceUpdate i (<-Builtin.Frozenset.addrOf result) (.ref l))
 return result
theorem Xx3(x y:Value):Builtin.«frozenset.__xor__» ⟨[x,y],[]⟩=(do
  let (self,other) <-Builtin.Frozenset.slot1 "__xor__" ⟨[x,y],[]⟩
  let (l,r):=if false then (other,self) else (self,other)
  if !(<-Builtin.Frozenset.isAnySet l <&&> Builtin.Frozenset.isAnySet r) then rule s!"frozenset.{"__xor__"}.declined"; return <-ret .notImplemented
  ret (<-Xx2 s!"frozenset.{"__xor__"}" (<-Builtin.Frozenset.addrOf l) r)):=rfl
theorem Xqc{i:String}{Q:Unit->Shared->Prop}{ms:List Str}(S:SSet P w s.heap a ks)(F:SSet P w s.heap c ms)(hac:a≠c)(hk:ks.Nodup)(hm:ms.Nodup)(l1:ks.length<16)(l2:ms.length<16)
  (h:∀h' d zs,Heap.SameBut c s.heap h'->SSet P w h' c zs->zs.Nodup->zs.length<=32->(∀y,y∈zs↔(y∈ms/\y∉ks)\/(y∉ms/\y∈ks))->Q () {s with heap:=h',drawn:=d}):
  wpAny (model P w) A (Builtin.Frozenset.symmetricDifferenceUpdate i c (.ref a)) Q E s:=by
 obtain⟨o,es,ep,t,l0,ho,hex,hd,hel,hst,hp,hb,hf,hl,hpl⟩:=id S
 unfold Builtin.Frozenset.symmetricDifferenceUpdate
 rw[X3m (by simpa using hac)]
 refine X3j (wpAny_typeOf (T := "set") S.typeIs ?_)
 rw[X3m (by decide)]
 refine X3j (Xe7 S.typeIs ?_)
 rw[X3n rfl]
 refine X3j (X3k ?_)
 refine X3j (X3k ?_)
 refine X3j (wpAny_setEpoch_of ho hd hf ?_)
 refine wpAny_holding (X3j (wp_unseen S F hac λwl h1 d W sb1 S1=>?_))
 obtain⟨hel1,zs,st1,q1⟩:=W
 rw[<-X2j]
 have ho1:h1.get? a=some o:=(sb1.2 a hac).trans ho
 have hwl:wl.toList.length=ks.length:=by
  have:=st1.length
  rw[Xzl] at this
  rw[this,q1.length_eq]
 have ndz:zs.Nodup:=q1.nodup_iff.mpr hk
 obtain⟨x1,x2,x3⟩:=xorF zs ms hm ndz
 refine X3j (Xmq (id:=i) (c:=c) (a:=a) (s:={s with heap:=h1,drawn:=d}) (λx u=>rfl) hd hf hac wl.toList zs ms _ ho1 hel1 st1 S1 hm (by rw[hwl];unfold scanBound;omega) λh2 sb2 S2=>X3k ?_)
 refine h h2 d _ (sb1.trans sb2) S2 x1 ?_ λy=>?_
 ·have:=q1.length_eq
  omega
 ·rw[x3,q1.mem_iff]
theorem Xsk{Q:Value->Shared->Prop}(S:SSet P w s.heap a ks)(F:SSet P w s.heap b ls)(hk:ks.Nodup)(hl:ls.Nodup)(l1:ks.length<16)(l2:ls.length<16)
  (h:∀h' d zs,(∀e o,s.heap.get? e=some o->h'.get? e=some o)->SSet P w h' s.heap.objs.size zs->zs.Nodup->zs.length<=32->(∀y,y∈zs↔(y∈ls/\y∉ks)\/(y∉ls/\y∈ks))->Q (.ref s.heap.objs.size) {s with heap:=h',drawn:=d}):
  wpAny (model P w) A (binaryOp .BitXor (.ref a) (.ref b)) Q E s:=by
 have ha:=S.typeIs
 have hb:=F.typeIs
 have la:a<s.heap.objs.size:=by obtain⟨o,_,_,_,_,g,_⟩:=S;exact X3s g
 have lb:b<s.heap.objs.size:=by obtain⟨o,_,_,_,_,g,_⟩:=F;exact X3s g
 have eX:entryFor table "set.__xor__" = some Builtin.«frozenset.__xor__»:=entryFor_alias (id' := "frozenset.__xor__") (by kernel_rfl) rfl (by decide +kernel) (by kernel_rfl)
 refine wpAny_binaryOp_same (T := "set") (id := "set.__xor__") ha hb PySem.F.fills_set_xor PySem.F.slot_set_xor (wpAny_call_entry PySem.F.slot_set_xor ha eX ?_ (PySem.F.args_set_xor_2 _ _))
 rw[Xx3]
 unfold Builtin.Frozenset.slot1 slotArgs
 simp only[X2v,X2h,X0g, ↓reduceIte,bind_assoc,X1d,Xz6,bne_self_eq_false,pure_bind]
 refine X3j ?_
 show wpAny _ _ (Builtin.Frozenset.isAnySet (.ref a) >>= λb1=>_) _ _ s
 refine X3j (Xe7 ha ?_)
 show wpAny _ _ (Builtin.Frozenset.isAnySet (.ref b)) _ _ s
 refine Xe7 hb ?_
 simp only[X2h,X0g, ↓reduceIte]
 refine X3j ?_
 show wpAny _ _ (pure a) _ _ s
 refine X3k ?_
 refine X3j ?_
 unfold Xx2
 refine X3j (Xvi ha ?_)
 refine X3j ?_
 unfold Builtin.Frozenset.newFrom newSet setsByText
 refine X3j (X3j (X3j (wpAny_askSetting (X3k ?_))))
 dsimp only
 simp only[newObj]
 refine X3j (wpAny_alloc (X3k ?_))
 have keep:∀e o,s.heap.get? e=some o->(s.heap.push {cls:=.type "set",dict:=none,data:=.set #[] 0 (.fresh 0 0 (!Xbr w))}).get? e=some o:=λe o q=>X3t _ q
 refine X3j ?_
 show wpAny _ _ (pure s.heap.objs.size) _ _ _
 refine X3k ?_
 refine X3j (wpAny_holding ?_)
 unfold Builtin.Frozenset.updateFrom
 have F1:SSet P w (s.heap.push {cls:=.type "set",dict:=none,data:=.set #[] 0 (.fresh 0 0 (!Xbr w))}) b ls:=F.stay λo q=>keep b o q
 refine X3j (Xe7 (s:={s with heap:=s.heap.push {cls:=.type "set",dict:=none,data:=.set #[] 0 (.fresh 0 0 (!Xbr w))} }) F1.typeIs ?_)
 rw[X3n rfl]
 unfold Builtin.Frozenset.addrOf
 refine X3j (X3k ?_)
 refine Xsi (s:={s with heap:=s.heap.push {cls:=.type "set",dict:=none,data:=.set #[] 0 (.fresh 0 0 (!Xbr w))} }) (c:=s.heap.objs.size) (ep:=0) (Heap.get?_push_size _ rfl) ⟨rfl,rfl,rfl⟩ rfl F1 l2 (X3g lb) λh1 sb1 S1=>?_
 refine X3k ?_
 have k1:∀e o,s.heap.get? e=some o->h1.get? e=some o:=λe o q=>(sb1.2 e (Xzv (X3s q))).trans (keep e o q)
 refine X3j (X3k ?_)
 refine X3j (wpAny_holding (Xqc (s:={s with heap:=h1}) (S.stay λo q=>k1 a o q) S1 (Xzv la) hk hl l1 l2 λh2 d zs sb2 S2 n2 z2 m2=>?_))
 refine X3k (X3k ⟨_,rfl,by simp,?_⟩)
 exact h h2 d zs (λe o q=>(sb2.2 e (Xzv (X3s q))).trans (k1 e o q)) S2 n2 z2 m2
end
section
variable {X:Cx}
theorem Xvl:OpR X (binaryOp .BitXor) (λx y H Q=>∃a b ks ls,x = .ref a/\y = .ref b/\H a=some (SetO X.prog X.w a ks)/\H b=some (SetO X.prog X.w b ls)/\ks.Nodup/\ls.Nodup/\ks.length<16/\ls.length<16 /\
  ∀c zs,H c=none->zs.Nodup->zs.length<=32->(∀y,y∈zs↔(y∈ls/\y∉ks)\/(y∉ls/\y∈ks))->Q (.ref c) (upd H c (SetO X.prog X.w c zs))):=by
 intro pins s σ H x y v u Q I rx ry h
 obtain⟨a,b,ks,ls,rfl,rfl,ha,hb,nk,nl,l1,l2,q⟩:=h
 cases rx
 cases ry
 obtain⟨S,_⟩:=(show Xbh X.prog X.w H s.heap a (.ext λh=>SSet X.prog X.w h a ks) from I.hok a _ ha)
 obtain⟨F,_⟩:=(show Xbh X.prog X.w H s.heap b (.ext λh=>SSet X.prog X.w h b ls) from I.hok b _ hb)
 refine Xsk S F nk nl l1 l2 λh' d zs k S' n' z' m'=>?_
 refine⟨.ref s.heap.objs.size,_,I.laidM (s':={s with heap:=h',drawn:=d}) k rfl rfl (Xzn _) ?_,rfl,q _ zs (I.hok.fresh (Xzn _)) n' z' m'⟩
 exact⟨S',by obtain⟨o,_,_,_,_,g,_⟩:=S';exact⟨o,g⟩,λh1 h2 S1 kk=>S1.stay kk⟩
end
end L2
set_option maxHeartbeats 4000000
namespace SH
open PySem PySem.Spec PyProof.Rows L2
def xorL (a b:List Str):List Str:=srt ((a.filter λx => !decide (x∈b))++(b.filter λx => !decide (x∈a)))
theorem Xqd{a b:List Str}{x:Str}:x∈xorL a b↔(x∈a/\x∉b)\/(x∈b/\x∉a):=by
 unfold xorL
 rw[Xds,Xzw,Xzm,Xzm]
 simp
theorem Xty{a b:List Str}(ha:a.Nodup)(hb:b.Nodup):((a.filter λx => !decide (x∈b))++(b.filter λx => !decide (x∈a))).Nodup:=by
 rw[X02]
 refine⟨ha.filter _,hb.filter _,λx hx y hy e=>?_⟩
 subst e
 have h1:=(Xzm.mp hx).1
 have h2:=(Xzm.mp hy).2
 simp[h1] at h2
theorem Xtz{a b:List Str}(ha:a.Nodup)(hb:b.Nodup):(xorL a b).Pairwise ltS:=by
 have nd2:(xorL a b).Nodup:=(Xbg _).nodup_iff.mpr (Xty ha hb)
 exact(List.pairwise_and_iff.mpr ⟨Xd9 _,nd2⟩).imp λ{x y} (h:leS x y/\x≠y)=>ltS_of h.1 h.2
theorem xor_srt{a b zs:List Str}(ha:a.Nodup)(hb:b.Nodup)(hz:zs.Nodup)(h:∀y,y∈zs↔(y∈b/\y∉a)\/(y∉b/\y∈a)):srt zs=xorL a b:=by
 refine Xjt (Xee hz (Xty ha hb) λy=>?_)
 rw[h,Xzw,Xzm,Xzm]
 simp
 by_cases h1:y∈a<;>by_cases h2:y∈b<;>simp[h1,h2]
def spParting:Sp:=λvs H Q _=>∃(p q:Addr) (a b:List Str),vs=[.ref p,.ref q]/\H p=some (.tup (a.map V.str))/\H q=some (.tup (b.map V.str))/\a.Nodup/\b.Nodup/\a.length<16/\b.length<16 /\
 ∀l H',H l=none->H' l=some (.lst ((xorL a b).map V.str))->Same H H'->Q (.ref l) H'
structure Two (H:Hp) (r p q:Addr) (row a b:List Str):Prop where
 hr:H r=some (.lst (row.map V.str))
 r2:Row2 row
 hd:(dit row).length<=14
 hp:H p=some (.tup (a.map V.str))
 hq:H q=some (.tup (b.map V.str))
 oa:∀y∈a,okN y
 ob:∀y∈b,okN y
 la:a.length<=24
 lb:b.length<=24
theorem Xqe{row a:List Str}(h:Xah row a=true):a.Nodup:=Xb8 (Xa2 h).2
def ltPl (a b:List Str):Bool:=ltNL a.length a b.length b
theorem Xnu{Ts:List (List Str)}{p:Array Nat}(g:Gd Ts.length p)(so:SoTo (ltP' Ts) p Ts.length):
  (p.toList.map λi=>Ts.getD i []).Perm Ts/\(p.toList.map λi=>Ts.getD i []).Pairwise λa b=>ltPl a b=true:=by
 constructor
 ·have e:((List.range Ts.length).map λi=>Ts.getD i [])=Ts:=by
   refine X1y (by simp) λi h1 h2=>?_
   simp[X1g,List.getElem_range,List.getD,h2]
  have q:p.toList.Perm (List.range Ts.length):=by
   have:=g.toList
   simpa using this
  have:=q.map λi=>Ts.getD i []
  rw[e] at this
  exact this
 ·rw[List.pairwise_iff_getElem]
  intro i j hi hj hij
  have sz:=g.size
  rw[Xzl,Xzt,sz] at hi hj
  have:=so i j hij hj
  rw[X1g,X1g]
  have e1:p.getD i 0=p.toList[i]'(by rw[Xzt,sz];exact hi):=by simp[Array.getD,sz,hi]
  have e2:p.getD j 0=p.toList[j]'(by rw[Xzt,sz];exact hj):=by simp[Array.getD,sz,hj]
  rw[e1,e2] at this
  exact this
theorem Xe8{α : Type}(f:Nat -> α)(d : α)(l:List Nat){i:Nat}(hi:i<l.length):(l.map f).getD i d=f l[i]:=by simp[List.getD,hi]
theorem Xvm{H:Hp}{ps:List Addr}{Ts:List (List Str)}{p:Array Nat}(h:Tups H ps Ts)(g:Gd ps.length p):Tups H (p.toList.map λi=>ps.getD i 0) (p.toList.map λi=>Ts.getD i []):=by
 refine⟨by simp,λi hi=>?_⟩
 rw[Xzl] at hi
 have e1:(p.toList.map λi=>ps.getD i 0).getD i 0=ps.getD p.toList[i] 0:=Xe8 _ _ _ hi
 have e2:(p.toList.map λi=>Ts.getD i []).getD i []=Ts.getD p.toList[i] []:=Xe8 _ _ _ hi
 rw[e1,e2]
 refine h.2 _ ?_
 have q:p.toList.Perm (List.range ps.length):=by
  have:=g.toList
  simpa using this
 simpa using q.mem_iff.mp (X0b hi)
abbrev qIn:Str:=(Str.ofString "in_order" ++ Str.ofString ".<locals>.")++Str.ofString "<lambda>"
def spInOrder (T:Addr) (pos:Pos):Sp:=λvs H Q _=>∃(l:Addr) (ps:List Addr) (Ts:List (List Str)),vs=[.ref l]/\H l=some (.lst (ps.map V.ref))/\Tups H ps Ts/\Ts.Nodup/\ps.length<64/\Xa5 T pos qIn H /\
 ∀(D:Addr) (ps':List Addr) (Ts':List (List Str)) (H':Hp),H D=none->H' D=some (.lst (ps'.map V.ref))->Tups H' ps' Ts'->Ts'.Perm Ts->(Ts'.Pairwise λa b=>ltPl a b=true)->Xa5 T pos qIn H'->But T H H'->Q (.ref D) H'
theorem Xa5.same{T:Addr}{pos:Pos}{q:Str}{H H':Hp}(h:Xa5 T pos q H)(s:Same H H'):Xa5 T pos q H':=by
 rcases h with e | ⟨c,e,ec⟩
 ·exact .inl (s _ _ e)
 ·exact .inr ⟨c,s _ _ e,s _ _ ec⟩
theorem Xa5.but{T dr:Addr}{pos:Pos}{q:Str}{H H':Hp}{o':List V}(h:Xa5 T pos q H)(hd:H dr=some (.lst o'))(b:But dr H H'):Xa5 T pos q H':=by
 rcases h with e | ⟨c,e,ec⟩
 ·exact .inl (b _ _ e λz=>by rw[z,hd] at e;cases e)
 ·exact .inr ⟨c,b _ _ e (λz=>by rw[z,hd] at e;cases e),b _ _ ec λz=>by rw[z,hd] at ec;cases ec⟩
def lamPos (s:Stmt):Pos:=match Xb9 s with
 | [.Return (some (.Call _ _ [⟨_,.Lambda _ _ _ p,_⟩] _)) _]=>p
 | _=>⟨0,0,0,0⟩
theorem Xqf{a b c e:Int}(h1:a<b)(h2:c<e)(n1:a≠c)(n2:a≠e)(n3:b≠c)(n4:b≠e)(h:lieT a b c e = "apart"):e<a\/b<c:=by
 unfold lieT at h
 rw[X3m (by omega)] at h
 split at h
 ·exact absurd h (by decide)
 ·split at h
  ·exact absurd h (by decide)
  ·split at h
   ·exact absurd h (by decide)
   ·rename_i q1 q2 q3
    rw[nIn2] at q1 q2 q3
    by_cases p1:c<a/\a<e
    ·by_cases p2:c<b/\b<e
     ·rw[X3n p1,X3n p2] at q2;omega
     ·rw[X3n p1,X3m p2] at q1;omega
    ·by_cases p2:c<b/\b<e
     ·rw[X3m p1,X3n p2] at q1;omega
     ·by_cases p3:a<c/\c<b
      ·by_cases p4:a<e/\e<b
       ·rw[X3n p3,X3n p4] at q3;omega
       ·omega
      ·omega
theorem Xmr{a b c e:Int}(h1:a<b)(h:lieT a b c e = "cross"):a<e/\c<b:=by
 unfold lieT at h
 split at h
 ·exact absurd h (by decide)
 ·split at h
  ·rename_i q
   rw[nIn2] at q
   by_cases p1:c<a/\a<e
   ·omega
   ·by_cases p2:c<b/\b<e
    ·omega
    ·rw[X3m p1,X3m p2] at q;omega
  ·split at h
   ·exact absurd h (by decide)
   ·split at h
    ·exact absurd h (by decide)
    ·exact absurd h (by decide)
theorem Xqg{a b c e:Int}(h1:a<b)(h2:c<a)(h3:b<e):lieT a b c e = "within" := by
 unfold lieT
 have q:nIn c e [a,b]=2:=by rw[nIn2,X3n ⟨h2,by omega⟩,X3n ⟨by omega,h3⟩]
 rw[X3m (by omega),q,X3m (by decide),X3n rfl]
section
variable {row:List Str}
theorem Xx4{a y:Str}(h:upB row a y=true):(pl row y).1<=(pl row a).1/\(pl row a).2<=(pl row y).2:=by
 unfold upB at h
 rw[X1l] at h
 rcases h with h | h
 ·rw[X3q h];exact⟨Int.le_refl _,Int.le_refl _⟩
 ·obtain⟨h1,h2,h3,h4⟩:=Xe6 (X3q h)
  exact⟨by omega,by omega⟩
theorem Xki{x y z:Str}(hx:row.count x=2)(h:lieR row x y = "within")(g:lieR row y z = "within"):lieR row x z = "within" := by
 have l:=Xd5 hx
 obtain⟨h1,h2,h3,h4⟩:=Xe6 h
 obtain⟨g1,g2,g3,g4⟩:=Xe6 g
 exact Xqg l (by omega) (by omega)
theorem Xhh{x:Str}:lieR row x x ≠ "within" := by rw[Xe3];decide
structure Core (row:List Str) (cs:List Str) (p:Str->Bool):Prop where
 inr:∀c∈cs,c∈row
 is:∀y,p y=true ↔ ∃c∈cs,upB row c y=true
 ov:∀c∈cs,∀d∈cs,(pl row c).1<(pl row d).2
 an:∀c∈cs,∀d∈cs,lieR row c d ≠ "within"
variable {cs cs':List Str}{p p':Str->Bool}
theorem Core.plot(h2:∀y∈row,row.count y=2)(C:Core row cs p):Xah row ((dit row).filter p)=true:=by
 refine Xcx.mpr ⟨(Xdt row).filter p,λx hx=>Xaj.mp (Xzm.mp hx).1,λx hx y hy e=>?_,λx hx y hy e=>?_⟩
 ·obtain⟨c,hc,hu⟩:=(C.is x).mp (Xzm.mp hx).2
  refine Xzm.mpr ⟨Xaj.mpr hy,(C.is y).mpr ⟨c,hc,?_⟩⟩
  unfold upB at hu ⊢
  rw[X1l] at hu ⊢
  rcases hu with hu | hu
  ·rw[X3q hu] at e
   exact .inr (X3o e)
  ·exact .inr (X3o (Xki (h2 c (C.inr c hc)) (X3q hu) e))
 ·have mx:=Xzm.mp hx
  have my:=Xzm.mp hy
  obtain⟨c,hc,hu⟩:=(C.is x).mp mx.2
  obtain⟨d,hd,hv⟩:=(C.is y).mp my.2
  have hx2:=h2 x (Xaj.mp mx.1)
  have hy2:=h2 y (Xaj.mp my.1)
  have ne:x≠y:=λz=>by rw[z,Xe3] at e;exact absurd e (by decide)
  obtain⟨n1,n2,n3,n4⟩:=Xk5 hx2 hy2 ne
  have u1:=Xx4 hu
  have u2:=Xx4 hv
  have o1:=C.ov c hc d hd
  have o2:=C.ov d hd c hc
  rcases Xqf (Xd5 hx2) (Xd5 hy2) n1 n2 n3 n4 e with z | z
  ·omega
  ·omega
theorem Core.min(h2:∀y∈row,row.count y=2)(C:Core row cs p)(x:Str):x∈cs↔x∈(dit row).filter p/\∀y∈(dit row).filter p,lieR row y x ≠ "within" := by
 have self:∀c∈cs,c∈(dit row).filter p:=λc hc=>Xzm.mpr ⟨Xaj.mpr (C.inr c hc),(C.is c).mpr ⟨c,hc,by unfold upB;simp⟩⟩
 constructor
 ·intro hx
  refine⟨self x hx,λy hy e=>?_⟩
  obtain⟨c,hc,hu⟩:=(C.is y).mp (Xzm.mp hy).2
  unfold upB at hu
  rw[X1l] at hu
  rcases hu with hu | hu
  ·rw[X3q hu] at e
   exact C.an c hc x hx e
  ·exact C.an c hc x hx (Xki (h2 c (C.inr c hc)) (X3q hu) e)
 ·rintro ⟨hx,hm⟩
  obtain⟨c,hc,hu⟩:=(C.is x).mp (Xzm.mp hx).2
  unfold upB at hu
  rw[X1l] at hu
  rcases hu with hu | hu
  ·rw[X3q hu];exact hc
  ·exact absurd (X3q hu) (hm c (self c hc))
theorem Core.eq(h2:∀y∈row,row.count y=2)(C:Core row cs p)(C':Core row cs' p')(e:(dit row).filter p=(dit row).filter p'):∀x,x∈cs↔x∈cs':=λx=>by
 rw[C.min h2,C'.min h2,e]
theorem core1(h2:∀y∈row,row.count y=2){a:Str}(ha:a∈row):Core row [a] (upB row a) where
 inr c hc:=by rw[Xzs.mp hc];exact ha
 is y:=by simp
 ov c hc d hd:=by rw[Xzs.mp hc,Xzs.mp hd];exact Xd5 (h2 a ha)
 an c hc d hd:=by rw[Xzs.mp hc,Xzs.mp hd];exact Xhh
theorem Xkj{q:Str×Str}(h:q∈crs row):q.1∈row/\q.2∈row/\ltS q.1 q.2/\lieR row q.1 q.2 = "cross" := by
 unfold crs at h
 obtain⟨x,hx,h⟩:=List.mem_flatMap.mp h
 obtain⟨y,hy,rfl⟩:=Xz0.mp h
 obtain⟨h1,h3⟩:=Xzm.mp hy
 rw[Xz2] at h3
 exact⟨Xaj.mp hx,Xaj.mp h1,X3q h3.1,X3q h3.2⟩
theorem core2(h2:∀y∈row,row.count y=2){q:Str×Str}(h:q∈crs row):Core row [q.1,q.2] λy=>upB row q.1 y||upB row q.2 y:=by
 obtain⟨ha,hb,hl,hx⟩:=Xkj h
 have hy:lieR row q.2 q.1 = "cross" := Xbj (h2 _ ha) (h2 _ hb) hx
 have la:=Xd5 (h2 _ ha)
 have lb:=Xd5 (h2 _ hb)
 have c1:=Xmr la hx
 have c2:=Xmr lb hy
 refine⟨λc hc=>?_,λy=>by simp,λc hc d hd=>?_,λc hc d hd=>?_⟩
 ·simp at hc
  rcases hc with rfl | rfl
  ·exact ha
  ·exact hb
 ·simp at hc hd
  rcases hc with rfl | rfl<;>rcases hd with rfl | rfl
  ·exact la
  ·exact c1.1
  ·exact c2.1
  ·exact lb
 ·simp at hc hd
  rcases hc with rfl | rfl<;>rcases hd with rfl | rfl
  ·exact Xhh
  ·rw[hx];decide
  ·rw[hy];decide
  ·exact Xhh
theorem Xnv(h2:∀y∈row,row.count y=2):∀S∈cands row,Xah row S=true:=λS hS=>by
 unfold cands at hS
 rcases Xzw.mp hS with h | h
 ·obtain⟨a,ha,rfl⟩:=Xz0.mp h
  exact(core1 h2 (Xaj.mp ha)).plot h2
 ·obtain⟨q,hq,rfl⟩:=Xz0.mp h
  exact(core2 h2 hq).plot h2
theorem Xx5(row:List Str):(crs row).Nodup:=by
 unfold crs
 have nd:=Xb8 (Xdt row)
 rw[List.Nodup,List.pairwise_flatMap]
 refine⟨λx hx=>?_,nd.imp λ{x y} ne a ha b hb e=>?_⟩
 ·rw[X18]
  exact(nd.filter _).imp λne e=>ne (Prod.mk.inj e).2
 ·obtain⟨u,_,rfl⟩:=Xz0.mp ha
  obtain⟨v,_,rfl⟩:=Xz0.mp hb
  exact ne (Prod.mk.inj e).1
theorem Xsl(h2:∀y∈row,row.count y=2):(cands row).Nodup:=by
 have nd:=Xb8 (Xdt row)
 unfold cands
 rw[List.Nodup,List.pairwise_append]
 refine⟨?_,?_,?_⟩
 ·rw[X18]
  refine nd.imp_of_mem λ{a b} ha hb ne e=>ne ?_
  have:=(Core.eq h2 (core1 h2 (Xaj.mp ha)) (core1 h2 (Xaj.mp hb)) e a).mp (X1a _)
  exact Xzs.mp this
 ·rw[X18]
  refine(Xx5 row).imp_of_mem λ{q r} hq hr ne e=>ne ?_
  have E:=Core.eq h2 (core2 h2 hq) (core2 h2 hr) e
  obtain⟨_,_,l1,_⟩:=Xkj hq
  obtain⟨_,_,l2,_⟩:=Xkj hr
  have e1:=(E q.1).mp (by simp)
  have e2:=(E q.2).mp (by simp)
  have e3:=(E r.1).mpr (by simp)
  simp at e1 e2 e3
  obtain⟨a,b⟩:=q
  obtain⟨c,d⟩:=r
  simp only at *
  rcases e1 with e1 | e1
  ·rcases e2 with e2 | e2
   ·exact absurd (e1.trans e2.symm) (Xjp l1)
   ·rw[e1,e2]
  ·rcases e2 with e2 | e2
   ·rw[e1,e2] at l1
    exact absurd (Xdr l1 l2) (Xc3 _)
   ·exact absurd (e1.trans e2.symm) (Xjp l1)
 ·intro A hA B hB e
  obtain⟨a,ha,rfl⟩:=Xz0.mp hA
  obtain⟨q,hq,rfl⟩:=Xz0.mp hB
  have E:=Core.eq h2 (core1 h2 (Xaj.mp ha)) (core2 h2 hq) e
  obtain⟨_,_,l1,_⟩:=Xkj hq
  have e1:=Xzs.mp ((E q.1).mpr (by simp))
  have e2:=Xzs.mp ((E q.2).mpr (by simp))
  exact Xjp l1 (e1.trans e2.symm)
theorem Xqh(h2:∀y∈row,row.count y=2)(h3:Xbk row)(S:List Str):S∈[]::cands row↔Xah row S=true:=by
 constructor
 ·intro h
  rcases Xzy.mp h with e | e
  ·rw[e];exact Xge row
  ·exact Xnv h2 S e
 ·intro h
  by_cases e:S=[]
  ·rw[e];exact Xzr
  ·exact Xzq _ (Xj9 h2 h3 e h)
theorem Xsm(h2:∀y∈row,row.count y=2):[]∉cands row:=λh=>by
 unfold cands at h
 rcases Xzw.mp h with h | h
 ·obtain⟨a,ha,e⟩:=Xz0.mp h
  have:=((core1 h2 (Xaj.mp ha)).min h2 a).mp (X1a _)
  rw[e] at this
  cases this.1
 ·obtain⟨q,hq,e⟩:=Xz0.mp h
  have:=((core2 h2 hq).min h2 q.1).mp (by simp)
  rw[e] at this
  cases this.1
theorem Xx6(h2:∀y∈row,row.count y=2):([]::cands row).Nodup:=X01.mpr ⟨Xsm h2,Xsl h2⟩
end
end SH
namespace L2
open PySem PySem.Spec PyProof.Rows
theorem Xms{X:Cx}{N:List Str}{cap:List (Option Nat)}{scope:Scope}{tg iter elt:Expr}{ifs:List Expr}{g:TG}{tt:TT}{te:TE}{wi:TI}{pos:Pos}{i:Nat}{y:Str}{py spos:Pos}(C:CompScope X N cap scope)(hcalm:X.calm=true)(hN:X.N.Nodup)(hiN:X.N[i]? = some y)(hy:X.env.scope.names.lookup y=some .local)(hi:PI X tg iter wi)
  (hg:∀s0 H0 ex,PG (X.comp N scope s0 H0 ex) tg g) (ht:∀s0 H0 ex,PIfs (X.comp N scope s0 H0 ex) ifs tt) (he:∀s0 H0 ex,PE (X.comp N scope s0 H0 ex) elt te)
  (hsw:swapsWith (.ListComp elt [⟨tg,iter,ifs,0⟩] scope pos) (some (.Name y py)) spos.line X.env=pure true:=by rfl)
  (hs:∀x,foldedSetIterable iter X.env x=pure x:=by intro _;rfl):PS X (.Assign [.Name y py] (.ListComp elt [⟨tg,iter,ifs,0⟩] scope pos) spos) (Xpa i cap (.lst []) wi g tt (Xrw te)):=
 Xmf (act := fun D env => do let _ <- call (.builtin "list.append") [.ref D, <- eval elt env]) Xf4 (fun use => rfl) rfl C hcalm Xg2 hN hiN hy hi (fun it D env => rfl) hg ht (fun D s0 H0 ex => Xic (he s0 H0 ex)) hsw hs
end L2
namespace SH
open PySem PySem.Spec PyProof.Rows L2
def Xgf (T:Addr) (pos:Pos):Sp:=λvs H Q _=>∃(r:Addr) (row:List Str),vs=[.ref r]/\H r=some (.lst (row.map V.str))/\Row2 row/\Xbk row/\(dit row).length<=13/\Xa5 T pos qIn H /\
 ∀(D:Addr) (ps:List Addr) (Ts:List (List Str)) (H':Hp),H D=none->H' D=some (.lst (ps.map V.ref))->Tups H' ps Ts->(∀S,S∈Ts↔Xah row S=true)->(Ts.Pairwise λa b=>ltPl a b=true)->ps.length<=64->Xa5 T pos qIn H'->But T H H'->Q (.ref D) H'
abbrev NPp:List Str:=["row", "span", "off", "single", "double"]
abbrev NPo:List Str:=["name", "span"]
abbrev NPi:List Str:=["other", "name", "span"]
abbrev NPs:List Str:=["name", "off"]
abbrev NPd:List Str:=["one", "other", "off"]
structure Offs (H:Hp) (kvs:List (Key×V)) (row:List Str) (ns:List Str):Prop where
 keys:kvs.map (·.1)=ns.map (λx=>(Sum.inr x:Key))
 val:∀x∈ns,∃l,valV kvs (Sum.inr x:Key)=some (.ref l)/\H l=some (.lst (((dit row).filter (upB row x)).map V.str))
theorem Offs.mono{H H':Hp}{kvs:List (Key×V)}{row ns:List Str}(s:Offs H kvs row ns)(h:Same H H'):Offs H' kvs row ns:=⟨s.keys,λx hx=>let ⟨l,h1,h2⟩:=s.val x hx; ⟨l,h1,h _ _ h2⟩⟩
theorem Offs.snoc{H H':Hp}{kvs:List (Key×V)}{row ns:List Str}{x:Str}{l:Addr}(s:Offs H kvs row ns)(nx:x∉ns)(h:H' l=some (.lst (((dit row).filter (upB row x)).map V.str)))(k:∀b xs,H b=some (.lst xs)->H' b=some (.lst xs)):
  Offs H' (putK kvs (Sum.inr x) (.ref l)) row (ns++[x]):=by
 have hn:valV kvs (Sum.inr x:Key)=none:=by
  cases e:valV kvs (Sum.inr x:Key) with
  | none=>rfl
  | some v=>
   exfalso
   have:=Xgr e
   rw[s.keys] at this
   obtain⟨y,hy,e2⟩:=Xz0.mp this
   rw[X1j e2] at hy
   exact nx hy
 refine⟨by rw[Xeq _ hn,Xzu,Xzu,s.keys];rfl,λy hy=>?_⟩
 rw[Xep]
 by_cases e:y=x
 ·subst e
  exact⟨l,X3n rfl,h⟩
 ·have hy':y∈ns:=by
   rcases Xzw.mp hy with z | z
   ·exact z
   ·exact absurd (Xzs.mp z) e
  obtain⟨l0,h1,h2⟩:=s.val y hy'
  exact⟨l0,by rw[X3m (λz=>e (X1j z))];exact h1,k _ _ h2⟩
theorem Offs.get{H:Hp}{kvs:List (Key×V)}{row ns:List Str}{d:Addr}{x:Str}(s:Offs H kvs row ns)(hd:Rd H d (.dK kvs))(hx:x∈ns):∃l,DGet H d (.str x) (some (.ref l))/\H l=some (.lst (((dit row).filter (upB row x)).map V.str)):=by
 obtain⟨l,h1,h2⟩:=s.val x hx
 exact⟨l,DGet.rd hd h1,h2⟩
theorem Offs.at{H:Hp}{kvs:List (Key×V)}{row ns:List Str}(s:Offs H kvs row ns)(i:Nat)(hi:i<ns.length):(kvs.map λp=>kV p.1).getD i .non = .str (ns.getD i Str.empty):=by
 have e:(kvs.map λp=>kV p.1)=ns.map V.str:=by
  have:(kvs.map λp=>kV p.1)=(kvs.map (·.1)).map kV:=by rw[X0h];rfl
  rw[this,s.keys,X0h]
  rfl
 rw[e]
 exact Xa0 V.str Str.empty ns hi
theorem Offs.len{H:Hp}{kvs:List (Key×V)}{row ns:List Str}(s:Offs H kvs row ns):kvs.length=ns.length:=by
 have:=congrArg List.length s.keys
 simpa using this
theorem Xvn{row:List Str}{x y:Str}(hx:row.count x=2)(hy:row.count y=2):decide (lieR row x y∈[Str.ofString "same",Str.ofString "within"])=upB row x y:=by
 unfold upB
 by_cases e:y=x
 ·subst e
  rw[Xe3]
  simp
 ·have n:lieR row x y ≠ "same" := λz=>e (Xps hx hy z).symm
  simp[e,n]
end SH
namespace L2
open PySem PySem.Spec PyProof.Rows PySem.Calls
section
variable {P:Program}{w:World}{A:Around}{E:Value->Shared->Prop}{s:Shared}
theorem Xqi{Q:Value->Shared->Prop}(h:Q (.ref s.heap.objs.size) {s with heap:=s.heap.push (Xhm w)}):wpAny (model P w) A (newSet (.type "set")) Q E s:=by
 unfold newSet setsByText
 refine X3j (X3j (wpAny_askSetting (X3k ?_)))
 dsimp only
 simp only[newObj]
 exact X3j (wpAny_alloc (X3k h))
theorem SSet.tySet{a:Addr}{ks:List Str}(S:SSet P w s.heap a ks):s.TypeIs (.ref a) "set" := by
 obtain⟨o,es,ep,t,ls,ho,hex,_⟩:=S
 exact⟨o,ho,hex.1⟩
theorem call_add{a:Addr}{ks:List Str}{x:Str}{tk:Tok}{Q:Value->Shared->Prop}(S:SSet P w s.heap a ks)(hr:ks.length+1<scanBound)
  (h:∀h' tk',Heap.SameBut a s.heap h'->SSet P w h' a (dd1 ks x)->Q .none {s with heap:=h',toks:=tk'}):wpAny (model P w) A (call (.builtin "set.add") [.ref a,.str x tk]) Q E s:=by
 refine wpAny_call_entry F.slot_set_add S.tySet F.entry_set_add ?_ (F.args_set_add_2 _ _)
 unfold Builtin.«set.add» Builtin.Frozenset.oneOther
 simp only[X2v,bind_assoc]
 unfold Builtin.Frozenset.addrOf setAdd
 refine X3j (X3k ?_)
 try dsimp only
 refine X3j (X3k ?_)
 try dsimp only
 refine X3j ?_
 refine wpAny_holding (X3j ((PySem.strKind P w).pyHash (k:=x) (strKind_is P w _ tk) ?_))
 refine sset_add (s:={s with toks:=s.toks+1}) S hr λb h' sb S2=>?_
 show wpAny _ _ (ret Value.none) _ _ _
 exact X3k ⟨_,rfl,h h' _ sb S2⟩
end
section
variable {X:Cx}{N:List Str}{cap:List (Option Nat)}{scope:Scope}{tg iter elt:Expr}{ifs:List Expr}{g:TG}{tt:TT}{te:TE}{wi:TI}{pos:Pos}
theorem Xx7{elt:Expr}{gs:List Comprehension}{sc:Scope}{p:Pos}:Cm (.SetComp elt gs sc p):=⟨λ_ _ _ _ _ _=>rfl,λ_ _ _ _ _ _=>rfl,λ_ _ _ _ _=>rfl,λ_ _ _ _ _=>rfl⟩
theorem Xt0{a:Addr}{H:Hp}{h:Heap}{ks:List Str}(S:SSet X.prog X.w h a ks):Xbh X.prog X.w H h a (SetO X.prog X.w a ks):=
 ⟨S,by obtain⟨o,_,_,_,_,g,_⟩:=S;exact⟨o,g⟩,λh1 h2 S1 kk=>S1.stay kk⟩
def mSet (P:Program) (w:World) (te:TE) (D:Addr):TM:=fun σ H Q=>te σ H λy H6=>∃x ks,y = .str x/\H6 D=some (SetO P w D ks)/\ks.length+1<scanBound/\Q σ (upd H6 D (SetO P w D (dd1 ks x)))
theorem Xx8{Y:Cx}{D:Addr}(he:PE Y elt te):PM Y (do let v <-eval elt Y.env;standAt elt.pos;let _ <-call (.builtin "set.add") [.ref D,v]) (mSet Y.prog Y.w te D):=by
 intro pins s σ H Q I h
 refine X3j (thn (he pins s σ H _ I h) λyv s8 ⟨y,H8,I8,r8,x,ks,ey,hD,hlt,q8⟩=>?_)
 subst ey
 obtain⟨tk,rfl⟩:=r8
 obtain⟨S,_,_⟩:=(show Xbh Y.prog Y.w H8 s8.heap D (SetO Y.prog Y.w D ks) from I8.hok D _ hD)
 refine X3j (wpAny_standAt (X3j (call_add S hlt λh' tk' sb S2=>?_)))
 refine X3k ⟨σ,_,Xgp I8 (by rw[hD];exact True.intro) sb ?_ (Xt0 S2),q8⟩
 obtain⟨o,_,_,_,_,g,_⟩:=S2
 exact⟨o,g⟩
theorem Xvo:AccA X (newSet (.type "set")) (Xhm X.w) (λD=>SetO X.prog X.w D []):=
 ⟨λs Q E' h=>Xqi h,λpins σ H s I=>I.laid (a:=s.heap.objs.size) (t':=s.toks) (λ_ _ q=>X3t _ q) (Xzn _) (Xt0 (Xma (Heap.get?_push_size _ rfl)))⟩
theorem Xsn(C:CompScope X N cap scope)(hcalm:X.calm=true)(hi:PI X tg iter wi)
  (hg:∀s0 H0 ex,PG (X.comp N scope s0 H0 ex) tg g) (ht:∀s0 H0 ex,PIfs (X.comp N scope s0 H0 ex) ifs tt) (he:∀s0 H0 ex,PE (X.comp N scope s0 H0 ex) elt te)
  (hs:∀x,foldedSetIterable iter X.env x=pure x:=by intro _;rfl):PE X (.SetComp elt [⟨tg,iter,ifs,0⟩] scope pos) (Xo8 cap (λD=>SetO X.prog X.w D []) wi g tt (mSet X.prog X.w te)):=
 Xme (act := fun D env => do let v <- eval elt env; standAt elt.pos; let _ <- call (.builtin "set.add") [.ref D, v]) Xvo rfl rfl C hcalm Xx7 hi (fun it D env => rfl) hg ht (fun D s0 H0 ex => Xx8 (Y := X.comp N scope s0 H0 ex) (he s0 H0 ex)) hs
end
theorem Xvp{P:Program}{w:World}{cap:List (Option Nat)}{te:TE}{J:It}{σ:St}{H1:Hp}{F:Addr->Hp->Prop}{j:Nat}(n:Nat)(hn:n+1<scanBound)(vs:Nat->V)(ys:Nat->Str)
  (hgo:∀i H2,i<n->Same H1 H2->J.go i H2/\∀x H3,J.yld i H2 x H3->H3=H2/\x=vs i)
  (hst:∀H2,Same H1 H2->J.stop n H2)
  (step:∀i H2 Q,i<n->Same H1 H2->(∀H',Same H2 H'->Q (.str (ys i)) H')->te ((capS cap σ).set j (some (vs i))) H2 Q)
  (hd:∀D H2,H1 D=none->Same H1 H2->H2 D=some (SetO P w D (ddup ((List.range n).map ys)))->F D H2):Xuw cap (λD=>SetO P w D []) (Xbm j) tYes (mSet P w te) J σ H1 F:=by
 intro D hD
 refine⟨wN n λi σ2 H2=>(∀v, σ2.set j v=(capS cap σ).set j v)/\Same H1 H2/\H2 D=some (SetO P w D (ddup ((List.range i).map ys))),⟨n,by simp,X0m _,λ_=>rfl,(Same.refl H1).step hD,Xab⟩,?_⟩
 rintro i m σ1 H2 ⟨rfl,hi,e,s2,hb⟩
 by_cases hlt:i<n
 ·obtain⟨h1,h2⟩:=hgo i H2 hlt s2
  refine .inr ⟨h1,λx H3 y=>?_⟩
  obtain⟨e1,e2⟩:=h2 x H3 y
  subst e1 e2
  dsimp only[Xbm,tYes,mSet]
  rw[X3n rfl,e]
  refine step i _ _ hlt s2 λH4 s4=>?_
  have hl:(ddup ((List.range i).map ys)).length<=i:=by
   have:=Xdz ((List.range i).map ys)
   rw[Xzl,X0j] at this
   exact this
  refine⟨ys i,_,rfl,s4 _ _ hb,by omega,wskip hlt ⟨λv=>by rw[X2s],λb u e'=>?_,?_⟩⟩
  ·rw[Xae (Xag e' hD)]
   exact s4 _ _ (s2 b u e')
  ·rw[Xab,X0u,Xzu,List.map_singleton,Xgx]
 ·have:i=n:=by omega
  subst this
  exact .inl ⟨hst H2 s2,hd D H2 hD s2 hb⟩
end L2
namespace L2
open PySem PySem.Spec PyProof.Rows
theorem Xqj{cap:List (Option Nat)}{tt:TT}{te:TE}{J:It}{σ:St}{H1:Hp}{F:Addr->Hp->Prop}{j:Nat}(n:Nat)(hn:n<sizeLine)(vs:Nat->V)(ok:Nat->Bool)(Us:Nat->List Str)
  (hgo:∀i H2,i<n->Same H1 H2->J.go i H2/\∀x H3,J.yld i H2 x H3->H3=H2/\x=vs i)
  (hst:∀H2,Same H1 H2->J.stop n H2)
  (tst:∀i H2 Q,i<n->Same H1 H2->(∀H',Same H2 H'->Q (ok i) H')->tt ((capS cap σ).set j (some (vs i))) H2 Q)
  (step:∀i H2 Q,i<n->ok i=true->Same H1 H2->(∀t H',H' t=some (.tup ((Us i).map V.str))->Same H2 H'->Q (.ref t) H')->te ((capS cap σ).set j (some (vs i))) H2 Q)
  (hd:∀D ps H2,H1 D=none->Same H1 H2->H2 D=some (.lst (ps.map V.ref))->Tups H2 ps (((List.range n).filter ok).map Us)->F D H2):tBlk cap (Xbm j) tt te J σ H1 F:=by
 refine Xjf n vs (λD i σ2 H2=>(∀v, σ2.set j v=(capS cap σ).set j v)/\Same H1 H2/\∃ps:List Addr,H2 D=some (.lst (ps.map V.ref))/\Tups H2 ps (((List.range i).filter ok).map Us)) ?_ ?_ ?_ ?_ ?_
 ·intro D hD
  exact⟨λ_=>rfl,(Same.refl H1).step hD,[],Xab,Tups.nil _⟩
 ·rintro D i σ2 H2 hD hi ⟨_,s2,_⟩
  exact hgo i H2 hi s2
 ·rintro D σ2 H2 hD ⟨_,s2,_⟩
  exact hst H2 s2
 ·rintro D i σ2 H2 hD hi ⟨e,s2,ps,hb,ht⟩
  show tt (σ2.set j (some (vs i))) H2 _
  rw[e]
  refine tst i H2 _ hi s2 λH3 s3=>?_
  have s13:=s2.trans s3
  have hb3:=s3 _ _ hb
  have ht3:=ht.same s3
  have hss:∀v,((capS cap σ).set j (some (vs i))).set j v=(capS cap σ).set j v:=λv=>by rw[X2s]
  refine ite2b (λhk=>?_) (λhk=>?_)
  ·refine step i H3 _ hi hk s13 λt H4 h4 s4=>?_
   have hb4:=s4 _ _ hb3
   have hl:(ps.map V.ref).length<=i:=by
    have:=ht.1
    rw[Xzl] at this
    rw[Xzl,this]
    exact X0d (X0e ..) (by rw[X0j];omega)
   have keep:∀b w,H4 b=some (.tup w)->upd H4 D (.lst (ps.map V.ref++[.ref t])) b=some (.tup w):=λb w e=>by
    rw[Xae (λz=>by rw[z,hb4] at e;cases e)]
    exact e
   refine wput hi hb4 (by omega) ⟨hss,λb u e'=>?_,ps++[t],by rw[Xab,Xzu];rfl,?_⟩
   ·rw[Xae (Xag e' hD)]
    exact s4 _ _ (s13 b u e')
   ·rw[X0u,Xz5,X2l hk,X20,Xzu]
    exact Tups.app ⟨ht3.1,λj hj=>keep _ _ (s4 _ _ (ht3.2 j hj))⟩ (Tups.cons (keep _ _ h4) (Tups.nil _))
  ·refine wskip hi ⟨hss,s13,ps,hb3,?_⟩
   rw[X0u,Xz5,X2m (by rw[hk];decide),X20,X0t]
   exact ht3
 ·rintro D σ2 H2 hD ⟨_,s2,ps,hb,ht⟩
  exact hd D ps H2 hD s2 hb ht
end L2
set_option maxHeartbeats 8000000
namespace SH
open PySem PySem.Spec PyProof.Rows L2
theorem isin{U:List (List Str)}{S:List Str}(h1:∀W∈U,∀y∈W,okN y)(h2:∀y∈S,okN y):((U.map tupD).any λe=>PyData.eqv e (tupD S))=decide (S∈U):=by
 rw[List.any_map]
 by_cases hS:S∈U
 ·rw[X3o hS,X03]
  exact⟨S,hS,by show PyData.eqv (.tuple _) (.tuple _)=true;rw[Xim h2 h2];exact X3o rfl⟩
 ·rw[X3p hS,List.any_eq_false]
  intro W hW
  show ¬PyData.eqv (.tuple _) (.tuple _)=true
  rw[Xim (h1 W hW) h2]
  simp
  exact λz=>hS (z ▸ hW)
theorem Xh1:∀(U:List (List Str)),PyData.depthAll (U.map tupD)<=1
 | []=>by show 0<=1;decide
 | S::U=>by
  have:=Xh1 U
  show max (PyData.depthAll (S.map PyData.str)+1) (PyData.depthAll (U.map tupD))<=1
  rw[Xca]
  omega
theorem Xd4{U:List (List Str)}(h:∀S∈U,∀y∈S,okN y):Xbx (U.map tupD)=true:=plainAll_map tupD U λS hS=>Xcf (h S hS)
theorem Xav{U:List (List Str)}(h:∀S∈U,∀y∈S,okN y):Xce (.list (U.map tupD))=true:=Xd4 h
theorem Xdh{U W:List (List Str)}(h1:∀S∈U,∀y∈S,okN y)(h2:∀S∈W,∀y∈S,okN y):PyData.eqv (.list (U.map tupD)) (.list (W.map tupD))=decide (U=W):=
 Xpe (λU=>PyData.list (U.map tupD)) (λa b e=>by injection e with e;exact(X26 Xmh).mp e) U W (Xav h1) (Xav h2)
theorem Xbz{H:Hp}{l:Addr}{ps:List Addr}{Ts:List (List Str)}(h:H l=some (.lst (ps.map V.ref)))(t:Tups H ps Ts):DAt H (.list (Ts.map tupD)) (.ref l):=Xdu h (Xke t)
theorem Xcp(U W:List (List Str)):min (PyData.depth (.list (U.map tupD))) (PyData.depth (.list (W.map tupD)))<=3:=by
 show min (PyData.depthAll (U.map tupD)+1) _<=3
 have:=Xh1 U
 omega
end SH
set_option maxHeartbeats 4000000
namespace L2
open PySem PySem.Spec PyProof.Rows
section
variable {X:Cx}{N:List Str}{cap:List (Option Nat)}{scope:Scope}{tg iter elt:Expr}{ifs:List Expr}{g:TG}{tt:TT}{te:TE}{wi:TI}{pos:Pos}
theorem Xkk(P:Program)(w:World)(h1:X.prog=P)(h2:X.w=w)(hc:X.calm=true):Xda X (.builtin "sorted") (λxs H Q=>∃a ks,xs=[.ref a]/\H a=some (SetO P w a ks)/\ks.length<64/\∀l ls,H l=none->ls.Perm ks->sortedS ls=true->Q (.ref l) (upd H l (.lst (ls.map V.str)))):=by
 subst h1 h2
 exact Xcd hc
theorem Xqk{P:Program}{w:World}(C:CompScope X N cap scope)(hcalm:X.calm=true)(hi:PI X tg iter wi)
  (hg:∀s0 H0 ex,PG (X.comp N scope s0 H0 ex) tg g) (ht:∀s0 H0 ex,PIfs (X.comp N scope s0 H0 ex) ifs tt) (he:∀s0 H0 ex,PE (X.comp N scope s0 H0 ex) elt te) (h1:X.prog=P:=by rfl) (h2:X.w=w:=by rfl)
  (hs:∀x,foldedSetIterable iter X.env x=pure x:=by intro _;rfl):PE X (.SetComp elt [⟨tg,iter,ifs,0⟩] scope pos) (Xo8 cap (λD=>SetO P w D []) wi g tt (mSet P w te)):=by
 subst h1 h2
 exact Xsn C hcalm hi hg ht he hs
end
end L2
namespace SH
open PySem PySem.Spec PyProof.Rows L2
def bk (S:List Str) (x:Str):Str:=if x∈S then "off" else "home"
theorem Xx9{S T:List Str}{x:Str}:bk S x=bk T x↔(x∈S↔x∈T):=by
 unfold bk
 by_cases h:x∈S<;>by_cases g:x∈T
 ·simp[h,g]
 ·rw[X3n h,X3m g];simp only[h,g];exact⟨λe=>absurd e (by decide),λe=>absurd (e.mp trivial) id⟩
 ·rw[X3m h,X3n g];simp only[h,g];exact⟨λe=>absurd e (by decide),λe=>absurd (e.mpr trivial) id⟩
 ·simp[h,g]
theorem Xzd(S:List Str)(x:Str):okN (bk S x):=by
 unfold bk
 by_cases h:x∈S
 ·rw[X3n h];decide +kernel
 ·rw[X3m h];decide +kernel
def Xbv (Ts:List (List Str)) (x:Str):List Str:=srt (ddup (Ts.map λS=>bk S x))
def Xa9 (row:List Str) (Ts:List (List Str)):List (Str×Str):=((dit row).filter λx=>decide ((Xbv Ts x).length=1)).map λx=>(x,(Xbv Ts x).headD Str.empty)
def pr2 (q:Str×Str):List Str:=[q.1,q.2]
theorem Xgg{Ts:List (List Str)}(ne:Ts≠[])(x b:Str):((Xbv Ts x).length=1/\(Xbv Ts x).headD Str.empty=b) ↔ ∀S∈Ts,bk S x=b:=by
 have m:∀z,z∈Xbv Ts x ↔ ∃S∈Ts,bk S x=z:=λz=>by
  unfold Xbv
  rw[Xds,Xeu,Xz0]
 have nd:(Xbv Ts x).Nodup:=(Xbg _).nodup_iff.mpr (Xec _)
 constructor
 ·rintro ⟨h1,h2⟩ S hS
  obtain⟨c,hc⟩:=X2o.mp h1
  rw[hc] at h2
  have:bk S x∈Xbv Ts x:=(m _).mpr ⟨S,hS,rfl⟩
  rw[hc] at this
  rw[Xzs.mp this]
  exact h2
 ·intro h
  obtain⟨S,hS⟩:=X1t _ ne
  have mb:∀z∈Xbv Ts x,z=b:=λz hz=>by
   obtain⟨S,hS,e⟩:=(m z).mp hz
   rw[<-e];exact h S hS
  have hb:b∈Xbv Ts x:=(m b).mpr ⟨S,hS,h S hS⟩
  cases e:Xbv Ts x with
  | nil=>rw[e] at hb;cases hb
  | cons c r=>
   rw[e] at nd mb
   have hc:=mb c Xzr
   cases r with
   | nil=>exact⟨rfl,hc⟩
   | cons d r=>
    have hd:=mb d (by simp)
    rw[hc,hd] at nd
    simp at nd
theorem Xbt{row:List Str}{Ts:List (List Str)}(ne:Ts≠[]){x b:Str}:(x,b)∈Xa9 row Ts↔x∈row/\∀S∈Ts,bk S x=b:=by
 unfold Xa9
 rw[<-Xgg ne x b,Xz0]
 constructor
 ·rintro ⟨y,hy,e⟩
  obtain⟨h1,h2⟩:=Xzm.mp hy
  cases e
  exact⟨Xaj.mp h1,X3q h2,rfl⟩
 ·rintro ⟨h1,h2,h3⟩
  exact⟨x,Xzm.mpr ⟨Xaj.mpr h1,X3o h2⟩,by rw[h3]⟩
theorem Xe9(row:List Str)(Ts:List (List Str)):(Xa9 row Ts).Pairwise λp q=>ltS p.1 q.1:=by
 unfold Xa9
 rw[X18]
 exact(Xdt row).filter _
theorem Xnw(row:List Str)(Ts:List (List Str)):(Xa9 row Ts).length<=(dit row).length:=by
 unfold Xa9
 rw[Xzl]
 exact X0e ..
theorem Xhi{A B:List (Str×Str)}(hA:A.Pairwise λp q=>ltS p.1 q.1)(hB:B.Pairwise λp q=>ltS p.1 q.1)(h:∀q,q∈A↔q∈B):A=B:=
 Xlk (R:=λp q:Str×Str=>ltS p.1 q.1) (λa=>Xc3 _) (λ_ _ _=>Xdr) hA hB h
def keeps (kept:List (Str×Str)) (S:List Str):Bool:=kept.all λq=>decide (bk S q.1=q.2)
theorem Xcq{kept:List (Str×Str)}{S:List Str}:keeps kept S=true ↔ ∀q∈kept,bk S q.1=q.2:=by
 unfold keeps
 rw[X0a]
 exact⟨λh q hq=>X3q (h q hq),λh q hq=>X3o (h q hq)⟩
def Good (row:List Str) (kept:List (Str×Str)):Prop:=∃Us,Us≠[]/\(∀S∈Us,Xah row S=true)/\kept=Xa9 row Us
theorem Xql{row:List Str}{Us:List (List Str)}(ne:Us≠[]){S:List Str}(h:S∈Us):keeps (Xa9 row Us) S=true:=
 Xcq.mpr λq hq=>((Xbt ne (x:=q.1) (b:=q.2)).mp hq).2 S h
theorem Xfa{row:List Str}{kept:List (Str×Str)}{Ts:List (List Str)}(h:∀S,S∈Ts↔Xah row S=true/\keeps kept S=true):Good row kept↔Ts≠[]/\Xa9 row Ts=kept:=by
 constructor
 ·rintro ⟨Us,ne,hp,rfl⟩
  have sub:∀S∈Us,S∈Ts:=λS hS=>(h S).mpr ⟨hp S hS,Xql ne hS⟩
  have ne':Ts≠[]:=λe=>by
   obtain⟨S,hS⟩:=X1t _ ne
   have:=sub S hS
   rw[e] at this;cases this
  refine⟨ne',Xhi (Xe9 ..) (Xe9 ..) λq=>?_⟩
  rw[show q=(q.1,q.2) from rfl,Xbt ne',Xbt ne]
  refine⟨λz=>⟨z.1,λS hS=>z.2 S (sub S hS)⟩,λz=>⟨z.1,λS hS=>?_⟩⟩
  exact Xcq.mp ((h S).mp hS).2 (q.1,q.2) ((Xbt ne).mpr z)
 ·rintro ⟨ne,e⟩
  exact⟨Ts,ne,λS hS=>((h S).mp hS).1,e.symm⟩
theorem Good.len{row:List Str}{kept:List (Str×Str)}(g:Good row kept):kept.length<=(dit row).length:=by
 obtain⟨Us,_,_,rfl⟩:=g
 exact Xnw ..
theorem Good.pw{row:List Str}{kept:List (Str×Str)}(g:Good row kept):kept.Pairwise λp q=>ltS p.1 q.1:=by
 obtain⟨Us,_,_,rfl⟩:=g
 exact Xe9 ..
theorem Xkl{row:List Str}{Ts:List (List Str)}(ne:Ts≠[])(ok:∀y∈row,okN y):∀S∈(Xa9 row Ts).map pr2,∀y∈S,okN y:=λS hS y hy=>by
 obtain⟨q,hq,rfl⟩:=Xz0.mp hS
 obtain⟨h1,h2⟩:=(Xbt ne (x:=q.1) (b:=q.2)).mp hq
 obtain⟨U,hU⟩:=X1t _ ne
 unfold pr2 at hy
 rcases Xzy.mp hy with e | e
 ·rw[e];exact ok _ h1
 ·rw[Xzs.mp e,<-h2 U hU];exact Xzd ..
theorem Xlp{A B:List (Str×Str)}(h:A.map pr2=B.map pr2):A=B:=by
 induction A generalizing B with
 | nil=>cases B with
  | nil=>rfl
  | cons b B=>cases h
 | cons a A ih=>cases B with
  | nil=>cases h
  | cons b B=>
   rw[Xz9,Xz9] at h
   obtain⟨h1,h2⟩:=X3f h
   unfold pr2 at h1
   obtain⟨e1,e2⟩:=X3f h1
   obtain⟨e2,_⟩:=X3f e2
   rw[ih h2,Prod.ext e1 e2]
structure Lsts (H:Hp) (kvs:List (Key×V)) (f:Str->List Str) (ns:List Str):Prop where
 keys:kvs.map (·.1)=ns.map (λx=>(Sum.inr x:Key))
 val:∀x∈ns,∃l,valV kvs (Sum.inr x:Key)=some (.ref l)/\H l=some (.lst ((f x).map V.str))
theorem Lsts.mono{H H':Hp}{kvs:List (Key×V)}{f:Str->List Str}{ns:List Str}(s:Lsts H kvs f ns)(h:Same H H'):Lsts H' kvs f ns:=⟨s.keys,λx hx=>let ⟨l,h1,h2⟩:=s.val x hx; ⟨l,h1,h _ _ h2⟩⟩
theorem Lsts.snoc{H H':Hp}{kvs:List (Key×V)}{f:Str->List Str}{ns:List Str}{x:Str}{l:Addr}(s:Lsts H kvs f ns)(nx:x∉ns)(h:H' l=some (.lst ((f x).map V.str)))(k:∀b xs,H b=some (.lst xs)->H' b=some (.lst xs)):
  Lsts H' (putK kvs (Sum.inr x) (.ref l)) f (ns++[x]):=by
 have hn:valV kvs (Sum.inr x:Key)=none:=by
  cases e:valV kvs (Sum.inr x:Key) with
  | none=>rfl
  | some v=>
   exfalso
   have:=Xgr e
   rw[s.keys] at this
   obtain⟨y,hy,e2⟩:=Xz0.mp this
   rw[X1j e2] at hy
   exact nx hy
 refine⟨by rw[Xeq _ hn,Xzu,Xzu,s.keys];rfl,λy hy=>?_⟩
 rw[Xep]
 by_cases e:y=x
 ·subst e
  exact⟨l,X3n rfl,h⟩
 ·have hy':y∈ns:=by
   rcases Xzw.mp hy with z | z
   ·exact z
   ·exact absurd (Xzs.mp z) e
  obtain⟨l0,h1,h2⟩:=s.val y hy'
  exact⟨l0,by rw[X3m (λz=>e (X1j z))];exact h1,k _ _ h2⟩
theorem Lsts.get{H:Hp}{kvs:List (Key×V)}{f:Str->List Str}{ns:List Str}{d:Addr}{x:Str}(s:Lsts H kvs f ns)(hd:Rd H d (.dK kvs))(hx:x∈ns):∃l,DGet H d (.str x) (some (.ref l))/\H l=some (.lst ((f x).map V.str)):=by
 obtain⟨l,h1,h2⟩:=s.val x hx
 exact⟨l,DGet.rd hd h1,h2⟩
theorem Lsts.at{H:Hp}{kvs:List (Key×V)}{f:Str->List Str}{ns:List Str}(s:Lsts H kvs f ns)(i:Nat)(hi:i<ns.length):(kvs.map λp=>kV p.1).getD i .non = .str (ns.getD i Str.empty):=by
 have e:(kvs.map λp=>kV p.1)=ns.map V.str:=by
  have:(kvs.map λp=>kV p.1)=(kvs.map (·.1)).map kV:=by rw[X0h];rfl
  rw[this,s.keys,X0h]
  rfl
 rw[e]
 exact Xa0 V.str Str.empty ns hi
theorem Lsts.len{H:Hp}{kvs:List (Key×V)}{f:Str->List Str}{ns:List Str}(s:Lsts H kvs f ns):kvs.length=ns.length:=by
 have:=congrArg List.length s.keys
 simpa using this
def spShared:Sp:=λvs H Q _=>∃(r c:Addr) (row:List Str) (ps:List Addr) (Ts:List (List Str)),vs=[.ref r,.ref c]/\H r=some (.lst (row.map V.str))/\Row2 row/\H c=some (.lst (ps.map V.ref))/\Tups H ps Ts/\ps.length<=200 /\
 ∀(D:Addr) (qs:List Addr) (H':Hp),H D=none->H' D=some (.lst (qs.map V.ref))->Tups H' qs ((Xa9 row Ts).map pr2)->Same H H'->Q (.ref D) H'
def spLiesOn:Sp:=λvs H Q _=>∃(p k:Addr) (S:List Str) (qs:List Addr) (kept:List (Str×Str)),vs=[.ref p,.ref k]/\H p=some (.tup (S.map V.str))/\H k=some (.lst (qs.map V.ref))/\Tups H qs (kept.map pr2)/\qs.length<=1000/\∀H',Same H H'->Q (.bl (keeps kept S)) H'
abbrev NSh:List Str:=["row", "some", "sides"]
abbrev NSh1:List Str:=["name", "some"]
abbrev NSh2:List Str:=["plot", "name"]
abbrev NSh3:List Str:=["name", "sides"]
abbrev NLo1:List Str:=["name", "side", "plot"]
end SH
namespace L2
open PySem PySem.Spec PyProof.Rows
def okR (z:Str):Prop:=z.length<=9/\∀c∈z.cps.toList,c<16 ^ 8
def Xt1 (te:TE) (t:L2.St->Hp->(Hp->Prop)->Prop):L2.St->Hp->(Hp->Prop)->Prop:=fun σ H Q=>te σ H λx H1=>∃(a:Addr) (ps:List Addr) (Ts:List (List Str)),x = .ref a/\H1 a=some (.lst (ps.map V.ref))/\Tups H1 ps Ts/\ps.length<=16/\(∀S∈Ts,S.length<=3/\∀z∈S,okR z)/\t σ H1 Q
theorem Xqm{P:Program}{w:World}{as:List Addr}{h0:Heap}{d:Nat}:∀{us:List Value} {ts:List Str},ReprAll P w us ts->ReprAllK P w as h0 d us ts
 | _,_,.nil=>.nil
 | _,_,.cons h r=>.cons (ReprK.of_is h as h0 d) (Xqm r)
section
variable {X:Cx}{es:List Expr}{t:L2.St->Hp->(Hp->Prop)->Prop}{e:Expr}{te:TE}{pos:Pos}
theorem Xnx{S:List Str}(h1:S.length<=3)(h2:∀z∈S,okR z):(tupleText (S.map reprText)).length<=285:=by
 have a:=Xig (S.map reprText)
 have b:piled (S.map reprText)<=94 * S.length:=by
  clear a h1
  induction S with
  | nil=>simp[piled]
  | cons z S ih=>
   obtain⟨g1,g2⟩:=h2 z Xzr
   have:=StrLaws.reprText_len z g2
   have:=ih λy hy=>h2 y (Xzq _ hy)
   rw[Xz9,piled_cons,Xz6]
   omega
 omega
theorem Xmt:∀(Ts:List (List Str)),(∀S∈Ts,S.length<=3/\∀z∈S,okR z)->((Ts.map λS=>tupleText (S.map reprText)).map (·.length)).sum<=285 * Ts.length
 | [],_=>by simp
 | S::Ts,h=>by
  obtain⟨h1,h2⟩:=h S Xzr
  have:=Xnx h1 h2
  have ih:=Xmt Ts λy hy=>h y (Xzq _ hy)
  rw[Xz9,Xz9,X1s,Xz6]
  omega
theorem Xso{k:Nat}{p:Pos}(hr:Room k X.A)(ha:PE X e te)(h:PJ X es t)(he:evalEach (.FormattedValue e 114 none p::es) X.env=eval (.FormattedValue e 114 none p) X.env::evalEach es X.env:=by rfl):PJ X (.FormattedValue e 114 none p::es) (Xt1 te t):=by
 intro out pins s σ H Q I hw hl
 rw[he]
 rw[Xz6] at hl
 refine joinParts_cons (wpAny_FormattedValue_repr (thn (ha pins s σ H _ I hw) λv s1 ⟨x,H1,I1,r1,q1⟩=>?_))
 obtain⟨a,ps,Ts,ez,hp,hT,h1,h2,q⟩:=q1
 subst ez
 cases r1
 obtain⟨_,its,n,rv,hx⟩:(ps.map V.ref).length<=sizeLine/\∃(its:List Value) (n:Nat),Vals (ps.map V.ref) its/\s1.heap.get? a=some {cls:=.type "list",data:=.seq its.toArray n}:=I1.hok a _ hp
 have lenV:its.length=ps.length:=by rw[<-rv.length,Xzl]
 have hz1:=listText_len_le (Ts.map λS=>tupleText (S.map reprText))
 have hz2:=Xmt Ts h2
 have hTl:=hT.1
 rw[Xzl] at hz1
 have hz3:(listText (Ts.map λS=>tupleText (S.map reprText))).length<=5000:=by omega
 have hz4:(listText (Ts.map λS=>tupleText (S.map reprText))).length<=sizeLine:=by rw[X3l];omega
 cases its with
 | nil=>
  refine wpAny_pyReprObj_list_empty ⟨_,hx,rfl⟩ hr.units0 hx rfl ?_
  refine formatField_str (λt' k=>⟨by rw[Xdd];have:(("[]" : String):Str).length=2:=rfl;omega,?_⟩) (by decide)
  exact h _ pins _ σ H1 Q ((I1.tok _).tok _) q (by rw[Xdd];have:(("[]" : String):Str).length=2:=rfl;omega)
 | cons v r=>
  refine wpAny_pyReprObj_listK (as:=ps) (h₀:=s1.heap) (d:=1) (g:=[]) hx rfl rfl ?_ ?_ (λi y hy=>?_) hr.gd (λb _=>Clear.nil b) (by have:=hr.units;omega) (λ_ _ e=>e) (λh' u tk k=>?_) hz4
  ·intro hm
   obtain⟨T,_,e⟩:=hT.mem hm
   rw[hp] at e;cases e
  ·rw[Xzl,Xzp,lenV,hTl]
  ·rw[List.getElem?_toArray] at hy
   have hi:i<ps.length:=by
    have:=(Xz7.mp hy).1
    omega
   have hi':i<Ts.length:=by omega
   obtain⟨u,hu,ru⟩:=rv.get (i:=i) (x:=.ref (ps.getD i 0)) (by rw[Xz4,Xzo hi];simp[List.getD,hi])
   have e0:y=u:=by
    rw[hu] at hy
    exact(Xz3 hy).symm
   subst e0
   cases ru
   have hS:Ts.getD i []∈Ts:=by
    have:Ts.getD i []=Ts[i]:=by simp[List.getD,hi']
    rw[this];exact X0b hi'
   have ht:=hT.2 i hi
   have hpm:ps.getD i 0∈ps:=by
    have:ps.getD i 0=ps[i]:=by simp[List.getD,hi]
    rw[this];exact X0b hi
   refine⟨tupleText ((Ts.getD i []).map reprText),by rw[Xz4,Xzo hi'];simp[List.getD,hi'],?_⟩
   generalize Ts.getD i []=S at hS ht
   generalize ps.getD i 0=p at ht hpm
   obtain⟨h21,h22⟩:=h2 S hS
   obtain⟨its2,r2,pl,_⟩:=I1.tuple (SqT.of (K:=X.K) ht)
   obtain⟨o,ho,hc,n2,hd⟩:=pl
   refine(ReprK.tuple (as:=[]) (d:=0) ho hc hd (by simp) (Xqm (Xhw (λz hz=>⟨X0d (h22 z hz).1 (by decide),(h22 z hz).2⟩) (by simpa using r2)))).more λb hb=>?_
   rw[Xzs.mp hb]
   exact hpm
  ·refine formatField_str (λt' k2=>⟨by rw[Xdd];omega,?_⟩) hz4
   exact h _ pins _ σ H1 Q ((I1.kept k).tok _) q (by rw[Xdd];omega)
end
end L2
namespace L2
open PySem PySem.Spec PyProof.Rows PySem.Calls
section
variable {P:Program}{w:World}{A:Around}{E:Value->Shared->Prop}{s:Shared}
def dictP (prs:List (Key×V)):List (Key×V):=prs.foldl (λm q=>putK m q.1 q.2) []
end
section
variable {X:Cx}
end
end L2
namespace L2
open PySem PySem.Spec PyProof.Rows
section
variable {X:Cx}
end
end L2
namespace SH
open PySem PySem.Spec PyProof.Rows L2
def CrOk (Ts:List (List Str)):Prop:=∀S∈Ts,(∀y∈S,okN y)/\S.length<=24
theorem Tups.at{H:Hp}{ps:List Addr}{Ts:List (List Str)}{i:Nat}(h:Tups H ps Ts)(hi:i<ps.length):Ts.getD i []∈Ts:=by
 have hi':i<Ts.length:=by rw[<-h.1];exact hi
 have:Ts.getD i []=Ts[i]:=by simp[List.getD,hi']
 rw[this]
 exact X0b hi'
theorem Xa5.ne{T b:Addr}{pos:Pos}{q:Str}{H:Hp}{o:HO}(tb:Xa5 T pos q H)(e:H b=some o)(n:∀z,o ≠ .tbl z):b≠T:=λz=>by
 rcases tb with q | ⟨_,q,_⟩<;>(rw[z,q] at e;cases e;exact n _ rfl)
theorem Xqn{α : Type}(f g : α->Bool):∀U:List α,U.countP f+U.countP g=U.countP (λx=>xor (f x) (g x))+2 * U.countP λx=>f x&&g x
 | []=>rfl
 | x::U=>by
  have ih:=Xqn f g U
  simp only[X0x]
  cases f x<;>cases g x<;>simp<;>omega
theorem Xsp{α : Type}{f : α->Bool}{U:List α}:U.countP f=0 ↔ ∀x∈U,f x=false:=by
 rw[List.countP_eq_zero]
 exact⟨λh x hx=>by simpa using h x hx,λh x hx=>by simp[h x hx]⟩
def ne2 (a b:List Str) (x:Str):Bool:=xor (decide (x∈a)) (decide (x∈b))
theorem Xdi{a b:List Str}{x:Str}:ne2 a b x=true↔(x∈a/\x∉b)\/(x∈b/\x∉a):=by
 unfold ne2
 by_cases h1:x∈a<;>by_cases h2:x∈b<;>simp[h1,h2]
theorem Xlq{row a b:List Str}(ha:Xah row a=true)(hb:Xah row b=true):(xorL a b).length=(dit row).countP (ne2 a b):=by
 rw[X1h]
 congr 1
 refine lt_uniq (Xtz (Xqe ha) (Xqe hb)) ((Xdt row).filter _) λx=>?_
 rw[Xqd,Xzm,Xdi,Xaj]
 refine⟨λh=>⟨?_,h⟩,λh=>h.2⟩
 rcases h with h | h
 ·exact(Xa2 ha).1 x h.1
 ·exact(Xa2 hb).1 x h.1
def btw (a b c:List Str):Bool:=decide ((xorL a c).length+(xorL c b).length=(xorL a b).length)
theorem Xvq{row a b c:List Str}(ha:Xah row a=true)(hb:Xah row b=true)(hc:Xah row c=true):btw a b c=true ↔ ∀x,¬(ne2 a c x=true/\ne2 c b x=true):=by
 unfold btw
 rw[decide_eq_true_eq,Xlq ha hc,Xlq hc hb,Xlq ha hb,Xqn]
 have e:(λx=>xor (ne2 a c x) (ne2 c b x))=ne2 a b:=by
  funext x
  unfold ne2
  cases decide (x∈a)<;>cases decide (x∈b)<;>cases decide (x∈c)<;>rfl
 rw[e]
 have q:(dit row).countP (λx=>ne2 a c x&&ne2 c b x)=0 ↔ ∀x,¬(ne2 a c x=true/\ne2 c b x=true):=by
  rw[Xsp]
  constructor
  ·rintro h x ⟨h1,h2⟩
   have hx:x∈dit row:=by
    rw[Xaj]
    rcases Xdi.mp h1 with z | z
    ·exact(Xa2 ha).1 x z.1
    ·exact(Xa2 hc).1 x z.1
   have:=h x hx
   rw[h1,h2] at this
   cases this
  ·intro h x _
   cases h1:ne2 a c x with
   | false=>rfl
   | true=>
    cases h2:ne2 c b x with
    | false=>rfl
    | true=>exact absurd ⟨h1,h2⟩ (h x)
 rw[<-q]
 omega
theorem Xir{H:Hp}{ps:List Addr}{Ts:List (List Str)}{I:List Nat}(h:Tups H ps Ts)(g:∀i∈I,i<ps.length):Tups H (I.map λi=>ps.getD i 0) (I.map λi=>Ts.getD i []):=by
 refine⟨by simp,λi hi=>?_⟩
 rw[Xzl] at hi
 rw[Xe8 _ _ _ hi,Xe8 _ _ _ hi]
 exact h.2 _ (g _ (X0b hi))
def Xze:Sp:=λvs H Q _=>∃(r p q u:Addr) (row a b c:List Str),vs=[.ref r,.ref p,.ref q,.ref u]/\H r=some (.lst (row.map V.str))/\Row2 row/\(dit row).length<=14/\H p=some (.tup (a.map V.str))/\H q=some (.tup (b.map V.str))/\H u=some (.tup (c.map V.str)) /\
 Xah row a=true/\Xah row b=true/\Xah row c=true/\∀H',Same H H'->Q (.bl (btw a b c)) H'
def spLane (T:Addr) (pos:Pos):Sp:=λvs H Q _=>∃(r p q:Addr) (row a b:List Str),vs=[.ref r,.ref p,.ref q]/\H r=some (.lst (row.map V.str))/\Row2 row/\Xbk row/\(dit row).length<=13/\H p=some (.tup (a.map V.str))/\H q=some (.tup (b.map V.str)) /\
 Xah row a=true/\Xah row b=true/\Xa5 T pos qIn H /\
 ∀(D:Addr) (ps:List Addr) (Ts:List (List Str)) (H':Hp),H D=none->H' D=some (.lst (ps.map V.ref))->Tups H' ps Ts->(∀S,S∈Ts↔Xah row S=true/\btw a b S=true)->(Ts.Pairwise λx y=>ltPl x y=true)->ps.length<=64->Xa5 T pos qIn H'->But T H H'->Q (.ref D) H'
structure KpOk (kept:List (Str×Str)):Prop where
 len:kept.length<=16
 ok:∀q∈kept,okR q.1/\okR q.2/\okN q.1/\okN q.2
theorem KpOk.okL{kept:List (Str×Str)}(h:KpOk kept):∀S∈kept.map pr2,∀y∈S,okN y:=λS hS y hy=>by
 obtain⟨q,hq,rfl⟩:=Xz0.mp hS
 obtain⟨_,_,h3,h4⟩:=h.ok q hq
 rcases Xzy.mp hy with e | e
 ·rw[e];exact h3
 ·rw[Xzs.mp e];exact h4
structure HeldAt (H:Hp) (T:Addr) (pos:Pos) (r k:Addr) (row:List Str) (kept:List (Str×Str)):Prop where
 hr:H r=some (.lst (row.map V.str))
 r2:Row2 row
 n3:Xbk row
 d:(dit row).length<=13
 tab:Xa5 T pos qIn H
 kp:∃qs:List Addr,H k=some (.lst (qs.map V.ref))/\Tups H qs (kept.map pr2)
 ok:KpOk kept
def Xt2 (row:List Str) (kept:List (Str×Str)) (Ts:List (List Str)):Prop:=(∀S,S∈Ts↔Xah row S=true/\keeps kept S=true)/\Ts.Pairwise (λa b=>ltPl a b=true)
def spHeld (B T:Addr) (pos:Pos):Sp:=λvs H Q E=>∃(r k:Addr) (row:List Str) (kept:List (Str×Str)),vs=[.ref r,.ref k]/\HeldAt H T pos r k row kept /\
 (Good row kept->∀(D:Addr) (ps:List Addr) (Ts:List (List Str)) (H':Hp),H D=none->H' D=some (.lst (ps.map V.ref))->Tups H' ps Ts->Xt2 row kept Ts->ps.length<=64->Xa5 T pos qIn H'->But T H H'->Q (.ref D) H') /\
 (¬Good row kept->∀H',Xa5 T pos qIn H'->But T H H'->E (.ref B) none H')
theorem Good.row{row:List Str}{kept:List (Str×Str)}(g:Good row kept):∀q∈kept,q.1∈row/\(q.2 = "off" \/ q.2 = "home"):=by
 obtain⟨Us,ne,_,rfl⟩:=g
 intro q hq
 obtain⟨h1,h2⟩:=(Xbt ne (x:=q.1) (b:=q.2)).mp hq
 obtain⟨U,hU⟩:=X1t _ ne
 refine⟨h1,?_⟩
 rw[<-h2 U hU]
 unfold bk
 by_cases z:q.1∈U
 ·rw[X3n z];exact .inl rfl
 ·rw[X3m z];exact .inr rfl
def kvK (kept:List (Str×Str)):List (Key×V):=kept.map λq=>((Sum.inr q.1:Key),V.str q.2)
abbrev NHe:List Str:=["row", "kept", "some"]
section
variable {row:List Str}{kept:List (Str×Str)}{S:List Str}
theorem Xsq{a b:List Str}(ha:Xah row a=true)(hb:Xah row b=true)(h:(xorL a b).length=0):a=b:=by
 have e:=X0i.mp h
 refine lt_uniq (Xa2 ha).2 (Xa2 hb).2 λx=>?_
 have n:x∉xorL a b:=by rw[e];simp
 rw[Xqd] at n
 by_cases z1:x∈a<;>by_cases z2:x∈b<;>simp_all
end
theorem Xsr:∀st<26,∀late:Bool,∀x∈Xat st late 14,x.length<=9:=by decide +kernel
theorem Isl.r9{row:List Str}(h:Isl row):∀y∈row,okR y:=λy hy=>by
 obtain⟨n,st,late,hn,hs,p⟩:=h.ex
 refine⟨Xsr st hs late y (Xe2 hn ?_),λc hc=>X1q ((h.ok y hy).2 c hc) (by decide)⟩
 rcases Xzw.mp (p.mem_iff.mp hy) with z | z<;>exact z
theorem Xfp{b:Str}(h:b = "off" \/ b = "home"):okR b/\okN b:=by
 rcases h with rfl | rfl
 ·exact⟨⟨by decide +kernel,by decide +kernel⟩,by decide +kernel⟩
 ·exact⟨⟨by decide +kernel,by decide +kernel⟩,by decide +kernel⟩
theorem Good.kp{row:List Str}{kept:List (Str×Str)}(g:Good row kept)(hI:Isl row):KpOk kept:=by
 refine⟨X0d g.len (X0d hI.dlen (by decide)),λq hq=>?_⟩
 obtain⟨h1,h2⟩:=g.row q hq
 exact⟨hI.r9 _ h1,(Xfp h2).1,hI.ok _ h1,(Xfp h2).2⟩
def spFew:Sp:=λvs H Q _=>∃(dr sc l:Addr) (ps:List Addr),vs=[.ref dr,.ref l]/\DrawOk H dr sc/\H l=some (.lst (ps.map V.ref))/\l≠dr/\0<ps.length/\ps.length<=1000 /\
 ∀(c:Addr) (qs:List Addr) (H':Hp),H c=none->H' c=some (.lst (qs.map V.ref))->(∀q∈qs,q∈ps)->0<qs.length->qs.length<=4->DrawOk H' dr sc->But dr H H'->Q (.ref c) H'
def spKeepsL:Sp:=λvs H Q _=>∃(p k:Addr) (S:List Str) (qs:List Addr) (kept:List (Str×Str)),vs=[.ref k,.ref p]/\H p=some (.tup (S.map V.str))/\H k=some (.lst (qs.map V.ref))/\Tups H qs (kept.map pr2)/\qs.length<=1000/\∀H',Same H H'->Q (.bl (keeps kept S)) H'
abbrev NFw:List Str:=["_law_k", "_law_draw", "_law_some"]
abbrev NIsF:List Str:=["_law_draw", "_law_most", "_law_few_here", "_law_many"]
def Xdj (ns:List Str) (Ts:List (List Str)):List (Str×Str):=(ns.filter λx=>decide ((Xbv Ts x).length=1)).map λx=>(x,(Xbv Ts x).headD Str.empty)
theorem Xkm(row:List Str)(Ts:List (List Str)):Xdj (dit row) Ts=Xa9 row Ts:=rfl
theorem Xfb(ns:List Str)(x:Str)(Ts:List (List Str)):Xdj (ns++[x]) Ts=Xdj ns Ts++if (Xbv Ts x).length=1 then [(x,(Xbv Ts x).headD Str.empty)] else []:=by
 unfold Xdj
 rw[Xz5,Xzu]
 by_cases h:(Xbv Ts x).length=1
 ·rw[X3n h,X2l (by simpa using h)]
  rfl
 ·rw[X3m h,X2m (by simpa using h)]
  rfl
theorem Xss(a b:Str):eqV (.str a) (.str b)=decide (a=b):=by
 have:=Xcu (x:=a) (y:=b)
 unfold eqV
 first | rfl | (simp[eqV]) | exact beq_eq_decide a b
theorem Xqo(y:Str):∀l:List Str,(l.map V.str).countP (λz=>eqV z (.str y))=l.countP λz=>decide (z=y)
 | []=>rfl
 | z::l=>by
  rw[Xz9,X0x,X0x,Xqo y l,Xss]
theorem Xst{Ts:List (List Str)}(ne:Ts≠[])(x:Str):(Ts.map λS=>bk S x).countP (λz=>decide (z=bk (Ts.headD []) x))=Ts.length↔(Xbv Ts x).length=1:=by
 have h1:(Ts.map λS=>bk S x).countP (λz=>decide (z=bk (Ts.headD []) x))=Ts.length ↔ ∀S∈Ts,bk S x=bk (Ts.headD []) x:=by
  rw[show Ts.length=(Ts.map λS=>bk S x).length by rw[Xzl],List.countP_eq_length]
  constructor
  ·exact λh S hS=>X3q (h _ (Xz0.mpr ⟨S,hS,rfl⟩))
  ·intro h z hz
   obtain⟨S,hS,rfl⟩:=Xz0.mp hz
   exact X3o (h S hS)
 rw[h1,<-Xgg ne]
 refine⟨λz=>z.1,λz=>⟨z,?_⟩⟩
 have:=(Xgg ne x ((Xbv Ts x).headD Str.empty)).mp ⟨z,rfl⟩
 cases Ts with
 | nil=>exact absurd rfl ne
 | cons S r=>exact(this S Xzr).symm
theorem Xqp{Ts:List (List Str)}(ne:Ts≠[]){x:Str}(h:(Xbv Ts x).length=1):(Xbv Ts x).headD Str.empty=bk (Ts.headD []) x:=by
 have:=(Xgg ne x ((Xbv Ts x).headD Str.empty)).mp ⟨h,rfl⟩
 cases Ts with
 | nil=>exact absurd rfl ne
 | cons S r=>exact(this S Xzr).symm
def Xis:Sp:=λvs H Q _=>∃(r c:Addr) (row:List Str) (ps:List Addr) (Ts:List (List Str)),vs=[.ref r,.ref c]/\H r=some (.lst (row.map V.str))/\Row2 row/\H c=some (.lst (ps.map V.ref))/\Tups H ps Ts/\ps.length<=200/\Ts≠[] /\
 ∀(D:Addr) (qs:List Addr) (H':Hp),H D=none->H' D=some (.lst (qs.map V.ref))->Tups H' qs ((Xa9 row Ts).map pr2)->Same H H'->Q (.ref D) H'
end SH
namespace SH
open PySem L2
theorem Xya{ns:List Str}{i:Nat}{v:V}(h:(ns.map V.str)[i]? = some v):∃x,v = .str x/\ns[i]? = some x:=by
 rw[Xz4] at h
 cases e:ns[i]? with
 | none=>rw[e] at h;cases h
 | some x=>
  rw[e] at h
  exact⟨x,(Xz3 h).symm,rfl⟩
end SH
namespace SH
open PySem PySem.Spec PyProof.Rows L2
def ltP (a b:List Str):Prop:=a.length<b.length\/(a.length=b.length/\ltL a b=true)
theorem Xvr(a:List Str):¬ltP a a:=λh=>by
 rcases h with h | ⟨_,h⟩
 ·omega
 ·rw[Xhe] at h;cases h
structure IsPL (row:List Str) (Ts:List (List Str)):Prop where
 pw:Ts.Pairwise ltP
 mem:∀T,T∈Ts↔Xah row T=true
theorem IsPL.nd{row:List Str}{A:List (List Str)}(h:IsPL row A):A.Nodup:=h.pw.imp λ{a b} (q:ltP a b)=>λ(e:a=b)=>Xvr b (e ▸ q)
theorem IsPL.len{row:List Str}{A:List (List Str)}(h:IsPL row A)(h2:∀y∈row,row.count y=2)(h3:Xbk row)(hl:(dit row).length<=14):A.length<=64:=by
 have nd:=h.nd
 have q:=Xin (L:=A.filter λS=>decide (S≠[])) h2 h3 hl (nd.filter _) λS hS=>by
  obtain⟨s1,s2⟩:=Xzm.mp hS
  exact⟨X3q s2,(h.mem S).mp s1⟩
 have e:(A.filter λS=>decide (S≠[])).length+1 ≥ A.length:=by
  have:=List.length_eq_countP_add_countP (p:=λS:List Str=>decide (S≠[])) (l:=A)
  rw[X1h,X1h] at this
  have c:(A.filter λS=>decide ¬decide (S≠[])=true).length<=1:=by
   have nd2:(A.filter λS=>decide ¬decide (S≠[])=true).Nodup:=nd.filter _
   refine X0d (Xpt (b:=[[]]) nd2 λx hx=>?_) (Xzn 1)
   have:=(Xzm.mp hx).2
   simp at this
   simp[this]
  omega
 omega
def Xit:Sp:=λvs H Q _=>∃(r:Addr) (row:List Str),vs=[.ref r]/\H r=some (.lst (row.map V.str))/\Row2 row/\Xbk row/\(dit row).length<=14 /\
 ∀(l:Addr) (ps:List Addr) (Ts:List (List Str)) (H':Hp),H l=none->H' l=some (.lst (ps.map V.ref))->Tups H' ps Ts->IsPL row Ts->Same H H'->Q (.ref l) H'
structure Lay (row:List Str) (n:Nat) (Us:List (List Str)):Prop where
 pw:Us.Pairwise λa b=>ltL a b=true
 mem:∀T,T∈Us↔Xah row T=true/\T.length=n
theorem Xsu{row:List Str}{n:Nat}{Us Ts:List (List Str)}(h2:∀y∈row,row.count y=2)(L:Lay row n Us)(c:Cov row Us Us.length Ts)(ok:∀T∈Ts,Xah row T=true/\T.length=n+1){Ts':List (List Str)}(p:Ts'.Perm Ts)(pw:Ts'.Pairwise λa b=>ltL a b=true):Lay row (n+1) Ts':=by
 refine⟨pw,λT=>⟨λh=>ok T (p.mem_iff.mp h),λ⟨h,hl⟩=>p.mem_iff.mpr ?_⟩⟩
 have ne:T≠[]:=λe=>by rw[e] at hl;cases hl
 obtain⟨x,hx,hs⟩:=Xp6 h2 h ne
 obtain⟨p1,p2,_⟩:=Xcx.mp h
 have hlen:=Xsd p1 hx
 have hm:(T.filter λy=>decide (y≠x))∈Us:=(L.mem _).mpr ⟨hs,by omega⟩
 obtain⟨i,hi,e⟩:=X0q.mp hm
 have e':Us.getD i []=T.filter λy=>decide (y≠x):=by rw[<-e];simp[List.getD,hi]
 have:=c i hi x (p2 x hx)
 rw[e',Xkd p1 hx] at this
 exact this (λz=>by have:=(Xzm.mp z).2;simp at this) h
structure Upto (row:List Str) (n:Nat) (Ts:List (List Str)):Prop where
 pw:Ts.Pairwise ltP
 mem:∀T,T∈Ts↔Xah row T=true/\T.length<=n
theorem Upto.next{row:List Str}{n:Nat}{Ts Us:List (List Str)}(U:Upto row n Ts)(L:Lay row (n+1) Us):Upto row (n+1) (Ts++Us):=by
 refine⟨List.pairwise_append.mpr ⟨U.pw,?_,λa ha b hb=>?_⟩,λT=>?_⟩
 ·refine L.pw.imp_of_mem λ{a b} ha hb h=>.inr ⟨?_,h⟩
  rw[((L.mem a).mp ha).2,((L.mem b).mp hb).2]
 ·have h1:=((U.mem a).mp ha).2
  have h2:=((L.mem b).mp hb).2
  exact .inl (by omega)
 ·rw[Xzw,U.mem,L.mem]
  constructor
  ·rintro (⟨h,l⟩ | ⟨h,l⟩)
   ·exact⟨h,by omega⟩
   ·exact⟨h,by omega⟩
  ·rintro ⟨h,l⟩
   by_cases q:T.length<=n
   ·exact .inl ⟨h,q⟩
   ·exact .inr ⟨h,by omega⟩
theorem Upto.all{row:List Str}{Ts:List (List Str)}(U:Upto row (dit row).length Ts):IsPL row Ts:=⟨U.pw,λT=>(U.mem T).trans ⟨λh=>h.1,λh=>⟨h,Xgd h⟩⟩⟩
theorem Xyb(row:List Str):Upto row 0 [[]]:=⟨by simp,λT=>by
 rw[Xzs]
 exact⟨λe=>by rw[e];exact⟨Xge row,Xzn _⟩,λ⟨_,h⟩=>X0i.mp (by omega)⟩⟩
theorem Xzf(row:List Str):Lay row 0 [[]]:=⟨by simp,λT=>by
 rw[Xzs]
 exact⟨λe=>by rw[e];exact⟨Xge row,rfl⟩,λ⟨_,h⟩=>X0i.mp h⟩⟩
def spHeldL:Sp:=λvs H Q _=>∃(l kp:Addr) (ps:List Addr) (Ts:List (List Str)) (qs:List Addr) (kept:List (Str×Str)),vs=[.ref l,.ref kp]/\H l=some (.lst (ps.map V.ref))/\Tups H ps Ts/\ps.length<=1000/\H kp=some (.lst (qs.map V.ref))/\Tups H qs (kept.map pr2)/\qs.length<=1000 /\
 ∀(D:Addr) (us:List Addr) (H':Hp),H D=none->H' D=some (.lst (us.map V.ref))->Tups H' us (Ts.filter (keeps kept))->us.length<=ps.length->Same H H'->Q (.ref D) H'
def Xlr:Sp:=λvs H Q _=>∃(r l kp:Addr) (row:List Str) (ps:List Addr) (Ts:List (List Str)) (qs:List Addr) (kept:List (Str×Str)),vs=[.ref r,.ref l,.ref kp]/\H r=some (.lst (row.map V.str))/\Row2 row/\H l=some (.lst (ps.map V.ref))/\Tups H ps Ts/\ps.length<=64/\(∀S,S∈Ts↔Xah row S=true) /\
 H kp=some (.lst (qs.map V.ref))/\Tups H qs (kept.map pr2)/\KpOk kept/\∀(b:Bool) (H':Hp),(b=true↔Good row kept)->Same H H'->Q (.bl b) H'
def spOddK:Sp:=λvs H Q _=>∃(dr sc r kp:Addr) (row:List Str) (qs:List Addr) (kept:List (Str×Str)),vs=[.ref dr,.ref r,.ref kp]/\DrawOk H dr sc/\H r=some (.lst (row.map V.str))/\r≠dr/\Isl row/\H kp=some (.lst (qs.map V.ref))/\kp≠dr/\Tups H qs (kept.map pr2)/\Good row kept /\
 ∀(k':Addr) (qs':List Addr) (kept':List (Str×Str)) (H':Hp),k'≠dr->H' k'=some (.lst (qs'.map V.ref))->Tups H' qs' (kept'.map pr2)->KpOk kept'->DrawOk H' dr sc->But dr H H'->Q (.ref k') H'
end SH
namespace L2
open PySem
theorem Xyc{t u:TT}{a b:TS}{D:Ends}{σ:St}{H:Hp}(p1 p2:Bool)(h1:∀Q':Bool->Hp->Prop,(∀H',Same H H'->Q' p1 H')->t σ H Q')(h2:∀(H1:Hp) (Q':Bool->Hp->Prop),Same H H1->(∀H',Same H1 H'->Q' p2 H')->u σ H1 Q')
  (ha:(p1||p2)=true->∀H',Same H H'->a D σ H') (hb:(p1||p2)=false->∀H',Same H H'->b D σ H'):tIfS (tOr t u) a b D σ H:=by
 refine h1 _ λH' s'=>?_
 cases p1 with
 | true=>
  rw[X3n rfl]
  show if true=true then _ else _
  rw[X3n rfl]
  exact ha rfl H' s'
 | false=>
  rw[X3m (by decide)]
  refine h2 H' _ s' λH2 s2=>?_
  show if p2=true then _ else _
  cases p2 with
  | true=>rw[X3n rfl];exact ha rfl H2 (s'.trans s2)
  | false=>rw[X3m (by decide)];exact hb rfl H2 (s'.trans s2)
end L2
namespace SH
open PySem PySem.Spec PyProof.Rows L2
theorem stranger9:∀st<26,∀late:Bool,∀y∈Xat st late 14,(Txt.slice y none (some 7)++Str.ofString "q").length<=9:=by decide +kernel
theorem Isl.stranger9{row:List Str}(h:Isl row):okR (Xc5 row):=by
 refine⟨?_,λc hc=>X1q (h.stranger.1.2 c hc) (by decide)⟩
 cases row with
 | nil=>decide +kernel
 | cons y r=>
  obtain⟨n,st,late,hn,hs,p⟩:=h.ex
  exact SH.stranger9 st hs late y (Xe2 hn (by rcases Xzw.mp (p.mem_iff.mp Xzr) with q | q<;>exact q))
theorem Xmu:okR "bank" /\ okN "bank" := ⟨⟨by decide +kernel,by decide +kernel⟩,by decide +kernel⟩
theorem KpOk.mid{kept:List (Str×Str)}{q:Str×Str}(h:KpOk kept)(hl:kept.length<=14)(i j:Nat)(ij:i<=j)(hq:okR q.1/\okR q.2/\okN q.1/\okN q.2):KpOk (kept.take i++q::kept.drop j):=by
 refine⟨?_,λz hz=>?_⟩
 ·rw[Xzx,Xz6,X0c,X1f]
  omega
 ·rcases Xzw.mp hz with e | e
  ·exact h.ok z (X1u e)
  ·rcases Xzy.mp e with e | e
   ·rw[e];exact hq
   ·exact h.ok z (X1v e)
theorem KpOk.cut{kept:List (Str×Str)}(h:KpOk kept)(hl:kept.length<=14)(i j:Nat)(ij:i<=j):KpOk (kept.take i++kept.drop j):=by
 refine⟨?_,λz hz=>?_⟩
 ·rw[Xzx,X0c,X1f]
  omega
 ·rcases Xzw.mp hz with e | e
  ·exact h.ok z (X1u e)
  ·exact h.ok z (X1v e)
theorem KpOk.rev{kept:List (Str×Str)}(h:KpOk kept):KpOk kept.reverse:=⟨by rw[X1x];exact h.len,λz hz=>h.ok z (List.mem_reverse.mp hz)⟩
theorem Xmv{H:Hp}{ps:List Addr}{Ts:List (List Str)}(h:Tups H ps Ts)(n:Nat):Tups H (ps.take n) (Ts.take n):=by
 refine⟨by rw[X0c,X0c,h.1],λi hi=>?_⟩
 rw[X0c] at hi
 have:=h.2 i (by omega)
 rw[List.getD,List.getD,X2d (by omega),X2d (by omega)]
 exact this
theorem Xmw{H:Hp}{ps:List Addr}{Ts:List (List Str)}(h:Tups H ps Ts)(n:Nat):Tups H (ps.drop n) (Ts.drop n):=by
 refine⟨by rw[X1f,X1f,h.1],λi hi=>?_⟩
 rw[X1f] at hi
 have:=h.2 (n+i) (by omega)
 rw[List.getD,List.getD,X27,X27]
 exact this
theorem Xqq{H:Hp}{ps:List Addr}{Ts:List (List Str)}(h:Tups H ps Ts):Tups H ps.reverse Ts.reverse:=by
 refine⟨by rw[X1x,X1x,h.1],λi hi=>?_⟩
 rw[X1x] at hi
 have hl:=h.1
 have:=h.2 (ps.length - 1 - i) (by omega)
 rw[List.getD,List.getD,List.getElem?_reverse hi,List.getElem?_reverse (by omega),<-hl]
 exact this
theorem Tups.mid{H:Hp}{qs:List Addr}{kept:List (Str×Str)}{p:Addr}{q:Str×Str}(h:Tups H qs (kept.map pr2))(hp:H p=some (.tup [.str q.1,.str q.2]))(i j:Nat):Tups H (qs.take i++p::qs.drop j) ((kept.take i++q::kept.drop j).map pr2):=by
 rw[Xzu,Xz9,X3d,X3e]
 exact Tups.app (Xmv h i) (Tups.cons hp (Xmw h j))
abbrev NOk:List Str:=["_law_draw", "_law_row_here", "_law_kept_here", "_law_way", "_law_at", "_law_name", "_law_side"]
theorem most{α : Type}(f : α->Nat):∀l:List α,l≠[]->∃a∈l,∀b∈l,f b<=f a
 | [],h=>absurd rfl h
 | [a],_=>⟨a,Xzr,λb hb=>by rw[Xzs.mp hb];exact Xzn _⟩
 | a::c::r,_=>by
  obtain⟨m,hm,hl⟩:=most f (c::r) (by simp)
  by_cases q:f m<=f a
  ·exact⟨a,Xzr,λb hb=>by
    rcases Xzy.mp hb with e | e
    ·rw[e];exact Xzn _
    ·exact X0d (hl b e) q⟩
  ·exact⟨m,Xzq _ hm,λb hb=>by
    rcases Xzy.mp hb with e | e
    ·rw[e];omega
    ·exact hl b e⟩
theorem Xvs{row a b:List Str}(h2:∀y∈row,row.count y=2)(ha:Xah row a=true)(hb:Xah row b=true)(n:a≠b):
  ∃x c,Xah row c=true/\ne2 a b x=true/\∀y,y∈c↔if y=x then y∈b else y∈a:=by
 obtain⟨p1,p2,p3,p4⟩:=Xcx.mp ha
 obtain⟨q1,q2,q3,q4⟩:=Xcx.mp hb
 by_cases e:(a.filter λx => !decide (x∈b))=[]
 ·have sub:∀x∈a,x∈b:=λx hx=>Classical.byContradiction λz=>by
   have:x∈a.filter λx => !decide (x∈b):=Xzm.mpr ⟨hx,by simp[z]⟩
   rw[e] at this;cases this
  have ne:(b.filter λx => !decide (x∈a))≠[]:=λe2=>n (lt_uniq p1 q1 λx=>⟨sub x,λhx=>Classical.byContradiction λz=>by
   have:x∈b.filter λx => !decide (x∈a):=Xzm.mpr ⟨hx,by simp[z]⟩
   rw[e2] at this;cases this⟩)
  obtain⟨x,hx,mx⟩:=most (span row) _ ne
  obtain⟨hxb,hxa⟩:=Xzm.mp hx
  have hxa:x∉a:=by simpa using hxa
  refine⟨x,(dit row).filter (λy=>decide (y∈a)||decide (y=x)),?_,Xdi.mpr (.inr ⟨hxb,hxa⟩),λy=>?_⟩
  ·have mem:∀y,y∈(dit row).filter (λy=>decide (y∈a)||decide (y=x))↔y∈row/\(y∈a\/y=x):=λy=>by rw[Xzm,Xaj,X1l,decide_eq_true_eq,decide_eq_true_eq]
   refine Xcx.mpr ⟨(Xdt row).filter _,λy hy=>((mem y).mp hy).1,λy hy z hz w=>?_,λy hy z hz=>?_⟩
   ·refine(mem z).mpr ⟨hz,?_⟩
    rcases ((mem y).mp hy).2 with h | h
    ·exact .inl (p3 y h z hz w)
    ·rw[h] at w
     refine .inl (Classical.byContradiction λnz=>?_)
     have hzb:=q3 x hxb z hz w
     have:=mx z (Xzm.mpr ⟨hzb,by simp[nz]⟩)
     have:=Xej (h2 x (q2 x hxb)) w
     omega
   ·refine q4 y ?_ z ?_
    ·rcases ((mem y).mp hy).2 with h | h
     ·exact sub y h
     ·rw[h];exact hxb
    ·rcases ((mem z).mp hz).2 with h | h
     ·exact sub z h
     ·rw[h];exact hxb
  ·rw[Xzm,Xaj,X1l,decide_eq_true_eq,decide_eq_true_eq]
   by_cases z:y=x
   ·rw[X3n z];exact⟨λ_=>z ▸ hxb,λh=>⟨q2 y h,.inr z⟩⟩
   ·rw[X3m z];exact⟨λh=>h.2.elim id λq=>absurd q z,λh=>⟨p2 y h,.inl h⟩⟩
 ·obtain⟨x,hx,mx⟩:=least (span row) _ e
  obtain⟨hxa,hxb⟩:=Xzm.mp hx
  have hxb:x∉b:=by simpa using hxb
  refine⟨x,a.filter (λy=>decide (y≠x)),?_,Xdi.mpr (.inl ⟨hxa,hxb⟩),λy=>?_⟩
  ·refine Xcx.mpr ⟨Xkc p1,λy hy=>p2 y (Xzm.mp hy).1,λy hy z hz w=>?_,λy hy z hz=>p4 y (Xzm.mp hy).1 z (Xzm.mp hz).1⟩
   obtain⟨hy1,hy2⟩:=Xzm.mp hy
   refine Xzm.mpr ⟨p3 y hy1 z hz w,X3o λq=>?_⟩
   subst q
   have hyb:y∉b:=λh=>hxb (q3 y h z hz w)
   have:=mx y (Xzm.mpr ⟨hy1,by simp[hyb]⟩)
   have:=Xej (h2 y (p2 y hy1)) w
   omega
  ·rw[Xzm,decide_eq_true_eq]
   by_cases z:y=x
   ·rw[X3n z];exact⟨λh=>absurd z h.2,λh=>absurd (z ▸ h) hxb⟩
   ·rw[X3m z];exact⟨λh=>h.1,λh=>⟨h,z⟩⟩
def Xzg (Ts:List (List Str)) (W:List Str):Bool:=Ts.any λa=>Ts.any λb=>btw a b W
def Xzh (Ts Us:List (List Str)):Nat->List Str->Bool
 | 0,S=>decide (S∈Us)
 | k+1,S=>Xzg (Ts.filter (Xzh Ts Us k)) S
section
variable {row:List Str}{Ts Us:List (List Str)}
end
def Xny (Ts Ws:List (List Str)) (x:Str):Bool:=Ws.any λS=>decide (Xco S x∈Ts)
def Xf2 (Ts Ws:List (List Str)) (kept:List (Str×Str)):List (Str×Str):=kept.filter λq=>Xny Ts Ws q.1
def Xhp (Ts Ws:List (List Str)) (kept:List (Str×Str)):List Str:=(Xf2 Ts Ws kept).map (·.1)
theorem Xsv{α : Type}{A B:List α}{f : α->Bool}(h:∀x,x∈A↔x∈B):A.any f=B.any f:=by
 rw[X0y,X03,X03]
 exact⟨λ⟨x,a,b⟩=>⟨x,(h x).mp a,b⟩,λ⟨x,a,b⟩=>⟨x,(h x).mpr a,b⟩⟩
theorem Xqr{Ts Ts' Ws Ws':List (List Str)}(h:∀S,S∈Ts↔S∈Ts')(k:∀S,S∈Ws↔S∈Ws')(kept:List (Str×Str)):Xf2 Ts Ws kept=Xf2 Ts' Ws' kept:=by
 unfold Xf2
 congr 1
 funext q
 unfold Xny
 rw[Xsv k]
 congr 1
 funext S
 exact decide_eq_decide.mpr (h _)
theorem Xsw{S:List Str}{x n:Str}:n∈Xco S x↔(n∈S/\n≠x)\/(x∉S/\n=x):=by
 unfold Xco
 rw[Xds,Xzw,Xzm,decide_eq_true_eq]
 by_cases h:x∈S
 ·rw[X3n h];simp[h]
 ·rw[X3m h];simp[h]
theorem Xmx(S:List Str)(x:Str):xorL S [x]=Xco S x:=by
 unfold xorL Xco
 have e1:(S.filter λy => !decide (y∈[x]))=S.filter λy=>decide (y≠x):=by
  congr 1
  funext y
  by_cases z:y=x<;>simp[z]
 have e2:([x].filter λy => !decide (y∈S))=if x∈S then [] else [x]:=by
  by_cases z:x∈S<;>simp[z]
 rw[e1,e2]
theorem Xvt{S:List Str}(x:Str)(h:S.Nodup):(Xco S x).Pairwise ltS:=by
 rw[<-Xmx]
 exact Xtz h (by simp)
theorem Xsx{row:List Str}{kept:List (Str×Str)}{Ts Ws:List (List Str)}(h2:∀y∈row,row.count y=2)(hP:∀S,S∈Ts↔Xah row S=true)(hW:∀S,S∈Ws↔Xah row S=true/\keeps kept S=true)(ne:Ws≠[]):
  ∀S∈Ts,keeps (Xf2 Ts Ws kept) S=keeps kept S:=by
 intro p hp
 have pp:=(hP p).mp hp
 rw[X0y]
 constructor
 rotate_left
 ·exact λh=>Xcq.mpr λq hq=>Xcq.mp h q (Xzm.mp hq).1
 intro hk
 refine Classical.byContradiction λnp=>?_
 obtain⟨c,hc,mc⟩:=least (λc=>(xorL c p).length) _ ne
 obtain⟨pc,kc⟩:=(hW c).mp hc
 have ncp:c≠p:=λe=>np (e ▸ kc)
 obtain⟨x,c',pc',hx,hm⟩:=Xvs h2 pc pp ncp
 have b1:btw c p c'=true:=by
  rw[Xvq pc pp pc']
  rintro y ⟨y1,y2⟩
  have:=hm y
  by_cases z:y=x
  ·rw[X3n z] at this
   rcases Xdi.mp y2 with w | w
   ·exact w.2 (this.mp w.1)
   ·exact w.2 (this.mpr w.1)
  ·rw[X3m z] at this
   rcases Xdi.mp y1 with w | w
   ·exact w.2 (this.mpr w.1)
   ·exact w.2 (this.mp w.1)
 have ncc:c≠c':=λe=>by
  have:=hm x
  rw[X3n rfl,<-e] at this
  rcases Xdi.mp hx with w | w
  ·exact w.2 (this.mp w.1)
  ·exact w.2 (this.mpr w.1)
 have far:(xorL c' p).length<(xorL c p).length:=by
  unfold btw at b1
  have b1:=X3q b1
  have:(xorL c c').length≠0:=λz=>ncc (Xsq pc pc' z)
  omega
 have nk:¬keeps kept c'=true:=λh=>by
  have:=mc c' ((hW c').mpr ⟨pc',h⟩)
  omega
 obtain⟨q,hq,nq⟩:∃q∈kept,bk c' q.1≠q.2:=Classical.byContradiction λn=>nk (Xcq.mpr λq hq=>Classical.byContradiction λz=>n ⟨q,hq,z⟩)
 have kq:=Xcq.mp kc q hq
 have ex:q.1=x:=Classical.byContradiction λz=>nq (by
  rw[<-kq]
  have:=hm q.1
  rw[X3m z] at this
  exact Xx9.mpr this)
 have ec:Xco c x=c':=by
  refine lt_uniq (Xvt x (Xb8 (Xa2 pc).2)) (Xa2 pc').2 λn=>?_
  rw[Xsw,hm n]
  by_cases z:n=x
  ·rw[X3n z,z]
   rcases Xdi.mp hx with w | w
   ·exact⟨λh=>h.elim (λh=>absurd rfl h.2) λh=>absurd w.1 h.1,λh=>absurd h w.2⟩
   ·exact⟨λ_=>w.1,λ_=>.inr ⟨w.2,rfl⟩⟩
  ·rw[X3m z]
   exact⟨λh=>h.elim (λh=>h.1) λh=>absurd h.2 z,λh=>.inl ⟨h,z⟩⟩
 have hb:q∈Xf2 Ts Ws kept:=Xzm.mpr ⟨hq,by
  show Xny Ts Ws q.1=true
  unfold Xny
  rw[X03]
  exact⟨c,hc,X3o (by rw[ex,ec];exact(hP c').mpr pc')⟩⟩
 have kp:=Xcq.mp hk q hb
 have:=Xx9.mp (kq.trans kp.symm)
 rw[ex] at this
 rcases Xdi.mp hx with w | w
 ·exact w.2 (this.mp w.1)
 ·exact w.2 (this.mpr w.1)
theorem Xvu{row:List Str}{k1 k2:List (Str×Str)}{W1 W2:List (List Str)}(g1:Good row k1)(g2:Good row k2)(h1:∀S,S∈W1↔Xah row S=true/\keeps k1 S=true)(h2:∀S,S∈W2↔Xah row S=true/\keeps k2 S=true):
  k1.filter (λq=>decide (q∈k2))=Xa9 row (W1++W2):=by
 obtain⟨n1,e1⟩:=(Xfa h1).mp g1
 obtain⟨n2,e2⟩:=(Xfa h2).mp g2
 have n:W1++W2≠[]:=λz=>n1 (List.append_eq_nil_iff.mp z).1
 refine Xhi (g1.pw.filter _) (Xe9 ..) λq=>?_
 rw[Xzm,decide_eq_true_eq,<-e1,<-e2,show q=(q.1,q.2) from rfl,Xbt n1,Xbt n2,Xbt n]
 exact⟨λz=>⟨z.1.1,λS hS=>(Xzw.mp hS).elim (z.1.2 S) (z.2.2 S)⟩,λz=>⟨⟨z.1,λS hS=>z.2 S (X0w _ hS)⟩,z.1,λS hS=>z.2 S (X0f _ hS)⟩⟩
theorem Xqs{row:List Str}{k1 k2:List (Str×Str)}(g1:Good row k1)(g2:Good row k2):k2.filter (λq=>decide (q∈k1))=k1.filter (λq=>decide (q∈k2)):=
 Xhi (g2.pw.filter _) (g1.pw.filter _) λq=>by
  rw[Xzm,Xzm,decide_eq_true_eq,decide_eq_true_eq]
  exact⟨λh=>⟨h.2,h.1⟩,λh=>⟨h.2,h.1⟩⟩
theorem KpOk.filt{kept:List (Str×Str)}(h:KpOk kept)(f:Str×Str->Bool):KpOk (kept.filter f):=⟨X0d (X0e ..) h.len,λq hq=>h.ok q (Xzm.mp hq).1⟩
def spBorder (B T:Addr) (pos:Pos):Sp:=λvs H Q E=>∃(r k:Addr) (row:List Str) (kept:List (Str×Str)) (Ts Ws:List (List Str)),vs=[.ref r,.ref k]/\HeldAt H T pos r k row kept/\(∀S,S∈Ts↔Xah row S=true)/\(∀S,S∈Ws↔Xah row S=true/\keeps kept S=true) /\
 (Good row kept->∀(D:Addr) (H':Hp),H D=none->H' D=some (.lst ((Xhp Ts Ws kept).map V.str))->Xa5 T pos qIn H'->But T H H'->Q (.ref D) H') /\
 (¬Good row kept->∀H',Xa5 T pos qIn H'->But T H H'->E (.ref B) none H')
def Xgh (B T:Addr) (pos:Pos):Sp:=λvs H Q E=>∃(r k k2:Addr) (row:List Str) (kept other:List (Str×Str)),vs=[.ref r,.ref k,.ref k2]/\HeldAt H T pos r k row kept/\HeldAt H T pos r k2 row other /\
 (Good row kept->Good row other->∀(D:Addr) (qs:List Addr) (H':Hp),H D=none->H' D=some (.lst (qs.map V.ref))->Tups H' qs ((kept.filter λq=>decide (q∈other)).map pr2)->Xa5 T pos qIn H'->But T H H'->Q (.ref D) H') /\
 (¬(Good row kept/\Good row other)->∀H',Xa5 T pos qIn H'->But T H H'->E (.ref B) none H')
def spPairsL:Sp:=λvs H Q _=>∃(l:Addr) (ps:List Addr) (kept:List (Str×Str)),vs=[.ref l]/\H l=some (.lst (ps.map V.ref))/\Tups H ps (kept.map pr2)/\ps.length<=1000/\∀H',Same H H'->Q (.bl true) H'
def spAcross:Sp:=λvs H Q _=>∃(p:Addr) (ss:List Str) (x:Str),vs=[.ref p,.str x]/\H p=some (.tup (ss.map V.str))/\ss.Nodup/\ss.length<16 /\
 ∀q H',H q=none->H' q=some (.tup ((Xco ss x).map V.str))->Same H H'->Q (.ref q) H'
def Xls (T:Addr) (pos:Pos):Sp:=λvs H Q _=>∃(r k:Addr) (row:List Str) (kept:List (Str×Str)) (v:V) (Ts:List (List Str)),vs=[.ref r,.ref k,v]/\HeldAt H T pos r k row kept/\(∀S,S∈Ts↔Xah row S=true) /\
 ((v = .non/\¬Good row kept) \/ ∃(k2:Addr) (other:List (Str×Str)),v = .ref k2/\HeldAt H T pos r k2 row other/\¬(Good row kept/\Good row other)) /\
 ∀H',Xa5 T pos qIn H'->But T H H'->Q (.bl true) H'
theorem Xmy{K:PySem.W.Frag}{cap:List (Option Nat)}{tt:TT}{te:TE}{σ:L2.St}{H1:Hp}{F:Addr->Hp->Prop}{kp:Addr}{qs:List Addr}{kept:List (Str×Str)}(z1 z2:Option V)(hcap:capS cap σ=[none,none,z1,z2])(hk:H1 kp=some (.lst (qs.map V.ref)))(hq:Tups H1 qs (kept.map pr2))(hl:qs.length<=1000)(f:Str->Bool)
  (tst:∀(x b:Str) H2 Q,(x,b)∈kept->Same H1 H2->(∀H',Same H2 H'->Q (f x) H')->tt [some (.str x),some (.str b),z1,z2] H2 Q)
  (hte:∀(x:Str) (v2:Option V) H2 Q,Q (.str x) H2->te [some (.str x),v2,z1,z2] H2 Q)
  (hd:∀D H2,H1 D=none->Same H1 H2->H2 D=some (.lst (((kept.filter λq=>f q.1).map (·.1)).map V.str))->F D H2):tBlk cap (gTup K 2 (Xn7 (Xbm 0) (Xn7 (Xbm 1) gNil))) tt te (Itl K kp) σ H1 F:=by
 have hkl:kept.length=qs.length:=by
  have:=hq.1
  rw[Xzl] at this
  exact this.symm
 refine Xjf (n:=qs.length) (λj=>.ref (qs.getD j 0)) (λD i σ2 H2=>(∃u v, σ2=[u,v,z1,z2])/\Same H1 H2/\H2 D=some (.lst ((((kept.take i).filter λq=>f q.1).map (·.1)).map V.str))) ?_ ?_ ?_ ?_ ?_
 ·intro D hD
  exact⟨⟨_,_,hcap⟩,(Same.refl H1).step hD,Xab⟩
 ·rintro D i σ2 H2 hD hi ⟨_,s2,_⟩
  have:=Xbn (K:=K) (SqL.of (s2 _ _ hk)) (by rw[Xzl];exact hi)
  rw[Xa0 V.ref 0 qs hi] at this
  exact this
 ·rintro D σ2 H2 hD ⟨_,s2,_⟩
  have:=Xbo (K:=K) (SqL.of (s2 _ _ hk))
  rwa [Xzl] at this
 ·rintro D i σ2 H2 hD hi ⟨⟨u,v,rfl⟩,s2,hb⟩
  have hi':i<kept.length:=by rw[hkl];exact hi
  have ht:=s2 _ _ (hq.2 i hi)
  have eq:(kept.map pr2).getD i []=pr2 kept[i]:=by simp[List.getD,hi']
  rw[eq] at ht
  have htk:kept.take (i+1)=kept.take i++[kept[i]]:=Xzz hi'
  have hm:kept[i]∈kept:=X0b hi'
  generalize kept[i]=q at ht htk hm
  refine⟨_,_,rfl,SqT.of ht,rfl,_,_,rfl,_,_,rfl,rfl,?_⟩
  refine tst q.1 q.2 H2 _ hm s2 λH3 s3=>?_
  have hb3:=s3 _ _ hb
  have sm:∀{o:HO},Same H1 (upd H3 D o):=λb o e=>by
   rw[Xae (Xag e hD)]
   exact s3 _ _ (s2 _ _ e)
  refine ite2b (λhf=>?_) (λhf=>?_)
  ·refine hte q.1 _ H3 _ ⟨_,hb3,?_,wskip hi ⟨⟨_,_,rfl⟩,sm,?_⟩⟩
   ·rw[Xzl,Xzl,X3l]
    exact X2f (X0e ..) (by rw[X0c];omega)
   ·rw[Xab,htk,Xz5,Xzu,Xzu,X2l (p:=λq:Str×Str=>f q.1) (a:=q) hf]
    rfl
  ·refine wskip hi ⟨⟨_,_,rfl⟩,s2.trans s3,?_⟩
   rw[hb3,htk,Xz5,X2m (p:=λq:Str×Str=>f q.1) (a:=q) (by rw[hf];decide)]
   simp
 ·rintro D σ2 H2 hD ⟨_,s2,hb⟩
  rw[<-hkl,X0n] at hb
  exact hd D H2 hD s2 hb
abbrev NBd:List Str:=["row", "kept", "some", "there"]
abbrev NBd1:List Str:=["name", "side", "some", "there"]
abbrev NBd2:List Str:=["plot", "name", "there"]
abbrev NJn:List Str:=["row", "kept", "other"]
abbrev NJn1:List Str:=["pair", "other"]
end SH
namespace K35
open PySem PySem.Spec PyProof.Rows L2 SH
def top (i:Nat):Stmt:=PySem.Challenge.pw_shoretold_k35_borders_and_joined_grounds.main.body.getD i (.Pass ⟨0,0,0,0⟩)
abbrev sAsk:Stmt:=top 5
abbrev sDitches:Stmt:=top 6
abbrev sEnds:Stmt:=top 7
abbrev sSpans:Stmt:=top 8
abbrev sLieOf:Stmt:=top 9
abbrev sCross:Stmt:=top 10
abbrev sTold:Stmt:=top 12
abbrev s_in_order:Stmt:=top 13
abbrev s_plots:Stmt:=top 14
abbrev s_bank_of:Stmt:=top 15
abbrev s_parting:Stmt:=top 17
abbrev s_across:Stmt:=top 18
abbrev s_lies_on:Stmt:=top 20
abbrev s_shared:Stmt:=top 21
abbrev s_held:Stmt:=top 22
abbrev s_border:Stmt:=top 23
abbrev s_joined:Stmt:=top 24
abbrev sBegin:Stmt:=top 26
abbrev sPick:Stmt:=top 27
abbrev sPut:Stmt:=top 28
abbrev sWhere:Stmt:=top 29
abbrev sWord:Stmt:=top 30
abbrev sBarred:Stmt:=top 31
abbrev sRow:Stmt:=top 32
abbrev sNames:Stmt:=top 33
abbrev sIsland:Stmt:=top 34
abbrev s__law_bars:Stmt:=top 35
abbrev s__law_fits:Stmt:=top 36
abbrev s__law_plots:Stmt:=top 37
abbrev s__law_kept:Stmt:=top 38
abbrev s__law_one:Stmt:=top 39
abbrev s__law_few:Stmt:=top 40
abbrev s__law_stranger:Stmt:=top 41
abbrev s__law_odd_kept:Stmt:=top 42
abbrev s__law_keeps:Stmt:=top 43
abbrev s__law_held:Stmt:=top 44
abbrev s__law_good_kept:Stmt:=top 45
abbrev s__law_flip:Stmt:=top 46
abbrev sTexts:Stmt:=top 47
abbrev s__law_tuple:Stmt:=top 48
abbrev s__law_pairs:Stmt:=top 49
abbrev s__law_refused:Stmt:=top 50
abbrev s_law:Stmt:=top 51
abbrev NWo:List Str:=["_law_where_here", "_law_one_here", "_law_other", "_law_low", "_law_high", "_law_inner"]
abbrev NBc:List Str:=["_law_one_here", "_law_name", "_law_where_here"]
abbrev NFl1:List Str:=["_law_one_here", "_law_name"]
abbrev NFi:List Str:=["_law_bars_here", "_law_plot", "_law_one_here", "_law_other", "_law_word_here"]
abbrev NBr:List Str:=["_law_row_here", "_law_where_here", "_law_told", "_law_one_here", "_law_other", "_law_word_here"]
section
variable {P:Program}{w:World}{K:PySem.W.Frag}{mg:Str->Option Value}{base:Heap}
theorem Xzi:FnScope ["row", "name"] ["row", "name"] (defScope sAsk):=⟨rfl,rfl,rfl,by decide +kernel,rfl,by decide +kernel,by decide +kernel⟩
theorem Xyd{f C:Addr}{fd:FuncData}(F:Fun K "ask_ditch" "ask_ditch" sAsk f fd)(hC:mg "NoDitch" = some (.ref C))(hc:PySem.W.excIn K C bmV "ValueError.__new__" = true):
  FnOk P w K mg base (CX1 P w) 1 f fd ["row", "name"] (Xu3 C):=by
 refine F.ok1 Xzi (λvs H Q E h=>?_) (λcdv A outer s H vs Q E hr h=>?_)
 ·obtain⟨r,row,x,rfl,_⟩:=h
  rfl
 ·obtain⟨r,row,x,rfl,hR,⟨hx1,hx2⟩,kq,ke⟩:=h
  refine⟨_,Xaf (Xb0 (Xam Xdo (pv 1) (pv 0) (by rfl))
   (Xaf (Xl6 (C:=C) (E:=E) hc rfl leaves1 (by rfl) hC (Xaa (Xox (Xow (by decide +kernel) (Xut (pv 1) (Xow (by decide +kernel) Xtl)))) Xac))) Xay),?_⟩
  refine⟨_,rfl,_,rfl,r,_,rfl,.inl (SqL.of hR),rfl,Xb5 row,_,rfl,?_⟩
  rw[Xc0]
  by_cases hx:x∈row
  ·refine Xy2 hx ?_
   exact kq hx H (Same.refl H)
  ·rw[X3p hx]
   refine iteT ?_
   refine⟨_,rfl,x,rfl,by omega,(λc h=>X1q (hx2 c h) (by decide)),λz=>?_⟩
   exact⟨by show 1<=sizeLine;decide,ke hx H (Same.refl H)⟩
theorem Xqt:FnScope ["row"] ["row"] (defScope sDitches):=⟨rfl,rfl,rfl,by decide +kernel,rfl,by decide +kernel,by decide +kernel⟩
theorem Xnz{f:Addr}{fd:FuncData}(F:Fun K "ditches" "ditches" sDitches f fd)(T:Bl mg):FnOk P w K mg base CX0 1 f fd ["row"] spDitches:=by
 refine F.ok Xqt (λvs H Q E h=>?_) (λcdv A outer s H vs Q E hr h=>?_)
 ·obtain⟨r,row,rfl,_⟩:=h
  rfl
 ·obtain⟨r,row,rfl,hR,hl,k⟩:=h
  refine⟨_,Xaf (Xan (Xal (Xcd rfl) (by rfl) T.sorted (by rfl) (Xaa (Xa8 (Xev rfl) (by rfl) T.set (by rfl) (Xaa (pv 0) Xac)) Xac))),?_⟩
  refine⟨_,rfl,r,row,rfl,.inl (SqL.of hR),by unfold scanBound;omega,λa na=>?_⟩
  have hdl:=Xdz row
  refine⟨a,ddup row,rfl,Xab,by omega,λl ls nl hp hs=>?_⟩
  have s1:Same H (upd H a (SetO P w a (ddup row))):=(Same.refl H).step na
  refine k l _ (s1.free nl) ?_ (s1.step nl)
  rw[Xab,Xgz hp hs]
  rfl
theorem Xt3:FnScope NEn ["row", "name"] (defScope sEnds):=⟨rfl,rfl,rfl,by decide +kernel,rfl,by decide +kernel,by decide +kernel⟩
theorem Xvv{f C:Addr}{fd:FuncData}(F:Fun K "ends" "ends" sEnds f fd)(T:Bl mg)(FA:Fn P w K mg base (CX1 P w) 1 "ask_ditch" ["row", "name"] (Xu3 C)):
  FnOk P w K mg base (CX1 P w) 2 f fd ["row", "name"] (Xpk C):=by
 refine F.ok1 Xt3 (λvs H Q E h=>?_) (λcdv A outer s H vs Q E hr h=>?_)
 ·obtain⟨r,row,x,rfl,_⟩:=h
  rfl
 ·obtain⟨r,row,x,rfl,hR,hx,hl,kq,ke⟩:=h
  refine⟨_,Xad (Xc8 (Xap FA hr rfl pass1 (Xaa (pv 0) (Xaa (pv 1) Xac))))
   (Xad (Xg4 (i:=2) (N:=NEc) (cap:=[none,none,some 1]) (CompScope.of (defScope sEnds) NEn rfl rfl rfl (by decide +kernel)) rfl Xt3.nd rfl rfl
    (Xus (by rfl) T.enum (Xaa (pv 0) Xac))
    (λ_ _ _=>Xfj K 2 rfl rfl (Xa3 (Xak (i:=0) (show NEc.Nodup by decide +kernel) rfl (Or.inl rfl) (Or.inr rfl)) (Xa3 (Xak (i:=1) (show NEc.Nodup by decide +kernel) rfl (Or.inl rfl) (Or.inr rfl)) Xc9)))
    (λ_ _ _=>Xbq (Xam Xcz (pv 1) (pv 2) (nomark _))) (λ_ _ _=>pv 0))
   (Xaf (Xan (Xbw (Xaa (Xba Xaz (pv 2) Xai (λ_ _=>rfl)) (Xaa (Xba Xaz (pv 2) Xai (λ_ _=>rfl)) Xac)))))),?_⟩
  refine⟨_,rfl,_,rfl,r,row,x,rfl,hR,hx,λhin H1 s1=>?_,ke⟩
  obtain⟨a,b,hab,kq⟩:=kq hin
  refine⟨_,rfl,r,rfl,⟨_,SqL.of (s1 _ _ hR)⟩,?_⟩
  refine Xrv (K:=K) (p:=0) (q:=1) (by decide) (SqL.of (s1 _ _ hR)) (by rw[Xzl,X3l];omega) (λi=>decide (row.getD i Str.empty=x)) (λi=>.int i) ?_ ?_ ?_
  ·intro i v H2 Q' hv s2 k
   obtain⟨y,rfl,hy⟩:∃y,v=V.str y/\row.getD i Str.empty=y:=by
    rw[Xz4] at hv
    cases q:row[i]? with
    | none=>rw[q] at hv;cases hv
    | some y=>rw[q] at hv;exact⟨y,(Xz3 hv).symm,by simp[List.getD,q]⟩
   refine⟨_,rfl,_,rfl,rfl,_,rfl,?_⟩
   have:=k H2 (Same.refl _)
   rw[hy] at this
   have e:decide (V.str y=V.str x)=decide (y=x):=by
    by_cases z:y=x
    ·rw[z];simp
    ·rw[X3p z,X3p (λq=>z (by injection q))]
   rw[e]
   exact this
  ·intro i v H2 Q' hv hk s2 k
   exact⟨_,rfl,k H2 (Same.refl _)⟩
  ·intro D H2 nD s2 hD
   have hD':H2 D=some (.lst [.int a,.int b]):=by
    rw[hD,Xzl]
    have:=congrArg (List.map V.int) ((Xg6 row x).trans hab)
    rw[X0h] at this
    rw[show ((List.range row.length).filter λi=>decide (row.getD i Str.empty=x)).map (λi:Nat=>V.int (i:Int))=_ from this]
    rfl
   refine⟨_,rfl,_,_,_,_,rfl,rfl,SqL.of hD',rfl,_,rfl,_,_,_,_,rfl,rfl,SqL.of hD',rfl,by show 2<=sizeLine;decide,λp np=>?_⟩
   have s3:=s1.trans s2
   exact kq p _ (s3.free np) Xab (s3.step np)
theorem Xvw:FnScope ["row"] ["row"] (defScope sSpans):=⟨rfl,rfl,rfl,by decide +kernel,rfl,by decide +kernel,by decide +kernel⟩
theorem Xsy{f C:Addr}{fd:FuncData}(F:Fun K "spans" "spans" sSpans f fd)(FD:Fn P w K mg base CX0 1 "ditches" ["row"] spDitches)(FE:Fn P w K mg base (CX1 P w) 2 "ends" ["row", "name"] (Xpk C)):
  FnOk P w K mg base CX0 3 f fd ["row"] spSpans:=by
 refine F.ok Xvw (λvs H Q E h=>?_) (λcdv A outer s H vs Q E hr h=>?_)
 ·obtain⟨r,row,rfl,_⟩:=h
  rfl
 ·obtain⟨r,row,rfl,hR,R2,k⟩:=h
  have hr1:Room 1 _:=hr.mono (by decide)
  refine⟨_,Xaf (Xan (Xie (N:=NSp) (cap:=[none,some 0]) (CompScope.of (defScope sSpans) ["row"] rfl rfl rfl (by decide +kernel)) rfl
   (Xa4 (Xap FD hr1 (by rfl) pass0 (Xaa (pv 0) Xac))) (λ_ _ _=>Xak (i:=0) (show NSp.Nodup by decide +kernel) rfl (Or.inl rfl) (Or.inr rfl)) (λ_ _ _=>Xbd)
   (λ_ _ _=>pv 0) (λ_ _ _=>Xap (by exact FE) (by exact hr) (by rfl) Xo5 (Xaa (pv 1) (Xaa (pv 0) Xac))))),?_⟩
  have hl:=R2.len
  refine⟨_,rfl,r,row,rfl,hR,hl,λdi H1 ndi hdi s1=>?_⟩
  refine⟨di,rfl,⟨_,SqL.of hdi⟩,λD nD=>?_⟩
  have hn:∀i,i<(dit row).length->((dit row).map V.str).getD i .non = .str ((dit row).getD i Str.empty):=λi hi=>Xa0 V.str Str.empty _ hi
  have hR1:=s1 _ _ hR
  have hdl:=Xed row
  refine⟨wN (dit row).length λi σ2 H2=>(∃v, σ2=[v,some (.ref r)])/\Same H1 H2/\∃kvs,H2 D=some (.dK kvs)/\Spn H2 kvs row ((dit row).take i),⟨(dit row).length,by simp,X0m _,⟨none,rfl⟩,(Same.refl H1).step nD,[],Xab,⟨rfl,λx hx=>by simp at hx⟩⟩,?_⟩
  rintro i m σ1 H2 ⟨rfl,hi,⟨v,rfl⟩,s2,kvs,hD,sp⟩
  by_cases hlt:i<(dit row).length
  ·have hlt':i<((dit row).map V.str).length:=by rw[Xzl];exact hlt
   obtain⟨g1,g2⟩:=Xbn (K:=K) (SqL.of (s2 _ _ hdi)) hlt'
   refine .inr ⟨g1,λx H3 y=>?_⟩
   obtain⟨e1,e2⟩:=g2 x H3 y
   subst e1 e2
   rw[hn i hlt]
   generalize hx:(dit row).getD i Str.empty=x
   have hxd:x∈dit row:=by rw[<-hx];exact Xb6 hlt
   have hxr:=Xaj.mp hxd
   have htk:(dit row).take (i+1)=(dit row).take i++[x]:=by
    rw[Xzz hlt,<-hx]
    simp[List.getD,hlt]
   have hnx:x∉(dit row).take i:=by
    have nd:=Xg0 row
    have h2:((dit row).take (i+1)).Nodup:=nd.sublist (X1i ..)
    rw[htk] at h2
    exact λz=>(X02.mp h2).2.2 x z x (by simp) rfl
   refine⟨_,rfl,_,rfl,_,rfl,r,row,x,rfl,s2 _ _ hR1,R2.ok x hxr,by omega,λ_=>⟨_,_,Xg7 (R2.two x hxr),λl H4 nl hl4 s4=>?_⟩,λz=>absurd hxr z⟩
   have hD4:=s4 _ _ hD
   have kl:kvs.length<=60:=by
    have:=sp.len
    rw[X0c] at this
    omega
   refine⟨kvs,Sum.inr x,rfl,hD4,by rw[X3l];omega,?_⟩
   refine wskip hlt ⟨⟨_,rfl⟩,λb u e=>?_,_,Xab,?_⟩
   ·rw[Xae (Xag e nD)]
    exact s4 _ _ (s2 b u e)
   ·rw[htk]
    refine sp.snoc hnx ?_ λb xs e=>?_
    ·rw[Xae (λz=>by rw[z,hD4] at hl4;cases hl4)]
     exact hl4
    ·have e4:=s4 _ _ e
     rw[Xae (λz=>by rw[z,hD4] at e4;cases e4)]
     exact e4
  ·have ei:i=(dit row).length:=by omega
   subst ei
   refine .inl ⟨by have:=Xbo (K:=K) (SqL.of (s2 _ _ hdi));rwa [Xzl] at this,?_⟩
   rw[X0n] at sp
   exact k D kvs H2 (s1.free nD) hD sp (s1.trans s2)
theorem Xlt:FnScope NLo ["here", "there"] (defScope sLieOf):=⟨rfl,rfl,rfl,by decide +kernel,rfl,by decide +kernel,by decide +kernel⟩
theorem Xsz{f:Addr}{fd:FuncData}(F:Fun K "lie_of" "lie_of" sLieOf f fd):FnOk P w K mg base CX0 2 f fd ["here", "there"] spLieOf:=by
 refine F.ok Xlt (λvs H Q E h=>?_) (λcdv A outer s H vs Q E hr h=>?_)
 ·obtain⟨p,q,a,b,c,e,rfl,_⟩:=h
  rfl
 ·obtain⟨p,q,a,b,c,e,rfl,hp,hq,l4,k⟩:=h
  refine⟨_,Xad (Xb0 (Xam (Xjw (hu3 hr)) (pv 0) (pv 1) (nomark _)) (Xaf (Xan Xaw)) Xay)
   (Xad (Xao (i:=2) Xlt.nd rfl (Or.inl rfl) (Xly Xf0 Xf0 (Xba (Xci K (by rfl)) (pv 1) Xai (λ_ _=>rfl)) (Xba (Xci K (by rfl)) (pv 0) Xai (λ_ _=>rfl)) (Xba (Xci K (by rfl)) (pv 1) Xai (λ_ _=>rfl))))
   (Xad (Xao (i:=3) Xlt.nd rfl (Or.inl rfl) (Xly Xf0 Xf0 (Xba (Xci K (by rfl)) (pv 1) Xai (λ_ _=>rfl)) (Xba (Xci K (by rfl)) (pv 0) Xai (λ_ _=>rfl)) (Xba (Xci K (by rfl)) (pv 1) Xai (λ_ _=>rfl))))
   (Xad (Xb0 (Xam Xt8 (pv 2) (pv 3) (nomark _)) (Xaf (Xan Xaw)) Xay)
   (Xad (Xb0 (Xc1 (pv 2)) (Xaf (Xan Xaw)) Xay)
   (Xaf (Xan (Xek (Xre Xf0 Xf0 (Xba (Xci K (by rfl)) (pv 0) Xai (λ_ _=>rfl)) (Xba (Xci K (by rfl)) (pv 1) Xai (λ_ _=>rfl)) (Xba (Xci K (by rfl)) (pv 0) Xai (λ_ _=>rfl))) Xaw Xaw))))))),?_⟩
  have d2:∀{r:Addr} {x y:Int},H r=some (.tup [.int x,.int y])->DAt H (.tuple [.int x,.int y]) (.ref r):=λ{r x y} h=>Xk0 h (Xpb [x,y])
  refine⟨_,rfl,_,rfl,.tuple [.int a,.int b],.tuple [.int c,.int e],d2 hp,d2 hq,rfl,rfl,(by show min (max 0 (max 0 0)+1) (max 0 (max 0 0)+1)<=3;decide),_,rfl,?_⟩
  have ee:PyData.eqv (.tuple [.int a,.int b]) (.tuple [.int c,.int e])=decide (a=c/\b=e):=by
   rw[X0y,Xg5 _ _ rfl rfl]
   simp
  rw[ee]
  have kk:=k H (Same.refl H)
  refine ite2b (λh1=>?_) (λh1=>?_)
  ·unfold lieT at kk
   rw[X3n (X3q h1)] at kk
   exact kk
  ·have h1:=X3r h1
   dsimp only[Xt7,tSeq,tAsg,Xbm]
   refine Xg8 (x:=c) (y:=a) (z:=e) (λQ' h=>⟨_,rfl,q,_,_,_,rfl,rfl,SqT.of hq,rfl,h⟩) (λQ' h=>⟨_,rfl,p,_,_,_,rfl,rfl,SqT.of hp,rfl,h⟩) (λQ' h=>⟨_,rfl,q,_,_,_,rfl,rfl,SqT.of hq,rfl,h⟩) ?_
   refine Xg8 (x:=c) (y:=b) (z:=e) (λQ' h=>⟨_,rfl,q,_,_,_,rfl,rfl,SqT.of hq,rfl,h⟩) (λQ' h=>⟨_,rfl,p,_,_,_,rfl,rfl,SqT.of hp,rfl,h⟩) (λQ' h=>⟨_,rfl,q,_,_,_,rfl,rfl,SqT.of hq,rfl,h⟩) ?_
   refine⟨_,rfl,_,rfl,rfl,_,rfl,?_⟩
   rw[Xod]
   refine ite2b (λh2=>?_) (λh2=>?_)
   ·rw[Xxn h1 (by simpa using h2)] at kk
    exact kk
   ·refine⟨_,rfl,_,rfl,?_⟩
    refine ite2b (λh3=>?_) (λh3=>?_)
    ·rw[Xxo h1 (by simpa using h2) h3] at kk
     exact kk
    ·rw[Xu4 l4 h1 (by simpa using h2) h3] at kk
     dsimp only[Xt7,tRet,tIf,Xt9]
     refine Xg8 (x:=a) (y:=c) (z:=b) (λQ' h=>⟨_,rfl,p,_,_,_,rfl,rfl,SqT.of hp,rfl,h⟩) (λQ' h=>⟨_,rfl,q,_,_,_,rfl,rfl,SqT.of hq,rfl,h⟩) (λQ' h=>⟨_,rfl,p,_,_,_,rfl,rfl,SqT.of hp,rfl,h⟩) ⟨_,rfl,?_⟩
     refine ite2b (λh4=>?_) (λh4=>?_)
     ·rw[X3n h4] at kk
      exact kk
     ·rw[X3m (by rw[h4];exact Xz1)] at kk
      exact kk
theorem Xqu:FnScope NCr ["row"] (defScope sCross):=⟨rfl,rfl,rfl,by decide +kernel,rfl,by decide +kernel,by decide +kernel⟩
theorem Xkn{f:Addr}{fd:FuncData}(F:Fun K "crossings" "crossings" sCross f fd)(FS:Fn P w K mg base CX0 3 "spans" ["row"] spSpans)(FO:Fn P w K mg base CX0 2 "lie_of" ["here", "there"] spLieOf):
  FnOk P w K mg base CX0 4 f fd ["row"] Xeg:=by
 refine F.ok Xqu (λvs H Q E h=>?_) (λcdv A outer s H vs Q E hr h=>?_)
 ·obtain⟨r,row,rfl,_⟩:=h
  rfl
 ·obtain⟨r,row,rfl,hR,R2,k⟩:=h
  have hu:=Xh7 hr
  have hr2:Room 2 _:=hr.mono (by decide)
  refine⟨_,Xad (Xao (i:=1) Xqu.nd rfl (Or.inr rfl) (Xap FS hr (by rfl) pass0 (Xaa (pv 0) Xac)))
   (Xaf (Xan (Xry (N:=NCc) (cap:=[none,none,some 1]) (CompScope.of (defScope sCross) NCr rfl rfl rfl (by decide +kernel)) rfl
    (Xd2 (pv 1)) (λ_ _ _=>Xak (i:=0) (show NCc.Nodup by decide +kernel) rfl (Or.inl rfl) (Or.inr rfl)) (λ_ _ _=>Xbd)
    (λ_ _ _=>Xd2 (pv 2)) (λ_ _ _=>Xak (i:=1) (show NCc.Nodup by decide +kernel) rfl (Or.inl rfl) (Or.inr rfl))
    (λ_ _ _=>Xbq (Xgl (Xam Xi1 (pv 0) (pv 1) (nomark _)) (Xea (Xam Xcz (Xap (by exact FO) (by exact hr2) (by rfl) pass0 (Xaa (Xb4 hu (pv 2) (pv 0) (λ_ _=>rfl)) (Xaa (Xb4 hu (pv 2) (pv 1) (λ_ _=>rfl)) Xac))) Xaw (nomark _)))).pt)
    (λ_ _ _=>Xbw (Xaa (pv 0) (Xaa (pv 1) Xac)))))),?_⟩
  have hl:=R2.len
  have hdl:=Xed row
  refine⟨_,rfl,r,row,rfl,hR,R2,λd kvs H1 nd hd sp s1=>?_⟩
  refine⟨_,rfl,d,kvs,rfl,.inl ⟨hd,λo D nD=>?_⟩⟩
  generalize hH2:upd H1 d (.frz o (.dK kvs))=H2 at nD
  have s2:Same H H2:=λb u e=>by rw[<-hH2,Xae (Xag e nd)];exact s1 b u e
  have hd2:H2 d=some (.frz o (.dK kvs)):=by rw[<-hH2];exact Xab
  have sp2:Spn H2 kvs row (dit row):=⟨sp.keys,λx hx=>let ⟨l,h1,h2⟩:=sp.val x hx; ⟨l,h1,by rw[<-hH2,Xae (λz=>by rw[z,hd] at h2;cases h2)];exact h2⟩⟩
  have kl:=sp2.len
  have go:∀i H3,i<(dit row).length->Same H2 H3->(Itd d o kvs).go i H3/\∀x H4,(Itd d o kvs).yld i H3 x H4->H4=H3/\x = .str ((dit row).getD i Str.empty):=λi H3 hi s3=>by
   have:=Xgv (kvs:=kvs) (s3 _ _ hd2) (by omega:i<kvs.length)
   rw[sp2.at i hi] at this
   exact this
  have stp:∀H3,Same H2 H3->(Itd d o kvs).stop (dit row).length H3:=λH3 s3=>by
   have:=Xgw (kvs:=kvs) (s3 _ _ hd2)
   rwa [kl] at this
  let ns:=dit row
  let ok:Nat->Nat->Bool:=λi j=>decide (ltS (ns.getD i Str.empty) (ns.getD j Str.empty))&&decide (lieR row (ns.getD i Str.empty) (ns.getD j Str.empty) = "cross")
  let part:Nat->List PyData:=λi=>((List.range ns.length).filter (ok i)).map λj=>prD (ns.getD i Str.empty,ns.getD j Str.empty)
  have hpl:∀i,(part i).length<=60:=λi=>by
   show (List.map _ _).length<=60
   rw[Xzl]
   refine X0d (X0e ..) ?_
   rw[X0j]
   show (dit row).length<=60
   omega
  have hacc:∀i,((List.range i).flatMap part).length<=60 * i:=λi=>by
   induction i with
   | zero=>simp
   | succ i ih=>
    rw[X0u,X21,Xzx]
    have:=hpl i
    simp only[X3b,List.flatMap_nil,X0t]
    omega
  refine Xxh (H0:=H2) (xs0:=[]) (n:=ns.length) (λi=>.str (ns.getD i Str.empty)) (λi=>(List.range i).flatMap part) nD ((Same.refl H2).step nD) Xab Xct (fun σ1=>∃v0 v1, σ1=[v0,v1,some (.ref d)]) ⟨none,none,rfl⟩ go stp ?_ ?_
  ·rintro i σ1 xs H3 Q' hi ⟨v0,v1,rfl⟩ s3 hD hal kk
   have hxi:=Xb6 hi
   refine⟨_,rfl,d,kvs,rfl,.inr ⟨o,s3 _ _ hd2,?_⟩⟩
   refine Xph (H0:=H2) (n:=ns.length) (λj=>.str (ns.getD j Str.empty)) (ok i) (λj=>prD (ns.getD i Str.empty,ns.getD j Str.empty)) ((List.range i).flatMap part) nD s3 hD hal ?_ go stp ?_ ?_ ?_
   ·have:=hacc i
    have h2:i<60:=by have:i<(dit row).length:=hi;omega
    have h3:ns.length<=60:=by show (dit row).length<=60;omega
    rw[X3l]
    omega
   ·intro j H4 Q2 hj s4 k2
    have hxj:=Xb6 hj
    refine⟨_,rfl,_,rfl,_,_,rfl,rfl,_,rfl,?_⟩
    refine ite2b (λq1=>?_) (λq1=>?_)
    ·obtain⟨l1,g1,t1⟩:=(sp2.mono s4).get (.inr ⟨o,s4 _ _ hd2⟩) hxi
     obtain⟨l2,g2,t2⟩:=(sp2.mono s4).get (.inr ⟨o,s4 _ _ hd2⟩) hxj
     refine⟨_,rfl,_,rfl,d,_,rfl,g1,_,rfl,_,rfl,d,_,rfl,g2,l1,l2,_,_,_,_,rfl,t1,t2,lie4 (R2.two _ (Xaj.mp hxi)) (R2.two _ (Xaj.mp hxj)),λH5 s5=>?_⟩
     refine⟨rfl,_,rfl,?_⟩
     rw[Xcu]
     have:=k2 H5 s5
     have e1:ok i j=decide (lieR row (ns.getD i Str.empty) (ns.getD j Str.empty) = "cross"):=by
      show (decide _&&decide _)=_
      have q1':decide (ltS (ns.getD i Str.empty) (ns.getD j Str.empty))=true:=q1
      rw[q1',X09]
     rw[e1] at this
     exact this
    ·have:=k2 H4 (Same.refl _)
     have e1:ok i j=false:=by
      show (decide _&&decide _)=_
      have q1':decide (ltS (ns.getD i Str.empty) (ns.getD j Str.empty))=false:=q1
      rw[q1',X08]
     rw[e1] at this
     exact this
   ·intro j xs' H4 Q2 hj hk s4 hD4 k2
    refine⟨_,rfl,_,rfl,by show 2<=sizeLine;decide,λp np=>?_⟩
    exact k2 _ _ ((Same.refl H4).step np) (Xpg hD4 np (Xcn [ns.getD i Str.empty,ns.getD j Str.empty]))
   ·intro σ' H4 xs' e s4 hD4 hal4
    refine kk σ' H4 xs' ?_ s4 hD4 ?_
    ·have l1 : σ'.length=3:=by
      have:=congrArg List.length (e none)
      simpa using this
     match σ',l1,e with
     | [w0,w1,w2],_,e=>
      have:=e none
      simp at this
      exact⟨w0,w1,by rw[this.2]⟩
    ·rw[X0u,X21,X3b,List.flatMap_nil,X0t]
     exact hal4
  ·intro σ' H3 xs s3 hD hal
   refine k D xs H3 (s2.free nD) hD ?_ (s2.trans s3)
   have e:(List.range ns.length).flatMap part=(crs row).map prD:=by
    have e1:crs row=(List.range ns.length).flatMap λi=>((List.range ns.length).filter (ok i)).map λj=>(ns.getD i Str.empty,ns.getD j Str.empty):=by
     have em:dit row=(List.range ns.length).map λi=>ns.getD i Str.empty:=by
      have:=Xa7 Str.empty (λ_=>true) (dit row)
      rw[X0o.mpr (λ_ _=>rfl),X0o.mpr (λ_ _=>rfl)] at this
      exact this.symm
     show (dit row).flatMap _=_
     conv=>lhs;rw[em]
     rw[List.flatMap_map]
     congr 1
     funext i
     have:=Xa7 Str.empty (λy=>decide (ltS (ns.getD i Str.empty) y)&&decide (lieR row (ns.getD i Str.empty) y = "cross")) (dit row)
     rw[<-em,<-this,X0h]
     rfl
    rw[e1,List.map_flatMap]
    congr 1
    funext i
    rw[X0h]
    rfl
   rw[<-e]
   exact hal
theorem Xye:FnScope ["names"] ["names"] (defScope sTold):=⟨rfl,rfl,rfl,by decide +kernel,rfl,by decide +kernel,by decide +kernel⟩
theorem Xvx{f:Addr}{fd:FuncData}(F:Fun K "told" "told" sTold f fd)(T:Bl mg):FnOk P w K mg base CX0 1 f fd ["names"] (spTold K):=by
 refine F.ok Xye (λvs H Q E h=>?_) (λcdv A outer s H vs Q E hr h=>?_)
 ·obtain⟨p,ss,rfl,_⟩:=h
  rfl
 ·obtain⟨p,ss,rfl,hR,hl,k⟩:=h
  refine⟨_,Xaf (Xan (Xa8 Xck (by rfl) T.tuple (by rfl) (Xaa (Xal (Xcd rfl) (by rfl) T.sorted (by rfl) (Xaa (Xa8 (Xev rfl) (by rfl) T.set (by rfl) (Xaa (pv 0) Xac)) Xac)) Xac))),?_⟩
  refine⟨_,rfl,p,ss,rfl,hR,by unfold scanBound;omega,λa na=>?_⟩
  have hdl:=Xdz ss
  refine⟨a,ddup ss,rfl,Xab,by omega,λl ls nl hp hs=>?_⟩
  have s1:Same H (upd H a (SetO P w a (ddup ss))):=(Same.refl H).step na
  refine⟨l,_,rfl,.inl ⟨SqL.of Xab,λt nt=>?_⟩⟩
  have s2:=s1.step (o:=.lst (ls.map V.str)) nl
  refine k t _ (s2.free nt) ?_ (s2.step nt)
  rw[Xab,Xgz hp hs]
  rfl
theorem Xqv:FnScope ["some"] ["some"] (defScope s_in_order):=⟨rfl,rfl,rfl,by decide +kernel,rfl,by decide +kernel,by decide +kernel⟩
theorem Xn0{f T:Addr}{fd:FuncData}(F:FunT K "in_order" s_in_order f fd T)(B:Bl mg)(hbm:BmOk mg base):FnOk P w K mg base CX0 4 f fd ["some"] (spInOrder T (lamPos s_in_order)):=by
 refine F.ok Xqv (λvs H Q E h=>?_) (λc0 hhd A outer s H vs Q E hr h=>?_)
 ·obtain⟨l,ps,Ts,rfl,_⟩:=h
  rfl
 ·obtain⟨l,ps,Ts,rfl,hl,hT,nd,h64,tab,k⟩:=h
  refine⟨_,Xaf (Xan (Xsc (show (A.deeper (envOfC "in_order" (defScope s_in_order) s.heap.objs.size f (.ref c0))).units+1+1<cLine by have:=hr.un;omega) (by rfl) B.sorted (by rfl) (Xaa (pv 0) Xac) (Xuc (Xxk (T:=T) (c0:=c0) (q:=qIn) hbm rfl rfl rfl hhd rfl) Xwr))),?_⟩
  refine⟨_,rfl,⟨tab,λf' c pm ctv H' nf hf hc tab' kp=>?_⟩⟩
  have nlT:∀b o,H b=some o->(∀z,o ≠ .tbl z)->b≠T:=λb o e n z=>by
   rcases tab with q | ⟨_,q,_⟩<;>(rw[z,q] at e;cases e;exact n _ rfl)
  have hT':Tups H' ps Ts:=⟨hT.1,λi hi=>kp _ _ (hT.2 i hi) (nlT _ _ (hT.2 i hi) λz=>by simp)⟩
  refine⟨l,f',ps,Ts,rfl,rfl,kp _ _ hl (nlT _ _ hl λz=>by simp),hT',nd,h64,?_,λD p H2 nD g so sm hD=>?_⟩
  ·refine Xp5 (k:=0) (x := "plot") hf hc ⟨rfl,rfl,rfl,by decide +kernel,rfl,by decide +kernel,by decide +kernel⟩ hr (λu=>rfl) λA1 outer1 s1 H1 i hi sm hr1=>?_
   refine⟨_,Xbw (Xaa (Xal Xaq (by rfl) B.len boot_len (Xaa (pv 0) Xac)) (Xaa (pv 0) Xac)),λQ1 kk=>?_⟩
   have hp:=sm _ _ (hT'.2 i hi)
   refine⟨_,rfl,ps.getD i 0,_,rfl,.inr (SqT.of hp),_,rfl,by show 2<=sizeLine;decide,λt nt=>?_⟩
   refine kk t _ ?_ (Same.upd0 nt)
   rw[Xab,Xzl]
  ·obtain⟨pm',so'⟩:=Xnu (Ts:=Ts) (by rw[<-hT.1];exact g) (by rw[<-hT.1];exact so)
   refine k D _ _ H2 ?_ hD ((Xvm hT' g).same sm) pm' so' (SH.Xa5.same tab' sm) λb o e n=>sm _ _ (kp b o e n)
   cases e:H D with
   | none=>rfl
   | some o=>
    by_cases z:D=T
    ·rcases tab' with q | ⟨_,q,_⟩<;>(rw[<-z,nD] at q;cases q)
    ·rw[kp D o e z] at nD;cases nD
theorem Xfc:FnScope NPp ["row"] (defScope s_plots):=⟨rfl,rfl,rfl,by decide +kernel,rfl,by decide +kernel,by decide +kernel⟩
theorem Xqw{f T:Addr}{fd:FuncData}(F:Fun K "plots" "plots" s_plots f fd)(FS:Fn P w K mg base CX0 3 "spans" ["row"] spSpans)(FO:Fn P w K mg base CX0 2 "lie_of" ["here", "there"] spLieOf)(FT:Fn P w K mg base CX0 1 "told" ["names"] (spTold K))(FC:Fn P w K mg base CX0 4 "crossings" ["row"] Xeg)
  (FI:Fn P w K mg base CX0 4 "in_order" ["some"] (spInOrder T (lamPos s_in_order))):FnOk P w K mg base CX0 5 f fd ["row"] (Xgf T (lamPos s_in_order)):=by
 refine F.ok Xfc (λvs H Q E h=>?_) (λcdv A outer s H vs Q E hr h=>?_)
 ·obtain⟨r,row,rfl,_⟩:=h
  rfl
 ·obtain⟨r,row,rfl,hR,R2,h3,h14,tab,k⟩:=h
  have hu:=Xh7 hr
  have hr1:Room 1 _:=hr.mono (by decide)
  have hr2:Room 2 _:=hr.mono (by decide)
  have hr3:Room 3 _:=hr.mono (by decide)
  refine⟨_,Xad (Xao (i:=1) Xfc.nd rfl (Or.inr rfl) (Xap FS hr3 (by rfl) pass0 (Xaa (pv 0) Xac)))
   (Xad (Xao (i:=2) Xfc.nd rfl (Or.inr rfl) (Xie (N:=NPo) (cap:=[none,some 1]) (CompScope.of (defScope s_plots) NPp rfl rfl rfl (by decide +kernel)) rfl
    (Xd2 (pv 1)) (λ_ _ _=>Xak (i:=0) (show NPo.Nodup by decide +kernel) rfl (Or.inr rfl) (Or.inl rfl)) (λ_ _ _=>Xbd) (λ_ _ _=>pv 0)
    (λs0 H0 ex=>Xbu (N:=NPi) (cap:=[none,some 0,some 1]) (CompScope.of _ NPo rfl rfl rfl (by kernel_rfl)) rfl
     (Xd2 (pv 1)) (λ_ _ _=>Xak (i:=0) (show NPi.Nodup by decide +kernel) rfl (Or.inl rfl) (Or.inr rfl))
     (λ_ _ _=>Xbq (Xam (Xd0 K (by rfl)) (Xap (by exact FO) (by exact hr2) (by rfl) pass0 (Xaa (Xb4 hu (pv 2) (pv 1) (λ_ _=>rfl)) (Xaa (Xb4 hu (pv 2) (pv 0) (λ_ _=>rfl)) Xac))) (Xbw (Xaa Xaw (Xaa Xaw Xac))) (by rfl)))
     (λ_ _ _=>pv 0))))
   (Xad (Xms (i:=3) (N:=NPs) (cap:=[none,some 2]) (CompScope.of (defScope s_plots) NPp rfl rfl rfl (by decide +kernel)) rfl Xfc.nd rfl rfl
    (Xd2 (pv 2)) (λ_ _ _=>Xak (i:=0) (show NPs.Nodup by decide +kernel) rfl (Or.inl rfl) (Or.inr rfl)) (λ_ _ _=>Xbd)
    (λ_ _ _=>Xap (by exact FT) (by exact hr1) (by rfl) pass0 (Xaa (Xb4 hu (pv 1) (pv 0) (λ_ _=>rfl)) Xac)))
   (Xad (Xms (i:=4) (N:=NPd) (cap:=[none,none,some 2]) (CompScope.of (defScope s_plots) NPp rfl rfl rfl (by decide +kernel)) rfl Xfc.nd rfl rfl
    (Xa4 (Xap FC hr (by rfl) pass0 (Xaa (pv 0) Xac))) (λ_ _ _=>Xfj K 2 rfl rfl (Xa3 (Xak (i:=0) (show NPd.Nodup by decide +kernel) rfl (Or.inl rfl) (Or.inr rfl)) (Xa3 (Xak (i:=1) (show NPd.Nodup by decide +kernel) rfl (Or.inl rfl) (Or.inr rfl)) Xc9))) (λ_ _ _=>Xbd)
    (λ_ _ _=>Xap (by exact FT) (by exact hr1) (by rfl) pass0 (Xaa (Xar Xbi (Xb4 hu (pv 2) (pv 0) (λ_ _=>rfl)) (Xb4 hu (pv 2) (pv 1) (λ_ _=>rfl))) Xac)))
   (Xaf (Xan (Xap FI hr (by rfl) pass0 (Xaa (Xar Xbi (Xar Xbi (Xbl (Xaa (Xbw Xac) Xac)) (pv 3)) (pv 4)) Xac))))))),?_⟩
  have hl:=R2.len
  have hdl:=Xed row
  refine⟨_,rfl,r,row,rfl,hR,R2,λd kvs H1 nd hd sp s1=>?_⟩
  refine⟨_,rfl,d,kvs,rfl,.inl ⟨hd,λo D nD=>?_⟩⟩
  generalize hH2:upd H1 d (.frz o (.dK kvs))=H2 at nD
  have s2:Same H H2:=λb u e=>by rw[<-hH2,Xae (Xag e nd)];exact s1 b u e
  have hd2:H2 d=some (.frz o (.dK kvs)):=by rw[<-hH2];exact Xab
  have sp2:Spn H2 kvs row (dit row):=⟨sp.keys,λx hx=>let ⟨l,h1,h2⟩:=sp.val x hx; ⟨l,h1,by rw[<-hH2,Xae (λz=>by rw[z,hd] at h2;cases h2)];exact h2⟩⟩
  have kl:=sp2.len
  have go:∀i H3,i<(dit row).length->Same H2 H3->(Itd d o kvs).go i H3/\∀x H4,(Itd d o kvs).yld i H3 x H4->H4=H3/\x = .str ((dit row).getD i Str.empty):=λi H3 hi s3=>by
   have:=Xgv (kvs:=kvs) (s3 _ _ hd2) (by omega:i<kvs.length)
   rw[sp2.at i hi] at this
   exact this
  have stp:∀H3,Same H2 H3->(Itd d o kvs).stop (dit row).length H3:=λH3 s3=>by
   have:=Xgw (kvs:=kvs) (s3 _ _ hd2)
   rwa [kl] at this
  refine⟨wN (dit row).length λi σ2 H3=>(∃v, σ2=[v,some (.ref d)])/\Same H2 H3/\∃kv2,H3 D=some (.dK kv2)/\Offs H3 kv2 row ((dit row).take i),⟨(dit row).length,by simp,X0m _,⟨none,rfl⟩,(Same.refl H2).step nD,[],Xab,⟨rfl,λx hx=>by simp at hx⟩⟩,?_⟩
  rintro i m σ1 H3 ⟨rfl,hi,⟨v,rfl⟩,s3,kv2,hD,ofs⟩
  by_cases hlt:i<(dit row).length
  ·obtain⟨g1,g2⟩:=go i H3 hlt s3
   refine .inr ⟨g1,λx H4 y=>?_⟩
   obtain⟨e1,e2⟩:=g2 x H4 y
   subst e1 e2
   generalize hx:(dit row).getD i Str.empty=x
   have hxd:x∈dit row:=by rw[<-hx];exact Xb6 hlt
   have hxr:=Xaj.mp hxd
   have htk:(dit row).take (i+1)=(dit row).take i++[x]:=by
    rw[Xzz hlt,<-hx]
    simp[List.getD,hlt]
   have hnx:x∉(dit row).take i:=by
    have nd:=Xg0 row
    have h2:((dit row).take (i+1)).Nodup:=nd.sublist (X1i ..)
    rw[htk] at h2
    exact λz=>(X02.mp h2).2.2 x z x (by simp) rfl
   refine⟨_,rfl,_,rfl,d,kvs,rfl,.inr ⟨o,s3 _ _ hd2,?_⟩⟩
   refine Xdf (n:=(dit row).length) (by rw[X3l];omega) (λj=>.str ((dit row).getD j Str.empty)) (λj=>upB row x ((dit row).getD j Str.empty)) (λj=>.str ((dit row).getD j Str.empty)) ?_ ?_ ?_ ?_ ?_
   ·exact λj H5 hj s5=>go j H5 hj (s3.trans s5)
   ·exact λH5 s5=>stp H5 (s3.trans s5)
   ·intro j H5 Q' hj s5 kk
    have s25:=s3.trans s5
    have hxj:=Xb6 hj
    obtain⟨l1,gg1,t1⟩:=(sp2.mono s25).get (.inr ⟨o,s25 _ _ hd2⟩) hxd
    obtain⟨l2,gg2,t2⟩:=(sp2.mono s25).get (.inr ⟨o,s25 _ _ hd2⟩) hxj
    refine⟨_,rfl,_,rfl,d,_,rfl,gg1,_,rfl,_,rfl,d,_,rfl,gg2,l1,l2,_,_,_,_,rfl,t1,t2,lie4 (R2.two x hxr) (R2.two _ (Xaj.mp hxj)),λH6 s6=>?_⟩
    refine⟨by show 2<=sizeLine;decide,λt nt=>?_⟩
    refine⟨t,[Str.ofString "same",Str.ofString "within"].map V.str,rfl,.inr (SqT.of Xab),rfl,Xb5 _,_,rfl,?_⟩
    rw[X3m (by decide),Xc0]
    have e:=Xvn (row:=row) (x:=x) (y:=(dit row).getD j Str.empty) (R2.two x hxr) (R2.two _ (Xaj.mp hxj))
    unfold lieR at e
    rw[e]
    exact kk _ (s6.step nt)
   ·intro j H5 Q' hj hk s5 kk
    exact⟨_,rfl,kk H5 (Same.refl _)⟩
   ·intro l H5 nl s5 hl5
    have hl5':H5 l=some (.lst (((dit row).filter (upB row x)).map V.str)):=by
     rw[hl5,<-Xa7 Str.empty (upB row x) (dit row),X0h]
     rfl
    have hD5:=s5 _ _ hD
    have kl2:kv2.length<=60:=by
     have:=ofs.len
     rw[X0c] at this
     omega
    refine⟨kv2,Sum.inr x,rfl,hD5,by rw[X3l];omega,?_⟩
    refine wskip hlt ⟨⟨_,rfl⟩,λb u e=>?_,_,Xab,?_⟩
    ·rw[Xae (Xag e nD)]
     exact s5 _ _ (s3 b u e)
    ·rw[htk]
     refine ofs.snoc hnx ?_ λb xs e=>?_
     ·rw[Xae (λz=>by rw[z,hD5] at hl5';cases hl5')]
      exact hl5'
     ·have e4:=s5 _ _ e
      rw[Xae (λz=>by rw[z,hD5] at e4;cases e4)]
      exact e4
  ·have ei:i=(dit row).length:=by omega
   subst ei
   refine .inl ⟨stp H3 s3,?_⟩
   rw[X0n] at ofs
   have s03:=s2.trans s3
   refine⟨_,rfl,D,kv2,rfl,.inl ⟨hD,λo2 L nL=>?_⟩⟩
   generalize hH4:upd H3 D (.frz o2 (.dK kv2))=H4 at nL
   have nD0:H D=none:=s2.free nD
   have s4:Same H H4:=λb u e=>by rw[<-hH4,Xae (Xag e nD0)];exact s03 b u e
   have hD4:H4 D=some (.frz o2 (.dK kv2)):=by rw[<-hH4];exact Xab
   have of4:Offs H4 kv2 row (dit row):=⟨ofs.keys,λx hx=>let ⟨l,h1,h2⟩:=ofs.val x hx; ⟨l,h1,by rw[<-hH4,Xae (λz=>by rw[z,hD] at h2;cases h2)];exact h2⟩⟩
   have kl2:=of4.len
   have fl:∀x,((dit row).filter (upB row x)).length<=14:=λx=>X0d (X0e ..) (by omega)
   refine Xph (H0:=H4) (xs0:=[]) (n:=(dit row).length) (λj=>.str ((dit row).getD j Str.empty)) (λ_=>true) (λj=>tupD ((dit row).filter (upB row ((dit row).getD j Str.empty)))) [] nL ((Same.refl H4).step nL) Xab Xct (by rw[X3l,X1d];omega) ?_ ?_ ?_ ?_ ?_
   ·intro j H5 hj s5
    have:=Xgv (kvs:=kv2) (s5 _ _ hD4) (by omega:j<kv2.length)
    rw[of4.at j hj] at this
    exact this
   ·intro H5 s5
    have:=Xgw (kvs:=kv2) (s5 _ _ hD4)
    rwa [kl2] at this
   ·exact λj H5 Q' hj s5 kk=>kk H5 (Same.refl _)
   ·intro j xs H5 Q' hj _ s5 hL5 kk
    obtain⟨l,gg,hl5⟩:=(of4.mono s5).get (.inr ⟨o2,s5 _ _ hD4⟩) (Xb6 hj)
    refine⟨_,rfl,_,rfl,D,_,rfl,gg,l,_,rfl,.inl (SqL.of hl5),by have:=fl ((dit row).getD j Str.empty);omega,λt H6 nt ht s6=>?_⟩
    rw[Xil ((Xdt row).filter _)] at ht
    refine kk _ H6 s6 (Xcv ?_)
    have hL6:=s6 _ _ hL5
    unfold hid
    rw[X3m (λz=>by rw[z,hL6] at ht;cases ht)]
    exact ht
   ·intro σ' H5 xs e s5 hL5 hal
    have e1:([]:List PyData)++((List.range (dit row).length).filter λ_=>true).map (λj=>tupD ((dit row).filter (upB row ((dit row).getD j Str.empty))))=((dit row).map λa=>(dit row).filter (upB row a)).map tupD:=by
     have:=Xa7 Str.empty (λ_=>true) (dit row)
     rw[X0o.mpr (λ_ _=>rfl),X0o.mpr (λ_ _=>rfl)] at this
     have q:=congrArg (List.map λa=>tupD ((dit row).filter (upB row a))) this
     rw[X0h] at q
     rw[X12,X0o.mpr (λ_ _=>rfl),X0h]
     exact q
    rw[e1] at hal
    obtain⟨ps1,rfl,ht1⟩:=Xhf hal
    have ht1:Tups H5 ps1 _:=ht1.same (Xd3 L H5)
    have s05:=s4.trans s5
    refine⟨_,rfl,r,row,rfl,s05 _ _ hR,R2,λcl xs2 H6 ncl hcl hal6 s6=>?_⟩
    refine⟨cl,rfl,⟨_,SqL.of hcl⟩,λM nM=>?_⟩
    have hxl:xs2.length=(crs row).length:=by
     have:=Xd1 hal6
     simpa using this
    have of6:=(of4.mono s5).mono s6
    have hD6:=s6 _ _ (s5 _ _ hD4)
    have c49:=Xts R2.two h3 (by omega)
    refine⟨wN (crs row).length λi σ2 H7=>(∃u v, σ2=[u,v,some (.ref D)])/\Same H6 H7/\∃qs:List Addr,H7 M=some (.lst (qs.map V.ref))/\Tups H7 qs (((crs row).take i).map λq=>(dit row).filter λy=>upB row q.1 y||upB row q.2 y),⟨(crs row).length,by simp,X0m _,⟨none,none,rfl⟩,(Same.refl H6).step nM,[],Xab,Tups.nil _⟩,?_⟩
    rintro i m σ1 H7 ⟨rfl,hi,⟨u,v,rfl⟩,s7,qs,hM,htq⟩
    by_cases hlt:i<(crs row).length
    ·obtain⟨g1,g2⟩:=Xbn (K:=K) (SqL.of (s7 _ _ hcl)) (by omega:i<xs2.length)
     refine .inr ⟨g1,λx H8 y=>?_⟩
     obtain⟨e1,e2⟩:=g2 x H8 y
     subst e1 e2
     obtain⟨v1,hv,hdat⟩:=Xif (i:=i) (d:=prD ((crs row)[i])) hal6 (by rw[Xz4,Xzo hlt];rfl)
     have hq:=X0b hlt
     generalize hqe:(crs row)[i]=q at hdat hq
     obtain⟨hq1,hq2,_,_⟩:=Xkj hq
     have ev:xs2.getD i .non=v1:=by simp[List.getD,hv]
     rw[ev]
     unfold prD DAt at hdat
     obtain⟨pp,ys,rfl,hpp,hys⟩:=hdat
     obtain rfl:=Xb7 (ss:=[q.1,q.2]) hys
     have hpp6:=Xd3 cl H6 _ _ hpp
     have htk:(crs row).take (i+1)=(crs row).take i++[q]:=by
      rw[Xzz hlt,hqe]
     obtain⟨l1,gg1,hl1⟩:=(of6.mono s7).get (.inr ⟨o2,s7 _ _ hD6⟩) (Xaj.mpr hq1)
     obtain⟨l2,gg2,hl2⟩:=(of6.mono s7).get (.inr ⟨o2,s7 _ _ hD6⟩) (Xaj.mpr hq2)
     have f1:=fl q.1
     have f2:=fl q.2
     refine⟨pp,_,rfl,SqT.of (s7 _ _ hpp6),rfl,_,_,rfl,_,_,rfl,rfl,?_⟩
     refine⟨_,rfl,_,rfl,D,_,rfl,gg1,_,rfl,_,rfl,D,_,rfl,gg2,l1,l2,_,_,rfl,rfl,hl1,hl2,by rw[Xzl,Xzl,X3l];omega,λc nc=>?_⟩
     refine⟨c,(dit row).filter (upB row q.1)++(dit row).filter (upB row q.2),rfl,.inl (by rw[Xzu];exact SqL.of Xab),by rw[Xzx];omega,λt H9 nt ht s9=>?_⟩
     have s79:Same H8 H9:=((Same.refl H8).step nc).trans s9
     have hM9:=s79 _ _ hM
     have et:told ((dit row).filter (upB row q.1)++(dit row).filter (upB row q.2))=(dit row).filter λy=>upB row q.1 y||upB row q.2 y:=by
      refine lt_uniq (Xk6 _) ((Xdt row).filter _) λz=>?_
      rw[Xr4,Xzw,Xzm,Xzm,Xzm,X1l,<-and_or_left]
     rw[et] at ht
     have hql:qs.length<=49:=by
      have:=htq.1
      rw[Xzl,X0c] at this
      omega
     refine⟨_,hM9,by rw[Xzl,X3l];omega,?_⟩
     have keepM:∀b w,H9 b=some (.tup w)->upd H9 M (.lst (qs.map V.ref++[.ref t])) b=some (.tup w):=λb w e=>by
      rw[Xae (λz=>by rw[z,hM9] at e;cases e)]
      exact e
     refine wskip hlt ⟨⟨_,_,rfl⟩,λb w e=>?_,qs++[t],by rw[Xab,Xzu];rfl,?_⟩
     ·rw[Xae (Xag e nM)]
      exact s79 _ _ (s7 b w e)
     ·rw[htk,Xzu]
      refine Tups.app ⟨htq.1,λj hj=>keepM _ _ (s79 _ _ (htq.2 j hj))⟩ (Tups.cons (keepM _ _ ht) (Tups.nil _))
    ·have ei:i=(crs row).length:=by omega
     subst ei
     refine .inl ⟨by have:=Xbo (K:=K) (SqL.of (s7 _ _ hcl));rwa [hxl] at this,?_⟩
     rw[X0n] at htq
     have s57:=s6.trans s7
     have hL7:=s57 _ _ hL5
     have ht7:=ht1.same s57
     have s07:=s05.trans s57
     refine⟨X0m _,λe0 ne0=>⟨by show 1<=sizeLine;decide,λz nz=>?_⟩⟩
     generalize hHa:upd H7 e0 (.tup [])=Ha at nz
     have sa:Same H7 Ha:=by rw[<-hHa];exact(Same.refl H7).step ne0
     have he0:Ha e0=some (.tup (([]:List Str).map V.str)):=by rw[<-hHa];exact Xab
     generalize hHb:upd Ha z (.lst [.ref e0])=Hb
     have sb:Same Ha Hb:=by rw[<-hHb];exact(Same.refl Ha).step nz
     have hz:Hb z=some (.lst [.ref e0]):=by rw[<-hHb];exact Xab
     have l1:ps1.length=(dit row).length:=by have:=ht1.1;simpa using this
     have l2:qs.length=(crs row).length:=by have:=htq.1;simpa using this
     have s7b:=sa.trans sb
     refine⟨_,rfl,z,L,_,_,rfl,rfl,hz,s7b _ _ hL7,by rw[Xzl,X0z,X3l];omega,λc1 n1=>?_⟩
     generalize hHc:upd Hb c1 (.lst ([.ref e0]++ps1.map V.ref))=Hc
     have sc:Same Hb Hc:=by rw[<-hHc];exact(Same.refl Hb).step n1
     have hc1:Hc c1=some (.lst ([.ref e0]++ps1.map V.ref)):=by rw[<-hHc];exact Xab
     have s7c:=s7b.trans sc
     refine⟨_,rfl,c1,M,_,_,rfl,rfl,hc1,s7c _ _ hM,by rw[Xzx,Xzl,Xzl,X0z,X3l];omega,λc2 n2=>?_⟩
     generalize hHd:upd Hc c2 (.lst (([.ref e0]++ps1.map V.ref)++qs.map V.ref))=Hd
     have sd:Same Hc Hd:=by rw[<-hHd];exact(Same.refl Hc).step n2
     have hc2:Hd c2=some (.lst ((e0::(ps1++qs)).map V.ref)):=by
      rw[<-hHd,Xab,Xz9,Xzu]
      rfl
     have s7d:=s7c.trans sd
     have s0d:=s07.trans s7d
     have hTs:Tups Hd (e0::(ps1++qs)) ([]::cands row):=Tups.cons ((sb.trans (sc.trans sd)) _ _ he0) (Tups.app (ht7.same s7d) (htq.same s7d))
     refine⟨c2,e0::(ps1++qs),[]::cands row,rfl,hc2,hTs,Xx6 R2.two,by rw[Xz6,Xzx];omega,SH.Xa5.same tab s0d,λD' ps' Ts' H' nD' hD' hT' pm so tab' bt=>?_⟩
     refine k D' ps' Ts' H' (s0d.free nD') hD' hT' (λS=>(pm.mem_iff).trans (Xqh R2.two h3 S)) so ?_ tab' λb w e n=>bt _ _ (s0d _ _ e) n
     rw[hT'.1,pm.length_eq,<-hTs.1,Xz6,Xzx]
     omega
theorem Xs0:FnScope ["plot", "name"] ["plot", "name"] (defScope s_bank_of):=⟨rfl,rfl,rfl,by decide +kernel,rfl,by decide +kernel,by decide +kernel⟩
theorem Xqx{f:Addr}{fd:FuncData}(F:Fun K "bank_of" "bank_of" s_bank_of f fd):FnOk P w K mg base CX0 1 f fd ["plot", "name"] spBankOf:=by
 refine F.ok Xs0 (λvs H Q E h=>?_) (λcdv A outer s H vs Q E hr h=>?_)
 ·obtain⟨p,ss,x,rfl,_⟩:=h
  rfl
 ·obtain⟨p,ss,x,rfl,hP,k⟩:=h
  refine⟨_,Xaf (Xan (Xek (Xam Xeo (pv 1) (pv 0) (by rfl)) Xaw Xaw)),?_⟩
  refine⟨_,rfl,_,rfl,p,_,rfl,.inr (SqT.of hP),rfl,Xb5 ss,_,rfl,?_⟩
  rw[X3m (by decide),Xc0]
  have:=k H (Same.refl H)
  by_cases z:x∈ss
  ·rw[X3n z] at this
   rw[X3o z]
   exact iteT this
  ·rw[X3m z] at this
   rw[X3p z]
   exact iteF this
theorem Xqy:FnScope ["one", "other"] ["one", "other"] (defScope s_parting):=⟨rfl,rfl,rfl,by decide +kernel,rfl,by decide +kernel,by decide +kernel⟩
theorem Xn1{f:Addr}{fd:FuncData}(F:Fun K "parting" "parting" s_parting f fd)(T:Bl mg):FnOk P w K mg base CX0 1 f fd ["one", "other"] spParting:=by
 refine F.ok Xqy (λvs H Q E h=>?_) (λcdv A outer s H vs Q E hr h=>?_)
 ·obtain⟨p,q,a,b,rfl,_⟩:=h
  rfl
 ·obtain⟨p,q,a,b,rfl,hP,hQ,na,nb,la,lb,k⟩:=h
  refine⟨_,Xaf (Xan (Xal (Xcd rfl) (by rfl) T.sorted (by rfl) (Xaa (Xar Xvl (Xa8 (Xev rfl) (by rfl) T.set (by rfl) (Xaa (pv 0) Xac)) (Xa8 (Xev rfl) (by rfl) T.set (by rfl) (Xaa (pv 1) Xac))) Xac))),?_⟩
  refine⟨_,rfl,p,a,rfl,.inr (SqT.of hP),by unfold scanBound;omega,λa1 n1=>?_⟩
  refine⟨_,rfl,q,b,rfl,.inr (SqT.of (ku hQ n1)),by unfold scanBound;omega,λa2 n2=>?_⟩
  have pa:=Xik na
  have pb:=Xik nb
  refine⟨a1,a2,_,_,rfl,rfl,ku Xab n2,Xab,Xec a,Xec b,by rw[pa.length_eq];exact la,by rw[pb.length_eq];exact lb,λc zs nc ndz lz mz=>?_⟩
  refine⟨c,zs,rfl,Xab,by omega,λl ls nl pl so=>?_⟩
  refine k l _ ?_ ?_ ?_
  ·exact(((Same.refl H).step n1).step n2).free ((Same.refl _).step nc |>.free nl)
  ·rw[Xab,Xgz pl so,xor_srt na nb ndz λy=>by rw[mz,pa.mem_iff,pb.mem_iff]]
  ·exact((((Same.refl H).step n1).step n2).step nc).step nl
theorem Xs1:FnScope ["plot", "name"] ["plot", "name"] (defScope s_across):=⟨rfl,rfl,rfl,by decide +kernel,rfl,by decide +kernel,by decide +kernel⟩
theorem Xqz{f:Addr}{fd:FuncData}(F:Fun K "across" "across" s_across f fd)(B:Bl mg)(FP:Fn P w K mg base CX0 1 "parting" ["one", "other"] spParting):FnOk P w K mg base CX0 2 f fd ["plot", "name"] spAcross:=by
 refine F.ok Xs1 (λvs H Q E h=>?_) (λcdv A outer s H vs Q E hr h=>?_)
 ·obtain⟨p,ss,x,rfl,_⟩:=h
  rfl
 ·obtain⟨p,ss,x,rfl,hp,nd,hl,k⟩:=h
  have hr1:Room 1 _:=hr.mono (by decide)
  refine⟨_,Xaf (Xan (Xa8 Xck (by rfl) B.tuple (by rfl) (Xaa (Xap FP hr1 (by rfl) pass0 (Xaa (pv 0) (Xaa (Xbw (Xaa (pv 1) Xac)) Xac))) Xac))),?_⟩
  refine⟨_,rfl,_,rfl,by show 1<=sizeLine;decide,λt nt=>?_⟩
  refine⟨p,t,ss,[x],rfl,ku hp nt,Xab,nd,by simp,hl,by show 1<16;decide,λl H1 nl hl1 s1=>?_⟩
  rw[Xmx] at hl1
  refine⟨l,_,rfl,.inl ⟨SqL.of hl1,λq nq=>?_⟩⟩
  have s0:=((Same.refl H).step nt (o:=.tup [.str x])).trans s1
  exact k q _ (s0.free nq) Xab (s0.step nq)
theorem Xs2:FnScope ["plot", "kept"] ["plot", "kept"] (defScope s_lies_on):=⟨rfl,rfl,rfl,by decide +kernel,rfl,by decide +kernel,by decide +kernel⟩
theorem Xq0{f:Addr}{fd:FuncData}(F:Fun K "lies_on" "lies_on" s_lies_on f fd)(B:Bl mg)(FB:Fn P w K mg base CX0 1 "bank_of" ["plot", "name"] spBankOf):FnOk P w K mg base CX0 2 f fd ["plot", "kept"] spLiesOn:=by
 refine F.ok Xs2 (λvs H Q E h=>?_) (λcdv A outer s H vs Q E hr h=>?_)
 ·obtain⟨p,kp,S,qs,kept,rfl,_⟩:=h
  rfl
 ·obtain⟨p,kp,S,qs,kept,rfl,hp,hk,hT,hl,k⟩:=h
  have hr1:Room 1 _:=hr.mono (by decide)
  refine⟨_,Xaf (Xan (Xal (Xes rfl) (by rfl) B.all (by rfl) (Xaa (Xbu (N:=NLo1) (cap:=[none,none,some 0]) (CompScope.of (defScope s_lies_on) ["plot", "kept"] rfl rfl rfl (by decide +kernel)) rfl
   (Xa4 (pv 1)) (λ_ _ _=>Xfj K 2 rfl rfl (Xa3 (Xak (i:=0) (show NLo1.Nodup by decide +kernel) rfl (Or.inl rfl) (Or.inr rfl)) (Xa3 (Xak (i:=1) (show NLo1.Nodup by decide +kernel) rfl (Or.inl rfl) (Or.inr rfl)) Xc9))) (λ_ _ _=>Xbd)
   (λ_ _ _=>Xby Xcz (Xap (by exact FB) (by exact hr1) (by rfl) pass0 (Xaa (pv 2) (Xaa (pv 0) Xac))) (pv 1) (nomark _))) Xac))),?_⟩
  refine⟨_,rfl,kp,rfl,⟨_,SqL.of hk⟩,?_⟩
  have hkl:kept.length=qs.length:=by
   have:=hT.1
   rw[Xzl] at this
   exact this.symm
  refine Xjf (n:=qs.length) (λj=>.ref (qs.getD j 0)) (λD i σ2 H2=>(∃u v, σ2=[u,v,some (.ref p)])/\Same H H2/\H2 D=some (.lst (((kept.take i).map λq=>decide (bk S q.1=q.2)).map V.bl))) ?_ ?_ ?_ ?_ ?_
  ·intro D hD
   exact⟨⟨_,_,rfl⟩,(Same.refl H).step hD,Xab⟩
  ·rintro D i σ2 H2 hD hi ⟨_,s2,_⟩
   have:=Xbn (K:=K) (SqL.of (s2 _ _ hk)) (by rw[Xzl];exact hi)
   rw[Xa0 V.ref 0 qs hi] at this
   exact this
  ·rintro D σ2 H2 hD ⟨_,s2,_⟩
   have:=Xbo (K:=K) (SqL.of (s2 _ _ hk))
   rwa [Xzl] at this
  ·rintro D i σ2 H2 hD hi ⟨⟨u,v,rfl⟩,s2,hb⟩
   have hi':i<kept.length:=by rw[hkl];exact hi
   have ht:=s2 _ _ (hT.2 i hi)
   have eq:(kept.map pr2).getD i []=pr2 kept[i]:=by simp[List.getD,hi']
   rw[eq] at ht
   have htk:kept.take (i+1)=kept.take i++[kept[i]]:=Xzz hi'
   generalize kept[i]=q at ht htk
   refine⟨_,_,rfl,SqT.of ht,rfl,_,_,rfl,_,_,rfl,rfl,?_⟩
   dsimp only[tYes]
   rw[X3n rfl]
   refine⟨_,rfl,_,rfl,p,S,q.1,rfl,s2 _ _ hp,λH3 s3=>⟨_,rfl,rfl,?_⟩⟩
   rw[Xcu]
   refine⟨_,s3 _ _ hb,by rw[Xzl,Xzl,X0c,X3l];omega,wskip hi ⟨⟨_,_,rfl⟩,λb o e=>?_,?_⟩⟩
   ·rw[Xae (Xag e hD)]
    exact s3 _ _ (s2 _ _ e)
   ·rw[Xab,htk,Xzu,Xzu]
    rfl
  ·rintro D σ2 H2 hD ⟨_,s2,hb⟩
   rw[<-hkl,X0n] at hb
   refine⟨D,_,rfl,hb,?_⟩
   have e:(kept.map λq=>decide (bk S q.1=q.2)).all id=keeps kept S:=by
    unfold keeps
    rw[List.all_map]
    rfl
   rw[e]
   exact k H2 s2
theorem Xmz:FnScope NSh ["row", "some"] (defScope s_shared):=⟨rfl,rfl,rfl,by decide +kernel,rfl,by decide +kernel,by decide +kernel⟩
theorem Xq1{f:Addr}{fd:FuncData}(F:Fun K "shared" "shared" s_shared f fd)(B:Bl mg)(FD:Fn P w K mg base CX0 1 "ditches" ["row"] spDitches)(FB:Fn P w K mg base CX0 1 "bank_of" ["plot", "name"] spBankOf):
  FnOk P w K mg base CX0 2 f fd ["row", "some"] spShared:=by
 refine F.ok Xmz (λvs H Q E h=>?_) (λcdv A outer s H vs Q E hr h=>?_)
 ·obtain⟨r,c,row,ps,Ts,rfl,_⟩:=h
  rfl
 ·obtain⟨r,c,row,ps,Ts,rfl,hR,R2,hc,hT,hpl,k⟩:=h
  have hu:=Xh7 hr
  have hr1:Room 1 _:=hr.mono (by decide)
  refine⟨_,Xad (Xao (i:=2) Xmz.nd rfl (Or.inr rfl) (Xie (N:=NSh1) (cap:=[none,some 1]) (CompScope.of (defScope s_shared) NSh rfl rfl rfl (by decide +kernel)) rfl
    (Xa4 (Xap FD hr1 (by rfl) pass0 (Xaa (pv 0) Xac))) (λ_ _ _=>Xak (i:=0) (show NSh1.Nodup by decide +kernel) rfl (Or.inr rfl) (Or.inl rfl)) (λ_ _ _=>Xbd) (λ_ _ _=>pv 0)
    (λs0 H0 ex=>Xal (Xkk P w (by rfl) (by rfl) rfl) (by rfl) B.sorted (by rfl) (Xaa (Xqk (P:=P) (w:=w) (N:=NSh2) (cap:=[none,some 0]) (CompScope.of _ NSh1 rfl rfl rfl (by kernel_rfl)) rfl
     (Xiq K (by rfl) (pv 1)) (λ_ _ _=>Xak (i:=0) (show NSh2.Nodup by decide +kernel) rfl (Or.inl rfl) (Or.inr rfl)) (λ_ _ _=>Xbd)
     (λ_ _ _=>Xap (by exact FB) (by exact hr1) (by rfl) pass0 (Xaa (pv 0) (Xaa (pv 1) Xac)))) Xac))))
   (Xaf (Xan (Xbu (N:=NSh3) (cap:=[none,some 2]) (CompScope.of (defScope s_shared) NSh rfl rfl rfl (by decide +kernel)) rfl
    (Xd2 (pv 2)) (λ_ _ _=>Xak (i:=0) (show NSh3.Nodup by decide +kernel) rfl (Or.inl rfl) (Or.inr rfl))
    (λ_ _ _=>Xbq (Xam Xcz (Xal (Xju K (by rfl)) (by rfl) B.len boot_len (Xaa (Xb4 hu (pv 1) (pv 0) (λ_ _=>rfl)) Xac)) Xai (nomark _)))
    (λ_ _ _=>Xbw (Xaa (pv 0) (Xaa (Xba (Xru K (by rfl)) (Xb4 hu (pv 1) (pv 0) (λ_ _=>rfl)) Xai (λ_ _=>rfl)) Xac)))))),?_⟩
  have hl:=R2.len
  have hdl:=Xed row
  refine⟨_,rfl,r,row,rfl,hR,by omega,λnl H1 nnl hnl s1=>?_⟩
  refine⟨nl,rfl,⟨_,SqL.of hnl⟩,λD nD=>?_⟩
  have go:∀i H3,i<(dit row).length->Same H1 H3->(Itl K nl).go i H3/\∀x H4,(Itl K nl).yld i H3 x H4->H4=H3/\x = .str ((dit row).getD i Str.empty):=λi H3 hi s3=>by
   have:=Xbn (K:=K) (SqL.of (s3 _ _ hnl)) (by rw[Xzl];exact hi)
   rw[Xa0 V.str Str.empty (dit row) hi] at this
   exact this
  have hT1:=hT.same s1
  have hc1:=s1 _ _ hc
  refine⟨wN (dit row).length λi σ2 H3=>(∃v, σ2=[v,some (.ref c)])/\Same H1 H3/\∃kv2,H3 D=some (.dK kv2)/\Lsts H3 kv2 (Xbv Ts) ((dit row).take i),⟨(dit row).length,by simp,X0m _,⟨none,rfl⟩,(Same.refl H1).step nD,[],Xab,⟨rfl,λx hx=>by simp at hx⟩⟩,?_⟩
  rintro i m σ1 H3 ⟨rfl,hi,⟨v,rfl⟩,s3,kv2,hD,ofs⟩
  by_cases hlt:i<(dit row).length
  ·obtain⟨g1,g2⟩:=go i H3 hlt s3
   refine .inr ⟨g1,λx H4 y=>?_⟩
   obtain⟨e1,e2⟩:=g2 x H4 y
   subst e1 e2
   generalize hx:(dit row).getD i Str.empty=x
   have htk:(dit row).take (i+1)=(dit row).take i++[x]:=by
    rw[Xzz hlt,<-hx]
    simp[List.getD,hlt]
   have hnx:x∉(dit row).take i:=by
    have nd:=Xg0 row
    have h2:((dit row).take (i+1)).Nodup:=nd.sublist (X1i ..)
    rw[htk] at h2
    exact λz=>(X02.mp h2).2.2 x z x (by simp) rfl
   have hc3:=s3 _ _ hc1
   have hT3:=hT1.same s3
   refine⟨_,rfl,_,rfl,c,rfl,⟨_,SqL.of hc3⟩,?_⟩
   refine Xvp (P:=P) (w:=w) (n:=ps.length) (by unfold scanBound;omega) (λj=>.ref (ps.getD j 0)) (λj=>bk (Ts.getD j []) x) ?_ ?_ ?_ ?_
   ·intro j H5 hj s5
    have:=Xbn (K:=K) (SqL.of (s5 _ _ hc3)) (by rw[Xzl];exact hj)
    rw[Xa0 V.ref 0 ps hj] at this
    exact this
   ·intro H5 s5
    have:=Xbo (K:=K) (SqL.of (s5 _ _ hc3))
    rwa [Xzl] at this
   ·intro j H5 Q' hj s5 kk
    exact⟨_,rfl,_,rfl,_,Ts.getD j [],x,rfl,s5 _ _ (hT3.2 j hj),λH6 s6=>kk H6 s6⟩
   ·intro a H5 na s5 ha
    have eL:(List.range ps.length).map (λj=>bk (Ts.getD j []) x)=Ts.map λS=>bk S x:=by
     rw[hT.1]
     have:=Xa7 [] (λ_=>true) Ts
     rw[X0o.mpr (λ_ _=>rfl),X0o.mpr (λ_ _=>rfl)] at this
     have q:=congrArg (List.map λS=>bk S x) this
     rw[X0h] at q
     exact q
    rw[eL] at ha
    have dl:(ddup (Ts.map λS=>bk S x)).length<=2:=by
     have nd:=Xec (Ts.map λS=>bk S x)
     refine X0d (Xpt (b:=([("off" : Str),("home" : Str)]:List Str)) nd λz hz=>?_) (Xzn 2)
     obtain⟨S,_,e⟩:=Xz0.mp ((Xeu _ z).mp hz)
     rw[<-e]
     unfold bk
     by_cases h:x∈S
     ·rw[X3n h];simp
     ·rw[X3m h];simp
    refine⟨a,_,rfl,ha,by omega,λl ls nl' hp hs=>?_⟩
    have hD5:=s5 _ _ hD
    have kl2:kv2.length<=60:=by
     have:=ofs.len
     rw[X0c] at this
     omega
    have hl6:upd H5 l (.lst (ls.map V.str)) l=some (.lst ((Xbv Ts x).map V.str)):=by
     rw[Xab,Xgz hp hs]
     rfl
    have s6:Same H5 (upd H5 l (.lst (ls.map V.str))):=(Same.refl H5).step nl'
    generalize upd H5 l (.lst (ls.map V.str))=H6 at hl6 s6
    have s36:=s5.trans s6
    have hD6:=s36 _ _ hD
    refine⟨kv2,Sum.inr x,rfl,hD6,by rw[X3l];omega,?_⟩
    refine wskip hlt ⟨⟨_,rfl⟩,λb u e=>?_,_,Xab,?_⟩
    ·rw[Xae (Xag e nD)]
     exact s36 _ _ (s3 b u e)
    ·rw[htk]
     refine ofs.snoc hnx ?_ λb xs e=>?_
     ·rw[Xae (λz=>by rw[z,hD6] at hl6;cases hl6)]
      exact hl6
     ·have e4:=s36 _ _ e
      rw[Xae (λz=>by rw[z,hD6] at e4;cases e4)]
      exact e4
  ·have ei:i=(dit row).length:=by omega
   subst ei
   refine .inl ⟨by have:=Xbo (K:=K) (SqL.of (s3 _ _ hnl));rwa [Xzl] at this,?_⟩
   rw[X0n] at ofs
   have s03:=s1.trans s3
   have nD0:H D=none:=s1.free nD
   refine⟨_,rfl,D,kv2,rfl,.inl ⟨hD,λo2=>?_⟩⟩
   generalize hH4:upd H3 D (.frz o2 (.dK kv2))=H4
   have s4:Same H H4:=λb u e=>by rw[<-hH4,Xae (Xag e nD0)];exact s03 b u e
   have hD4:H4 D=some (.frz o2 (.dK kv2)):=by rw[<-hH4];exact Xab
   have of4:Lsts H4 kv2 (Xbv Ts) (dit row):=⟨ofs.keys,λx hx=>let ⟨l,h1,h2⟩:=ofs.val x hx; ⟨l,h1,by rw[<-hH4,Xae (λz=>by rw[z,hD] at h2;cases h2)];exact h2⟩⟩
   have kl2:=of4.len
   refine Xqj (n:=(dit row).length) (by rw[X3l];omega) (λj=>.str ((dit row).getD j Str.empty)) (λj=>decide ((Xbv Ts ((dit row).getD j Str.empty)).length=1)) (λj=>pr2 ((dit row).getD j Str.empty,(Xbv Ts ((dit row).getD j Str.empty)).headD Str.empty)) ?_ ?_ ?_ ?_ ?_
   ·intro j H5 hj s5
    have:=Xgv (kvs:=kv2) (s5 _ _ hD4) (by omega:j<kv2.length)
    rw[of4.at j hj] at this
    exact this
   ·intro H5 s5
    have:=Xgw (kvs:=kv2) (s5 _ _ hD4)
    rwa [kl2] at this
   ·intro j H5 Q' hj s5 kk
    obtain⟨l,gg,hl5⟩:=(of4.mono s5).get (.inr ⟨o2,s5 _ _ hD4⟩) (Xb6 hj)
    refine⟨_,rfl,_,rfl,D,_,rfl,gg,l,_,rfl,.inl (SqL.of hl5),rfl,_,rfl,?_⟩
    rw[Xzl]
    have e:decide (V.int ((Xbv Ts ((dit row).getD j Str.empty)).length:Int)=V.int 1)=decide ((Xbv Ts ((dit row).getD j Str.empty)).length=1):=
     decide_eq_decide.mpr ⟨λh=>by injection h with h;omega,λh=>by rw[h];rfl⟩
    rw[e]
    exact kk H5 (Same.refl _)
   ·intro j H5 Q' hj hk s5 kk
    obtain⟨l,gg,hl5⟩:=(of4.mono s5).get (.inr ⟨o2,s5 _ _ hD4⟩) (Xb6 hj)
    generalize (dit row).getD j Str.empty=x at gg hl5 hk kk
    obtain⟨b,hb⟩:=X2o.mp (X3q hk)
    rw[hb] at hl5 kk
    refine⟨_,rfl,_,rfl,_,rfl,D,_,rfl,gg,l,_,_,_,rfl,rfl,SqL.of hl5,rfl,by show 2<=sizeLine;decide,λt nt=>?_⟩
    exact kk t _ Xab ((Same.refl H5).step nt)
   ·intro L qs H5 nL s5 hL hq
    refine k L qs H5 (s4.free nL) hL ?_ (s4.trans s5)
    have e:((List.range (dit row).length).filter λj=>decide ((Xbv Ts ((dit row).getD j Str.empty)).length=1)).map (λj=>pr2 ((dit row).getD j Str.empty,(Xbv Ts ((dit row).getD j Str.empty)).headD Str.empty))=(Xa9 row Ts).map pr2:=by
     have q:=congrArg (List.map λx=>pr2 (x,(Xbv Ts x).headD Str.empty)) (Xa7 Str.empty (λx=>decide ((Xbv Ts x).length=1)) (dit row))
     rw[X0h] at q
     unfold Xa9
     rw[X0h]
     exact q
    rw[e] at hq
    exact hq
theorem Xt4:FnScope NHe ["row", "kept"] (defScope s_held):=⟨rfl,rfl,rfl,by decide +kernel,rfl,by decide +kernel,by decide +kernel⟩
theorem Xvy{f B0 T:Addr}{fd:FuncData}(F:Fun K "held" "held" s_held f fd)(hB:mg "BadGround" = some (.ref B0))(hb:PySem.W.excIn K B0 bmV "ValueError.__new__" = true)(FP:Fn P w K mg base CX0 5 "plots" ["row"] (Xgf T (lamPos s_in_order)))
  (FL:Fn P w K mg base CX0 2 "lies_on" ["plot", "kept"] spLiesOn) (FS:Fn P w K mg base CX0 2 "shared" ["row", "some"] spShared):FnOk P w K mg base (CX1 P w) 6 f fd ["row", "kept"] (spHeld B0 T (lamPos s_in_order)):=by
 refine F.ok1 Xt4 (λvs H Q E h=>?_) (λcdv A outer s H vs Q E hr h=>?_)
 ·obtain⟨r,kp,row,kept,rfl,_⟩:=h
  rfl
 ·obtain⟨r,kp,row,kept,rfl,⟨hR,R2,h3,hd,tab,⟨qs,hk,hq⟩,ko⟩,k1,k2⟩:=h
  have hr2:Room 2 _:=hr.mono (by decide)
  refine⟨_,Xad (Xg4 (i:=2) (N:=["plot", "kept"]) (cap:=[none,some 1]) (CompScope.of (defScope s_held) NHe rfl rfl rfl (by decide +kernel)) rfl Xt4.nd rfl rfl (Xa4 (Xap FP hr (by rfl) pass0 (Xaa (pv 0) Xac)))
    (λ_ _ _=>Xak (i:=0) (show (["plot", "kept"]:List Str).Nodup by decide +kernel) rfl (Or.inl rfl) (Or.inr rfl)) (λ_ _ _=>Xbq (Xc1 (Xap (by exact FL) (by exact hr2) (by rfl) pass0 (Xaa (pv 0) (Xaa (pv 1) Xac))))) (λ_ _ _=>pv 0))
   (Xad (Xb0 (Xkq (Xgm (Xrf (pv 2) (λ_=>rfl))) (Xgk (Xam (Xjx (hu3 hr)) (Xap FS hr2 (by rfl) pass0 (Xaa (pv 0) (Xaa (pv 2) Xac))) (pv 1) (nomark _)))).pt
    (Xaf (Xl6 (C:=B0) (E:=E) hb rfl leaves1 (by rfl) hB (Xaa (Xox (Xow (by decide +kernel) (Xso hr (pv 1) Xtl))) Xac))) Xay)
   (Xaf (Xan (pv 2)))),?_⟩
  refine⟨_,rfl,r,row,rfl,hR,R2,h3,hd,tab,λL ps Ts H1 nL hL hT hall pw hle tab1 bt=>?_⟩
  have keep:∀{b:Addr} {o:HO},H b=some o->(∀z,o ≠ .tbl z)->H1 b=some o:=λe n=>bt _ _ e (Xa5.ne tab e n)
  have hk1:=keep hk λz=>by simp
  have hq1:Tups H1 qs (kept.map pr2):=⟨hq.1,λi hi=>keep (hq.2 i hi) λz=>by simp⟩
  have hql:qs.length<=16:=by
   have:=hq.1
   rw[Xzl] at this
   have:=ko.len
   omega
  refine⟨L,rfl,⟨_,SqL.of hL⟩,?_⟩
  refine Xdf (n:=ps.length) (by rw[X3l];omega) (λi=>.ref (ps.getD i 0)) (λi=>keeps kept (Ts.getD i [])) (λi=>.ref (ps.getD i 0)) ?_ ?_ ?_ ?_ ?_
  ·intro i H4 hi s4
   have:=Xbn (K:=K) (SqL.of (s4 _ _ hL)) (by rw[Xzl];exact hi)
   rw[Xa0 V.ref 0 ps hi] at this
   exact this
  ·intro H4 s4
   have:=Xbo (K:=K) (SqL.of (s4 _ _ hL))
   rwa [Xzl] at this
  ·intro i H4 Q' hi s4 kk
   exact⟨_,rfl,_,rfl,ps.getD i 0,kp,Ts.getD i [],qs,kept,rfl,s4 _ _ (hT.2 i hi),s4 _ _ hk1,hq1.same s4,by omega,λH5 s5=>⟨_,rfl,kk H5 s5⟩⟩
  ·intro i H4 Q' hi _ s4 kk
   exact⟨_,rfl,kk H4 (Same.refl _)⟩
  ·intro D H4 nD s4 hD
   have eT:(((List.range ps.length).filter λi=>keeps kept (Ts.getD i [])).map λi=>Ts.getD i [])=Ts.filter (keeps kept):=by
    rw[hT.1]
    exact Xa7 [] (keeps kept) Ts
   have tx:Tups H4 (((List.range ps.length).filter λi=>keeps kept (Ts.getD i [])).map λi=>ps.getD i 0) (Ts.filter (keeps kept)):=by
    rw[<-eT]
    exact Xir (hT.same s4) λi hi=>X0l.mp (Xzm.mp hi).1
   have hD':H4 D=some (.lst ((((List.range ps.length).filter λi=>keeps kept (Ts.getD i [])).map λi=>ps.getD i 0).map V.ref)):=by rw[hD,X0h];rfl
   have hle':(((List.range ps.length).filter λi=>keeps kept (Ts.getD i [])).map λi=>ps.getD i 0).length<=ps.length:=by
    rw[Xzl]
    exact X0d (X0e ..) (by rw[X0j];omega)
   generalize (((List.range ps.length).filter λi=>keeps kept (Ts.getD i [])).map λi=>ps.getD i 0)=us at hD' tx hle'
   have mem:∀S,S∈Ts.filter (keeps kept)↔Xah row S=true/\keeps kept S=true:=λS=>by rw[Xzm,hall]
   have gi:=Xfa mem
   have isH:Xt2 row kept (Ts.filter (keeps kept)):=⟨mem,pw.filter _⟩
   have nD0:H D=none:=by
    cases e:H D with
    | none=>rfl
    | some o=>
     by_cases z:D=T
     ·rcases tab1 with q | ⟨_,q,_⟩<;>(rw[<-z,nD] at q;cases q)
     ·rw[bt _ _ e z] at nD;cases nD
   have tab4:=SH.Xa5.same tab1 s4
   have b4:But T H H4:=λb o e n=>s4 _ _ (bt _ _ e n)
   have bad:∀H5,Same H4 H5->¬Good row kept->Xw8 (Xw7 (Xt1 (tVar 1) Xw6)) [some (.ref r),some (.ref kp),some (.ref D)] H5 (λx H1=>[x].length<=sizeLine/\E (.ref B0) none H1):=λH5 s5 ng=>by
    refine⟨_,rfl,kp,qs,kept.map pr2,rfl,s5 _ _ (s4 _ _ hk1),(hq1.same s4).same s5,hql,λS hS=>?_,λz=>⟨by show 1<=sizeLine;decide,k2 ng H5 (SH.Xa5.same tab4 s5) λb o e n=>s5 _ _ (b4 _ _ e n)⟩⟩
    obtain⟨q,hq,rfl⟩:=Xz0.mp hS
    obtain⟨o1,o2,_,_⟩:=ko.ok q hq
    refine⟨by show 2<=3;decide,λz hz=>?_⟩
    rcases Xzy.mp hz with e | e
    ·rw[e];exact o1
    ·rw[Xzs.mp e];exact o2
   dsimp only[Xbm]
   refine⟨_,rfl,_,.inl ⟨_,SqL.of hD',rfl⟩,?_⟩
   by_cases e:Ts.filter (keeps kept)=[]
   ·have ep:us=[]:=X0i.mp (by rw[tx.1,e];rfl)
    subst ep
    exact iteT (bad H4 (Same.refl _) λg=>(gi.mp g).1 e)
   ·have np:(us.map V.ref).isEmpty=false:=by
     cases us with
     | nil=>exact absurd (X0i.mp tx.1.symm) e
     | cons _ _=>rfl
    rw[np]
    refine iteF ?_
    have hR4:=s4 _ _ (keep hR λz=>by simp)
    refine⟨_,rfl,_,rfl,r,D,row,us,_,rfl,hR4,R2,hD',tx,by omega,λG gs H5 nG hG hgs s5=>?_⟩
    have okS:=Xkl e R2.ok
    refine⟨_,rfl,.list ((Xa9 row (Ts.filter (keeps kept))).map pr2 |>.map tupD),.list ((kept.map pr2).map tupD),Xbz hG hgs,Xbz (s5 _ _ (s4 _ _ hk1)) ((hq1.same s4).same s5),Xas _ (Xav okS),Xas _ (Xav ko.okL),Xcp _ _,_,rfl,?_⟩
    rw[Xdh okS ko.okL]
    by_cases e2:Xa9 row (Ts.filter (keeps kept))=kept
    ·rw[X3o (by rw[e2])]
     refine iteF ?_
     exact⟨_,rfl,k1 (gi.mpr ⟨e,e2⟩) D us _ H5 nD0 (s5 _ _ hD') (tx.same s5) isH (by omega) (SH.Xa5.same tab4 s5) λb o e n=>s5 _ _ (b4 _ _ e n)⟩
    ·rw[X3p (λz=>e2 (Xlp z))]
     exact iteT (bad H5 s5 λg=>e2 (gi.mp g).2)
theorem Xiu:FnScope NBd ["row", "kept"] (defScope s_border):=⟨rfl,rfl,rfl,by decide +kernel,rfl,by decide +kernel,by decide +kernel⟩
theorem Xq2{f B0 T:Addr}{fd:FuncData}(F:Fun K "border" "border" s_border f fd)(B:Bl mg)(FH:Fn P w K mg base (CX1 P w) 6 "held" ["row", "kept"] (spHeld B0 T (lamPos s_in_order)))(FP:Fn P w K mg base CX0 5 "plots" ["row"] (Xgf T (lamPos s_in_order)))
  (FA:Fn P w K mg base CX0 2 "across" ["plot", "name"] spAcross):FnOk P w K mg base (CX1 P w) 7 f fd ["row", "kept"] (spBorder B0 T (lamPos s_in_order)):=by
 refine F.ok1 Xiu (λvs H Q E h=>?_) (λcdv A outer s H vs Q E hr h=>?_)
 ·obtain⟨r,kp,row,kept,Ts,Ws,rfl,_⟩:=h
  rfl
 ·obtain⟨r,kp,row,kept,Ts,Ws,rfl,hA,hTs,hWs,k1,k2⟩:=h
  have hu4':=hu4 hr
  have hr2:Room 2 _:=hr.mono (by decide)
  have hr5:Room 5 _:=hr.mono (by decide)
  refine⟨_,Xad (Xao (i:=2) Xiu.nd rfl (Or.inr rfl) (Xap FH hr (by rfl) pass1 (Xaa (pv 0) (Xaa (pv 1) Xac))))
   (Xad (Xao (i:=3) Xiu.nd rfl (Or.inr rfl) (Xap FP hr5 (by rfl) pass0 (Xaa (pv 0) Xac)))
   (Xaf (Xan (Xbu (N:=NBd1) (cap:=[none,none,some 2,some 3]) (CompScope.of (defScope s_border) NBd rfl rfl rfl (by decide +kernel)) rfl
    (Xa4 (pv 1)) (λ_ _ _=>Xfj K 2 rfl rfl (Xa3 (Xak (i:=0) (show NBd1.Nodup by decide +kernel) rfl (Or.inr rfl) (Or.inl rfl)) (Xa3 (Xak (i:=1) (show NBd1.Nodup by decide +kernel) rfl (Or.inl rfl) (Or.inr rfl)) Xc9)))
    (λs0 H0 ex=>Xbq (Xc1 (Xal (Xmg rfl) (by rfl) B.any (by rfl) (Xaa (Xbu (N:=NBd2) (cap:=[none,some 0,some 3]) (CompScope.of _ NBd1 rfl rfl rfl (by kernel_rfl)) rfl
     (Xiq K (by rfl) (pv 2)) (λ_ _ _=>Xak (i:=0) (show NBd2.Nodup by decide +kernel) rfl (Or.inl rfl) (Or.inr rfl)) (λ_ _ _=>Xbd)
     (λ_ _ _=>Xby (Xpd (by exact hu4')) (Xap (by exact FA) (by exact hr2) (by rfl) pass0 (Xaa (pv 0) (Xaa (pv 1) Xac))) (pv 2) (by rfl))) Xac)))) (λ_ _ _=>pv 0))))),?_⟩
  refine⟨_,rfl,_,rfl,r,kp,row,kept,rfl,hA,λg D ps Vs H1 nD hD hV isH hle tab1 bt=>?_,k2⟩
  have R2:=hA.r2
  have hd:=hA.d
  have keep:∀{b:Addr} {o:HO},H b=some o->(∀z,o ≠ .tbl z)->H1 b=some o:=λe n=>bt _ _ e (Xa5.ne hA.tab e n)
  have hR1:=keep hA.hr λz=>by simp
  dsimp only[Xbm]
  refine⟨_,rfl,r,row,rfl,hR1,R2,hA.n3,hA.d,tab1,λL ls Us H2 nL hL hU hall pw hle2 tab2 bt2=>?_⟩
  have keep2:∀{b:Addr} {o:HO},H1 b=some o->(∀z,o ≠ .tbl z)->H2 b=some o:=λe n=>bt2 _ _ e (Xa5.ne tab1 e n)
  obtain⟨qs,hk,hq⟩:=hA.kp
  have hk2:=keep2 (keep hk λz=>by simp) λz=>by simp
  have hq2:Tups H2 qs (kept.map pr2):=⟨hq.1,λi hi=>keep2 (keep (hq.2 i hi) λz=>by simp) λz=>by simp⟩
  have hD2:=keep2 hD λz=>by simp
  have hV2:Tups H2 ps Vs:=⟨hV.1,λi hi=>keep2 (hV.2 i hi) λz=>by simp⟩
  have hql:qs.length<=16:=by
   have:=hq.1
   rw[Xzl] at this
   have:=hA.ok.len
   omega
  have okU:∀S∈Us,∀y∈S,okN y:=λS hS y hy=>R2.ok y ((Xa2 ((hall S).mp hS)).1 y hy)
  dsimp only[Xbm]
  refine⟨_,rfl,kp,rfl,⟨_,SqL.of hk2⟩,?_⟩
  refine Xmy (some (.ref D)) (some (.ref L)) rfl hk2 hq2 (by omega) (Xny Us Vs) ?_ ?_ ?_
  ·intro x b H3 Q' hm s3 kk
   have okx:okN x:=(hA.ok.ok _ hm).2.2.1
   refine⟨_,rfl,D,rfl,⟨_,SqL.of (s3 _ _ hD2)⟩,?_⟩
   refine Xg1 (n:=ps.length) (by rw[X3l];omega) (λj=>.ref (ps.getD j 0)) (λj=>.bl (decide (Xco (Vs.getD j []) x∈Us))) ?_ ?_ ?_ ?_
   ·intro j H4 hj s4
    have:=Xbn (K:=K) (SqL.of (s4 _ _ (s3 _ _ hD2))) (show j<(ps.map V.ref).length by rw[Xzl];exact hj)
    rwa [Xa0 V.ref 0 ps hj] at this
   ·intro H4 s4
    have:=Xbo (K:=K) (SqL.of (s4 _ _ (s3 _ _ hD2)))
    rwa [Xzl] at this
   ·intro j H4 Q2 hj s4 kk2
    have hj':=(s3.trans s4) _ _ (hV2.2 j hj)
    have hm2:=SH.Tups.at hV2 hj
    generalize Vs.getD j []=S at hj' hm2 kk2
    have pS:=((isH.1 S).mp hm2).1
    have oS:∀y∈S,okN y:=λy hy=>R2.ok y ((Xa2 pS).1 y hy)
    refine⟨_,rfl,_,rfl,ps.getD j 0,S,x,rfl,hj',Xb8 (Xa2 pS).2,by have:=Xgd pS;omega,λq H5 nq hq5 s5=>?_⟩
    have s25:=(s3.trans s4).trans s5
    have oF:∀y∈Xco S x,okN y:=λy hy=>(Xmj hy).elim (oS y) λe=>e ▸ okx
    refine⟨_,rfl,tupD (Xco S x),Us.map tupD,Xcv hq5,Xbz (s25 _ _ hL) (hU.same s25),Xas _ (Xcf oF),Xbp _ (Xd4 okU),by show PyData.depthAll ((Xco S x).map PyData.str)+1<=3;rw[Xca];decide,?_⟩
    rw[isin okU oF]
    exact kk2 H5 s5
   ·intro O H4 nO s4 hO
    have hO':H4 O=some (.lst (((List.range ps.length).map λj=>decide (Xco (Vs.getD j []) x∈Us)).map V.bl)):=by rw[hO,X0h];rfl
    refine⟨O,_,rfl,hO',?_⟩
    rw[hV.1,Xj5 [] (λS=>decide (Xco S x∈Us)) Vs]
    exact⟨_,rfl,kk H4 s4⟩
  ·intro x v2 H3 Q' q
   exact⟨_,rfl,q⟩
  ·intro O H3 nO s3 hO
   have e:Xhp Us Vs kept=Xhp Ts Ws kept:=by
    unfold Xhp
    rw[Xqr (λS=>(hall S).trans (hTs S).symm) (λS=>(isH.1 S).trans (hWs S).symm) kept]
   refine k1 g O H3 ?_ (by rw[<-e];exact hO) (SH.Xa5.same tab2 s3) λb o e n=>s3 _ _ (bt2 _ _ (bt _ _ e n) n)
   cases q:H O with
   | none=>rfl
   | some o=>
    by_cases z:O=T
    ·rcases tab2 with t | ⟨_,t,_⟩<;>(rw[<-z,nO] at t;cases t)
    ·rw[bt2 _ _ (bt _ _ q z) z] at nO;cases nO
theorem Xs3:FnScope NJn ["row", "kept", "other"] (defScope s_joined):=⟨rfl,rfl,rfl,by decide +kernel,rfl,by decide +kernel,by decide +kernel⟩
theorem Xq3{f B0 T:Addr}{fd:FuncData}(F:Fun K "joined" "joined" s_joined f fd)(FH:Fn P w K mg base (CX1 P w) 6 "held" ["row", "kept"] (spHeld B0 T (lamPos s_in_order))):FnOk P w K mg base (CX1 P w) 7 f fd ["row", "kept", "other"] (Xgh B0 T (lamPos s_in_order)):=by
 refine F.ok1 Xs3 (λvs H Q E h=>?_) (λcdv A outer s H vs Q E hr h=>?_)
 ·obtain⟨r,kp,k2,row,kept,other,rfl,_⟩:=h
  rfl
 ·obtain⟨r,kp,ko,row,kept,other,rfl,hA,hB,k1,k2⟩:=h
  have hu4':=hu4 hr
  refine⟨_,Xad (Xc8 (Xap FH hr (by rfl) pass1 (Xaa (pv 0) (Xaa (pv 1) Xac)))) (Xad (Xc8 (Xap FH hr (by rfl) pass1 (Xaa (pv 0) (Xaa (pv 2) Xac))))
   (Xaf (Xan (Xbu (N:=NJn1) (cap:=[none,some 2]) (CompScope.of (defScope s_joined) NJn rfl rfl rfl (by decide +kernel)) rfl (Xa4 (pv 1)) (λ_ _ _=>Xak (i:=0) (show NJn1.Nodup by decide +kernel) rfl (Or.inl rfl) (Or.inr rfl))
    (λ_ _ _=>Xbq (Xam (Xpd (by exact hu4')) (pv 0) (pv 1) (by rfl))) (λ_ _ _=>pv 0))))),?_⟩
  refine⟨_,rfl,_,rfl,r,kp,row,kept,rfl,hA,λg D ps Vs H1 nD hD hV isH hle tab1 bt=>?_,λng=>k2 λz=>ng z.1⟩
  have keep:∀{b:Addr} {o:HO},H b=some o->(∀z,o ≠ .tbl z)->H1 b=some o:=λe n=>bt _ _ e (Xa5.ne hA.tab e n)
  have hB1:HeldAt H1 T (lamPos s_in_order) r ko row other:=by
   obtain⟨os,ho,hos⟩:=hB.kp
   exact⟨keep hB.hr λz=>by simp,hB.r2,hB.n3,hB.d,tab1,⟨os,keep ho λz=>by simp,⟨hos.1,λi hi=>keep (hos.2 i hi) λz=>by simp⟩⟩,hB.ok⟩
  refine⟨_,rfl,_,rfl,r,ko,row,other,rfl,hB1,λg2 D2 ps2 Vs2 H2 nD2 hD2 hV2 isH2 hle2 tab2 bt2=>?_,λng H' t b=>k2 (λz=>ng z.2) H' t λa o e n=>b _ _ (bt _ _ e n) n⟩
  have keep2:∀{b:Addr} {o:HO},H b=some o->(∀z,o ≠ .tbl z)->H2 b=some o:=λe n=>bt2 _ _ (keep e n) (Xa5.ne tab1 (keep e n) n)
  obtain⟨qs,hk,hq⟩:=hA.kp
  obtain⟨os,ho,hos⟩:=hB.kp
  have hk2:=keep2 hk λz=>by simp
  have ho2:=keep2 ho λz=>by simp
  have hq2:Tups H2 qs (kept.map pr2):=⟨hq.1,λi hi=>keep2 (hq.2 i hi) λz=>by simp⟩
  have hos2:Tups H2 os (other.map pr2):=⟨hos.1,λi hi=>keep2 (hos.2 i hi) λz=>by simp⟩
  have hql:qs.length=kept.length:=by
   have:=hq.1
   rwa [Xzl] at this
  have hkl:=hA.ok.len
  have okK:=hA.ok.okL
  have okO:=hB.ok.okL
  refine⟨_,rfl,kp,rfl,⟨_,SqL.of hk2⟩,?_⟩
  refine Xdf (n:=qs.length) (by rw[X3l];omega) (λi=>.ref (qs.getD i 0)) (λi=>decide ((kept.map pr2).getD i []∈other.map pr2)) (λi=>.ref (qs.getD i 0)) ?_ ?_ ?_ ?_ ?_
  ·intro i H4 hi s4
   have:=Xbn (K:=K) (SqL.of (s4 _ _ hk2)) (by rw[Xzl];exact hi)
   rw[Xa0 V.ref 0 qs hi] at this
   exact this
  ·intro H4 s4
   have:=Xbo (K:=K) (SqL.of (s4 _ _ hk2))
   rwa [Xzl] at this
  ·intro i H4 Q' hi s4 kk
   have hi':=hq2.2 i hi
   have hm:=SH.Tups.at hq2 hi
   generalize (kept.map pr2).getD i []=W at hi' hm kk
   refine⟨_,rfl,_,rfl,tupD W,(other.map pr2).map tupD,Xcv (s4 _ _ hi'),Xbz (s4 _ _ ho2) (hos2.same s4),Xas _ (Xcf (okK W hm)),Xbp _ (Xd4 okO),by show PyData.depthAll (W.map PyData.str)+1<=3;rw[Xca];decide,_,rfl,?_⟩
   rw[isin okO (okK W hm)]
   exact kk H4 (Same.refl _)
  ·intro i H4 Q' hi _ s4 kk
   exact⟨_,rfl,kk H4 (Same.refl _)⟩
  ·intro O H4 nO s4 hO
   have eT:(((List.range qs.length).filter λi=>decide ((kept.map pr2).getD i []∈other.map pr2)).map λi=>(kept.map pr2).getD i [])=(kept.filter λq=>decide (q∈other)).map pr2:=by
    rw[hq.1,Xa7 [] (λW=>decide (W∈other.map pr2)) (kept.map pr2),List.filter_map]
    congr 2
    funext q
    exact decide_eq_decide.mpr ⟨λz=>by
     obtain⟨q',h1,h2⟩:=Xz0.mp z
     have:=Xlp (A:=[q']) (B:=[q]) (by rw[Xz9,Xz9,h2])
     rw[<-(X3f this).1]
     exact h1,λz=>Xz0.mpr ⟨q,z,rfl⟩⟩
   have tx:Tups H4 (((List.range qs.length).filter λi=>decide ((kept.map pr2).getD i []∈other.map pr2)).map λi=>qs.getD i 0) ((kept.filter λq=>decide (q∈other)).map pr2):=by
    rw[<-eT]
    exact Xir (hq2.same s4) λi hi=>X0l.mp (Xzm.mp hi).1
   refine k1 g g2 O _ H4 ?_ (by rw[hO,X0h];rfl) tx (SH.Xa5.same tab2 s4) λb o e n=>s4 _ _ (bt2 _ _ (bt _ _ e n) n)
   cases q:H O with
   | none=>rfl
   | some o=>
    by_cases z:O=T
    ·rcases tab2 with t | ⟨_,t,_⟩<;>(rw[<-z,nO] at t;cases t)
    ·rw[bt2 _ _ (bt _ _ q z) z] at nO;cases nO
theorem Xvz:FnScope ["_law_script"] ["_law_script"] (defScope sBegin):=⟨rfl,rfl,rfl,by decide +kernel,rfl,by decide +kernel,by decide +kernel⟩
theorem Xs4{f:Addr}{fd:FuncData}(F:Fun K "_law_begin" "_law_begin" sBegin f fd)(T:Bl mg):FnOk P w K mg base CX0 1 f fd ["_law_script"] (Xk1 K):=by
 refine F.ok Xvz (λvs H Q E h=>?_) (λcdv A outer s H vs Q E hr h=>?_)
 ·obtain⟨a,ns,rfl,_⟩:=h
  rfl
 ·obtain⟨a,ns,rfl,hS,hl,k⟩:=h
  refine⟨_,Xaf (Xan (Xbl (Xaa (Xa8 Xfq rfl T.list boot_list (Xaa (Xa1 Xbf (pv 0) Xbe (Xbc Xai)) Xac)) (Xaa Xai (Xaa Xai (Xaa Xai (Xaa Xai Xac))))))),?_⟩
  refine⟨_,rfl,_,rfl,a,_,rfl,hS,λp hp=>?_⟩
  have cut:cutV (ns.map V.int) none (some 63)=ns.map V.int:=by
   unfold cutV
   rw[HT.sIx_none,List.drop_zero,show (some (63:Int))=some ((63:Nat):Int) from rfl,HT.sIx_nat]
   exact X2n (by rw[Xzl];omega)
  rw[cut]
  refine⟨p,_,rfl,.inl (SqL.of Xab),λq hq=>?_⟩
  refine⟨by show 5<=sizeLine;decide,λdr hdr=>?_⟩
  have npq:p≠q:=Xag (o:=.lst (ns.map V.int)) Xab hq
  have nqd:q≠dr:=Xag (o:=.lst (ns.map V.int)) Xab hdr
  have hqH:H q=none:=by rw[Xae npq.symm] at hq;exact hq
  have hpd:p≠dr:=Xag (H:=upd (upd H p (.lst (ns.map V.int))) q (.lst (ns.map V.int))) (o:=.lst (ns.map V.int)) (by rw[Xae npq,Xab]) hdr
  have hdH:H dr=none:=by rw[Xae nqd.symm,Xae hpd.symm] at hdr;exact hdr
  refine k dr q _ hdH hqH ⟨⟨ns,0,0,1,0,Xab,by rw[Xae nqd,Xab],X0m _,hl,by decide,by decide⟩⟩ ((((Same.refl H).upd hp).upd hqH).upd hdH)
theorem Xq4:FnScope NP ["_law_draw", "_law_many"] (defScope sPick):=⟨rfl,rfl,rfl,by decide +kernel,rfl,by decide +kernel,by decide +kernel⟩
theorem Xv0{f:Addr}{fd:FuncData}(F:Fun K "_law_pick" "_law_pick" sPick f fd)(T:Bl mg):FnOk P w K mg base CX0 1 f fd ["_law_draw", "_law_many"] Xtq:=by
 refine F.ok Xq4 (λvs H Q E h=>?_) (λcdv A outer s H vs Q E hr h=>?_)
 ·obtain⟨dr,sc,n,rfl,_⟩:=h
  rfl
 ·obtain⟨dr,sc,n,rfl,hn0,hn1,⟨ns,p,c,m,k,hd,hs,hp,hl,hm0,hm1⟩,kk⟩:=h
  have nds:dr≠sc:=by
   intro e
   subst e
   rw[hd] at hs
   cases ns with
   | nil=>cases hs
   | cons a r=>cases hs
  refine Xni (fun σ' H'=>∃x y p c m, σ'=[some (.ref dr),some (.int n),x,y]/\H' dr=some (.lst [.ref sc,.int (p:Nat),.int c,.int m,.int k])/\p<=ns.length/\0<=m/\m<1000000007/\∀b o,H b=some o->b≠dr->H' b=some o) ?_ ?_
  ·-- the rest
   refine⟨_,Xad (Xb0 (Xam Xwm (Xba Xaz (pv 0) Xai (λ_ _=>rfl)) (pv 1) (nomark _))
     (Xad (Xao (i:=3) Xq4.nd rfl (Or.inl rfl) (Xar Xhr (Xba Xaz (pv 0) Xai (λ_ _=>rfl)) (pv 1)))
     (Xad (Xel (Xar Xob (Xba Xaz (pv 0) Xai (λ_ _=>rfl)) (pv 1)) (Xgn (pv 0) Xai Xdb))
     (Xaf (Xan (pv 3))))) Xay)
    (Xad (Xel (Xar Xb1 (Xba Xaz (pv 0) Xai (λ_ _=>rfl)) Xai) (Xgn (pv 0) Xai Xdb))
    (Xad (Xel (Xar Xhr (Xar Xb1 (Xar Xb1 (Xar Xth (Xba Xaz (pv 0) Xai (λ_ _=>rfl)) Xai) (Xar Xtg Xai (Xba Xaz (pv 0) Xai (λ_ _=>rfl)))) Xai) Xai) (Xgn (pv 0) Xai Xdb))
    (Xaf (Xan (Xar Xhr (Xar Xob (Xba Xaz (pv 0) Xai (λ_ _=>rfl)) Xai) (pv 1)))))),?_⟩
   rintro σ' H' ⟨x,y,p,c,m,rfl,hd',hp',hm0',hm1',kp⟩
   refine⟨_,rfl,dr,_,_,_,rfl,rfl,SqL.of hd',rfl,_,rfl,_,_,rfl,rfl,_,rfl,?_⟩
   refine ite2b (λhc=>?_) (λhc=>?_)
   ·-- got
    refine⟨_,rfl,dr,_,_,_,rfl,rfl,SqL.of hd',rfl,_,rfl,_,_,rfl,rfl,hn0,?_⟩
    refine⟨_,rfl,dr,_,_,_,rfl,rfl,SqL.of hd',rfl,_,rfl,_,_,rfl,rfl,⟨hn0,by omega⟩,?_⟩
    refine⟨_,rfl,dr,_,_,2,rfl,rfl,hd',rfl,?_⟩
    refine⟨_,rfl,?_⟩
    refine kk _ _ (X2k _ (by omega)) (X11 _ hn0) ⟨⟨ns,p,c / n,m,k,Xab,?_,hp',hl,hm0',hm1'⟩⟩ λb o e hb=>by rw[Xae hb];exact kp b o e hb
    rw[Xae nds.symm]
    exact kp _ _ hs nds.symm
   ·refine⟨_,rfl,dr,_,_,_,rfl,rfl,SqL.of hd',rfl,_,_,rfl,rfl,?_⟩
    refine⟨_,rfl,dr,_,_,4,rfl,rfl,hd',rfl,?_⟩
    refine⟨_,rfl,dr,_,_,_,rfl,rfl,SqL.of Xab,rfl,_,_,rfl,rfl,cpow3 hm0' hm1',?_⟩
    refine⟨_,rfl,dr,_,_,_,rfl,rfl,SqL.of Xab,rfl,_,_,rfl,rfl,.inl ⟨by decide,by decide⟩,_,_,rfl,rfl,_,_,rfl,rfl,_,_,rfl,rfl,(by show (0:Int)<1000000007;decide),?_⟩
    refine⟨_,rfl,dr,_,_,3,rfl,rfl,Xab,rfl,?_⟩
    refine⟨_,rfl,dr,_,_,_,rfl,rfl,SqL.of Xab,rfl,_,_,rfl,rfl,⟨by decide,by decide⟩,_,rfl,_,_,rfl,rfl,hn0,?_⟩
    refine kk _ _ (X2k _ (by omega)) (X11 _ hn0) ⟨⟨ns,p,c,_,k+1,Xab,?_,hp',hl,X2k _ (by decide),X11 _ (by decide)⟩⟩ λb o e hb=>by rw[Xae hb,Xae hb];exact kp b o e hb
    rw[Xae nds.symm,Xae nds.symm]
    exact kp _ _ hs nds.symm
  ·intro nx hnx
   refine⟨_,Xb0 (Xgl (Xam Xf0 (Xba Xaz (pv 0) Xai (λ_ _=>rfl)) (pv 1) (nomark _)) (Xea (Xam Xf0 (Xba Xaz (pv 0) Xai (λ_ _=>rfl)) (Xal Xaq (by rfl) T.len boot_len (Xaa (Xba Xaz (pv 0) Xai (λ_ _=>rfl)) Xac)) (nomark _)))).pt
     (Xad (Xao (i:=2) Xq4.nd rfl (Or.inl rfl) (Xba Xaz (Xba Xaz (pv 0) Xai (λ_ _=>rfl)) (Xba Xaz (pv 0) Xai (λ_ _=>rfl)) (λ_ _=>rfl)))
     (Xad (Xel (Xar Xb1 (Xba Xaz (pv 0) Xai (λ_ _=>rfl)) Xai) (Xgn (pv 0) Xai Xdb))
     (Xad (Xel Xai (Xgn (pv 0) Xai Xdb))
     (Xaf (Xb0 (Xam Xwm (pv 2) (Xar Xth Xai Xai) (nomark _))
      (Xaf (Xel (pv 2) (Xgn (pv 0) Xai Xdb)))
      (Xaf (Xel (Xar Xhr (Xar Xb1 (Xba Xaz (pv 0) Xai (λ_ _=>rfl)) (pv 2)) Xai) (Xgn (pv 0) Xai Xdb)))))))) Xay,?_⟩
   refine⟨_,rfl,dr,_,_,_,rfl,rfl,SqL.of hd,rfl,_,rfl,_,_,rfl,rfl,_,rfl,?_⟩
   have skip:nx [some (.ref dr),some (.int n),none,none] H:=hnx _ _ ⟨none,none,p,c,m,rfl,hd,hp,hm0,hm1,λb o e _=>e⟩
   refine ite2b (λ_=>?_) (λ_=>iteF skip)
   refine⟨_,rfl,dr,_,_,_,rfl,rfl,SqL.of hd,rfl,_,rfl,dr,_,_,_,rfl,rfl,SqL.of hd,rfl,sc,_,rfl,.inl (SqL.of hs),_,_,rfl,rfl,_,rfl,?_⟩
   refine ite2b (λhlt=>?_) (λ_=>skip)
   have hlt':(p:Int)<((ns.map V.int).length:Nat):=X3q hlt
   rw[Xzl] at hlt'
   have hpl:p<ns.length:=by omega
   have hat:(ns.map V.int)[p]? = some (.int (ns[p]'hpl)):=by rw[Xz4,Xzo hpl];rfl
   refine⟨_,rfl,dr,_,_,_,rfl,rfl,SqL.of hd,rfl,_,rfl,dr,_,_,_,rfl,rfl,SqL.of hd,rfl,sc,_,_,_,rfl,rfl,SqL.of hs,Xdm hat,?_⟩
   refine⟨_,rfl,dr,_,_,_,rfl,rfl,SqL.of hd,rfl,_,_,rfl,rfl,?_⟩
   refine⟨_,rfl,dr,_,_,1,rfl,rfl,hd,rfl,?_⟩
   refine⟨_,rfl,dr,_,_,2,rfl,rfl,Xab,rfl,?_⟩
   refine⟨_,rfl,_,_,rfl,rfl,⟨by decide,by decide,by decide⟩,_,_,rfl,rfl,_,rfl,?_⟩
   refine ite2b (λ_=>?_) (λ_=>?_)
   ·refine⟨_,rfl,_,rfl,dr,_,_,2,rfl,rfl,Xab,rfl,?_⟩
    refine hnx _ _ ⟨_,none,p+1,_,m,rfl,Xab,hpl,hm0,hm1,λb o e hb=>by rw[Xae hb,Xae hb,Xae hb];exact e⟩
   ·refine⟨_,rfl,dr,_,_,_,rfl,rfl,SqL.of Xab,rfl,_,rfl,_,_,rfl,rfl,_,_,rfl,rfl,(by show (0:Int)<1000000007;decide),?_⟩
    refine⟨_,rfl,dr,_,_,3,rfl,rfl,Xab,rfl,?_⟩
    refine hnx _ _ ⟨_,none,p+1,_,_,rfl,Xab,hpl,X2k _ (by decide),X11 _ (by decide),λb o e hb=>by rw[Xae hb,Xae hb,Xae hb];exact e⟩
theorem Xyf:FnScope NPut ["_law_row_here", "_law_name", "_law_at", "_law_to"] (defScope sPut):=⟨rfl,rfl,rfl,by decide +kernel,rfl,by decide +kernel,by decide +kernel⟩
theorem Xyg{f:Addr}{fd:FuncData}(F:Fun K "_law_put" "_law_put" sPut f fd):FnOk P w K mg base CX0 1 f fd ["_law_row_here", "_law_name", "_law_at", "_law_to"] Xu0:=by
 refine F.ok Xyf (λvs H Q E h=>?_) (λcdv A outer s H vs Q E hr h=>?_)
 ·obtain⟨r,row,x,a,b,rfl,_⟩:=h
  rfl
 ·obtain⟨r,row,x,a,b,rfl,hR,hl,hab,hb,k⟩:=h
  refine⟨_,Xad (Xao (i:=4) Xyf.nd rfl (Or.inl rfl) (Xar Xbi (Xar Xbi (Xa1 Xbf (pv 0) Xbe (Xbc (pv 2))) (Xbl (Xaa (pv 1) Xac))) (Xa1 Xbf (pv 0) (Xbc (pv 2)) (Xbc (pv 3)))))
   (Xaf (Xan (Xar Xbi (Xar Xbi (pv 4) (Xbl (Xaa (pv 1) Xac))) (Xa1 Xbf (pv 0) (Xbc (pv 3)) Xbe)))),?_⟩
  have h24:∀n,n<=100000->n<=sizeLine:=λn h=>by rw[X3l];omega
  refine⟨_,rfl,_,rfl,_,rfl,r,_,rfl,SqL.of hR,λp1 n1=>?_⟩
  rw[Xfu _ _ _ (by omega)]
  refine⟨_,rfl,by show 1<=sizeLine;decide,λp2 n2=>?_⟩
  refine⟨p1,p2,_,_,rfl,rfl,ku Xab n2,Xab,h24 _ (by simp;omega),λp3 n3=>?_⟩
  refine⟨_,rfl,_,rfl,_,rfl,_,rfl,_,rfl,r,_,rfl,SqL.of (ku (ku (ku hR n1) n2) n3),λp4 n4=>?_⟩
  rw[Xxc _ _ _ _ hab hb]
  refine⟨p3,p4,_,_,rfl,rfl,ku Xab n4,Xab,h24 _ (by simp;omega),λp5 n5=>?_⟩
  refine⟨_,rfl,_,rfl,by show 1<=sizeLine;decide,λp6 n6=>?_⟩
  refine⟨p5,p6,_,_,rfl,rfl,ku Xab n6,Xab,h24 _ (by simp;omega),λp7 n7=>?_⟩
  refine⟨_,rfl,_,rfl,_,rfl,r,_,rfl,SqL.of (ku (ku (ku (ku (ku (ku (ku hR n1) n2) n3) n4) n5) n6) n7),λp8 n8=>?_⟩
  rw[Xew _ _ _ hb]
  refine⟨p7,p8,_,_,rfl,rfl,ku Xab n8,Xab,h24 _ (by simp;omega),λp9 n9=>?_⟩
  have s8:=((((((((Same.refl H).go n1 n2).go n2 n3).go n3 n4).go n4 n5).go n5 n6).go n6 n7).go n7 n8).go n8 n9
  refine k p9 _ (s8.free n9) (Xab.trans ?_) (s8.step n9)
  unfold putR
  simp
theorem Xlu:FnScope NWh ["_law_row_here"] (defScope sWhere):=⟨rfl,rfl,rfl,by decide +kernel,rfl,by decide +kernel,by decide +kernel⟩
theorem Xs5{f:Addr}{fd:FuncData}(F:Fun K "_law_where" "_law_where" sWhere f fd)(T:Bl mg):FnOk P w K mg base CX0 1 f fd ["_law_row_here"] Xii:=by
 refine F.ok Xlu (λvs H Q E h=>?_) (λcdv A outer s H vs Q E hr h=>?_)
 ·obtain⟨r,row,rfl,_⟩:=h
  rfl
 ·obtain⟨r,row,rfl,hR,hl,k⟩:=h
  have hu:=Xh7 hr
  refine⟨_,Xad (Xao (i:=1) Xlu.nd rfl (Or.inl rfl) Xrh)
   (Xad (Xdk PassesOwn.never rfl (Xdl rfl T.range (Xaa (Xal Xaq (by rfl) T.len boot_len (Xaa (pv 0) Xac)) Xac)) (Xak (i:=2) Xlu.nd rfl (Or.inl rfl))
    (Xaf (Xuk hu (pv 1) (Xba Xaz (pv 0) (pv 2) (λ_ _=>rfl))
     (Xar Xbi (Xri hu (pv 1) (Xba Xaz (pv 0) (pv 2) (λ_ _=>rfl)) (Xbl Xac) ⟨rfl,rfl,rfl,rfl⟩) (Xbl (Xaa (pv 2) Xac))) rfl)))
   (Xaf (Xan (pv 1)))),?_⟩
  intro d nd
  have s0:Same H (upd H d (.dK [])):=(Same.refl H).step nd
  refine⟨_,rfl,r,_,rfl,.inl (SqL.of (s0 _ _ hR)),((row.map V.str).length:Int),rfl,by omega,by rw[Xzl];omega,?_⟩
  have hn:((row.map V.str).length:Int).toNat=row.length:=by rw[Xzl];simp
  rw[hn]
  refine Xem (lo:=0) (n:=row.length) (λi σ H2=>∃kvs v, σ=[some (.ref r),some (.ref d),v]/\Same H H2/\H2 d=some (.dK kvs)/\Wh H2 kvs (row.take i)) ?_ ?_ ?_
  ·exact⟨[],none,rfl,s0,Xab,⟨λk hk=>by simp at hk,λx hx=>by simp at hx,λ_ _=>rfl,by simp,by simp⟩⟩
  ·rintro i σ H2 hi ⟨kvs,v,rfl,s2,hd,wh⟩
   have hat:(row.map V.str)[i]? = some (.str (row[i]'hi)):=by rw[Xz4,Xzo hi];rfl
   have hat':atI (row.map V.str) (0+(i:Int))=some (.str (row[i]'hi)):=by rw[Int.zero_add];exact Xdm hat
   have tk:row.take (i+1)=row.take i++[row[i]'hi]:=by rw[Xzz hi]
   have kl:=wh.len
   rw[X0c] at kl
   have ll:(plc (row.take i) (row[i]'hi)).length<=1000:=by
    rw[Xk2]
    have:=List.count_le_length (a:=row[i]'hi) (l:=row.take i)
    rw[X0c] at this
    omega
   have h24:∀n,n<=100000->n<=sizeLine:=λn h=>by rw[X3l];omega
   refine⟨_,rfl,d,rfl,.inl ⟨kvs,.inl hd⟩,_,rfl,_,rfl,r,_,_,_,rfl,rfl,SqL.of (s2 _ _ hR),hat',by show 0<=sizeLine;decide,λp1 n1=>?_⟩
   refine⟨_,DGet.k (k:=Sum.inr (row[i]'hi)) (ku hd n1),?_⟩
   obtain⟨q,xs,e1,hq,hxs⟩:∃q xs,(valV kvs (Sum.inr (row[i]'hi):Key)).getD (V.ref p1)=V.ref q/\upd H2 p1 (.lst []) q=some (.lst (xs.map V.int))/\plc (row.take i) (row[i]'hi)=xs:=by
    by_cases hx:row[i]'hi∈row.take i
    ·obtain⟨l,e1,e2⟩:=wh.val _ hx
     exact⟨l,_,by rw[e1];rfl,ku e2 n1,rfl⟩
    ·refine⟨p1,[],by rw[wh.none _ hx];rfl,Xab,?_⟩
     have:(plc (row.take i) (row[i]'hi)).length=0:=by rw[Xk2];exact X10.mpr hx
     exact X0i.mp this
   have hlx:xs.length<=1000:=by rw[<-hxs];exact ll
   rw[e1]
   refine⟨_,rfl,by show 1<=sizeLine;decide,λp2 n2=>?_⟩
   refine⟨q,p2,_,_,rfl,rfl,ku hq n2,Xab,h24 _ (by simp;omega),λp3 n3=>?_⟩
   refine⟨_,rfl,_,rfl,_,rfl,r,_,_,_,rfl,rfl,SqL.of (ku (ku (ku (s2 _ _ hR) n1) n2) n3),hat',?_⟩
   have hd2:=ku (u:=.lst [V.int (0+(i:Int))]) (ku (u:=.lst []) hd n1) n2
   have hd3:=ku (u:=.lst (xs.map V.int++[V.int (0+(i:Int))])) hd2 n3
   refine⟨d,_,rfl,DPut.k (k:=Sum.inr (row[i]'hi)) hd3 (by rw[X3l];omega),_,_,rfl,?_,Xab,?_⟩
   ·have s3:=((s2.go n1 n2).go n2 n3).step (o:=.lst (xs.map V.int++[V.int (0+(i:Int))])) n3
    exact s3.upd nd
   ·rw[tk]
    refine wh.snoc _ p3 ?_ λb ys e=>?_
    ·have ne:p3≠d:=(Xag hd2 n3).symm
     rw[Xae ne,Xab,Xih,X3n rfl,hxs,Xzu,X0c,X15 (X2c hi)]
     simp
    ·have ne:b≠d:=λz=>by rw[z,hd] at e;cases e
     rw[Xae ne]
     exact ku (ku (ku e n1) n2) n3
  ·rintro σ H2 ⟨kvs,v,rfl,s2,hd,wh⟩
   rw[X0n] at wh
   exact⟨_,rfl,k d kvs H2 nd hd wh s2⟩
theorem Xm0:FnScope NWo ["_law_where_here", "_law_one_here", "_law_other"] (defScope sWord):=⟨rfl,rfl,rfl,by decide +kernel,rfl,by decide +kernel,by decide +kernel⟩
theorem Xv1{f:Addr}{fd:FuncData}(F:Fun K "_law_word" "_law_word" sWord f fd)(T:Bl mg):FnOk P w K mg base CX0 1 f fd ["_law_where_here", "_law_one_here", "_law_other"] spWord:=by
 refine F.ok Xm0 (λvs H Q E h=>?_) (λcdv A outer s H vs Q E hr h=>?_)
 ·obtain⟨d,l1,l2,kvs,x,y,a,b,c,e,rfl,_⟩:=h
  rfl
 ·obtain⟨d,l1,l2,kvs,x,y,a,b,c,e,rfl,hd,v1,v2,h1,h2,k⟩:=h
  have hu:=Xh7 hr
  refine⟨_,Xad (Xel (Xb4 hu (pv 0) (pv 1) (λ_ _=>rfl)) (Xuo rfl (Xa3 (Xak (i:=3) Xm0.nd rfl (Or.inr rfl)) (Xa3 (Xak (i:=4) Xm0.nd rfl (Or.inr rfl)) Xc9))))
   (Xad (Xg4 (i:=5) (N:=["_law_at", "_law_high", "_law_low"]) (cap:=[none,some 4,some 3]) (CompScope.of (defScope sWord) NWo rfl rfl rfl (by decide +kernel)) rfl Xm0.nd rfl rfl
     (Xa4 (Xb4 hu (pv 0) (pv 2) (λ_ _=>rfl))) (λ_ _ _=>Xak (i:=0) (show (["_law_at", "_law_high", "_law_low"]:List Str).Nodup by decide +kernel) rfl (Or.inl rfl) (Or.inr rfl))
     (λ_ _ _=>Xbq (Xgl (Xam Xf0 (pv 2) (pv 0) (nomark _)) (Xea (Xam Xf0 (pv 0) (pv 1) (nomark _)))).pt) (λ_ _ _=>pv 0))
   (Xad (Xb0 (Xkq (Xam Xcz (pv 1) (pv 2) (nomark _)) (Xgk (Xam Xyr (Xal Xaq (by rfl) T.len boot_len (Xaa (pv 5) Xac)) Xai (nomark _)))).pt
    (Xaf (Xan (Xba Xl0 (Xbw (Xaa Xaw (Xaa Xaw (Xaa Xaw Xac)))) (Xal Xaq (by rfl) T.len boot_len (Xaa (pv 5) Xac)) (λ_ _=>rfl)))) Xay)
   (Xaf (Xan (Xek (Xgl (Xam Xf0 (Xba Xaz (Xb4 hu (pv 0) (pv 2) (λ_ _=>rfl)) Xai (λ_ _=>rfl)) (pv 3) (nomark _)) (Xea (Xam Xf0 (pv 4) (Xba Xaz (Xb4 hu (pv 0) (pv 2) (λ_ _=>rfl)) Xai (λ_ _=>rfl)) (nomark _)))).pt Xaw Xaw))))),?_⟩
  refine⟨_,rfl,_,rfl,d,_,rfl,DGet.rd hd v1,l1,_,rfl,SqL.of h1,rfl,?_⟩
  refine⟨_,_,rfl,_,_,rfl,rfl,?_⟩
  refine⟨_,rfl,_,rfl,d,_,rfl,DGet.rd hd v2,l2,rfl,⟨_,SqL.of h2⟩,?_⟩
  refine Xjf (n:=2) (λi=>([V.int c,V.int e]:List V).getD i .non) (λD i σ2 H2=>∃v, σ2=[v,some (.int b),some (.int a)]/\Same H H2/\H2 D=some (.lst ((inn a b (([c,e]:List Int).take i)).map V.int))) ?_ ?_ ?_ ?_ ?_
  ·intro D hD
   exact⟨none,rfl,(Same.refl H).step hD,Xab⟩
  ·rintro D i σ2 H2 hD hi ⟨v,rfl,s2,hl⟩
   exact Xbn (SqL.of (s2 _ _ h2)) hi
  ·rintro D σ2 H2 hD ⟨v,rfl,s2,hl⟩
   exact Xbo (SqL.of (s2 _ _ h2))
  ·rintro D i σ2 H2 hD hi ⟨v,rfl,s2,hl⟩
   obtain⟨t,ht1,ht2⟩:∃t,([V.int c,V.int e]:List V).getD i .non = .int t/\([c,e]:List Int).take (i+1)=([c,e]:List Int).take i++[t]:=by
    match i,hi with
    | 0,_=>exact⟨c,rfl,rfl⟩
    | 1,_=>exact⟨e,rfl,rfl⟩
   rw[ht1]
   have hil:(inn a b (([c,e]:List Int).take i)).length<=2:=X0d (Xpj ..) (by rw[X0c];simp;omega)
   refine⟨_,rfl,_,rfl,_,_,rfl,rfl,_,rfl,?_⟩
   refine ite2b (λq1=>?_) (λq1=>iteF (wskip hi ⟨_,rfl,s2,?_⟩))
   ·refine⟨_,rfl,_,rfl,_,_,rfl,rfl,_,rfl,?_⟩
    refine ite2b (λq2=>?_) (λq2=>wskip hi ⟨_,rfl,s2,?_⟩)
    ·refine⟨_,rfl,wput hi hl (by rw[Xzl,X3l];omega) ⟨_,rfl,?_,?_⟩⟩
     ·intro b' o e'
      rw[Xae (Xag e' hD)]
      exact s2 b' o e'
     ·rw[Xab,ht2]
      unfold inn
      rw[Xz5,Xzu,X0p,X3n (by rw[q1,q2];rfl)]
      rfl
    ·rw[hl,ht2]
     unfold inn
     rw[Xz5,X0p,X3m (by rw[q1,q2];decide)]
     simp
   ·rw[hl,ht2]
    unfold inn
    rw[Xz5,X0p,X3m (by rw[q1];simp)]
    simp
  ·rintro D σ2 H2 hD ⟨v,rfl,s2,hl⟩
   have hl':H2 D=some (.lst ((inn a b [c,e]).map V.int)):=hl
   have hil:(inn a b [c,e]).length<=2:=Xpj ..
   have three:∀p,H2 p=none->atI ([V.str "same",V.str "cross",V.str "around"]:List V) (((inn a b [c,e]).map V.int).length:Int)=some (.str (words3.getD (inn a b [c,e]).length "apart")):=λp _=>by
    rw[Xzl]
    generalize (inn a b [c,e]).length=n at hil
    match n,hil with
    | 0,_=>rfl
    | 1,_=>rfl
    | 2,_=>rfl
   have ret3:(decide (x=y)||decide (0<(inn a b [c,e]).length))=true->∀p,H2 p=none->∀H',Same H H'->Q (.str (words3.getD (inn a b [c,e]).length "apart")) H':=λhc p _ H' s'=>by
    have:=k H' s'
    unfold Xhn at this
    rw[X3n hc] at this
    exact this
   refine⟨_,rfl,_,rfl,rfl,_,rfl,?_⟩
   refine ite2b (λq1=>?_) (λq1=>?_)
   ·refine iteT ⟨by show 3<=sizeLine;decide,λp hp=>?_⟩
    refine⟨_,rfl,D,_,rfl,.inl (SqL.of (ku hl' hp)),p,_,_,_,rfl,rfl,SqT.of Xab,three p hp,?_⟩
    refine ret3 ?_ p hp _ (s2.step hp)
    have q1':decide (x=y)=true:=by
     have:=X3q q1
     injection this with this
     exact X3o this
    rw[q1']
    rfl
   ·refine⟨_,rfl,D,_,rfl,.inl (SqL.of hl'),_,_,rfl,rfl,_,rfl,?_⟩
    have q1':decide (x=y)=false:=by
     have:=X3r q1
     exact X3p λz=>this (by rw[z])
    refine ite2b (λq2=>?_) (λq2=>?_)
    ·have q2':0<(inn a b [c,e]).length:=by
      have:=X3q q2
      rw[Xzl] at this
      omega
     refine⟨by show 3<=sizeLine;decide,λp hp=>?_⟩
     refine⟨_,rfl,D,_,rfl,.inl (SqL.of (ku hl' hp)),p,_,_,_,rfl,rfl,SqT.of Xab,three p hp,?_⟩
     exact ret3 (by rw[X3o q2',X3i]) p hp _ (s2.step hp)
    ·have q2':¬ 0<(inn a b [c,e]).length:=by
      have:=X3r q2
      rw[Xzl] at this
      omega
     have last:∀z:Str,(if c<a/\b<e then ("within" : Str) else "apart")=z->Q (.str z) H2:=λz hz=>by
      have:=k H2 s2
      unfold Xhn at this
      rw[X3m (by rw[q1',X3p q2'];decide),hz] at this
      exact this
     refine⟨_,rfl,_,rfl,d,_,rfl,DGet.rd (Rd.same hd s2) v2,l2,_,_,_,rfl,rfl,SqL.of (s2 _ _ h2),rfl,_,rfl,_,_,rfl,rfl,_,rfl,?_⟩
     refine ite2b (λq3=>?_) (λq3=>?_)
     ·refine⟨_,rfl,_,rfl,_,rfl,d,_,rfl,DGet.rd (Rd.same hd s2) v2,l2,_,_,_,rfl,rfl,SqL.of (s2 _ _ h2),rfl,_,_,rfl,rfl,_,rfl,?_⟩
      refine ite2b (λq4=>?_) (λq4=>?_)
      ·exact last _ (X3n ⟨X3q q3,X3q q4⟩)
      ·exact last _ (X3m λz=>X3r q4 z.2)
     ·exact iteF (last _ (X3m λz=>X3r q3 z.1))
theorem Xfd:FnScope NBa ["_law_row_here", "_law_name"] (defScope sBarred):=⟨rfl,rfl,rfl,by decide +kernel,rfl,by decide +kernel,by decide +kernel⟩
theorem Xq5{f:Addr}{fd:FuncData}(F:Fun K "_law_barred" "_law_barred" sBarred f fd)(T:Bl mg)(FW:Fn P w K mg base CX0 1 "_law_where" ["_law_row_here"] Xii)
  (FO:Fn P w K mg base CX0 1 "_law_word" ["_law_where_here", "_law_one_here", "_law_other"] spWord):FnOk P w K mg base CX0 2 f fd ["_law_row_here", "_law_name"] spBarredN:=by
 refine F.ok Xfd (λvs H Q E h=>?_) (λcdv A outer s H vs Q E hr h=>?_)
 ·obtain⟨r,row,x,rfl,_⟩:=h
  rfl
 ·obtain⟨r,row,x,rfl,hR,hl,h2,hx,k⟩:=h
  have hu:=Xh7 hr
  refine⟨_,Xad (Xao (i:=2) Xfd.nd rfl (Or.inr rfl) (Xap FW hr rfl pass0 (Xaa (pv 0) Xac)))
   (Xad (Xg4 (i:=3) (N:=NBc) (cap:=[none,some 1,some 2]) (CompScope.of (defScope sBarred) NBa rfl rfl rfl (by decide +kernel)) rfl Xfd.nd rfl rfl
     (Xuq (pv 2)) (λ_ _ _=>Xak (i:=0) (show NBc.Nodup by decide +kernel) rfl (Or.inl rfl) (Or.inr rfl))
     (λ_ _ _=>Xbq (Xam Xcz (Xap FO hr rfl pass0 (Xaa (pv 2) (Xaa (pv 1) (Xaa (pv 0) Xac)))) Xaw (nomark _))) (λ_ _ _=>pv 0))
   (Xad (Xdk PassesOwn.never rfl (Xdl rfl T.range (Xaa (Xal Xaq (by rfl) T.len boot_len (Xaa (pv 3) Xac)) Xac)) (Xak (i:=4) Xfd.nd rfl (Or.inl rfl))
    (Xaf (Xdk PassesOwn.never rfl (Xa4 (Xa1 Xbf (pv 3) (Xbc (Xar Xb1 (pv 4) Xai)) Xbe)) (Xak (i:=5) Xfd.nd rfl (Or.inl rfl))
     (Xaf (Xb0 (Xam Xcz (Xap FO hr rfl pass0 (Xaa (pv 2) (Xaa (Xba Xaz (pv 3) (pv 4) (λ_ _=>rfl)) (Xaa (pv 5) Xac)))) Xaw (nomark _)) (Xaf (Xan Xgi)) Xay)))))
   (Xaf (Xan Xgi)))),?_⟩
  refine⟨_,rfl,r,row,rfl,hR,hl,λd kvs H1 nd hd wh s1=>?_⟩
  refine⟨_,rfl,d,kvs,rfl,hd,λo=>?_⟩
  generalize hH2:upd H1 d (.frz o (.dK kvs))=H2
  have s2:Same H H2:=λb u e=>by rw[<-hH2,Xae (Xag e nd)];exact s1 b u e
  have hd2:H2 d=some (.frz o (.dK kvs)):=by rw[<-hH2];exact Xab
  have wh2:Wh H2 kvs row:=⟨wh.keys,λy hy=>let ⟨l,e1,e2⟩:=wh.val y hy; ⟨l,e1,by rw[<-hH2,Xae (λz=>by rw[z,hd] at e2;cases e2)];exact e2⟩,wh.none,wh.nd,wh.len⟩
  have hkl:=wh.len
  refine Xjf (n:=kvs.length) (λi=>(kvs.map λp=>kV p.1).getD i .non) (λD i σ2 H3=>∃(v:Option V) (ms:List Str), σ2=[v,some (.str x),some (.ref d)]/\Same H2 H3/\H3 D=some (.lst (ms.map V.str))/\(∀m∈ms,m∈row)/\ms.length<=i/\∀(j:Nat) (y:Str),j<i->(kvs.map λp=>kV p.1).getD j .non = .str y->Xax row x y->y∈ms) ?_ ?_ ?_ ?_ ?_
  ·intro D hD
   exact⟨none,[],rfl,(Same.refl H2).step hD,Xab,by simp,Xzn _,λj y h=>absurd h (X07 _)⟩
  ·rintro D i σ2 H3 hD hi ⟨v,ms,rfl,s3,hm,hin,hml,hall⟩
   exact Xgv (s3 _ _ hd2) hi
  ·rintro D σ2 H3 hD ⟨v,ms,rfl,s3,hm,hin,hml,hall⟩
   exact Xgw (s3 _ _ hd2)
  ·rintro D i σ2 H3 hD hi ⟨v,ms,rfl,s3,hm,hin,hml,hall⟩
   obtain⟨y,hy1,hy2⟩:∃y,(kvs.map λp=>kV p.1).getD i .non = .str y/\y∈row:=by
    obtain⟨y,e1,e2⟩:=wh.keys (kvs[i]'hi).1 (Xz0.mpr ⟨kvs[i]'hi,X0b hi,rfl⟩)
    refine⟨y,?_,e2⟩
    simp only[List.getD,Xz4,Xzo hi,X1k,Option.getD_some]
    rw[e1]
    rfl
   rw[hy1]
   obtain⟨l1,e1,g1⟩:=wh2.pl hx (h2 x hx)
   obtain⟨l2,e2,g2⟩:=wh2.pl hy2 (h2 y hy2)
   refine⟨_,rfl,_,rfl,_,rfl,d,l1,l2,kvs,x,y,_,_,_,_,rfl,.inr ⟨o,s3 _ _ hd2⟩,e1,e2,s3 _ _ g1,s3 _ _ g2,λH4 s4=>?_⟩
   have s24:=s3.trans s4
   refine⟨rfl,_,rfl,?_⟩
   rw[<-Xc6 (h2 x hx) (h2 y hy2)]
   refine ite2b (λhc=>?_) (λhc=>wskip hi ⟨_,ms,rfl,s24,s4 _ _ hm,hin,by omega,λj z hj hz kz=>?_⟩)
   rotate_left
   ·by_cases ej:j=i
    ·subst ej
     rw[hy1] at hz
     injection hz with hz
     subst hz
     exact absurd (by rw[show lieR row x y = "cross" from kz]) (Xj8 hc)
    ·exact hall j z (by omega) hz kz
   refine⟨_,rfl,wput hi (s4 _ _ hm) (by rw[Xzl,X3l];omega) ⟨_,ms++[y],rfl,?_,by rw[Xab,Xzu];rfl,?_,by rw[Xzx,X0z];omega,λj z hj hz kz=>?_⟩⟩
   ·intro b u e
    rw[Xae (Xag e hD)]
    exact s24 b u e
   ·intro m hm
    rcases Xzw.mp hm with z | z
    ·exact hin m z
    ·rw[Xzs.mp z];exact hy2
   ·by_cases ej:j=i
    ·subst ej
     rw[hy1] at hz
     injection hz with hz
     subst hz
     simp
    ·exact X0w _ (hall j z (by omega) hz kz)
  ·rintro D σ2 H3 hD ⟨v,ms,rfl,s3,hm,hin,hml,hall⟩
   refine⟨_,rfl,D,_,rfl,.inl (SqL.of hm),((ms.map V.str).length:Int),rfl,by omega,by rw[Xzl];omega,?_⟩
   have hn:((ms.map V.str).length:Int).toNat=ms.length:=by rw[Xzl];simp
   rw[hn]
   refine Xem (lo:=0) (n:=ms.length) (λi σ H4=>∃v1 v2, σ=[some (.ref r),some (.str x),some (.ref d),some (.ref D),v1,v2]/\Same H3 H4/\∀(p q:Nat) (y z:Str),p<i->p<q->ms[p]? = some y->ms[q]? = some z->¬Xax row y z) ?_ ?_ ?_
   ·exact⟨none,none,rfl,Same.refl _,λp q y z h=>absurd h (X07 _)⟩
   ·rintro i σ H4 hi ⟨v1,v2,rfl,s4,ho⟩
    refine⟨_,rfl,_,rfl,_,_,rfl,rfl,_,rfl,D,_,rfl,SqL.of (s4 _ _ hm),λp np=>?_⟩
    have e0:(0:Int)+(i:Int)+1=((i+1:Nat):Int):=by omega
    rw[e0,Xew _ _ _ (by omega)]
    have s5:Same H3 (upd H4 p (.lst ((ms.drop (i+1)).map V.str))):=s4.step np
    refine⟨p,rfl,⟨_,SqL.of Xab⟩,?_⟩
    refine Xcr (K:=K) (a:=p) (xs:=(ms.drop (i+1)).map V.str) (λj σ H5=>∃v2, σ=[some (.ref r),some (.str x),some (.ref d),some (.ref D),some (.int (0+(i:Int))),v2]/\Same (upd H4 p (.lst ((ms.drop (i+1)).map V.str))) H5/\∀(q:Nat) (z:Str),q<j->ms[i+1+q]? = some z->¬Xax row (ms[i]'hi) z) ?_ ?_ ?_ ?_
    ·exact⟨_,rfl,Same.refl _,λq z h=>absurd h (X07 _)⟩
    ·rintro j σ H5 _ ⟨v2,rfl,s6,hi2⟩
     exact SqL.of (s6 _ _ Xab)
    ·rintro j y σ H5 hj ⟨v2,rfl,s6,hi2⟩
     obtain⟨z,rfl,hz,hzj⟩:∃z,y=V.str z/\z∈ms/\ms[i+1+j]? = some z:=by
      rw[Xz4] at hj
      cases q:(ms.drop (i+1))[j]? with
      | none=>rw[q] at hj;cases hj
      | some z=>
       rw[q] at hj
       exact⟨z,(Xz3 hj).symm,X1v (X2a q),by rw[<-q,X27]⟩
     have s36:=s5.trans s6
     have hat:(ms.map V.str)[i]? = some (.str (ms[i]'hi)):=by rw[Xz4,Xzo hi];rfl
     have hat':atI (ms.map V.str) (0+(i:Int))=some (.str (ms[i]'hi)):=by rw[Int.zero_add];exact Xdm hat
     obtain⟨l1,e1,g1⟩:=wh2.pl (hin _ (X0b hi)) (h2 _ (hin _ (X0b hi)))
     obtain⟨l2,e2,g2⟩:=wh2.pl (hin _ hz) (h2 _ (hin _ hz))
     have s26:=s3.trans s36
     refine⟨_,rfl,_,rfl,_,rfl,D,_,_,_,rfl,rfl,SqL.of (s36 _ _ hm),hat',_,rfl,d,l1,l2,kvs,_,z,_,_,_,_,rfl,.inr ⟨o,s26 _ _ hd2⟩,e1,e2,s26 _ _ g1,s26 _ _ g2,λH6 s7=>?_⟩
     refine⟨rfl,_,rfl,?_⟩
     rw[<-Xc6 (h2 _ (hin _ (X0b hi))) (h2 _ (hin _ hz))]
     refine ite2b (λ_=>?_) (λhc=>?_)
     ·exact k true H6 (λe=>by cases e) ((s2.trans s3).trans (s36.trans s7))
     ·refine⟨_,rfl,s6.trans s7,λq u hq hu=>?_⟩
      by_cases eq:q=j
      ·subst eq
       rw[hzj] at hu
       have hu:=Xz3 hu
       subst hu
       exact λkz=>absurd (by rw[show lieR row (ms[i]'hi) z = "cross" from kz]) (Xj8 hc)
      ·exact hi2 q u (by omega) hu
    ·rintro σ H5 ⟨v2,rfl,s6,hi2⟩
     refine⟨_,_,rfl,s5.trans s6,λp q y z hp hpq hy hz=>?_⟩
     by_cases ep:p=i
     ·subst ep
      rw[Xzo hi] at hy
      rw[<-Xz3 hy]
      refine hi2 (q - (p+1)) z ?_ (by rw[show p+1+(q - (p+1))=q by omega];exact hz)
      have:=(Xz7.mp hz).1
      rw[Xzl,X1f]
      omega
     ·exact ho p q y z (by omega) hpq hy hz
   ·rintro σ H4 ⟨v1,v2,rfl,s4,ho⟩
    refine k false H4 (λ_ y hy z hz k1 k2 k3=>?_) ((s2.trans s3).trans s4)
    have mem:∀u∈row,Xax row x u->u∈ms:=λu hu ku=>by
     obtain⟨l,e,_⟩:=wh.val u hu
     obtain⟨j,hj,ej⟩:=X0q.mp (Xgr e)
     rw[Xzl] at hj
     refine hall j u hj ?_ ku
     rw[X1g] at ej
     simp only[List.getD,Xz4,Xzo hj,X1k,Option.getD_some]
     rw[ej]
     rfl
    obtain⟨p,hp,ep⟩:=X0q.mp (mem y hy k1)
    obtain⟨q,hq,eq⟩:=X0q.mp (mem z hz k2)
    have ep':ms[p]? = some y:=by rw[Xzo hp,ep]
    have eq':ms[q]? = some z:=by rw[Xzo hq,eq]
    rcases Nat.lt_trichotomy p q with h | h | h
    ·exact ho p q y z hp h ep' eq' k3
    ·subst h
     rw[ep'] at eq'
     have e:=Xz3 eq'
     subst e
     exact Xch (h2 y hy) k3
    ·exact ho q p z y hq h eq' ep' (Xbj (h2 y hy) (h2 z hz) k3)
theorem Xiv:FnScope NRo ["_law_draw", "_law_names_here"] (defScope sRow):=⟨rfl,rfl,rfl,by decide +kernel,rfl,by decide +kernel,by decide +kernel⟩
theorem Xyh{f:Addr}{fd:FuncData}(F:Fun K "_law_row" "_law_row" sRow f fd)(T:Bl mg)(FP:FnPick P w K mg base)(FPut:Fn P w K mg base CX0 1 "_law_put" ["_law_row_here", "_law_name", "_law_at", "_law_to"] Xu0)
  (FB:Fn P w K mg base CX0 2 "_law_barred" ["_law_row_here", "_law_name"] spBarredN):FnOk P w K mg base CX0 3 f fd ["_law_draw", "_law_names_here"] spRowN:=by
 refine F.ok Xiv (λvs H Q E h=>?_) (λcdv A outer s H vs Q E hr h=>?_)
 ·obtain⟨dr,sc,nl,ns,rfl,_⟩:=h
  rfl
 ·obtain⟨dr,sc,nl,ns,rfl,dk,hN,nnd,hnd,hnl,k⟩:=h
  have hr1:Room 1 _:=hr.mono (by decide)
  have h24:∀m,m<=100000->m<=sizeLine:=λm h=>by rw[X3l];omega
  refine⟨_,Xad (Xb0 (Xam Xcz (Xap FP hr1 rfl pass0 (Xaa (pv 0) (Xaa Xai Xac))) Xai (nomark _))
    (Xad (Xao (i:=2) Xiv.nd rfl (Or.inl rfl) (Xap FP hr1 rfl pass0 (Xaa (pv 0) (Xaa (Xar Xb1 (Xal Xaq (by rfl) T.len boot_len (Xaa (pv 1) Xac)) Xai) Xac))))
    (Xaf (Xan (Xar Xbi (Xar Xbi (pv 1) (Xov (Xa1 Xbf (pv 1) Xbe (Xbc (pv 2))))) (Xov (Xa1 Xbf (pv 1) (Xbc (pv 2)) Xbe)))))) Xay)
   (Xad (Xao (i:=3) Xiv.nd rfl (Or.inl rfl) (Xbl Xac))
   (Xad (Xdk PassesOwn.never rfl (Xa4 (pv 1)) (Xak (i:=4) Xiv.nd rfl (Or.inl rfl))
    (Xad (Xao (i:=5) Xiv.nd rfl (Or.inl rfl) (Xap FP hr1 rfl pass0 (Xaa (pv 0) (Xaa (Xar Xb1 (Xal Xaq (by rfl) T.len boot_len (Xaa (pv 3) Xac)) Xai) Xac))))
    (Xad (Xao (i:=6) Xiv.nd rfl (Or.inl rfl) (Xar Xb1 (pv 5) (Xap FP hr1 rfl pass0 (Xaa (pv 0) (Xaa (Xar Xwk (Xar Xb1 (Xal Xaq (by rfl) T.len boot_len (Xaa (pv 3) Xac)) Xai) (pv 5)) Xac)))))
    (Xad (Xao (i:=7) Xiv.nd rfl (Or.inl rfl) (Xap FPut hr1 rfl pass0 (Xaa (pv 3) (Xaa (pv 4) (Xaa (pv 5) (Xaa (pv 6) Xac))))))
    (Xad (Xb0 (Xc1 (Xap FB hr rfl pass0 (Xaa (pv 7) (Xaa (pv 4) Xac))))
     (Xaf (Xao (i:=7) Xiv.nd rfl (Or.inl rfl) (Xar Xbi (Xar Xbi (Xa1 Xbf (pv 3) Xbe (Xbc (pv 5))) (Xbl (Xaa (pv 4) (Xaa (pv 4) Xac)))) (Xa1 Xbf (pv 3) (Xbc (pv 5)) Xbe)))) Xay)
    (Xaf (Xao (i:=3) Xiv.nd rfl (Or.inl rfl) (pv 7))))))))
   (Xaf (Xan (pv 3))))),?_⟩
  refine⟨_,rfl,dr,sc,4,rfl,by decide,by decide,dk,λr1 H1 _ _ d1 b1=>?_⟩
  refine⟨rfl,_,rfl,?_⟩
  have b1:But dr H H1:=b1
  have hN1:=b1 _ _ hN nnd
  refine ite2b (λ_=>?_) (λ_=>?_)
  ·-- the grid
   refine⟨_,rfl,_,rfl,nl,_,rfl,.inl (SqL.of hN1),_,_,rfl,rfl,dr,sc,_,rfl,by omega,by rw[Xzl];omega,d1,λc H2 c0 c1 d2 b2=>?_⟩
   obtain⟨c,rfl⟩:=X0k c0
   rw[Xzl] at c1
   have hc:c<=ns.length:=by omega
   have b12:=But.trans b1 b2
   have hN2:=b2 _ _ hN1 nnd
   obtain⟨xs,hdr⟩:=d2.at
   refine⟨_,rfl,_,rfl,_,rfl,_,rfl,nl,_,rfl,SqL.of hN2,λp1 n1=>?_⟩
   rw[Xfu _ _ _ hc]
   refine⟨p1,_,rfl,SqL.of Xab,λp2 n2=>?_⟩
   refine⟨nl,p2,_,_,rfl,rfl,ku (ku hN2 n1) n2,Xab,h24 _ (by simp;omega),λp3 n3=>?_⟩
   refine⟨_,rfl,_,rfl,_,rfl,nl,_,rfl,SqL.of (ku (ku (ku hN2 n1) n2) n3),λp4 n4=>?_⟩
   rw[Xew _ _ _ hc]
   refine⟨p4,_,rfl,SqL.of Xab,λp5 n5=>?_⟩
   refine⟨p3,p5,_,_,rfl,rfl,ku (ku Xab n4) n5,Xab,h24 _ (by simp;omega),λp6 n6=>?_⟩
   have s5:=(((((Same.refl H2).go n1 n2).go n2 n3).go n3 n4).go n4 n5).go n5 n6
   have f6:=s5.free n6
   have hpm:(ns++(ns.take c).reverse++(ns.drop c).reverse).Perm (ns++ns):=by
    rw[X17]
    refine List.Perm.append_left ns ?_
    refine((List.reverse_perm _).append (List.reverse_perm _)).trans ?_
    rw[X0v]
   refine k p6 (ns++(ns.take c).reverse++(ns.drop c).reverse) _ (b12.free hdr f6) (Xab.trans (by simp)) hpm (noThree_grid hnd c λz hz=>Xc4 hnd hpm z ?_) (d2.same (s5.step n6)) (b12.same (s5.step n6))
   exact hpm.mem_iff.mpr (X0w _ hz)
  ·-- dug one by one
   refine⟨by show 0<=sizeLine;decide,λp np=>?_⟩
   obtain⟨xs1,hdr1⟩:=d1.at
   have s0:Same H1 (upd H1 p (.lst [])):=(Same.refl H1).step np
   refine⟨_,rfl,nl,rfl,⟨_,SqL.of (s0 _ _ hN1)⟩,?_⟩
   refine Xcr (K:=K) (a:=nl) (xs:=ns.map V.str) (λi σ H2=>∃(v2 v4 v5 v6 v7:Option V) (q:Addr) (row:List Str), σ=[some (.ref dr),some (.ref nl),v2,some (.ref q),v4,v5,v6,v7]/\H2 q=some (.lst (row.map V.str))/\H q=none/\q≠dr/\row.Perm (ns.take i++ns.take i)/\Xbk row/\DrawOk H2 dr sc/\But dr H H2) ?_ ?_ ?_ ?_
   ·exact⟨_,_,_,_,_,p,[],rfl,Xab,b1.free hdr1 np,(Xag hdr1 np).symm,by simp,Xlb,d1.same s0,b1.same s0⟩
   ·rintro i σ H2 _ ⟨v2,v4,v5,v6,v7,q,row,rfl,hq,nq,nqd,hp,hno,d2,b2⟩
    exact SqL.of (b2 _ _ hN nnd)
   ·rintro i y σ H2 hi ⟨v2,v4,v5,v6,v7,q,row,rfl,hq,nq,nqd,hp,hno,d2,b2⟩
    have hil:i<ns.length:=by
     have:=(Xz7.mp hi).1
     rwa [Xzl] at this
    obtain⟨x,rfl,hx⟩:∃x,y=V.str x/\ns[i]? = some x:=by
     rw[Xz4] at hi
     cases z:ns[i]? with
     | none=>rw[z] at hi;cases hi
     | some x=>rw[z] at hi;exact⟨x,(Xz3 hi).symm,rfl⟩
    have tk:ns.take (i+1)=ns.take i++[x]:=by
     rw[Xzz hil]
     rw[Xzo hil] at hx
     rw[Xz3 hx]
    have hrl:row.length<=28:=by
     have:=hp.length_eq
     rw[Xzx,X0c] at this
     omega
    have ndT:(ns.take i++[x]).Nodup:=by rw[<-tk];exact hnd.sublist (X1i ..)
    refine⟨_,rfl,_,rfl,q,_,rfl,.inl (SqL.of hq),_,_,rfl,rfl,dr,sc,_,rfl,by omega,by rw[Xzl];omega,d2,λa H3 a0 a1 d3 b3=>?_⟩
    obtain⟨a,rfl⟩:=X0k a0
    rw[Xzl] at a1
    have hq3:=b3 _ _ hq nqd
    refine⟨_,rfl,_,rfl,_,rfl,q,_,rfl,.inl (SqL.of hq3),_,_,rfl,rfl,_,rfl,_,_,rfl,rfl,dr,sc,_,rfl,by rw[Xzl];omega,by rw[Xzl];omega,d3,λc H4 c0 c1 d4 b4=>?_⟩
    obtain⟨c,rfl⟩:=X0k c0
    rw[Xzl] at c1
    refine⟨_,_,rfl,rfl,?_⟩
    have eac:(a:Int)+(c:Int)=((a+c:Nat):Int):=by omega
    dsimp only
    rw[eac]
    have hac:a+c<=row.length:=by omega
    have hq4:=b4 _ _ hq3 nqd
    have b24:=But.trans b2 (But.trans b3 b4)
    obtain⟨xs4,hdr4⟩:=d4.at
    refine⟨_,rfl,_,rfl,_,rfl,_,rfl,q,row,x,a,a+c,rfl,hq4,by omega,by omega,hac,λl H5 nl5 hl5 s5=>?_⟩
    have d5:=d4.same s5
    have b25:=b24.same s5
    have nlH:=b24.free hdr4 nl5
    have nld:l≠dr:=(Xag hdr4 nl5).symm
    have hperm:(putR row x a (a+c)).Perm ((ns.take i++[x])++(ns.take i++[x])):=Xj4 hp (Xj0 row x a (a+c) (by omega))
    have hll:(putR row x a (a+c)).length<=1000:=by
     have:=hperm.length_eq
     rw[Xzx,Xzx,X0c,X0z] at this
     omega
    refine⟨_,rfl,_,rfl,l,_,x,rfl,hl5,hll,Xc4 ndT hperm,hperm.mem_iff.mpr (by simp),λbb H6 hbb s6=>?_⟩
    have d6:=d5.same s6
    have b26:=b25.same s6
    refine⟨bb,rfl,?_⟩
    have two0:∀y∈row,row.count y=2:=Xc4 (hnd.sublist (X1i ..)) hp
    refine ite2b (λ_=>?_) (λhbf=>?_)
    ·have hq6:=s6 _ _ (s5 _ _ hq4)
     refine⟨_,rfl,_,rfl,_,rfl,q,_,rfl,SqL.of hq6,λp1 n1=>?_⟩
     rw[Xfu _ _ _ (by omega)]
     refine⟨_,rfl,_,rfl,by show 2<=sizeLine;decide,λp2 n2=>?_⟩
     refine⟨p1,p2,_,_,rfl,rfl,ku Xab n2,Xab,h24 _ (by simp;omega),λp3 n3=>?_⟩
     refine⟨_,rfl,_,rfl,_,rfl,q,_,rfl,SqL.of (ku (ku (ku hq6 n1) n2) n3),λp4 n4=>?_⟩
     rw[Xew _ _ _ (by omega)]
     refine⟨p3,p4,_,_,rfl,rfl,ku Xab n4,Xab,h24 _ (by simp;omega),λp5 n5=>?_⟩
     have s4':=((((Same.refl H6).go n1 n2).go n2 n3).go n3 n4).go n4 n5
     have f5:=s4'.free n5
     obtain⟨xs6,hdr6⟩:=d6.at
     have pN:(row.take a++[x,x]++row.drop a).Perm (x::x::row):=by
      have e:row.take a++[x,x]++row.drop a=row.take a++x::x::row.drop a:=by simp
      rw[e]
      refine X1z.trans (List.Perm.cons x (X1z.trans (List.Perm.cons x ?_)))
      rw[X0v]
     have pM:=Xj4 hp pN
     have twoN:=Xc4 ndT pM
     refine⟨_,rfl,_,_,_,_,_,p5,row.take a++[x,x]++row.drop a,rfl,Xab.trans (by simp),b26.free hdr6 f5,(Xag hdr6 f5).symm,by rw[tk];exact pM,?_,d6.same (s4'.step n5),b26.same (s4'.step n5)⟩
     refine Xhb (x:=x) hno two0 twoN (λy hy=>?_) (λp hp=>Xld hp) (λy hy z hz ky=>absurd ky (Xr5 (twoN x (by simp)) (twoN y hy)))
     have:=pN.mem_iff.mp hy
     simp only[Xzy] at this
     rcases this with h | h | h
     ·exact .inl h
     ·exact .inl h
     ·exact .inr h
    ·refine⟨_,rfl,_,_,_,_,_,l,_,rfl,s6 _ _ hl5,nlH,nld,by rw[tk];exact hperm,?_,d6,b26⟩
     refine Xhb (x:=x) hno two0 (Xc4 ndT hperm) (λy hy=>?_) (λp hp=>Xlc (by omega) hp) (hbb hbf)
     have:=(Xj0 row x a (a+c) (by omega)).mem_iff.mp hy
     simp only[Xzy] at this
     rcases this with h | h | h
     ·exact .inl h
     ·exact .inl h
     ·exact .inr h
   ·rintro σ H2 ⟨v2,v4,v5,v6,v7,q,row,rfl,hq,nq,nqd,hp,hno,d2,b2⟩
    rw[Xzl,X0n] at hp
    exact⟨_,rfl,k q row H2 nq hq hp hno d2 b2⟩
theorem Xdv:FnScope NNa ["_law_draw", "_law_many"] (defScope sNames):=⟨rfl,rfl,rfl,by decide +kernel,rfl,by decide +kernel,by decide +kernel⟩
theorem Xs6{f:Addr}{fd:FuncData}(F:Fun K "_law_names" "_law_names" sNames f fd)(T:Bl mg)(FP:FnPick P w K mg base):FnOk P w K mg base CX0 2 f fd ["_law_draw", "_law_many"] Xk4:=by
 refine F.ok Xdv (λvs H Q E h=>?_) (λcdv A outer s H vs Q E hr h=>?_)
 ·obtain⟨dr,sc,n,rfl,_⟩:=h
  rfl
 ·obtain⟨dr,sc,n,rfl,hn,dk,k⟩:=h
  refine⟨_,Xad (Xao (i:=2) Xdv.nd rfl (Or.inl rfl) Xaw)
   (Xad (Xao (i:=3) Xdv.nd rfl (Or.inl rfl) (Xap FP hr rfl pass0 (Xaa (pv 0) (Xaa Xai Xac))))
   (Xad (Xao (i:=4) Xdv.nd rfl (Or.inl rfl) (Xby Xcz (Xap FP hr rfl pass0 (Xaa (pv 0) (Xaa Xai Xac))) Xai (nomark _)))
   (Xad (Xao (i:=5) Xdv.nd rfl (Or.inl rfl) (Xbl Xac))
   (Xad (Xdk PassesOwn.never rfl (Xdl rfl T.range (Xaa (pv 1) Xac)) (Xak (i:=6) Xdv.nd rfl (Or.inl rfl))
    (Xad (Xao (i:=7) Xdv.nd rfl (Or.inl rfl) (Xba Xws (pv 2) (Xar Xhr (Xar Xb1 (pv 3) (pv 6)) Xai) (λ_ _=>rfl)))
    (Xad (Xao (i:=8) Xdv.nd rfl (Or.inl rfl) (Xar Xnd Xaw (Xar Xhr (Xar Xb1 (pv 3) (Xar Xtg (pv 6) (pv 6))) Xai)))
    (Xaf (Xc8 (Xon PySem.F.plainAttrs_list PySem.F.slot_list_append PySem.F.type_list_append Xdp (pv 5)
     (Xaa (Xek (Xc1 (pv 4)) (Xar Xdx (Xar Xdx (pv 8) (pv 7)) Xaw) (Xar Xdx (pv 7) (pv 8))) Xac)))))))
   (Xaf (Xan (pv 5))))))),?_⟩
  refine⟨_,rfl,dr,sc,26,rfl,by decide,by decide,dk,λr1 H1 r10 r11 d1 b1=>?_⟩
  refine⟨_,rfl,dr,sc,2,rfl,by decide,by decide,d1,λr2 H2 r20 r21 d2 b2=>?_⟩
  refine⟨rfl,?_⟩
  refine⟨by show 0<=sizeLine;decide,λl nl=>?_⟩
  obtain⟨st,rfl⟩:=X0k r10
  have hst:st<26:=by omega
  generalize hlt:decide (V.int r2=V.int 1)=late
  have b12:But dr H H2:=But.trans b1 b2
  obtain⟨xs,hdr⟩:=d2.at
  have nlH:H l=none:=b12.free hdr nl
  obtain⟨nld,nls⟩:=d2.ne nl
  refine⟨_,rfl,(n:Int),rfl,by omega,by omega,?_⟩
  rw[X16]
  refine Xem (lo:=0) (n:=n) (λi σ H3=>∃v1 v2 v3, σ=[some (.ref dr),some (.int n),some (.str Xk3),some (.int st),some (.bl late),some (.ref l),v1,v2,v3]/\H3 l=some (.lst ((Xat st late i).map V.str))/\DrawOk H3 dr sc/\But dr H H3) ?_ ?_ ?_
  ·exact⟨none,none,none,rfl,Xab,d2.upd nld nls,b12.upd nlH⟩
  ·rintro i σ H3 hi ⟨v1,v2,v3,rfl,hl3,d3,b3⟩
   have e26:((st:Int)+(0+(i:Int))) % 26=(((st+i) % 26:Nat):Int):=by omega
   have h26:(st+i) % 26<26:=X3a _ (by decide)
   have eii:((0:Int)+(i:Int)) * (0+(i:Int))=((i * i:Nat):Int):=by rw[Int.zero_add];exact(Int.natCast_mul i i).symm
   have h7:(st+i * i) % 7<7:=X3a _ (by decide)
   have e7:((st:Int)+((i * i:Nat):Int)) % 7=(((st+i * i) % 7:Nat):Int):=by
    generalize i * i=j
    omega
   refine⟨_,rfl,_,rfl,_,rfl,_,_,rfl,rfl,_,_,rfl,rfl,(by show (0:Int)<26;decide),_,_,_,rfl,rfl,(by show 26<=sizeLine;decide),by rw[e26];exact Xu2 h26,?_⟩
   refine⟨_,rfl,_,rfl,_,rfl,_,_,rfl,rfl,.inl ⟨by omega,by omega⟩,_,_,rfl,rfl,_,_,rfl,rfl,(by show (0:Int)<7;decide),?_⟩
   have e77:((st:Int)+((0:Int)+(i:Int)) * (0+(i:Int))) % 7=(((st+i * i) % 7:Nat):Int):=by rw[eii,e7]
   refine⟨_,_,rfl,rfl,by rw[e77];omega,by rw[e77];omega,by show 1<=1000;decide,?_⟩
   rw[e77,X16]
   have hrl:(repS "m" ((st+i * i) % 7)).length<=6:=by
    rw[Xia]
    have:(Str.ofString "m").length=1:=rfl
    rw[this]
    omega
   have hsl:(signOf ((st+i) % 26)).length=1:=rfl
   have hnl:(Xat st late i).length=i:=by unfold Xat;simp
   have hsnoc:Xat st late (i+1)=Xat st late i++[Xj3 st late i]:=by unfold Xat;rw[X0u,Xzu];rfl
   have h24:∀m,m<=100000->m<=sizeLine:=λm h=>by rw[X3l];omega
   have fin:∀z:Str,Xj3 st late i=z->Xkt (.ref l) [.str z] H3 λ_ H4=>∃v1 v2 v3,[some (V.ref dr),some (.int n),some (.str Xk3),some (.int st),some (.bl late),some (.ref l),some (.int (0+(i:Int))),some (.str (signOf ((st+i) % 26))),some (.str (repS "m" ((st+i * i) % 7)))]=[some (.ref dr),some (.int n),some (.str Xk3),some (.int st),some (.bl late),some (.ref l),v1,v2,v3]/\H4 l=some (.lst ((Xat st late (i+1)).map V.str))/\DrawOk H4 dr sc/\But dr H H4:=λz hz=>by
    refine⟨l,_,_,rfl,rfl,hl3,by rw[Xzl,hnl,X3l];omega,_,_,_,rfl,?_,d3.upd nld nls,b3.upd nlH⟩
    rw[Xab,hsnoc,Xzu,<-hz]
    rfl
   refine⟨_,rfl,.inl ⟨rfl,_,SqL.of hl3⟩,_,rfl,late,rfl,?_⟩
   refine ite2b (λhL=>?_) (λhL=>?_)
   ·refine⟨_,rfl,_,rfl,_,_,rfl,rfl,h24 _ (by show (repS "m" ((st+i * i) % 7)).length+1<=100000;omega),_,_,rfl,rfl,h24 _ ?_,fin _ (by unfold Xj3;rw[X3n hL];rfl)⟩
    rw[Xdd]
    show (repS "m" ((st+i * i) % 7)).length+1+1<=100000
    omega
   ·exact⟨_,rfl,_,rfl,_,_,rfl,rfl,h24 _ (by show 1+(repS "m" ((st+i * i) % 7)).length<=100000;omega),fin _ (by unfold Xj3;rw[X3m (by rw[hL];decide)];rfl)⟩
  ·rintro σ H3 ⟨v1,v2,v3,rfl,hl3,d3,b3⟩
   exact⟨_,rfl,k l st late H3 nlH hst hl3 nls d3 b3⟩
theorem Xiw:FnScope NIsF ["_law_draw", "_law_most"] (defScope sIsland):=⟨rfl,rfl,rfl,by decide +kernel,rfl,by decide +kernel,by decide +kernel⟩
theorem Xq6{f:Addr}{fd:FuncData}(F:Fun K "_law_island" "_law_island" sIsland f fd)(T:Bl mg)(FP:FnPick P w K mg base)(FN:Fn P w K mg base CX0 2 "_law_names" ["_law_draw", "_law_many"] Xk4)
  (FR:Fn P w K mg base CX0 3 "_law_row" ["_law_draw", "_law_names_here"] spRowN):FnOk P w K mg base CX0 4 f fd ["_law_draw", "_law_most"] spIslandN:=by
 refine F.ok Xiw (λvs H Q E h=>?_) (λcdv A outer s H vs Q E hr h=>?_)
 ·obtain⟨dr,sc,m,rfl,_⟩:=h
  rfl
 ·obtain⟨dr,sc,m,rfl,hm,dk,k⟩:=h
  have hr1:Room 1 _:=hr.mono (by decide)
  have hr2:Room 2 _:=hr.mono (by decide)
  refine⟨_,Xad (Xao (i:=2) Xiw.nd rfl (Or.inl rfl) (Xar Xb1 Xai (Xap FP hr1 rfl pass0 (Xaa (pv 0) (Xaa Xai Xac)))))
   (Xad (Xao (i:=3) Xiw.nd rfl (Or.inl rfl) (Xba Xl0 (Xbw (Xaa (Xap FP hr1 rfl pass0 (Xaa (pv 0) (Xaa Xai Xac))) (Xaa (pv 2) (Xaa (Xap FP hr1 rfl pass0 (Xaa (pv 0) (Xaa (Xar Xb1 (pv 1) Xai) Xac))) Xac))))
    (Xap FP hr1 rfl pass0 (Xaa (pv 0) (Xaa Xai Xac))) (λ_ _=>rfl)))
   (Xaf (Xan (Xap FR hr rfl pass0 (Xaa (pv 0) (Xaa (Xap FN hr2 rfl pass0 (Xaa (pv 0) (Xaa (Xal (Xoh rfl) (by rfl) T.min boot_min (Xaa (pv 3) (Xaa (pv 1) Xac))) Xac))) Xac)))))),?_⟩
  refine⟨_,rfl,dr,sc,5,rfl,by decide,by decide,dk,λr1 H1 r10 _ d1 b1=>⟨_,_,rfl,rfl,?_⟩⟩
  refine⟨_,rfl,dr,sc,5,rfl,by decide,by decide,d1,λr2 H2 r20 _ d2 b2=>?_⟩
  refine⟨_,rfl,_,rfl,_,rfl,_,_,rfl,rfl,dr,sc,_,rfl,by omega,by omega,d2,λr3 H3 r30 _ d3 b3=>?_⟩
  have b1:But dr H H1:=b1
  have b13:But dr H H3:=But.trans b1 (But.trans b2 b3)
  refine⟨by show 3<=sizeLine;decide,λp np=>?_⟩
  obtain⟨ne1,ne2⟩:=d3.ne np
  obtain⟨xs3,hdr3⟩:=d3.at
  have npH:=b13.free hdr3 np
  refine⟨_,rfl,dr,sc,3,rfl,by decide,by decide,d3.upd ne1 ne2,λr4 H4 r40 r41 d4 b4=>?_⟩
  have b4:But dr (L2.upd H3 p (.tup [.int r2,.int (2+r1),.int r3])) H4:=b4
  have hp4:=b4 p _ Xab ne1
  have b14:But dr H H4:=But.trans (b13.upd npH) b4
  obtain⟨mm,hmm0,hmm⟩:∃mm:Int,0<=mm/\atI ([.int r2,.int (2+r1),.int r3]:List V) r4=some (.int mm):=by
   obtain⟨i,rfl⟩:=X0k r40
   have hi:i<3:=by omega
   match i,hi with
   | 0,_=>exact⟨r2,r20,rfl⟩
   | 1,_=>exact⟨2+r1,by omega,rfl⟩
   | 2,_=>exact⟨r3,r30,rfl⟩
  refine⟨p,_,_,_,rfl,rfl,SqT.of hp4,hmm,?_⟩
  obtain⟨n,hn,hnm⟩:∃n:Nat,(if (m:Int)<mm then (m:Int) else mm)=(n:Int)/\n<=m:=by
   obtain⟨j,rfl⟩:=X0k hmm0
   by_cases hj:(m:Int)<(j:Int)
   ·exact⟨m,X3n hj,Xzn _⟩
   ·exact⟨j,X3m hj,by omega⟩
  refine⟨_,rfl,_,rfl,_,rfl,_,rfl,_,_,rfl,?_⟩
  rw[hn]
  refine⟨dr,sc,n,rfl,by omega,d4,λl st late H5 nl hst hl5 nls d5 b5=>?_⟩
  obtain⟨xs4,hdr4⟩:=d4.at
  have nld:l≠dr:=(Xag hdr4 nl).symm
  have b15:=But.trans b14 b5
  refine⟨dr,sc,l,_,rfl,d5,hl5,nld,Xf6 hst (by omega),by unfold Xat;simp;omega,λl2 row H6 nl2 hl6 hp hno d6 b6=>?_⟩
  obtain⟨xs5,hdr5⟩:=d5.at
  exact k l2 row n st late H6 (b15.free hdr5 nl2) hnm hst hl6 hp hno d6 (But.trans b15 b6)
theorem Xh2:FnScope NBr ["_law_row_here"] (defScope s__law_bars):=⟨rfl,rfl,rfl,by decide +kernel,rfl,by decide +kernel,by decide +kernel⟩
theorem Xv2{f:Addr}{fd:FuncData}(F:Fun K "_law_bars" "_law_bars" s__law_bars f fd)(T:Bl mg)(FW:Fn P w K mg base CX0 1 "_law_where" ["_law_row_here"] Xii)
  (FO:Fn P w K mg base CX0 1 "_law_word" ["_law_where_here", "_law_one_here", "_law_other"] spWord):FnOk P w K mg base CX0 2 f fd ["_law_row_here"] spBars:=by
 refine F.ok Xh2 (λvs H Q E h=>?_) (λcdv A outer s H vs Q E hr h=>?_)
 ·obtain⟨r,row,rfl,_⟩:=h
  rfl
 ·obtain⟨r,row,rfl,hR,R2,k⟩:=h
  refine⟨_,Xad (Xao (i:=1) Xh2.nd rfl (Or.inl rfl) (Xap FW hr (by rfl) pass0 (Xaa (pv 0) Xac)))
   (Xad (Xao (i:=2) Xh2.nd rfl (Or.inl rfl) (Xbl Xac))
   (Xad (Xdk PassesOwn.never rfl (Xa4 (Xal (Xft rfl) (by rfl) T.sorted (by rfl) (Xaa (pv 1) Xac))) (Xak (i:=3) Xh2.nd rfl (Or.inl rfl))
    (Xaf (Xdk PassesOwn.never rfl (Xa4 (Xal (Xft rfl) (by rfl) T.sorted (by rfl) (Xaa (pv 1) Xac))) (Xak (i:=4) Xh2.nd rfl (Or.inl rfl))
     (Xad (Xao (i:=5) Xh2.nd rfl (Or.inl rfl) (Xap FO hr (by rfl) pass0 (Xaa (pv 1) (Xaa (pv 3) (Xaa (pv 4) Xac)))))
     (Xaf (Xb0 (Xkq (Xam Xcz (pv 5) Xaw (nomark _)) (Xgk (Xgl (Xam Xcz (pv 5) Xaw (nomark _)) (Xea (Xam Xi1 (pv 3) (pv 4) (nomark _)))).pt)).pt
      (Xaf (Xc8 (Xon PySem.F.plainAttrs_list PySem.F.slot_list_append PySem.F.type_list_append Xdp (pv 2) (Xaa (Xbw (Xaa (pv 3) (Xaa (pv 4) (Xaa (pv 5) Xac)))) Xac)))) Xay))))))
   (Xaf (Xan (pv 2))))),?_⟩
  have hrl:=R2.len
  have hdl:=Xed row
  refine⟨_,rfl,r,row,rfl,hR,by omega,λd kvs H1 nd hd wh s1=>?_⟩
  obtain⟨ss,hss,hsn,hsm⟩:=wh.names
  have hsl:ss.length<=60:=by
   have h1:=congrArg List.length hss
   rw[Xzl,Xzl] at h1
   have:=wh.len
   omega
  refine⟨by show 0<=sizeLine;decide,λu nu=>?_⟩
  refine⟨_,rfl,d,kvs,ss,rfl,.inl (ku hd nu),hss,by omega,λsn ls nsn hp1 hs1=>?_⟩
  rw[Xto hp1 hs1 hsn hsm]
  have hnu:∀{xs:List V},upd (upd H1 u (.lst [])) sn (.lst xs) u=some (.lst []):=λ{xs}=>ku Xab nsn
  have s2:Same H1 (upd (upd H1 u (.lst [])) sn (.lst ((dit row).map V.str))):=((Same.refl H1).step nu).step nsn
  have hsn2:upd (upd H1 u (.lst [])) sn (.lst ((dit row).map V.str)) sn=some (.lst ((dit row).map V.str)):=Xab
  have nsu:sn≠u:=(Xag (H:=upd H1 u (.lst [])) Xab nsn).symm
  have hu2:upd (upd H1 u (.lst [])) sn (.lst ((dit row).map V.str)) u=some (.lst []):=hnu
  generalize upd (upd H1 u (.lst [])) sn (.lst ((dit row).map V.str))=H2 at s2 hsn2 hu2
  have hlq:∀(i j:Nat),i<=60->∀x,((Xcj row i++Xcb row x ((dit row).take j)).map trD).length<=5000:=λi j hi x=>by
   rw[Xzl,Xzx]
   have h1:=Xk9 row i
   have h2:=Xg9 row x ((dit row).take j)
   rw[X0c] at h2
   have h3:i * (dit row).length<=60 * 60:=Nat.mul_le_mul hi (by omega)
   omega
  have hbase:∀b o,H1 b=some o->hid u H2 b=some o:=λb o e=>Xfw (s2 _ _ e) (Xag e nu)
  refine⟨sn,rfl,⟨_,SqL.of hsn2⟩,?_⟩
  refine Xcr (K:=K) (a:=sn) (xs:=(dit row).map V.str) (λi σ H9=>∃v3 v4 v5, σ=[some (.ref r),some (.ref d),some (.ref u),v3,v4,v5]/\Same (hid u H2) H9/\∃xs,H9 u=some (.lst xs)/\DAll (hid u H9) ((Xcj row i).map trD) xs) ?_ ?_ ?_ ?_
  ·exact⟨none,none,none,rfl,Xd3 u H2,[],hu2,Xct⟩
  ·rintro i σ H9 _ ⟨v3,v4,v5,rfl,s9,_⟩
   exact SqL.of (s9 _ _ (Xfw hsn2 nsu))
  ·rintro i y σ H9 hi ⟨v3,v4,v5,rfl,s9,xs,hu9,hal⟩
   have hil:i<(dit row).length:=by
    have:=(Xz7.mp hi).1
    rwa [Xzl] at this
   obtain⟨x,rfl,hx⟩:∃x,y=V.str x/\(dit row).getD i Str.empty=x:=by
    rw[Xz4,Xzo hil] at hi
    exact⟨_,(Xz3 hi).symm,by simp[List.getD,hil]⟩
   have hxr:x∈row:=Xaj.mp (by rw[<-hx];exact Xb6 hil)
   refine⟨_,rfl,d,kvs,ss,rfl,.inl (s9 _ _ (hbase _ _ hd)),hss,by omega,λsn2 ls2 nsn2 hp2 hs2=>?_⟩
   rw[Xto hp2 hs2 hsn hsm]
   have s10:Same H9 (upd H9 sn2 (.lst ((dit row).map V.str))):=(Same.refl H9).step nsn2
   have hsn10:upd H9 sn2 (.lst ((dit row).map V.str)) sn2=some (.lst ((dit row).map V.str)):=Xab
   have nsu2:sn2≠u:=(Xag hu9 nsn2).symm
   generalize upd H9 sn2 (.lst ((dit row).map V.str))=H10 at s10 hsn10
   have hal10:=DAll.same (Xe0 (D:=u) s10) _ _ hal
   have hu10:=s10 _ _ hu9
   have b10:=s9.trans s10
   refine⟨sn2,rfl,⟨_,SqL.of hsn10⟩,?_⟩
   refine Xcr (K:=K) (a:=sn2) (xs:=(dit row).map V.str) (λj σ H11=>∃v4 v5, σ=[some (.ref r),some (.ref d),some (.ref u),some (.str x),v4,v5]/\Same (hid u H10) H11/\∃xs,H11 u=some (.lst xs)/\DAll (hid u H11) ((Xcj row i++Xcb row x ((dit row).take j)).map trD) xs) ?_ ?_ ?_ ?_
   ·exact⟨v4,v5,rfl,Xd3 u H10,xs,hu10,by simpa [Xcb] using hal10⟩
   ·rintro j σ H11 _ ⟨v4,v5,rfl,s11,_⟩
    exact SqL.of (s11 _ _ (Xfw hsn10 nsu2))
   ·rintro j z σ H11 hj ⟨v4,v5,rfl,s11,xs,hu11,hal11⟩
    have hjl:j<(dit row).length:=by
     have:=(Xz7.mp hj).1
     rwa [Xzl] at this
    obtain⟨y,rfl,hy⟩:∃x,z=V.str x/\(dit row).getD j Str.empty=x:=by
     rw[Xz4,Xzo hjl] at hj
     exact⟨_,(Xz3 hj).symm,by simp[List.getD,hjl]⟩
    have hyr:y∈row:=Xaj.mp (by rw[<-hy];exact Xb6 hjl)
    have c1:=R2.two x hxr
    have c2:=R2.two y hyr
    have bb:∀b o,H1 b=some o->H11 b=some o:=λb o e=>s11 _ _ (Xfw (b10 _ _ (hbase b o e)) (Xag e nu))
    obtain⟨l1,e1,g1⟩:=wh.two' hxr c1
    obtain⟨l2,e2,g2⟩:=wh.two' hyr c2
    refine⟨_,rfl,_,rfl,_,rfl,d,l1,l2,kvs,x,y,_,_,_,_,rfl,.inl (bb _ _ hd),e1,e2,bb _ _ g1,bb _ _ g2,λH12 s12=>?_⟩
    rw[<-Xc6 c1 c2]
    have hu12:=s12 _ _ hu11
    have hal12:=DAll.same (Xe0 (D:=u) s12) _ _ hal11
    have b12:=s11.trans s12
    have hps:=Xj7 row x hjl
    rw[hy] at hps
    have stay:barB row x y=false->∃v4 v5,[some (V.ref r),some (.ref d),some (.ref u),some (.str x),some (.str y),some (.str (lieR row x y))]=[some (.ref r),some (.ref d),some (.ref u),some (.str x),v4,v5]/\Same (hid u H10) H12/\∃xs,H12 u=some (.lst xs)/\DAll (hid u H12) ((Xcj row i++Xcb row x ((dit row).take (j+1))).map trD) xs:=λhk=>by
     refine⟨_,_,rfl,b12,xs,hu12,?_⟩
     rw[hps,hk,X3m Xz1,X0t]
     exact hal12
    have app:barB row x y=true->Xwi (tBM K "list" Xkt (tVar 2) (Xm8 (tTup (Xm8 (tVar 3) (Xm8 (tVar 4) (Xm8 (tVar 5) tNil)))) tNil)) {nx:=fun σ H=>∃v4 v5, σ=[some (.ref r),some (.ref d),some (.ref u),some (.str x),v4,v5]/\Same (hid u H10) H/\∃xs,H u=some (.lst xs)/\DAll (hid u H) ((Xcj row i++Xcb row x ((dit row).take (j+1))).map trD) xs,rt:=Q} [some (V.ref r),some (.ref d),some (.ref u),some (.str x),some (.str y),some (.str (lieR row x y))] H12:=λhk=>by
     refine⟨_,rfl,.inl ⟨rfl,_,SqL.of hu12⟩,_,rfl,_,rfl,_,rfl,by show 3<=sizeLine;decide,λp np=>?_⟩
     have hxl:xs.length<=5000:=by
      rw[Xd1 hal12]
      exact hlq i j (by omega) x
     refine⟨u,_,_,rfl,rfl,ku hu12 np,by rw[X3l];omega,?_⟩
     refine⟨_,_,rfl,?_,xs++[.ref p],Xab,?_⟩
     ·intro b o e
      have nb:b≠u:=λz=>by rw[z] at e;unfold hid at e;rw[X3n rfl] at e;cases e
      rw[Xae nb,Xae (Xag (b12 _ _ e) np)]
      exact b12 _ _ e
     ·rw[Xpf,hps,hk,X3n rfl,<-X17,Xzu]
      refine Xez (DAll.same (Xe0 (D:=u) ((Same.refl H12).step np)) _ _ hal12) ?_
      exact Xpg hu12 np (Xcn [x,y,lieR row x y])
    refine⟨_,rfl,rfl,_,rfl,?_⟩
    rw[Xcu]
    refine ite2b (λq1=>?_) (λq1=>?_)
    ·exact iteT (app (by unfold barB;rw[q1];rfl))
    ·refine⟨_,rfl,rfl,_,rfl,?_⟩
     rw[Xcu]
     refine ite2b (λq2=>?_) (λq2=>?_)
     ·refine⟨_,rfl,_,rfl,_,_,rfl,rfl,_,rfl,?_⟩
      refine ite2b (λq3=>?_) (λq3=>?_)
      ·refine app ?_
       unfold barB
       have q3':decide (ltS x y)=true:=q3
       rw[q2,q3',X2i,X3i]
      ·refine stay ?_
       unfold barB
       have q3':decide (ltS x y)=false:=q3
       rw[q1,q3',Bool.and_false,X3c]
     ·refine iteF (stay ?_)
      unfold barB
      rw[q1,q2,X08,X3c]
   ·rintro σ H11 ⟨v4,v5,rfl,s11,xs,hu11,hal11⟩
    rw[Xzl,X0n] at hal11
    refine⟨_,_,_,rfl,λb o e=>?_,xs,hu11,?_⟩
    ·have nb:b≠u:=λz=>by rw[z] at e;unfold hid at e;rw[X3n rfl] at e;cases e
     exact s11 _ _ (Xfw (b10 _ _ e) nb)
    ·rw[Xj6 row hil,hx]
     exact hal11
  ·rintro σ H9 ⟨v3,v4,v5,rfl,s9,xs,hu9,hal⟩
   rw[Xzl,Xk8] at hal
   refine⟨_,rfl,k u xs H9 (s1.free nu) hu9 (DAll.same (Xd3 u H9) _ _ hal) (λb o e=>s9 _ _ (hbase _ _ (s1 _ _ e)))⟩
theorem Xm1:FnScope NFi ["_law_bars_here", "_law_plot"] (defScope s__law_fits):=⟨rfl,rfl,rfl,by decide +kernel,rfl,by decide +kernel,by decide +kernel⟩
theorem Xv3{f:Addr}{fd:FuncData}(F:Fun K "_law_fits" "_law_fits" s__law_fits f fd):FnOk P w K mg base CX0 1 f fd ["_law_bars_here", "_law_plot"] Xpp:=by
 refine F.ok Xm1 (λvs H Q E h=>?_) (λcdv A outer s H vs Q E hr h=>?_)
 ·obtain⟨b,p,xs,bs,ss,rfl,_⟩:=h
  rfl
 ·obtain⟨b,p,xs,bs,ss,rfl,hB,hal,hP,k⟩:=h
  refine⟨_,Xad (Xdk PassesOwn.never rfl (Xa4 (pv 0)) (Xn8 (n:=3) rfl (Xa3 (Xak (i:=2) Xm1.nd rfl (Or.inl rfl)) (Xa3 (Xak (i:=3) Xm1.nd rfl (Or.inl rfl)) (Xa3 (Xak (i:=4) Xm1.nd rfl (Or.inl rfl)) Xc9))))
    (Xaf (Xb0 (Xgl (Xam Xeo (pv 2) (pv 1) (by rfl)) (Xea (Xam Xt8 (Xby Xeo (pv 3) (pv 1) (by rfl)) (Xby Xcz (pv 4) Xaw (nomark _)) (nomark _)))).pt (Xaf (Xan Xgi)) Xay)))
   (Xaf (Xan Xgi)),?_⟩
  refine⟨_,rfl,b,rfl,⟨_,SqL.of hB⟩,?_⟩
  have hxl:xs.length=bs.length:=by rw[Xd1 hal,Xzl]
  refine Xcr (K:=K) (a:=b) (xs:=xs) (λi σ H2=>∃v2 v3 v4, σ=[some (.ref b),some (.ref p),v2,v3,v4]/\Same H H2/\Xfm (bs.take i) ss=true) ?_ ?_ ?_ ?_
  ·exact⟨none,none,none,rfl,Same.refl H,rfl⟩
  ·rintro i σ H2 _ ⟨v2,v3,v4,rfl,s2,_⟩
   exact SqL.of (s2 _ _ hB)
  ·rintro i y σ H2 hi ⟨v2,v3,v4,rfl,s2,hf⟩
   have hil:i<xs.length:=(Xz7.mp hi).1
   have hib:i<bs.length:=by omega
   obtain⟨v,hv,dv⟩:=Xif hal (show (bs.map trD)[i]? = some (trD bs[i]) by rw[Xz4,Xzo hib];rfl)
   rw[hi] at hv
   cases hv
   obtain⟨q,rfl,hq⟩:=Xu5 dv
   have htk:bs.take (i+1)=bs.take i++[bs[i]]:=Xzz hib
   generalize bs[i]=t at *
   have hfs:Xfm (bs.take (i+1)) ss = !(decide (t.1∈ss) && !decide (decide (t.2.1∈ss)=decide (t.2.2 = "within"))):=by
    rw[htk]
    unfold Xfm at hf ⊢
    rw[List.all_append,hf,X09]
    simp
   have bad:(decide (t.1∈ss) && !decide (decide (t.2.1∈ss)=decide (t.2.2 = "within")))=true->Xfm bs ss=false:=λhb=>by
    rw[X19]
    intro z
    have hz:Xfm (bs.take (i+1)) ss=true:=by
     unfold Xfm at z ⊢
     rw[X0a] at z ⊢
     exact λx hx=>z x (X1u hx)
    rw[hfs,hb] at hz
    cases hz
   refine⟨q,_,rfl,SqT.of (s2 _ _ hq),rfl,_,_,rfl,_,_,rfl,_,_,rfl,rfl,?_⟩
   refine⟨_,rfl,_,rfl,p,_,rfl,.inr (SqT.of (s2 _ _ hP)),rfl,Xb5 ss,_,rfl,?_⟩
   rw[X3m (by decide),Xc0]
   refine ite2b (λq1=>?_) (λq1=>?_)
   ·refine⟨_,rfl,_,rfl,p,_,rfl,.inr (SqT.of (s2 _ _ hP)),rfl,Xb5 ss,_,rfl,rfl,rfl,_,rfl,?_⟩
    rw[X3m (by decide),Xc0,Xcu]
    have eb:(!decide (V.bl (decide (t.2.1∈ss))=V.bl (decide (t.2.2 = "within")))) = !decide (decide (t.2.1∈ss)=decide (t.2.2 = "within")):=by
     congr 1
     rw[X0y,decide_eq_true_eq,decide_eq_true_eq]
     exact⟨λz=>by injection z,λz=>by rw[z]⟩
    rw[eb]
    refine ite2b (λq2=>?_) (λq2=>?_)
    ·have:=k H2 s2
     rw[bad (by rw[q1,q2];rfl)] at this
     exact this
    ·exact⟨_,_,_,rfl,s2,by rw[hfs,q1,q2];rfl⟩
   ·exact iteF ⟨_,_,_,rfl,s2,by rw[hfs,q1];rfl⟩
  ·rintro σ H2 ⟨v2,v3,v4,rfl,s2,hf⟩
   rw[hxl,X0n] at hf
   have:=k H2 s2
   rw[hf] at this
   exact this
theorem Xcc:FnScope NPl ["_law_row_here"] (defScope s__law_plots):=⟨rfl,rfl,rfl,by decide +kernel,rfl,by decide +kernel,by decide +kernel⟩
theorem Xs7{f:Addr}{fd:FuncData}(F:Fun K "_law_plots" "_law_plots" s__law_plots f fd)(T:Bl mg)(FFi:Fn P w K mg base CX0 1 "_law_fits" ["_law_bars_here", "_law_plot"] Xpp)
  (FBr:Fn P w K mg base CX0 2 "_law_bars" ["_law_row_here"] spBars):FnOk P w K mg base CX0 3 f fd ["_law_row_here"] Xit:=by
 refine F.ok Xcc (λvs H Q E h=>?_) (λcdv A outer s H vs Q E hr h=>?_)
 ·obtain⟨r,row,rfl,_⟩:=h
  rfl
 ·obtain⟨r,row,rfl,hR,R2,h3,h14,k⟩:=h
  have hu4:_+4<cLine:=X2f (Nat.add_le_add_left (by decide:4<=64) _) hr.units
  have hr1:Room 1 _:=hr.mono (by decide)
  have hr2:Room 2 _:=hr.mono (by decide)
  refine⟨_,Xad (Xao (i:=1) Xcc.nd rfl (Or.inl rfl) (Xap FBr hr2 (by rfl) pass0 (Xaa (pv 0) Xac)))
   (Xad (Xao (i:=2) Xcc.nd rfl (Or.inl rfl) (Xmi (i:=0) rfl (by rfl) T.sorted (by rfl) T.set (pv 0)))
   (Xad (Xao (i:=3) Xcc.nd rfl (Or.inl rfl) (Xbl (Xaa (Xbw Xac) Xac)))
   (Xad (Xao (i:=4) Xcc.nd rfl (Or.inl rfl) (Xbl (Xaa (Xbw Xac) Xac)))
   (Xad (Xdk PassesOwn.never rfl (Xdl rfl T.range (Xaa (Xal Xaq (by rfl) T.len boot_len (Xaa (pv 2) Xac)) Xac)) (Xak (i:=5) Xcc.nd rfl (Or.inl rfl))
    (Xad (Xao (i:=6) Xcc.nd rfl (Or.inl rfl) (Xbl Xac))
    (Xad (Xdk PassesOwn.never rfl (Xa4 (pv 4)) (Xak (i:=7) Xcc.nd rfl (Or.inl rfl))
     (Xaf (Xdk PassesOwn.never rfl (Xa4 (pv 2)) (Xak (i:=8) Xcc.nd rfl (Or.inl rfl))
      (Xad (Xao (i:=9) Xcc.nd rfl (Or.inl rfl) (Xa8 Xck (by rfl) T.tuple (by rfl) (Xaa (Xal Xio (by rfl) T.sorted (by rfl) (Xaa (Xar Xr0 (pv 7) (Xbw (Xaa (pv 8) Xac))) Xac)) Xac)))
      (Xaf (Xb0 (Xgl (Xam Xdo (pv 8) (pv 7) (by rfl)) (Xea (Xam (Xpw hu4) (pv 9) (pv 6) (by rfl)))).pt
       (Xaf (Xao (i:=6) Xcc.nd rfl (Or.inl rfl) (Xar Xbi (pv 6) (Xar Xtj (Xbl (Xaa (pv 9) Xac)) (Xa8 Xen (by rfl) T.int (by rfl) (Xaa (Xap FFi hr1 (by rfl) pass0 (Xaa (pv 1) (Xaa (pv 9) Xac))) Xac))))))
       Xay))))))
    (Xad (Xao (i:=4) Xcc.nd rfl (Or.inl rfl) (Xal Xkb (by rfl) T.sorted (by rfl) (Xaa (pv 6) Xac)))
    (Xaf (Xao (i:=3) Xcc.nd rfl (Or.inl rfl) (Xar Xbi (pv 3) (pv 4))))))))
   (Xaf (Xan (pv 3))))))),?_⟩
  have hrl:=R2.len
  have hdl:=Xed row
  refine⟨_,rfl,r,row,rfl,hR,R2,λb xs0 H1 nb hb hall s1=>?_⟩
  refine⟨_,rfl,r,row,rfl,.inl (SqL.of (s1 _ _ hR)),R2.len,λnl H2 nn hn2 s2=>?_⟩
  have hb2:=s2 _ _ hb
  have hall2:=DAll.same s2 _ _ hall
  have s12:=s1.trans s2
  refine⟨by show 0<=sizeLine;decide,λe1 ne1=>?_⟩
  refine⟨by show 1<=sizeLine;decide,λtl0 ntl0=>?_⟩
  refine⟨by show 0<=sizeLine;decide,λe2 ne2=>?_⟩
  refine⟨by show 1<=sizeLine;decide,λly0 nly0=>?_⟩
  generalize hH3:upd (upd (upd (upd H2 e1 (.tup [])) tl0 (.lst [.ref e1])) e2 (.tup [])) ly0 (.lst [.ref e2])=H3
  have f1:Same H2 H3:=by
   rw[<-hH3]
   exact((((Same.refl H2).step ne1).step ntl0).step ne2).step nly0
  have ht3:H3 tl0=some (.lst ([e1].map V.ref)):=by
   rw[<-hH3]
   exact ku (ku Xab ne2) nly0
  have hy3:H3 ly0=some (.lst ([e2].map V.ref)):=by
   rw[<-hH3]
   exact Xab
  have hP1:Tups H3 [e1] [[]]:=Tups.cons (by rw[<-hH3];exact ku (ku (ku Xab ntl0) ne2) nly0) (Tups.nil _)
  have hP2:Tups H3 [e2] [[]]:=Tups.cons (by rw[<-hH3];exact ku Xab nly0) (Tups.nil _)
  have ntl:H tl0=none:=s12.free (((Same.refl H2).step ne1).free ntl0)
  clear hH3
  have hn3:=f1 _ _ hn2
  refine⟨_,rfl,nl,_,rfl,.inl (SqL.of hn3),(((dit row).map V.str).length:Int),rfl,by omega,by rw[Xzl];omega,?_⟩
  have hnn:(((dit row).map V.str).length:Int).toNat=(dit row).length:=by rw[Xzl];simp
  rw[hnn]
  refine Xem (lo:=0) (n:=(dit row).length) (λi σ H4=>∃(v5 v6 v7 v8 v9:Option V) (tl ly:Addr) (ps qs:List Addr) (Vs Us:List (List Str)), σ=[some (.ref r),some (.ref b),some (.ref nl),some (.ref tl),some (.ref ly),v5,v6,v7,v8,v9]/\Same H3 H4/\H tl=none/\H4 tl=some (.lst (ps.map V.ref))/\H4 ly=some (.lst (qs.map V.ref))/\ps.length<=1+63 * i/\Tups H4 ps Vs/\Upto row i Vs/\Tups H4 qs Us/\SH.Lay row i Us) ?_ ?_ ?_
  ·exact⟨_,_,_,_,_,tl0,ly0,[e1],[e2],[[]],[[]],rfl,Same.refl _,ntl,ht3,hy3,by simp,hP1,Xyb row,hP2,Xzf row⟩
  ·rintro i σ H4 hi ⟨v5,v6,v7,v8,v9,tl,ly,ps,qs,Vs,Us,rfl,s4,nt4,ht4,hy4,hpl,hPs,hVs,hQs,hUs⟩
   refine⟨by show 0<=sizeLine;decide,λf0 nf0=>?_⟩
   have g1:Same H4 (upd H4 f0 (.lst [])):=(Same.refl H4).step nf0
   have hf0:Fresh row (upd H4 f0 (.lst [])) f0 [] []:=⟨Xab,rfl,.nil,λ_ h=>by cases h⟩
   generalize upd H4 f0 (.lst [])=H5 at g1 hf0
   have s35:=s4.trans g1
   have hn5:=s35 _ _ hn3
   have hb5:=s35 _ _ (f1 _ _ hb2)
   have ha5:=DAll.same s35 _ _ (DAll.same f1 _ _ hall2)
   have hQ5:=hQs.same g1
   refine⟨_,rfl,ly,rfl,⟨_,SqL.of (g1 _ _ hy4)⟩,?_⟩
   refine Xcr (K:=K) (a:=ly) (xs:=qs.map V.ref) (λj σ H6=>∃(v7 v8 v9:Option V) (f:Addr) (xs:List V) (Ts:List (List Str)), σ=[some (.ref r),some (.ref b),some (.ref nl),some (.ref tl),some (.ref ly),some (.int (0+(i:Int))),some (.ref f),v7,v8,v9]/\Same H5 H6/\Fresh row H6 f xs Ts/\(∀T∈Ts,T.length=i+1)/\Cov row Us j Ts) ?_ ?_ ?_ ?_
   ·exact⟨_,_,_,f0,[],[],rfl,Same.refl _,hf0,(λ_ h=>by cases h),λj hj=>absurd hj (X07 _)⟩
   ·rintro j σ H6 _ ⟨v7,v8,v9,f,xs,Ts,rfl,s6,hf,hfl,hcv⟩
    exact SqL.of (s6 _ _ (g1 _ _ hy4))
   ·rintro j y σ H6 hj ⟨v7,v8,v9,f,xs,Ts,rfl,s6,hf,hfl,hcv⟩
    obtain⟨q,rfl,hjl,hqj⟩:∃q,y=V.ref q/\j<qs.length/\qs.getD j 0=q:=by
     rw[Xz4] at hj
     cases z:qs[j]? with
     | none=>rw[z] at hj;cases hj
     | some q=>rw[z] at hj;exact⟨q,(Xz3 hj).symm,(Xz7.mp z).1,by simp[List.getD,z]⟩
    have hqs:=hQ5.2 j hjl
    rw[hqj] at hqs
    have hjU:j<Us.length:=by rw[<-hQ5.1];exact hjl
    have hUj:Us.getD j []∈Us:=by
     have:Us.getD j []=Us[j]:=by simp[List.getD,hjU]
     rw[this];exact X0b hjU
    obtain⟨hip,hil⟩:=(hUs.mem _).mp hUj
    generalize hss:Us.getD j []=ss at hqs hip hil
    have hssl:=Xgd hip
    obtain⟨hsr,hslt⟩:=Xa2 hip
    refine⟨_,rfl,nl,rfl,⟨_,SqL.of (s6 _ _ hn5)⟩,?_⟩
    refine Xcr (K:=K) (a:=nl) (xs:=(dit row).map V.str) (λm σ H7=>∃(v8 v9:Option V) (f:Addr) (xs:List V) (Ts:List (List Str)), σ=[some (.ref r),some (.ref b),some (.ref nl),some (.ref tl),some (.ref ly),some (.int (0+(i:Int))),some (.ref f),some (.ref q),v8,v9]/\Same H5 H7/\Fresh row H7 f xs Ts/\(∀T∈Ts,T.length=i+1)/\Cov row Us j Ts/\∀m',m'<m->(dit row).getD m' Str.empty∉ss->Xah row (srt (ss++[(dit row).getD m' Str.empty]))=true->srt (ss++[(dit row).getD m' Str.empty])∈Ts) ?_ ?_ ?_ ?_
    ·exact⟨_,_,f,xs,Ts,rfl,s6,hf,hfl,hcv,λm' hm'=>absurd hm' (X07 _)⟩
    ·rintro m σ H7 _ ⟨v8,v9,f,xs,Ts,rfl,s7,hf,hfl,hcv,hcm⟩
     exact SqL.of (s7 _ _ hn5)
    ·rintro m y σ H7 hm ⟨v8,v9,f,xs,Ts,rfl,s7,hf,hfl,hcv,hcm⟩
     obtain⟨x,rfl,hx,hxm⟩:∃x,y=V.str x/\x∈row/\(dit row).getD m Str.empty=x:=by
      rw[Xz4] at hm
      cases z:(dit row)[m]? with
      | none=>rw[z] at hm;cases hm
      | some x=>rw[z] at hm;exact⟨x,(Xz3 hm).symm,Xaj.mp (X2a z),by simp[List.getD,z]⟩
     have step:∀Ts':List (List Str),(∀T∈Ts,T∈Ts')->(x∉ss->Xah row (srt (ss++[x]))=true->srt (ss++[x])∈Ts')->∀m',m'<m+1->(dit row).getD m' Str.empty∉ss->Xah row (srt (ss++[(dit row).getD m' Str.empty]))=true->srt (ss++[(dit row).getD m' Str.empty])∈Ts':=λTs' sub new m' hm' a1 a2=>by
      by_cases e:m'=m
      ·subst e
       rw[hxm] at a1 a2 ⊢
       exact new a1 a2
      ·exact sub _ (hcm m' (by omega) a1 a2)
     refine⟨_,rfl,_,rfl,by show 1<=sizeLine;decide,λt1 nt1=>?_⟩
     have s8:Same H5 (upd H7 t1 (.tup [.str x])):=s7.step nt1
     have k78:Same H7 (upd H7 t1 (.tup [.str x])):=(Same.refl H7).step nt1
     refine⟨q,t1,_,_,rfl,rfl,s8 _ _ hqs,Xab,by rw[Xzl,X3l];show ss.length+1<=_;omega,λp1 H9 s9 hp1=>?_⟩
     have hp1':H9 p1=some (.tup ((ss++[x]).map V.str)):=by rw[hp1,Xzu];rfl
     refine⟨p1,_,rfl,hp1',by rw[Xzx];show ss.length+1<64;omega,λl2 nl2=>?_⟩
     refine⟨l2,_,rfl,.inl ⟨SqL.of Xab,λov nov=>?_⟩⟩
     have k7:Same H7 (upd (upd H9 l2 (.lst ((srt (ss++[x])).map V.str))) ov (.tup ((srt (ss++[x])).map V.str))):=((k78.trans s9).step nl2).step nov
     have hov:upd (upd H9 l2 (.lst ((srt (ss++[x])).map V.str))) ov (.tup ((srt (ss++[x])).map V.str)) ov=some (.tup ((srt (ss++[x])).map V.str)):=Xab
     generalize upd (upd H9 l2 (.lst ((srt (ss++[x])).map V.str))) ov (.tup ((srt (ss++[x])).map V.str))=HA at k7 hov
     have s5A:=s7.trans k7
     have hfA:=hf.same k7
     have okr:∀y∈srt (ss++[x]),okN y:=λy hy=>by
      rcases Xzw.mp (Xds.mp hy) with z | z
      ·exact R2.ok y (hsr y z)
      ·rw[Xzs.mp z];exact R2.ok x hx
     have okT:∀T∈Ts,∀y∈T,okN y:=λT hT y hy=>R2.ok y ((Xa2 (hf.ok T hT).2).1 y hy)
     have dep:PyData.depth (tupD (srt (ss++[x])))<=3:=by
      have:=Xpo (srt (ss++[x])) (srt (ss++[x]))
      rwa [Nat.min_self] at this
     have xsl:xs.length=Ts.length:=by rw[Xd1 hfA.all,Xzl]
     have hlt:=Xin R2.two h3 h14 hf.nd hf.ok
     dsimp only[Xbm]
     refine⟨_,rfl,_,rfl,q,_,rfl,.inr (SqT.of (s5A _ _ hqs)),rfl,Xb5 ss,_,rfl,?_⟩
     rw[X3n rfl,Xc0]
     refine ite2b (λhc=>?_) (λhc=>iteF ⟨_,_,f,xs,Ts,rfl,s5A,hfA,hfl,hcv,step Ts (λ_ h=>h) λz=>absurd (by simpa using hc) z⟩)
     have hxs:x∉ss:=by simpa using hc
     refine⟨_,rfl,_,rfl,tupD (srt (ss++[x])),Ts.map tupD,Xcv hov,Xdu hfA.at' hfA.all,Xas _ (Xcf okr),Xbp _ (plainAll_map tupD Ts λT hT=>Xcf (okT T hT)),dep,_,rfl,?_⟩
     refine ite2b (λhd=>?_) (λhd=>⟨_,_,f,xs,Ts,rfl,s5A,hfA,hfl,hcv,step Ts (λ_ h=>h) λ_ _=>?_⟩)
     rotate_left
     ·have hd:((Ts.map tupD).any λe=>PyData.eqv e (tupD (srt (ss++[x]))))=true:=by simpa using hd
      rw[X03] at hd
      obtain⟨e,he,hq⟩:=hd
      obtain⟨T,hT,rfl⟩:=Xz0.mp he
      have hq:PyData.eqv (.tuple (T.map PyData.str)) (.tuple ((srt (ss++[x])).map PyData.str))=true:=hq
      rw[Xim (okT T hT) okr] at hq
      rw[<-X3q hq]
      exact hT
     have hnew:srt (ss++[x])∉Ts:=λhm=>by
      have:((Ts.map tupD).any λe=>PyData.eqv e (tupD (srt (ss++[x]))))=true:=by
       rw[X03]
       refine⟨_,Xz0.mpr ⟨_,hm,rfl⟩,?_⟩
       show PyData.eqv (.tuple _) (.tuple _)=true
       rw[Xim okr okr]
       exact X3o rfl
      rw[this] at hd
      exact absurd hd (by decide)
     refine⟨_,rfl,_,rfl,by show 1<=sizeLine;decide,λc nc=>?_⟩
     have kA:Same HA (upd HA c (.lst [.ref ov])):=(Same.refl HA).step nc
     refine⟨_,rfl,_,rfl,b,ov,xs0,bars row,srt (ss++[x]),rfl,kA _ _ (s5A _ _ hb5),DAll.same kA _ _ (DAll.same s5A _ _ ha5),kA _ _ hov,λHB sB=>?_⟩
     have hcB:=sB _ _ (show upd HA c (.lst [.ref ov]) c=_ from Xab)
     refine .inr ⟨_,rfl,?_⟩
     cases hfit:Xfm (bars row) (srt (ss++[x])) with
     | false=>
      refine⟨c,_,_,rfl,rfl,hcB,by simp,by simp,by simp,λc2 nc2=>?_⟩
      have e0:(if True then (List.replicate ((if (false:Bool)=true then (1:Int) else 0)).toNat [V.ref ov]).flatten else ([]:List V))=[]:=by simp
      have kB:Same HA (upd HB c2 (.lst [])):=(kA.trans sB).step nc2
      refine⟨f,c2,xs,[],rfl,rfl,kB _ _ hfA.at',Xab,by rw[X3l];simp;omega,λg ng=>?_⟩
      have kC:Same HA (upd (upd HB c2 (.lst [])) g (.lst (xs++[]))):=kB.step ng
      refine⟨_,_,g,xs++[],Ts,rfl,s5A.trans kC,⟨Xab,?_,hf.nd,hf.ok⟩,hfl,hcv,step Ts (λ_ h=>h) λ_ z=>absurd ((Xve R2.two z).symm.trans hfit) (by decide)⟩
      exact(congrArg (DAll _ _) (X0t xs)).mpr (DAll.same kC _ _ hfA.all)
     | true=>
      refine⟨c,_,_,rfl,rfl,hcB,by simp,by simp,by show 1 * 1<=sizeLine;decide,λc2 nc2=>?_⟩
      have kB:Same HA (upd HB c2 (.lst [V.ref ov])):=(kA.trans sB).step nc2
      refine⟨f,c2,xs,[V.ref ov],rfl,rfl,kB _ _ hfA.at',Xab,by rw[X3l];simp;omega,λg ng=>?_⟩
      have kC:Same HA (upd (upd HB c2 (.lst [V.ref ov])) g (.lst (xs++[V.ref ov]))):=kB.step ng
      refine⟨_,_,g,xs++[V.ref ov],Ts++[srt (ss++[x])],rfl,s5A.trans kC,⟨Xab,?_,?_,?_⟩,?_,λi' hi' z hz a1 a2=>X0w _ (hcv i' hi' z hz a1 a2),step _ (λ_ h=>X0w _ h) λ_ _=>by simp⟩
      ·rw[Xzu]
       exact Xez (DAll.same kC _ _ hfA.all) (Xcv (kC _ _ hov))
      ·rw[X02]
       exact⟨hf.nd,by simp,λa ha b hb e=>hnew (by rw[Xzs.mp hb] at e;exact e ▸ ha)⟩
      ·intro T hT
       rcases Xzw.mp hT with z | z
       ·exact hf.ok T z
       ·rw[Xzs.mp z]
        exact⟨Xxr,Xpx R2.two hip hx hxs hfit⟩
      ·intro T hT
       rcases Xzw.mp hT with z | z
       ·exact hfl T z
       ·rw[Xzs.mp z,(Xbg _).length_eq,Xzx,hil]
        rfl
    ·rintro σ H7 ⟨v8,v9,f,xs,Ts,rfl,s7,hf,hfl,hcv,hcm⟩
     refine⟨_,_,_,f,xs,Ts,rfl,s7,hf,hfl,λi' hi' z hz a1 a2=>?_⟩
     by_cases e:i'=j
     ·subst e
      rw[hss] at a1 a2 ⊢
      obtain⟨m',hm',e'⟩:=X0q.mp (Xaj.mpr hz)
      have e2:(dit row).getD m' Str.empty=z:=by rw[<-e'];simp[List.getD,hm']
      have:=hcm m' (by rw[Xzl];exact hm')
      rw[e2] at this
      exact this a1 a2
     ·exact hcv i' (by omega) z hz a1 a2
   ·rintro σ H6 ⟨v7,v8,v9,f,xs,Ts,rfl,s6,hf,hfl,hcv⟩
    have hlt:=Xin R2.two h3 h14 hf.nd hf.ok
    obtain⟨fs,rfl,hfs⟩:=Xhf hf.all
    have hfl0:=hfs.1
    refine⟨_,rfl,f,fs,Ts,rfl,hf.at',hfs,λz=>(hf.ok _ z).1 rfl,hf.nd,by omega,λly' fs' Ts' nly' hfs' hpm hpw=>?_⟩
    have g6:Same H6 (upd H6 ly' (.lst (fs'.map V.ref))):=(Same.refl H6).step nly'
    have s46:=(g1.trans s6).trans g6
    rw[Xzl,hQ5.1] at hcv
    have hL':=Xsu R2.two hUs hcv (λT hT=>⟨(hf.ok T hT).2,hfl T hT⟩) hpm hpw
    have hP':=hfs'.same g6
    have hly':upd H6 ly' (.lst (fs'.map V.ref)) ly'=some (.lst (fs'.map V.ref)):=Xab
    generalize upd H6 ly' (.lst (fs'.map V.ref))=H8 at g6 s46 hP' hly'
    have hfl1:=hfs'.1
    have hfl':=hpm.length_eq
    refine⟨_,rfl,_,rfl,tl,ly',_,_,rfl,rfl,s46 _ _ ht4,hly',by rw[Xzl,Xzl,X3l];omega,λtl' ntl'=>?_⟩
    have g8:Same H8 (upd H8 tl' (.lst (ps.map V.ref++fs'.map V.ref))):=(Same.refl H8).step ntl'
    have e8:upd H8 tl' (.lst (ps.map V.ref++fs'.map V.ref)) tl'=some (.lst ((ps++fs').map V.ref)):=by rw[Xab,Xzu]
    refine⟨_,_,_,_,_,tl',ly',ps++fs',fs',Vs++Ts',Ts',rfl,(s4.trans s46).trans g8,?_,e8,g8 _ _ hly',by rw[Xzx];omega,(hPs.same (s46.trans g8)).app (hP'.same g8),hVs.next hL',hP'.same g8,hL'⟩
    exact s12.free (f1.free (s4.free (s46.free ntl')))
  ·rintro σ H4 ⟨v5,v6,v7,v8,v9,tl,ly,ps,qs,Vs,Us,rfl,s4,nt4,ht4,hy4,hpl,hPs,hVs,hQs,hUs⟩
   exact⟨_,rfl,k tl ps Vs H4 nt4 ht4 hPs hVs.all ((s12.trans f1).trans s4)⟩
abbrev NKt:List Str:=["_law_row_here", "_law_crowd", "_law_told", "_law_name", "_law_banks"]
abbrev NKt1:List Str:=["_law_plot", "_law_name"]
theorem Xm2:FnScope NKt ["_law_row_here", "_law_crowd"] (defScope s__law_kept):=⟨rfl,rfl,rfl,by decide +kernel,rfl,by decide +kernel,by decide +kernel⟩
theorem Xv4{f:Addr}{fd:FuncData}(F:Fun K "_law_kept" "_law_kept" s__law_kept f fd)(B:Bl mg):FnOk P w K mg base CX0 1 f fd ["_law_row_here", "_law_crowd"] Xis:=by
 refine F.ok Xm2 (λvs H Q E h=>?_) (λcdv A outer s H vs Q E hr h=>?_)
 ·obtain⟨r,c,row,ps,Ts,rfl,_⟩:=h
  rfl
 ·obtain⟨r,c,row,ps,Ts,rfl,hR,R2,hc,hT,hpl,ne,k⟩:=h
  refine⟨_,Xad (Xao (i:=2) Xm2.nd rfl (Or.inl rfl) (Xbl Xac))
   (Xad (Xdk PassesOwn.never rfl (Xa4 (Xmi (i:=0) rfl (by rfl) B.sorted (by rfl) B.set (pv 0))) (Xak (i:=3) Xm2.nd rfl (Or.inr rfl))
    (Xad (Xg4 (i:=4) (N:=NKt1) (cap:=[none,some 3]) (CompScope.of (defScope s__law_kept) NKt rfl rfl rfl (by decide +kernel)) rfl Xm2.nd rfl rfl (Xa4 (pv 1)) (λ_ _ _=>Xak (i:=0) (show NKt1.Nodup by decide +kernel) rfl (Or.inl rfl) (Or.inr rfl)) (λ_ _ _=>Xbd)
     (λ_ _ _=>Xba (Xci K (by rfl)) (Xbw (Xaa Xaw (Xaa Xaw Xac))) (Xa8 Xen (by rfl) B.int (by rfl) (Xaa (Xby (Xd0 K (by rfl)) (pv 1) (pv 0) (by rfl)) Xac)) (λ_ _=>rfl)))
    (Xaf (Xb0 (Xam Xcz (Xxp K (by rfl) PySem.F.plainAttrs_list PySem.F.slot_list_count PySem.F.type_list_count Xrz (pv 4) (Xaa (Xba Xaz (pv 4) Xai (λ_ _=>rfl)) Xac)) (Xal Xaq (by rfl) B.len boot_len (Xaa (pv 4) Xac)) (nomark _))
     (Xaf (Xc8 (Xon PySem.F.plainAttrs_list PySem.F.slot_list_append PySem.F.type_list_append Xdp (pv 2) (Xaa (Xbw (Xaa (pv 3) (Xaa (Xba Xaz (pv 4) Xai (λ_ _=>rfl)) Xac))) Xac)))) Xay))))
   (Xaf (Xan (pv 2)))),?_⟩
  have hrl:=R2.len
  have hdl:=Xed row
  refine⟨by show 0<=sizeLine;decide,λu nu=>?_⟩
  have s1:Same H (upd H u (.lst [])):=(Same.refl H).step nu
  have hu1:upd H u (.lst []) u=some (.lst []):=Xab
  dsimp only[Xbm]
  generalize upd H u (.lst [])=H1 at s1 hu1
  refine⟨_,rfl,r,row,rfl,.inl (SqL.of (s1 _ _ hR)),R2.len,λnl H2 nnl hnl s2=>?_⟩
  have hu2:=s2 _ _ hu1
  have s02:=s1.trans s2
  have nlu:nl≠u:=(Xag hu1 nnl).symm
  have base2:∀b o,H b=some o->hid u H2 b=some o:=λb o e=>Xfw (s02 _ _ e) (Xag e nu)
  have hnl2:hid u H2 nl=some (.lst ((dit row).map V.str)):=Xfw hnl nlu
  refine⟨nl,rfl,⟨_,SqL.of hnl⟩,?_⟩
  refine Xcr (K:=K) (a:=nl) (xs:=(dit row).map V.str) (λi σ H4=>(∃v3 v4, σ=[some (.ref r),some (.ref c),some (.ref u),v3,v4])/\Same (hid u H2) H4/\∃qs:List Addr,H4 u=some (.lst (qs.map V.ref))/\Tups H4 qs ((Xdj ((dit row).take i) Ts).map pr2)) ?_ ?_ ?_ ?_
  ·exact⟨⟨_,_,rfl⟩,Xd3 u H2,[],hu2,Tups.nil _⟩
  ·rintro i σ H4 _ ⟨⟨v3,v4,rfl⟩,s4,_⟩
   exact SqL.of (s4 _ _ hnl2)
  ·rintro i v σ H4 hi ⟨⟨v3,v4,rfl⟩,s4,qs,hu4,ht4⟩
   obtain⟨x,rfl,hx1⟩:=Xya hi
   have hlt:i<(dit row).length:=(Xz7.mp hx1).1
   have htk:(dit row).take (i+1)=(dit row).take i++[x]:=by
    rw[List.take_succ,hx1]
    rfl
   have bb:∀b o,H b=some o->H4 b=some o:=λb o e=>s4 _ _ (base2 b o e)
   have hc4:=bb _ _ hc
   have hT4:Tups H4 ps Ts:=⟨hT.1,λj hj=>bb _ _ (hT.2 j hj)⟩
   refine⟨_,rfl,c,rfl,⟨_,SqL.of hc4⟩,?_⟩
   refine Xg1 (n:=ps.length) (by rw[X3l];omega) (λj=>.ref (ps.getD j 0)) (λj=>.str (bk (Ts.getD j []) x)) ?_ ?_ ?_ ?_
   ·intro j H5 hj s5
    have:=Xbn (K:=K) (SqL.of (s5 _ _ hc4)) (by rw[Xzl];exact hj)
    rw[Xa0 V.ref 0 ps hj] at this
    exact this
   ·intro H5 s5
    have:=Xbo (K:=K) (SqL.of (s5 _ _ hc4))
    rwa [Xzl] at this
   ·intro j H5 Q' hj s5 kk
    have hp5:=s5 _ _ (hT4.2 j hj)
    generalize Ts.getD j []=S at hp5 kk
    refine⟨by show 2<=sizeLine;decide,λt nt=>?_⟩
    have s6:Same H5 (upd H5 t (.tup [.str "home",.str "off"])):=(Same.refl H5).step nt
    have ht6:upd H5 t (.tup [.str "home",.str "off"]) t=some (.tup [.str "home",.str "off"]):=Xab
    dsimp only
    generalize upd H5 t (.tup [.str "home",.str "off"])=H6 at s6 ht6
    refine⟨_,rfl,_,rfl,ps.getD j 0,_,rfl,.inr (SqT.of (s6 _ _ hp5)),rfl,Xb5 S,.inr ⟨_,rfl,?_⟩⟩
    have ei:(if false=true then !inV (.str x) (S.map V.str) else inV (.str x) (S.map V.str))=decide (x∈S):=by rw[X3m (by decide),Xc0]
    rw[ei]
    have hat:atI [V.str "home",V.str "off"] (if decide (x∈S)=true then (1:Int) else 0)=some (.str (bk S x)):=by
     unfold bk
     by_cases z:x∈S
     ·rw[X3o z,X3n rfl,X3n z];rfl
     ·rw[X3p z,X3m (by decide),X3m z];rfl
    exact⟨t,_,_,_,rfl,rfl,SqT.of ht6,hat,kk H6 s6⟩
   ·intro D H5 nD s5 hD
    have eL:(List.range ps.length).map (λj=>V.str (bk (Ts.getD j []) x))=(Ts.map λS=>bk S x).map V.str:=by
     rw[hT.1]
     have:=Xa7 [] (λ_=>true) Ts
     rw[X0o.mpr (λ_ _=>rfl),X0o.mpr (λ_ _=>rfl)] at this
     have q:=congrArg (List.map λS=>V.str (bk S x)) this
     rw[X0h] at q
     rw[X0h]
     exact q
    rw[eL] at hD
    have hl0:0<Ts.length:=List.length_pos_iff.mpr ne
    have hat0:atI ((Ts.map λS=>bk S x).map V.str) 0=some (.str (bk (Ts.headD []) x)):=by
     cases Ts with
     | nil=>exact absurd rfl ne
     | cons S r=>exact Xdm (j:=0) rfl
    have hu5:=s5 _ _ hu4
    have ht5:=ht4.same s5
    dsimp only[Xbm]
    refine⟨_,rfl,.inl ⟨rfl,_,SqL.of hD⟩,_,rfl,D,_,_,_,rfl,rfl,SqL.of hD,hat0,D,_,_,rfl,rfl,hD,rfl,Xb5 _,?_⟩
    refine⟨_,rfl,D,_,rfl,.inl (SqL.of hD),rfl,_,rfl,?_⟩
    have eb:decide (V.int (((Ts.map λS=>bk S x).map V.str).countP (λz=>eqV z (.str (bk (Ts.headD []) x))):Nat)=V.int (((Ts.map λS=>bk S x).map V.str).length:Nat))=decide ((Xbv Ts x).length=1):=by
     rw[Xqo,Xzl,Xzl]
     refine decide_eq_decide.mpr ?_
     rw[<-Xst ne x]
     exact⟨λh=>by injection h with h;exact Int.ofNat.inj h,λh=>by rw[h]⟩
    rw[eb]
    refine ite2b (λq=>?_) (λq=>?_)
    ·have h1:=X3q q
     refine⟨_,rfl,.inl ⟨rfl,_,SqL.of hu5⟩,_,rfl,_,rfl,D,_,_,_,rfl,rfl,SqL.of hD,hat0,by show 2<=sizeLine;decide,λp np=>?_⟩
     have hql:qs.length<=60:=by
      have:=ht4.1
      rw[Xzl] at this
      have h2:(Xdj ((dit row).take i) Ts).length<=i:=by
       unfold Xdj
       rw[Xzl]
       exact X0d (X0e ..) (by rw[X0c];omega)
      omega
     refine⟨u,_,_,rfl,rfl,ku hu5 np,by rw[Xzl,X3l];omega,?_⟩
     have hu6:upd H5 p (.tup [.str x,.str (bk (Ts.headD []) x)]) u=some (.lst (qs.map V.ref)):=ku hu5 np
     have hp6:upd H5 p (.tup [.str x,.str (bk (Ts.headD []) x)]) p=some (.tup ((pr2 (x,bk (Ts.headD []) x)).map V.str)):=Xab
     have s6:Same H5 (upd H5 p (.tup [.str x,.str (bk (Ts.headD []) x)])):=(Same.refl H5).step np
     dsimp only
     generalize upd H5 p (.tup [.str x,.str (bk (Ts.headD []) x)])=H6 at hu6 hp6 s6
     have keep:∀b w,H6 b=some (.tup w)->upd H6 u (.lst (qs.map V.ref++[.ref p])) b=some (.tup w):=λb w e=>by
      rw[Xae (λz=>by rw[z,hu6] at e;cases e)]
      exact e
     refine⟨⟨_,_,rfl⟩,λb o e=>?_,qs++[p],by rw[Xab,Xzu];rfl,?_⟩
     ·have nb:b≠u:=λz=>by rw[z] at e;unfold hid at e;rw[X3n rfl] at e;cases e
      rw[Xae nb]
      exact s6 _ _ (s5 _ _ (s4 _ _ e))
     ·rw[htk,Xfb,X3n h1,Xqp ne h1,Xzu]
      exact Tups.app ⟨ht5.1,λj hj=>keep _ _ (s6 _ _ (ht5.2 j hj))⟩ (Tups.cons (keep _ _ hp6) (Tups.nil _))
    ·refine⟨⟨_,_,rfl⟩,s4.trans s5,qs,hu5,?_⟩
     rw[htk,Xfb,X3m (X3r q),X0t]
     exact ht5
  ·rintro σ H4 ⟨⟨v3,v4,rfl⟩,s4,qs,hu4,ht4⟩
   rw[Xzl,X0n,Xkm] at ht4
   exact⟨_,rfl,k u qs H4 nu hu4 ht4 λb o e=>s4 _ _ (base2 b o e)⟩
theorem Xzj:FnScope ["_law_draw", "_law_some"] ["_law_draw", "_law_some"] (defScope s__law_one):=⟨rfl,rfl,rfl,by decide +kernel,rfl,by decide +kernel,by decide +kernel⟩
theorem Xyi{f:Addr}{fd:FuncData}(F:Fun K "_law_one" "_law_one" s__law_one f fd)(T:Bl mg)(FP:FnPick P w K mg base):FnOk P w K mg base CX0 2 f fd ["_law_draw", "_law_some"] spOne:=by
 refine F.ok Xzj (λvs H Q E h=>?_) (λcdv A outer s H vs Q E hr h=>?_)
 ·obtain⟨dr,sc,l,xs,rfl,_⟩:=h
  rfl
 ·obtain⟨dr,sc,l,xs,rfl,d,hl,nld,h0,h1,k⟩:=h
  have hr1:Room 1 _:=hr.mono (by decide)
  refine⟨_,Xaf (Xan (Xba Xaz (pv 1) (Xap FP hr1 (by rfl) pass0 (Xaa (pv 0) (Xaa (Xal Xaq (by rfl) T.len boot_len (Xaa (pv 1) Xac)) Xac))) (λ_ _=>rfl))),?_⟩
  refine⟨_,rfl,_,rfl,_,rfl,l,_,rfl,.inl (SqL.of hl),dr,sc,_,rfl,by omega,by omega,d,λgi H4 g0 g1 d4 b4=>?_⟩
  have b4:But dr H H4:=b4
  obtain⟨gi,rfl⟩:=X0k g0
  have hgi:gi<xs.length:=by omega
  have hat:atI xs (gi:Int)=some (xs.getD gi .non):=Xdm (by rw[Xzo hgi];simp[List.getD,hgi])
  exact⟨l,_,_,_,rfl,rfl,SqL.of (b4 _ _ hl nld),hat,k gi H4 hgi d4 b4⟩
theorem Xzk:FnScope ["_law_draw", "_law_some"] ["_law_draw", "_law_some"] (defScope s__law_few):=⟨rfl,rfl,rfl,by decide +kernel,rfl,by decide +kernel,by decide +kernel⟩
theorem Xyj{f:Addr}{fd:FuncData}(F:Fun K "_law_few" "_law_few" s__law_few f fd)(B:Bl mg)(FP:FnPick P w K mg base)(FO:Fn P w K mg base CX0 2 "_law_one" ["_law_draw", "_law_some"] spOne):FnOk P w K mg base CX0 3 f fd ["_law_draw", "_law_some"] spFew:=by
 refine F.ok Xzk (λvs H Q E h=>?_) (λcdv A outer s H vs Q E hr h=>?_)
 ·obtain⟨dr,sc,l,ps,rfl,_⟩:=h
  rfl
 ·obtain⟨dr,sc,l,ps,rfl,d,hl,nld,h0,h1,k⟩:=h
  have hr1:Room 1 _:=hr.mono (by decide)
  refine⟨_,Xaf (Xan (Xbu (N:=NFw) (cap:=[none,some 0,some 1]) (CompScope.of (defScope s__law_few) ["_law_draw", "_law_some"] rfl rfl rfl (by decide +kernel)) rfl
   (Xdl (by rfl) B.range (Xaa (Xar Xb1 Xai (Xap FP hr1 (by rfl) pass0 (Xaa (pv 0) (Xaa Xai Xac)))) Xac)) (λ_ _ _=>Xak (i:=0) (show NFw.Nodup by decide +kernel) rfl (Or.inl rfl) (Or.inr rfl)) (λ_ _ _=>Xbd)
   (λ_ _ _=>Xap (by exact FO) (by exact hr) (by rfl) pass0 (Xaa (pv 1) (Xaa (pv 2) Xac))))),?_⟩
  refine⟨_,rfl,dr,sc,4,rfl,by decide,by decide,d,λm H1 m0 m1 d1 b1=>?_⟩
  have b1:But dr H H1:=b1
  obtain⟨m,rfl⟩:=X0k m0
  refine⟨1,(m:Int),rfl,rfl,_,rfl,by omega,by omega,?_⟩
  have hn:((1:Int)+(m:Int)).toNat=1+m:=by omega
  rw[hn]
  have hl1:=b1 _ _ hl nld
  refine Xtp (n:=1+m) (λi=>.int (0+(i:Int))) (λD i σ2 H2=>(∃v, σ2=[v,some (.ref dr),some (.ref l)])/\DrawOk H2 dr sc/\But dr H1 H2/\∃qs:List Addr,H2 D=some (.lst (qs.map V.ref))/\qs.length=i/\∀q∈qs,q∈ps) ?_ ?_ ?_ ?_ ?_
  ·intro D hD
   obtain⟨n1,n2⟩:=d1.ne hD
   exact⟨⟨_,rfl⟩,d1.upd n1 n2,(But.refl dr H1).upd hD,[],Xab,rfl,λq hq=>by simp at hq⟩
  ·rintro D i σ2 H2 hD hi _
   refine⟨hi,λx H3 y=>?_⟩
   obtain⟨e1,e2⟩:=y
   exact⟨e1,e2⟩
  ·rintro D σ2 H2 hD _
   exact Xzn _
  ·rintro D i σ2 H2 hD hi ⟨⟨v,rfl⟩,d2,b2,qs,hq,hl2,hm⟩
   obtain⟨n1,n2⟩:=d1.ne hD
   have nlD:l≠D:=Xag hl1 hD
   refine⟨_,rfl,_,rfl,dr,sc,l,_,rfl,d2,b2 _ _ hl1 nld,nld,by rw[Xzl];exact h0,by rw[Xzl];exact h1,λgi H3 hgi d3 b3=>?_⟩
   have b3:But dr H2 H3:=b3
   rw[Xzl] at hgi
   rw[Xa0 V.ref 0 ps hgi]
   have hq3:=b3 _ _ hq n1
   refine wput hi hq3 (by rw[Xzl,X3l];omega) ⟨⟨_,rfl⟩,d3.upd n1 n2,λb o e n=>?_,qs++[ps.getD gi 0],by rw[Xab,Xzu];rfl,by rw[Xzx,hl2];rfl,λq hq=>?_⟩
   ·rw[Xae (Xag e hD)]
    exact b3 _ _ (b2 _ _ e n) n
   ·rcases Xzw.mp hq with z | z
    ·exact hm q z
    ·rw[Xzs.mp z]
     have:ps.getD gi 0=ps[gi]:=by simp[List.getD,hgi]
     rw[this]
     exact X0b hgi
  ·rintro D σ2 H2 hD ⟨_,d2,b2,qs,hq,hl2,hm⟩
   obtain⟨xs,hdr⟩:=d1.at
   exact k D qs H2 (b1.free hdr hD) hq hm (by omega) (by omega) d2 (b1.trans b2)
theorem Xn2:FnScope ["_law_row_here"] ["_law_row_here"] (defScope s__law_stranger):=⟨rfl,rfl,rfl,by decide +kernel,rfl,by decide +kernel,by decide +kernel⟩
theorem Xlv{f:Addr}{fd:FuncData}(F:Fun K "_law_stranger" "_law_stranger" s__law_stranger f fd):FnOk P w K mg base CX0 1 f fd ["_law_row_here"] Xfl:=by
 refine F.ok Xn2 (λvs H Q E h=>?_) (λcdv A outer s H vs Q E hr h=>?_)
 ·obtain⟨r,row,rfl,_⟩:=h
  rfl
 ·obtain⟨r,row,rfl,hR,hl,k⟩:=h
  have hu:=Xh7 hr
  refine⟨_,Xaf (Xan (Xek (Xam (Xw4 (Nat.lt_of_succ_lt hu)) (pv 0) (Xbl Xac) (nomark _))
   (Xar Xdx (Xa1 Xw9 (Xba Xaz (pv 0) Xai (λ_ _=>rfl)) Xbe (Xbc Xai)) Xaw) Xaw)),?_⟩
  refine⟨_,rfl,by show 0<=sizeLine;decide,λp np=>?_⟩
  have s1:Same H (upd H p (.lst [])):=(Same.refl H).step np
  refine⟨r,p,_,_,rfl,rfl,SqL.of (s1 _ _ hR),SqL.of Xab,Xy9 row,by simp,_,rfl,?_⟩
  have e:eqVL (row.map V.str) []=decide (row=[]):=Xrl row []
  rw[e]
  cases row with
  | nil=>exact k _ s1
  | cons y r'=>
   refine iteT ?_
   refine⟨_,rfl,r,_,_,_,rfl,rfl,SqL.of (s1 _ _ hR),(show atI ((y::r').map V.str) ((0:Nat):Int)=some (.str y) from Xdm rfl),_,rfl,y,rfl,rfl,⟨_,rfl⟩,by have:=hl y Xzr;omega,?_⟩
   refine⟨_,_,rfl,rfl,?_,k _ s1⟩
   have h1:=Txt.slice_le y none (some 7)
   have h2:=hl y Xzr
   have h3:(Str.ofString "q").length=1:=rfl
   rw[X3l,h3]
   omega
theorem Xhj:FnScope NOk ["_law_draw", "_law_row_here", "_law_kept_here"] (defScope s__law_odd_kept):=⟨rfl,rfl,rfl,by decide +kernel,rfl,by decide +kernel,by decide +kernel⟩
theorem Xv5{f:Addr}{fd:FuncData}(F:Fun K "_law_odd_kept" "_law_odd_kept" s__law_odd_kept f fd)(B:Bl mg)(FP:FnPick P w K mg base)(FS:Fn P w K mg base CX0 1 "_law_stranger" ["_law_row_here"] Xfl)
  (FO:Fn P w K mg base CX0 2 "_law_one" ["_law_draw", "_law_some"] spOne):FnOk P w K mg base CX0 3 f fd ["_law_draw", "_law_row_here", "_law_kept_here"] spOddK:=by
 refine F.ok Xhj (λvs H Q E h=>?_) (λcdv A outer s H vs Q E hr h=>?_)
 ·obtain⟨dr,sc,r,kp,row,qs,kept,rfl,_⟩:=h
  rfl
 ·obtain⟨dr,sc,r,kp,row,qs,kept,rfl,d0,hR,nrd,hI,hk,nkd,hq,g,k⟩:=h
  have hu:=Nat.lt_of_succ_lt (Xh7 hr)
  have hu1:=Xh7 hr
  have hr1:Room 1 _:=hr.mono (by decide)
  have h24:∀m,m<=100000->m<=sizeLine:=λm h=>by rw[X3l];omega
  refine⟨_,Xad (Xao (i:=2) Xhj.nd rfl (Or.inl rfl) (Xa8 Xfq (by rfl) B.list (by rfl) (Xaa (pv 2) Xac)))
   (Xad (Xao (i:=3) Xhj.nd rfl (Or.inl rfl) (Xap FP hr1 (by rfl) pass0 (Xaa (pv 0) (Xaa Xai Xac))))
   (Xad (Xao (i:=4) Xhj.nd rfl (Or.inl rfl) (Xap FP hr1 (by rfl) pass0 (Xaa (pv 0) (Xaa (Xar Xb1 (Xal Xaq (by rfl) B.len boot_len (Xaa (pv 2) Xac)) Xai) Xac))))
   (Xad (Xb0 (Xkq (Xam Xcz (pv 3) Xai (nomark _)) (Xgk (Xam (Xw3 hu) (pv 1) (Xbl Xac) (nomark _)))).pt
    (Xaf (Xan (Xar Xbi (Xar Xbi (Xa1 Xbf (pv 2) Xbe (Xbc (pv 4))) (Xbl (Xaa (Xbw (Xaa (Xap FS hr1 (by rfl) pass0 (Xaa (pv 1) Xac)) (Xaa Xaw Xac))) Xac))) (Xa1 Xbf (pv 2) (Xbc (pv 4)) Xbe)))) Xay)
   (Xad (Xb0 (Xam Xcz (pv 3) Xai (nomark _))
    (Xaf (Xan (Xar Xbi (Xar Xbi (Xa1 Xbf (pv 2) Xbe (Xbc (pv 4))) (Xbl (Xaa (Xbw (Xaa (Xap FO hr (by rfl) pass0 (Xaa (pv 0) (Xaa (pv 1) Xac))) (Xaa (Xba Xl0 (Xbw (Xaa Xaw (Xaa Xaw Xac))) (Xap FP hr1 (by rfl) pass0 (Xaa (pv 0) (Xaa Xai Xac))) (λ_ _=>rfl)) Xac))) Xac))) (Xa1 Xbf (pv 2) (Xbc (pv 4)) Xbe)))) Xay)
   (Xad (Xb0 (Xam (Xjw (hu3 hr)) (pv 2) (Xbl Xac) (nomark _)) (Xaf (Xan (pv 2))) Xay)
   (Xad (Xao (i:=4) Xhj.nd rfl (Or.inl rfl) (Xap FP hr1 (by rfl) pass0 (Xaa (pv 0) (Xaa (Xal Xaq (by rfl) B.len boot_len (Xaa (pv 2) Xac)) Xac))))
   (Xad (Xel (Xba Xaz (pv 2) (pv 4) (λ_ _=>rfl)) (Xn8 (n:=2) rfl (Xa3 (Xak (i:=5) Xhj.nd rfl (Or.inl rfl)) (Xa3 (Xak (i:=6) Xhj.nd rfl (Or.inl rfl)) Xc9))))
   (Xad (Xb0 (Xam Xcz (pv 3) Xai (nomark _)) (Xaf (Xan (Xar Xbi (Xa1 Xbf (pv 2) Xbe (Xbc (pv 4))) (Xa1 Xbf (pv 2) (Xbc (Xar Xb1 (pv 4) Xai)) Xbe)))) Xay)
   (Xad (Xb0 (Xam Xcz (pv 3) Xai (nomark _))
    (Xaf (Xan (Xar Xbi (Xar Xbi (Xa1 Xbf (pv 2) Xbe (Xbc (pv 4))) (Xbl (Xaa (Xbw (Xaa (pv 5) (Xaa (Xb4 hu1 (Xum (Xl3 Xaw Xaw (Xl3 Xaw Xaw Xul)) rfl rfl (by simp) (by decide)) (pv 6) (λ_ _=>rfl)) Xac))) Xac))) (Xa1 Xbf (pv 2) (Xbc (Xar Xb1 (pv 4) Xai)) Xbe)))) Xay)
   (Xad (Xb0 (Xam Xcz (pv 3) Xai (nomark _))
    (Xaf (Xan (Xar Xbi (Xar Xbi (Xa1 Xbf (pv 2) Xbe (Xbc (pv 4))) (Xbl (Xaa (Xbw (Xaa (pv 5) (Xaa Xaw Xac))) Xac))) (Xa1 Xbf (pv 2) (Xbc (Xar Xb1 (pv 4) Xai)) Xbe)))) Xay)
   (Xaf (Xan (Xov (pv 2)))))))))))))),?_⟩
  have ko:=g.kp hI
  have hkl:qs.length=kept.length:=by
   have:=hq.1
   rwa [Xzl] at this
  have kl:kept.length<=14:=X0d g.len hI.dlen
  refine⟨_,rfl,kp,_,rfl,.inl (SqL.of hk),λkl' nkl=>?_⟩
  have s1:Same H (upd H kl' (.lst (qs.map V.ref))):=(Same.refl H).step nkl
  have hk1:upd H kl' (.lst (qs.map V.ref)) kl'=some (.lst (qs.map V.ref)):=Xab
  have nk1:kl'≠dr:=(d0.ne nkl).1
  dsimp only[Xbm]
  generalize upd H kl' (.lst (qs.map V.ref))=H1 at s1 hk1
  have d1:=d0.same s1
  have bB1:But dr H H1:=λb o e _=>s1 _ _ e
  refine⟨_,rfl,dr,sc,6,rfl,by decide,by decide,d1,λwy H2 w0 w1 d2 b2=>?_⟩
  have b2:But dr H1 H2:=b2
  dsimp only[Xbm]
  refine⟨_,rfl,_,rfl,kl',_,rfl,.inl (SqL.of (b2 _ _ hk1 nk1)),_,_,rfl,rfl,dr,sc,_,rfl,by omega,by rw[Xzl];omega,d2,λat_ H3 a0 a1 d3 b3=>?_⟩
  have b3:But dr H2 H3:=b3
  obtain⟨at_,rfl⟩:=X0k a0
  rw[Xzl] at a1
  have hat:at_<=qs.length:=by omega
  have b13:=b2.trans b3
  have b03:=bB1.trans b13
  have fin:∀{H4:Hp} {k':Addr} {qs':List Addr} {kept':List (Str×Str)},But dr H H4->DrawOk H4 dr sc->k'≠dr->H4 k'=some (.lst (qs'.map V.ref))->Tups H4 qs' (kept'.map pr2)->KpOk kept'->Q (.ref k') H4:=λb d n h t o=>k _ _ _ _ n h t o d b
  have tq:∀{H4:Hp},But dr H H4->Tups H4 qs (kept.map pr2):=λb=>⟨hq.1,λi hi=>b _ _ (hq.2 i hi) (d0.ntup _ _ (hq.2 i hi))⟩
  have hk3:=b13 _ _ hk1 nk1
  dsimp only[Xbm]
  refine Xyc (decide ((wy:Int)=0)) (decide (row=[])) (λQ' hQ=>?_) (λH4 Q' s4 hQ=>?_) (λ_ H4 s4=>?_) (λhne H4 s4=>?_)
  ·refine⟨_,rfl,rfl,_,rfl,?_⟩
   have e:decide (V.int wy=V.int 0)=decide (wy=0):=decide_eq_decide.mpr ⟨λh=>by injection h,λh=>by rw[h]⟩
   rw[e]
   exact hQ H3 (Same.refl _)
  ·refine⟨_,rfl,by show 0<=sizeLine;decide,λe ne=>?_⟩
   refine⟨r,e,_,[],rfl,rfl,SqL.of (ku (s4 _ _ (b03 _ _ hR nrd)) ne),SqL.of Xab,λv hv=>?_,λv hv=>absurd hv (by simp),_,rfl,?_⟩
   ·obtain⟨x,_,rfl⟩:=Xz0.mp hv
    rfl
   ·have ee:id (eqVL (row.map V.str) [])=decide (row=[]):=by cases row<;>rfl
    rw[ee]
    exact hQ _ ((Same.refl H4).step ne)
  ·-- a stranger
   have b04:=b03.same s4
   have d4:=d3.same s4
   have hk4:=s4 _ _ hk3
   refine⟨_,rfl,_,rfl,_,rfl,kl',_,rfl,SqL.of hk4,λp1 n1=>?_⟩
   rw[Xfu _ _ _ hat]
   have s5:Same H4 (upd H4 p1 (.lst ((qs.take at_).map V.ref))):=(Same.refl H4).step n1
   have hp5:upd H4 p1 (.lst ((qs.take at_).map V.ref)) p1=some (.lst ((qs.take at_).map V.ref)):=Xab
   dsimp only
   generalize upd H4 p1 (.lst ((qs.take at_).map V.ref))=H5 at s5 hp5
   refine⟨_,rfl,r,row,rfl,s5 _ _ (b04 _ _ hR nrd),λy hy=>(hI.ok y hy).1,λH6 s6=>⟨by show 2<=sizeLine;decide,λt nt=>⟨by show 1<=sizeLine;decide,λp2 n2=>?_⟩⟩⟩
   refine⟨p1,p2,_,[.ref t],rfl,rfl,ku (ku (s6 _ _ hp5) nt) n2,Xab,h24 _ (by simp;omega),λp3 n3=>?_⟩
   refine⟨_,rfl,_,rfl,_,rfl,kl',_,rfl,SqL.of (ku (ku (ku (s6 _ _ (s5 _ _ hk4)) nt) n2) n3),λp4 n4=>?_⟩
   rw[Xew _ _ _ hat]
   refine⟨p3,p4,_,_,rfl,rfl,ku Xab n4,Xab,h24 _ (by simp;omega),λp5 n5=>?_⟩
   have s7:=((((((Same.refl H6).go nt n2).go n2 n3).go n3 n4).go n4 n5)).step (o:=.lst ((qs.take at_).map V.ref++[.ref t]++(qs.drop at_).map V.ref)) n5
   have b07:=b04.same (s5.trans (s6.trans s7))
   refine fin (qs':=qs.take at_++t::qs.drop at_) (kept':=kept.take at_++(Xc5 row,("home" : Str))::kept.drop at_) b07 (d4.same (s5.trans (s6.trans s7))) ?_ (by rw[Xab];simp) (SH.Tups.mid (tq b07) (ku (ku (ku (ku Xab n2) n3) n4) n5) at_ at_) (ko.mid kl _ _ (Xzn _) ⟨hI.stranger9,(Xfp (.inr rfl)).1,hI.stranger.1,(Xfp (.inr rfl)).2⟩)
   obtain⟨xs,hdr⟩:=(d4.same (s5.trans s6)).at
   exact λz=>by rw[z] at n5;rw[ku (ku (ku (ku hdr nt) n2) n3) n4] at n5;cases n5
  ·have b04:=b03.same s4
   have d4:=d3.same s4
   have hk4:=s4 _ _ hk3
   have hR4:=b04 _ _ hR nrd
   clear s4
   refine⟨_,rfl,rfl,_,rfl,?_⟩
   refine ite2b (λ_=>?_) (λ_=>?_)
   ·-- a name of the row
    have nr:row≠[]:=λz=>by rw[z] at hne;simp at hne
    have rl:0<row.length:=List.length_pos_iff.mpr nr
    have rl2:=hI.len
    obtain⟨xs4,hdr4⟩:=d4.at
    refine⟨_,rfl,_,rfl,_,rfl,kl',_,rfl,SqL.of hk4,λp1 n1=>?_⟩
    rw[Xfu _ _ _ hat]
    have s5:Same H4 (upd H4 p1 (.lst ((qs.take at_).map V.ref))):=(Same.refl H4).step n1
    have hp5:upd H4 p1 (.lst ((qs.take at_).map V.ref)) p1=some (.lst ((qs.take at_).map V.ref)):=Xab
    have np1:p1≠dr:=λz=>by rw[z,hdr4] at n1;cases n1
    dsimp only
    generalize upd H4 p1 (.lst ((qs.take at_).map V.ref))=H5 at s5 hp5
    have d5:=d4.same s5
    have b05:=b04.same s5
    refine⟨_,rfl,_,rfl,dr,sc,r,_,rfl,d5,s5 _ _ hR4,nrd,by rw[Xzl];exact rl,by rw[Xzl];omega,λgi H6 hgi d6 b6=>?_⟩
    have b6:But dr H5 H6:=b6
    rw[Xzl] at hgi
    rw[Xa0 V.str Str.empty row hgi]
    have hx:row.getD gi Str.empty∈row:=Xb6 hgi
    generalize row.getD gi Str.empty=x at hx
    refine⟨by show 2<=sizeLine;decide,λu nu=>?_⟩
    have s7:Same H6 (upd H6 u (.tup [.str "home",.str "off"])):=(Same.refl H6).step nu
    have hu7:upd H6 u (.tup [.str "home",.str "off"]) u=some (.tup [.str "home",.str "off"]):=Xab
    dsimp only
    generalize upd H6 u (.tup [.str "home",.str "off"])=H7 at s7 hu7
    have d7:=d6.same s7
    refine⟨_,rfl,dr,sc,2,rfl,by decide,by decide,d7,λbb H8 c0 c1 d8 b8=>?_⟩
    have b8:But dr H7 H8:=b8
    obtain⟨bb,rfl⟩:=X0k c0
    have hbb:∃y:Str,atI [V.str "home",V.str "off"] (bb:Int)=some (.str y)/\(y = "off" \/ y = "home"):=by
     have:bb<2:=by omega
     match bb,this with
     | 0,_=>exact⟨"home",rfl,.inr rfl⟩
     | 1,_=>exact⟨"off",rfl,.inl rfl⟩
    obtain⟨y,hy,hyb⟩:=hbb
    have hp8:H8 p1=some (.lst ((qs.take at_).map V.ref)):=b8 _ _ (s7 _ _ (b6 _ _ hp5 np1)) np1
    have hk8:H8 kl'=some (.lst (qs.map V.ref)):=b8 _ _ (s7 _ _ (b6 _ _ (s5 _ _ hk4) nk1)) nk1
    have b08:=((b05.trans b6).same s7).trans b8
    obtain⟨xs8,hdr8⟩:=d8.at
    refine⟨u,_,_,_,rfl,rfl,SqT.of (b8 _ _ hu7 (d7.ntup _ _ hu7)),hy,by show 2<=sizeLine;decide,λt nt=>⟨by show 1<=sizeLine;decide,λp2 n2=>?_⟩⟩
    refine⟨p1,p2,_,[.ref t],rfl,rfl,ku (ku hp8 nt) n2,Xab,h24 _ (by simp;omega),λp3 n3=>?_⟩
    refine⟨_,rfl,_,rfl,_,rfl,kl',_,rfl,SqL.of (ku (ku (ku hk8 nt) n2) n3),λp4 n4=>?_⟩
    rw[Xew _ _ _ hat]
    refine⟨p3,p4,_,_,rfl,rfl,ku Xab n4,Xab,h24 _ (by simp;omega),λp5 n5=>?_⟩
    have s9:=(((((Same.refl H8).go nt n2).go n2 n3).go n3 n4).go n4 n5).step (o:=.lst ((qs.take at_).map V.ref++[.ref t]++(qs.drop at_).map V.ref)) n5
    have b09:=b08.same s9
    have oy:=Xfp hyb
    exact fin (qs':=qs.take at_++t::qs.drop at_) (kept':=kept.take at_++(x,y)::kept.drop at_) b09 (d8.same s9) (λz=>by rw[z] at n5;rw[ku (ku (ku (ku hdr8 nt) n2) n3) n4] at n5;cases n5) (by rw[Xab];simp) (SH.Tups.mid (tq b09) (ku (ku (ku (ku Xab n2) n3) n4) n5) at_ at_) (ko.mid kl _ _ (Xzn _) ⟨hI.r9 x hx,oy.1,hI.ok x hx,oy.2⟩)
   ·refine⟨_,rfl,by show 0<=sizeLine;decide,λe ne=>?_⟩
    have s5:Same H4 (upd H4 e (.lst [])):=(Same.refl H4).step ne
    have he5:upd H4 e (.lst []) e=some (.lst []):=Xab
    dsimp only
    generalize upd H4 e (.lst [])=H5 at s5 he5
    have b05:=b04.same s5
    have d5:=d4.same s5
    have hk5:=s5 _ _ hk4
    refine⟨.list ((kept.map pr2).map tupD),.list (([]:List (List Str)).map tupD),Xbz hk5 (tq b05),Xdu he5 Xct,Xas _ (Xav ko.okL),rfl,Xcp _ [],_,rfl,?_⟩
    rw[Xdh ko.okL (λS hS=>absurd hS (by simp))]
    refine ite2b (λ_=>?_) (λq0=>?_)
    ·exact⟨_,rfl,fin b05 d5 nk1 hk5 (tq b05) ko⟩
    have kn:0<kept.length:=by
     have:=X3r q0
     cases kept with
     | nil=>exact absurd rfl this
     | cons _ _=>exact Nat.succ_pos _
    clear s5 he5
    refine⟨_,rfl,_,rfl,kl',_,rfl,.inl (SqL.of hk5),dr,sc,_,rfl,by rw[Xzl];omega,by rw[Xzl];omega,d5,λi H6 i0 i1 d6 b6=>?_⟩
    have b6:But dr H5 H6:=b6
    obtain⟨i,rfl⟩:=X0k i0
    rw[Xzl] at i1
    have hi:i<kept.length:=by omega
    have hiq:i<qs.length:=by omega
    have b06:=b05.trans b6
    have hk6:=b6 _ _ hk5 nk1
    have ht6:=(tq b06).2 i hiq
    have e1:(kept.map pr2).getD i []=pr2 kept[i]:=by simp[List.getD,hi]
    rw[e1] at ht6
    have hm:=X0b hi
    generalize kept[i]=q at ht6 hm
    obtain⟨o1,o2,o3,o4⟩:=ko.ok q hm
    have hs:=(g.row q hm).2
    have hat6:atI (qs.map V.ref) (i:Int)=some (.ref (qs.getD i 0)):=Xdm (by rw[Xz4,Xzo hiq];simp[List.getD,hiq])
    have ii:(i:Int)+1=((i+1:Nat):Int):=by simp
    have hc1:i<=qs.length:=by omega
    have hc2:i+1<=qs.length:=by omega
    obtain⟨xs6,hdr6⟩:=d6.at
    dsimp only[Xbm]
    refine⟨_,rfl,_,rfl,kl',_,_,_,rfl,rfl,SqL.of hk6,hat6,_,_,rfl,SqT.of ht6,rfl,_,_,rfl,_,_,rfl,rfl,?_⟩
    refine⟨_,rfl,rfl,_,rfl,?_⟩
    refine ite2b (λ_=>?_) (λ_=>?_)
    ·-- one less
     refine⟨_,rfl,_,rfl,_,rfl,kl',_,rfl,SqL.of hk6,λp1 n1=>?_⟩
     rw[Xfu _ _ _ hc1]
     refine⟨_,rfl,_,rfl,_,_,rfl,rfl,_,rfl,kl',_,rfl,SqL.of (ku hk6 n1),λp2 n2=>?_⟩
     rw[ii,Xew _ _ _ hc2]
     refine⟨p1,p2,_,_,rfl,rfl,ku Xab n2,Xab,h24 _ (by simp;omega),λp3 n3=>?_⟩
     have s7:=(((Same.refl H6).go n1 n2).go n2 n3).step (o:=.lst ((qs.take i).map V.ref++(qs.drop (i+1)).map V.ref)) n3
     have b07:=b06.same s7
     refine fin (qs':=qs.take i++qs.drop (i+1)) (kept':=kept.take i++kept.drop (i+1)) b07 (d6.same s7) (λz=>by rw[z] at n3;rw[ku (ku hdr6 n1) n2] at n3;cases n3) (by rw[Xab];simp) ?_ (ko.cut kl _ _ (X05 _))
     have ek:(kept.take i++kept.drop (i+1)).map pr2=(kept.map pr2).take i++(kept.map pr2).drop (i+1):=by rw[Xzu,X3d,X3e]
     rw[ek]
     exact Tups.app (Xmv (tq b07) i) (Xmw (tq b07) (i+1))
    refine⟨_,rfl,rfl,_,rfl,?_⟩
    refine ite2b (λ_=>?_) (λ_=>?_)
    ·-- the other bank
     have hfl:∃y:Str,valV (mergeK [] [((Sum.inr "home" : Key),V.str "off"),(Sum.inr "off",V.str "home")]) (Sum.inr q.2:Key)=some (.str y)/\(y = "off" \/ y = "home"):=by
      rcases hs with e | e
      ·rw[e];exact⟨"home",rfl,.inr rfl⟩
      ·rw[e];exact⟨"off",rfl,.inl rfl⟩
     obtain⟨y,hy,hyb⟩:=hfl
     refine⟨_,rfl,_,rfl,_,rfl,kl',_,rfl,SqL.of hk6,λp1 n1=>?_⟩
     rw[Xfu _ _ _ hc1]
     refine⟨_,rfl,λdd ndd=>⟨Xab,[((Sum.inr "home" : Key),V.str "off"),(Sum.inr "off",V.str "home")],rfl,by show 2<=15;decide,?_⟩⟩
     have s7:Same (upd H6 p1 (.lst ((qs.take i).map V.ref))) (upd (upd (upd H6 p1 (.lst ((qs.take i).map V.ref))) dd (.dK [])) dd (.dK (mergeK [] [((Sum.inr "home" : Key),V.str "off"),(Sum.inr "off",V.str "home")]))):=λb o e=>by
      rw[Xae (Xag e ndd),Xae (Xag e ndd)]
      exact e
     have hd7:upd (upd (upd H6 p1 (.lst ((qs.take i).map V.ref))) dd (.dK [])) dd (.dK (mergeK [] [((Sum.inr "home" : Key),V.str "off"),(Sum.inr "off",V.str "home")])) dd=some (.dK (mergeK [] [((Sum.inr "home" : Key),V.str "off"),(Sum.inr "off",V.str "home")])):=Xab
     have hp7:=s7 p1 _ Xab
     have s67:=((Same.refl H6).step (o:=.lst ((qs.take i).map V.ref)) n1).trans s7
     dsimp only
     generalize upd (upd (upd H6 p1 (.lst ((qs.take i).map V.ref))) dd (.dK [])) dd (.dK (mergeK [] [((Sum.inr "home" : Key),V.str "off"),(Sum.inr "off",V.str "home")]))=H7 at hd7 hp7 s67
     refine⟨_,rfl,dd,_,rfl,.inl ⟨_,_,.inl hd7,rfl,hy.symm⟩,by show 2<=sizeLine;decide,λt nt=>⟨by show 1<=sizeLine;decide,λp2 n2=>?_⟩⟩
     have hdr7:=s67 _ _ hdr6
     refine⟨p1,p2,_,[.ref t],rfl,rfl,ku (ku hp7 nt) n2,Xab,h24 _ (by simp;omega),λp3 n3=>?_⟩
     refine⟨_,rfl,_,rfl,_,_,rfl,rfl,_,rfl,kl',_,rfl,SqL.of (ku (ku (ku (s67 _ _ hk6) nt) n2) n3),λp4 n4=>?_⟩
     rw[ii,Xew _ _ _ hc2]
     refine⟨p3,p4,_,_,rfl,rfl,ku Xab n4,Xab,h24 _ (by simp;omega),λp5 n5=>?_⟩
     have s8:=(((((Same.refl H7).go nt n2).go n2 n3).go n3 n4).go n4 n5).step (o:=.lst ((qs.take i).map V.ref++[.ref t]++(qs.drop (i+1)).map V.ref)) n5
     have s68:=s67.trans s8
     have b08:=b06.same s68
     have oy:=Xfp hyb
     exact fin (qs':=qs.take i++t::qs.drop (i+1)) (kept':=kept.take i++(q.1,y)::kept.drop (i+1)) b08 (d6.same s68) (λz=>by rw[z] at n5;rw[ku (ku (ku (ku hdr7 nt) n2) n3) n4] at n5;cases n5) (by rw[Xab];simp) (SH.Tups.mid (tq b08) (ku (ku (ku (ku Xab n2) n3) n4) n5) i (i+1)) (ko.mid kl _ _ (X05 _) ⟨o1,oy.1,o3,oy.2⟩)
    refine⟨_,rfl,rfl,_,rfl,?_⟩
    refine ite2b (λ_=>?_) (λ_=>?_)
    ·-- no bank
     refine⟨_,rfl,_,rfl,_,rfl,kl',_,rfl,SqL.of hk6,λp1 n1=>?_⟩
     rw[Xfu _ _ _ hc1]
     refine⟨_,rfl,by show 2<=sizeLine;decide,λt nt=>⟨by show 1<=sizeLine;decide,λp2 n2=>?_⟩⟩
     refine⟨p1,p2,_,[.ref t],rfl,rfl,ku (ku Xab nt) n2,Xab,h24 _ (by simp;omega),λp3 n3=>?_⟩
     refine⟨_,rfl,_,rfl,_,_,rfl,rfl,_,rfl,kl',_,rfl,SqL.of (ku (ku (ku (ku hk6 n1) nt) n2) n3),λp4 n4=>?_⟩
     rw[ii,Xew _ _ _ hc2]
     refine⟨p3,p4,_,_,rfl,rfl,ku Xab n4,Xab,h24 _ (by simp;omega),λp5 n5=>?_⟩
     have s7:=(((((Same.refl H6).go n1 nt).go nt n2).go n2 n3).go n3 n4).go n4 n5
     have s8:=s7.step (o:=.lst ((qs.take i).map V.ref++[.ref t]++(qs.drop (i+1)).map V.ref)) n5
     have b08:=b06.same s8
     exact fin (qs':=qs.take i++t::qs.drop (i+1)) (kept':=kept.take i++(q.1,("bank" : Str))::kept.drop (i+1)) b08 (d6.same s8) (λz=>by rw[z] at n5;rw[ku (ku (ku (ku (ku hdr6 n1) nt) n2) n3) n4] at n5;cases n5) (by rw[Xab];simp) (SH.Tups.mid (tq b08) (ku (ku (ku (ku Xab n2) n3) n4) n5) i (i+1)) (ko.mid kl _ _ (X05 _) ⟨o1,Xmu.1,o3,Xmu.2⟩)
    ·refine⟨_,rfl,kl',_,rfl,SqL.of hk6,λp1 n1=>?_⟩
     have s7:=(Same.refl H6).step (o:=.lst (qs.map V.ref).reverse) n1
     have b07:=b06.same s7
     refine fin (qs':=qs.reverse) (kept':=kept.reverse) b07 (d6.same s7) (λz=>by rw[z,hdr6] at n1;cases n1) (by rw[Xab,List.map_reverse]) ?_ ko.rev
     have ek:kept.reverse.map pr2=(kept.map pr2).reverse:=List.map_reverse
     rw[ek]
     exact Xqq (tq b07)
abbrev NKp:List Str:=["_law_name", "_law_side", "_law_plot"]
theorem Xv6:FnScope ["_law_kept_here", "_law_plot"] ["_law_kept_here", "_law_plot"] (defScope s__law_keeps):=⟨rfl,rfl,rfl,by decide +kernel,rfl,by decide +kernel,by decide +kernel⟩
theorem Xs8{f:Addr}{fd:FuncData}(F:Fun K "_law_keeps" "_law_keeps" s__law_keeps f fd)(B:Bl mg):FnOk P w K mg base CX0 1 f fd ["_law_kept_here", "_law_plot"] spKeepsL:=by
 refine F.ok Xv6 (λvs H Q E h=>?_) (λcdv A outer s H vs Q E hr h=>?_)
 ·obtain⟨p,kp,S,qs,kept,rfl,_⟩:=h
  rfl
 ·obtain⟨p,kp,S,qs,kept,rfl,hp,hk,hT,hl,k⟩:=h
  refine⟨_,Xaf (Xan (Xal (Xes rfl) (by rfl) B.all (by rfl) (Xaa (Xbu (N:=NKp) (cap:=[none,none,some 1]) (CompScope.of (defScope s__law_keeps) ["_law_kept_here", "_law_plot"] rfl rfl rfl (by decide +kernel)) rfl
   (Xa4 (pv 0)) (λ_ _ _=>Xfj K 2 rfl rfl (Xa3 (Xak (i:=0) (show NKp.Nodup by decide +kernel) rfl (Or.inl rfl) (Or.inr rfl)) (Xa3 (Xak (i:=1) (show NKp.Nodup by decide +kernel) rfl (Or.inl rfl) (Or.inr rfl)) Xc9))) (λ_ _ _=>Xbd)
   (λ_ _ _=>Xby Xcz (Xba (Xci K (by rfl)) (Xbw (Xaa Xaw (Xaa Xaw Xac))) (Xa8 Xen (by rfl) B.int (by rfl) (Xaa (Xby (Xd0 K (by rfl)) (pv 0) (pv 2) (by rfl)) Xac)) (λ_ _=>rfl)) (pv 1) (nomark _))) Xac))),?_⟩
  refine⟨_,rfl,kp,rfl,⟨_,SqL.of hk⟩,?_⟩
  have hkl:kept.length=qs.length:=by
   have:=hT.1
   rw[Xzl] at this
   exact this.symm
  refine Xjf (n:=qs.length) (λj=>.ref (qs.getD j 0)) (λD i σ2 H2=>(∃u v, σ2=[u,v,some (.ref p)])/\Same H H2/\H2 D=some (.lst (((kept.take i).map λq=>decide (bk S q.1=q.2)).map V.bl))) ?_ ?_ ?_ ?_ ?_
  ·intro D hD
   exact⟨⟨_,_,rfl⟩,(Same.refl H).step hD,Xab⟩
  ·rintro D i σ2 H2 hD hi ⟨_,s2,_⟩
   have:=Xbn (K:=K) (SqL.of (s2 _ _ hk)) (by rw[Xzl];exact hi)
   rw[Xa0 V.ref 0 qs hi] at this
   exact this
  ·rintro D σ2 H2 hD ⟨_,s2,_⟩
   have:=Xbo (K:=K) (SqL.of (s2 _ _ hk))
   rwa [Xzl] at this
  ·rintro D i σ2 H2 hD hi ⟨⟨u,v,rfl⟩,s2,hb⟩
   have hi':i<kept.length:=by rw[hkl];exact hi
   have ht:=s2 _ _ (hT.2 i hi)
   have eq:(kept.map pr2).getD i []=pr2 kept[i]:=by simp[List.getD,hi']
   rw[eq] at ht
   have htk:kept.take (i+1)=kept.take i++[kept[i]]:=Xzz hi'
   generalize kept[i]=q at ht htk
   refine⟨_,_,rfl,SqT.of ht,rfl,_,_,rfl,_,_,rfl,rfl,?_⟩
   dsimp only[tYes]
   rw[X3n rfl]
   refine⟨by show 2<=sizeLine;decide,λt nt=>?_⟩
   have s3:Same H2 (upd H2 t (.tup [.str "home",.str "off"])):=(Same.refl H2).step nt
   have ht3:upd H2 t (.tup [.str "home",.str "off"]) t=some (.tup [.str "home",.str "off"]):=Xab
   dsimp only
   generalize upd H2 t (.tup [.str "home",.str "off"])=H3 at s3 ht3
   refine⟨_,rfl,_,rfl,p,_,rfl,.inr (SqT.of ((s2.trans s3) _ _ hp)),rfl,Xb5 S,.inr ⟨_,rfl,?_⟩⟩
   have ei:(if false=true then !inV (.str q.1) (S.map V.str) else inV (.str q.1) (S.map V.str))=decide (q.1∈S):=by rw[X3m (by decide),Xc0]
   rw[ei]
   have hat:atI [V.str "home",V.str "off"] (if decide (q.1∈S)=true then (1:Int) else 0)=some (.str (bk S q.1)):=by
    unfold bk
    by_cases z:q.1∈S
    ·rw[X3o z,X3n rfl,X3n z];rfl
    ·rw[X3p z,X3m (by decide),X3m z];rfl
   refine⟨t,_,_,_,rfl,rfl,SqT.of ht3,hat,_,rfl,rfl,?_⟩
   rw[Xcu]
   refine⟨_,s3 _ _ hb,by rw[Xzl,Xzl,X0c,X3l];omega,wskip hi ⟨⟨_,_,rfl⟩,λb o e=>?_,?_⟩⟩
   ·rw[Xae (Xag e hD)]
    exact s3 _ _ (s2 _ _ e)
   ·rw[Xab,htk,Xzu,Xzu]
    rfl
  ·rintro D σ2 H2 hD ⟨_,s2,hb⟩
   rw[<-hkl,X0n] at hb
   refine⟨D,_,rfl,hb,?_⟩
   have e:(kept.map λq=>decide (bk S q.1=q.2)).all id=keeps kept S:=by
    unfold keeps
    rw[List.all_map]
    rfl
   rw[e]
   exact k H2 s2
theorem Xv7:FnScope ["_law_some", "_law_kept_here"] ["_law_some", "_law_kept_here"] (defScope s__law_held):=⟨rfl,rfl,rfl,by decide +kernel,rfl,by decide +kernel,by decide +kernel⟩
theorem Xs9{f:Addr}{fd:FuncData}(F:Fun K "_law_held" "_law_held" s__law_held f fd)(FK:Fn P w K mg base CX0 1 "_law_keeps" ["_law_kept_here", "_law_plot"] spKeepsL):FnOk P w K mg base CX0 2 f fd ["_law_some", "_law_kept_here"] spHeldL:=by
 refine F.ok Xv7 (λvs H Q E h=>?_) (λcdv A outer s H vs Q E hr h=>?_)
 ·obtain⟨l,kp,ps,Ts,qs,kept,rfl,_⟩:=h
  rfl
 ·obtain⟨l,kp,ps,Ts,qs,kept,rfl,hl,hT,hlp,hk,hq,hql,k⟩:=h
  have hr1:Room 1 _:=hr.mono (by decide)
  refine⟨_,Xaf (Xan (Xbu (N:=["_law_plot", "_law_kept_here"]) (cap:=[none,some 1]) (CompScope.of (defScope s__law_held) ["_law_some", "_law_kept_here"] rfl rfl rfl (by decide +kernel)) rfl
   (Xa4 (pv 0)) (λ_ _ _=>Xak (i:=0) (show (["_law_plot", "_law_kept_here"]:List Str).Nodup by decide +kernel) rfl (Or.inl rfl) (Or.inr rfl)) (λ_ _ _=>Xbq (Xc1 (Xap (by exact FK) (by exact hr1) (by rfl) pass0 (Xaa (pv 1) (Xaa (pv 0) Xac))))) (λ_ _ _=>pv 0))),?_⟩
  refine⟨_,rfl,l,rfl,⟨_,SqL.of hl⟩,?_⟩
  refine Xdf (n:=ps.length) (by rw[X3l];omega) (λi=>.ref (ps.getD i 0)) (λi=>keeps kept (Ts.getD i [])) (λi=>.ref (ps.getD i 0)) ?_ ?_ ?_ ?_ ?_
  ·intro i H4 hi s4
   have:=Xbn (K:=K) (SqL.of (s4 _ _ hl)) (by rw[Xzl];exact hi)
   rw[Xa0 V.ref 0 ps hi] at this
   exact this
  ·intro H4 s4
   have:=Xbo (K:=K) (SqL.of (s4 _ _ hl))
   rwa [Xzl] at this
  ·intro i H4 Q' hi s4 kk
   exact⟨_,rfl,_,rfl,ps.getD i 0,kp,Ts.getD i [],qs,kept,rfl,s4 _ _ (hT.2 i hi),s4 _ _ hk,hq.same s4,hql,λH5 s5=>⟨_,rfl,kk H5 s5⟩⟩
  ·intro i H4 Q' hi _ s4 kk
   exact⟨_,rfl,kk H4 (Same.refl _)⟩
  ·intro D H4 nD s4 hD
   have eT:(((List.range ps.length).filter λi=>keeps kept (Ts.getD i [])).map λi=>Ts.getD i [])=Ts.filter (keeps kept):=by
    rw[hT.1]
    exact Xa7 [] (keeps kept) Ts
   have tx:Tups H4 (((List.range ps.length).filter λi=>keeps kept (Ts.getD i [])).map λi=>ps.getD i 0) (Ts.filter (keeps kept)):=by
    rw[<-eT]
    exact Xir (hT.same s4) λi hi=>X0l.mp (Xzm.mp hi).1
   refine k D _ H4 nD (by rw[hD,X0h];rfl) tx ?_ s4
   rw[Xzl]
   exact X0d (X0e ..) (by rw[X0j];omega)
theorem Xq7:FnScope ["_law_row_here", "_law_some", "_law_kept_here", "_law_of"] ["_law_row_here", "_law_some", "_law_kept_here"] (defScope s__law_good_kept):=⟨rfl,rfl,rfl,by decide +kernel,rfl,by decide +kernel,by decide +kernel⟩
theorem Xta{f:Addr}{fd:FuncData}(F:Fun K "_law_good_kept" "_law_good_kept" s__law_good_kept f fd)(FH:Fn P w K mg base CX0 2 "_law_held" ["_law_some", "_law_kept_here"] spHeldL)(FK:Fn P w K mg base CX0 1 "_law_kept" ["_law_row_here", "_law_crowd"] Xis):
  FnOk P w K mg base CX0 3 f fd ["_law_row_here", "_law_some", "_law_kept_here"] Xlr:=by
 refine F.ok Xq7 (λvs H Q E h=>?_) (λcdv A outer s H vs Q E hr h=>?_)
 ·obtain⟨r,l,kp,row,ps,Ts,qs,kept,rfl,_⟩:=h
  rfl
 ·obtain⟨r,l,kp,row,ps,Ts,qs,kept,rfl,hR,R2,hl,hT,hlp,hPL,hk,hq,ko,k⟩:=h
  have hr1:Room 1 _:=hr.mono (by decide)
  have hr2:Room 2 _:=hr.mono (by decide)
  refine⟨_,Xad (Xao (i:=3) Xq7.nd rfl (Or.inl rfl) (Xap FH hr2 (by rfl) pass0 (Xaa (pv 1) (Xaa (pv 2) Xac))))
   (Xaf (Xan (Xiz (Xby (Xjx (hu3 hr)) (pv 3) (Xbl Xac) (nomark _)) (Xiy (Xby (Xjw (hu3 hr)) (Xap FK hr1 (by rfl) pass0 (Xaa (pv 0) (Xaa (pv 3) Xac))) (pv 2) (nomark _)))))),?_⟩
  have hql:qs.length<=16:=by
   have:=hq.1
   rw[Xzl] at this
   have:=ko.len
   omega
  have mem:∀S,S∈Ts.filter (keeps kept)↔Xah row S=true/\keeps kept S=true:=λS=>by rw[Xzm,hPL]
  have gi:=Xfa mem
  have okT:∀S∈Ts.filter (keeps kept),∀y∈S,okN y:=λS hS y hy=>R2.ok y ((Xa2 ((mem S).mp hS).1).1 y hy)
  refine⟨_,rfl,_,rfl,l,kp,ps,Ts,qs,kept,rfl,hl,hT,by omega,hk,hq,by omega,λD us H1 nD hD tx hle s1=>?_⟩
  dsimp only[Xbm]
  refine⟨_,rfl,by show 0<=sizeLine;decide,λe ne=>?_⟩
  have s2:Same H1 (upd H1 e (.lst [])):=(Same.refl H1).step ne
  have he2:upd H1 e (.lst []) e=some (.lst []):=Xab
  dsimp only
  generalize upd H1 e (.lst [])=H2 at s2 he2
  refine⟨.list ((Ts.filter (keeps kept)).map tupD),.list (([]:List (List Str)).map tupD),Xbz (s2 _ _ hD) (tx.same s2),Xdu he2 Xct,Xas _ (Xav okT),rfl,Xcp _ [],_,rfl,?_⟩
  rw[Xdh okT (λS hS=>absurd hS (by simp))]
  have s12:=s1.trans s2
  by_cases n:Ts.filter (keeps kept)=[]
  ·rw[X3o n]
   exact iteF (k false H2 ⟨λz=>absurd z (by decide),λg=>absurd n (gi.mp g).1⟩ s12)
  ·rw[X3p n]
   refine iteT ?_
   refine⟨_,rfl,_,rfl,r,D,row,us,_,rfl,s12 _ _ hR,R2,s2 _ _ hD,tx.same s2,by omega,n,λG gs H3 nG hG hgs s3=>?_⟩
   have okS:=Xkl n R2.ok
   have s13:=s12.trans s3
   refine⟨_,rfl,_,_,Xbz hG hgs,Xbz (s13 _ _ hk) (hq.same s13),Xas _ (Xav okS),Xas _ (Xav ko.okL),Xcp _ _,?_⟩
   rw[Xdh okS ko.okL]
   refine k _ H3 ?_ s13
   rw[decide_eq_true_eq,gi]
   exact⟨λz=>⟨n,Xlp z⟩,λz=>by rw[z.2]⟩
theorem Xyk:FnScope NFl ["_law_plot", "_law_name"] (defScope s__law_flip):=⟨rfl,rfl,rfl,by decide +kernel,rfl,by decide +kernel,by decide +kernel⟩
theorem Xv8{f:Addr}{fd:FuncData}(F:Fun K "_law_flip" "_law_flip" s__law_flip f fd)(T:Bl mg):FnOk P w K mg base CX0 1 f fd ["_law_plot", "_law_name"] spFlip:=by
 refine F.ok Xyk (λvs H Q E h=>?_) (λcdv A outer s H vs Q E hr h=>?_)
 ·obtain⟨p,ss,x,rfl,_⟩:=h
  rfl
 ·obtain⟨p,ss,x,rfl,hP,hl,k⟩:=h
  refine⟨_,Xaf (Xan (Xa8 Xck (by rfl) T.tuple (by rfl) (Xaa (Xal Xjy (by rfl) T.sorted (by rfl) (Xaa (Xar Xbi
   (Xbu (N:=NFl1) (cap:=[none,some 1]) (CompScope.of (defScope s__law_flip) NFl rfl rfl rfl (by decide +kernel)) rfl
    (Xtf (pv 0)) (λ_ _ _=>Xak (i:=0) (show NFl1.Nodup by decide +kernel) rfl (Or.inl rfl) (Or.inr rfl)) (λ_ _ _=>Xbq (Xam Xt8 (pv 0) (pv 1) (nomark _))) (λ_ _ _=>pv 0))
   (Xar Xtj (Xbl (Xaa (pv 1) Xac)) (Xa8 Xen (by rfl) T.int (by rfl) (Xaa (Xby Xdo (pv 1) (pv 0) (by rfl)) Xac)))) Xac)) Xac))),?_⟩
  refine⟨_,rfl,p,rfl,⟨_,SqT.of hP⟩,?_⟩
  refine Xdf (n:=ss.length) (by rw[X3l];omega) (λi=>(ss.map V.str).getD i .non) (λi=>decide (ss.getD i Str.empty≠x)) (λi=>.str (ss.getD i Str.empty)) ?_ ?_ ?_ ?_ ?_
  ·intro i H2 hi s2
   exact Xtm (SqT.of (s2 _ _ hP)) (by rw[Xzl];exact hi)
  ·intro H2 s2
   have:=Xtn (K:=K) (SqT.of (s2 _ _ hP))
   rwa [Xzl] at this
  ·intro i H2 Q' hi s2 kk
   rw[Xa0 V.str Str.empty _ hi]
   refine⟨_,rfl,_,rfl,rfl,_,rfl,?_⟩
   rw[Xcu]
   have:=kk H2 (Same.refl _)
   have e:(!decide (ss.getD i Str.empty=x))=decide (ss.getD i Str.empty≠x):=by
    by_cases z:ss.getD i Str.empty=x
    ·simp[z]
    ·simp[z]
   rw[e]
   exact this
  ·intro i H2 Q' hi hk s2 kk
   rw[Xa0 V.str Str.empty _ hi]
   exact⟨_,rfl,kk H2 (Same.refl _)⟩
  ·intro D H2 nD s2 hD
   have hD':H2 D=some (.lst ((ss.filter λy=>decide (y≠x)).map V.str)):=by
    rw[hD,<-Xa7 Str.empty (λy=>decide (y≠x)) ss,X0h]
    rfl
   have hfl:=X0e (λy=>decide (y≠x)) ss
   refine⟨_,rfl,by show 1<=sizeLine;decide,λb nb=>?_⟩
   refine⟨_,rfl,_,rfl,p,_,rfl,.inr (SqT.of (ku (s2 _ _ hP) nb)),rfl,Xb5 ss,.inr ⟨_,rfl,?_⟩⟩
   rw[Xc0]
   show rRep _ _ _ _
   have eint:(if (!decide (x∈ss))=true then (1:Int) else 0).toNat=(if x∈ss then 0 else 1):=by
    by_cases hx:x∈ss
    ·simp[hx]
    ·simp[hx]
   have erep:(List.replicate (if x∈ss then 0 else 1) [V.str x]).flatten=(if x∈ss then ([]:List Str) else [x]).map V.str:=by
    by_cases hx:x∈ss
    ·simp[hx]
    ·simp[hx]
   refine⟨b,_,_,rfl,rfl,Xab,?_,?_,?_,λc nc=>?_⟩
   ·by_cases hx:x∈ss<;>simp[hx]
   ·by_cases hx:x∈ss<;>simp[hx]
   ·rw[X3n rfl,eint,X3l]
    by_cases hx:x∈ss<;>simp[hx]
   ·rw[X3n rfl,eint,erep]
    have hone:(if x∈ss then ([]:List Str) else [x]).length<=1:=by by_cases hx:x∈ss<;>simp[hx]
    have s3:=(s2.step (o:=.lst [V.str x]) nb)
    refine⟨D,c,_,_,rfl,rfl,ku (ku hD' nb) nc,Xab,by rw[Xzl,Xzl,X3l];omega,λe ne=>?_⟩
    have s4:=s3.step (o:=.lst ((if x∈ss then ([]:List Str) else [x]).map V.str)) nc
    rw[<-Xzu]
    refine⟨e,_,rfl,Xab,by rw[Xzx];omega,λt nt=>?_⟩
    have s5:=s4.step (o:=.lst ((ss.filter (λy=>decide (y≠x))++(if x∈ss then [] else [x])).map V.str)) ne
    refine⟨t,_,rfl,.inl ⟨SqL.of Xab,λq nq=>?_⟩⟩
    have s6:=s5.step (o:=.lst ((srt (ss.filter (λy=>decide (y≠x))++(if x∈ss then [] else [x]))).map V.str)) nt
    exact k q _ (s6.free nq) Xab (s6.step nq)
theorem Xv9:FnScope ["_law_found"] ["_law_found"] (defScope sTexts):=⟨rfl,rfl,rfl,by decide +kernel,rfl,by decide +kernel,by decide +kernel⟩
theorem Xm3{f:Addr}{fd:FuncData}(F:Fun K "_law_texts" "_law_texts" sTexts f fd)(T:Bl mg):FnOk P w K mg base CX0 1 f fd ["_law_found"] Xij:=by
 refine F.ok Xv9 (λvs H Q E h=>?_) (λcdv A outer s H vs Q E hr h=>?_)
 ·obtain⟨a,row,rfl,_⟩:=h
  rfl
 ·obtain⟨a,row,rfl,hR,hl,k⟩:=h
  refine⟨_,Xaf (Xan (Xiz (Xal Xde (by rfl) T.isi boot_isinstance (Xaa (pv 0) (Xaa (Xgj (v:=.ty "list") (by rfl) T.list boot_list rfl) Xac)))
   (Xiy (Xal (Xes rfl) (by rfl) T.all (by rfl) (Xaa (Xbu (N:=["_law_one_here"]) (cap:=[none]) (CompScope.of (defScope sTexts) ["_law_found"] rfl rfl rfl (by decide +kernel)) rfl
    (Xa4 (pv 0)) (λ_ _ _=>Xak (i:=0) (show (["_law_one_here"]:List Str).Nodup by decide +kernel) rfl (Or.inl rfl) (Or.inr rfl)) (λ_ _ _=>Xbd)
    (λ_ _ _=>Xal (Xfv K rfl) (by rfl) T.isi boot_isinstance (Xaa (pv 0) (Xaa (Xgj (v:=.ty "str") (by rfl) T.str boot_str rfl) Xac)))) Xac))))),?_⟩
  refine⟨_,rfl,_,_,_,_,true,rfl,.lst hR,rfl,Xe1 K "list",true,rfl,iteT ?_⟩
  refine⟨_,rfl,a,rfl,⟨_,SqL.of hR⟩,?_⟩
  refine Xtp (n:=(row.map V.str).length) (λi=>(row.map V.str).getD i .non) (λD i σ2 H2=>∃v:Option V, σ2=[v]/\Same H H2/\H2 D=some (.lst ((List.replicate i true).map V.bl))) ?_ ?_ ?_ ?_ ?_
  ·intro D hD
   exact⟨none,rfl,(Same.refl H).step hD,Xab⟩
  ·rintro D i σ2 H2 hD hi ⟨v,rfl,s2,hb⟩
   exact Xbn (SqL.of (s2 _ _ hR)) hi
  ·rintro D σ2 H2 hD ⟨v,rfl,s2,hb⟩
   exact Xbo (SqL.of (s2 _ _ hR))
  ·rintro D i σ2 H2 hD hi ⟨v,rfl,s2,hb⟩
   have hi':i<row.length:=by rwa [Xzl] at hi
   have e:(row.map V.str).getD i .non = .str (row[i]'hi'):=by simp[List.getD,hi']
   rw[e]
   refine⟨_,rfl,_,_,_,_,true,rfl,.str _,rfl,Xe1 K "str",?_⟩
   refine wput hi hb (by rw[Xzl,List.length_replicate,X3l];omega) ⟨_,rfl,λb u e'=>?_,?_⟩
   ·rw[Xae (Xag e' hD)]
    exact s2 b u e'
   ·rw[Xab,List.replicate_succ',Xzu]
    rfl
  ·rintro D σ2 H2 hD ⟨v,rfl,s2,hb⟩
   refine⟨D,_,rfl,hb,?_⟩
   have e:(List.replicate (row.map V.str).length true).all id=true:=by
    rw[X0a]
    intro b hb
    rw[(List.mem_replicate.mp hb).2]
    rfl
   rw[e]
   exact k H2 s2
theorem Xwa:FnScope ["_law_found"] ["_law_found"] (defScope s__law_tuple):=⟨rfl,rfl,rfl,by decide +kernel,rfl,by decide +kernel,by decide +kernel⟩
theorem Xtb{f:Addr}{fd:FuncData}(F:Fun K "_law_tuple" "_law_tuple" s__law_tuple f fd)(T:Bl mg):FnOk P w K mg base CX0 1 f fd ["_law_found"] spTuple:=by
 refine F.ok Xwa (λvs H Q E h=>?_) (λcdv A outer s H vs Q E hr h=>?_)
 ·obtain⟨v,ss,rfl,_⟩:=h
  rfl
 ·obtain⟨v,ss,rfl,hv,hl,k⟩:=h
  obtain⟨a,xs,rfl,hR,hs⟩:=Xpc hv
  rw[Xb7 hs] at hR
  refine⟨_,Xaf (Xan (Xiz (Xal Xde (by rfl) T.isi boot_isinstance (Xaa (pv 0) (Xaa (Xgj (v:=.ty "tuple") (by rfl) T.tuple (by rfl) rfl) Xac)))
   (Xiy (Xal (Xes rfl) (by rfl) T.all (by rfl) (Xaa (Xbu (N:=["_law_one_here"]) (cap:=[none]) (CompScope.of (defScope s__law_tuple) ["_law_found"] rfl rfl rfl (by decide +kernel)) rfl
    (Xtf (pv 0)) (λ_ _ _=>Xak (i:=0) (show (["_law_one_here"]:List Str).Nodup by decide +kernel) rfl (Or.inl rfl) (Or.inr rfl)) (λ_ _ _=>Xbd)
    (λ_ _ _=>Xal (Xfv K rfl) (by rfl) T.isi boot_isinstance (Xaa (pv 0) (Xaa (Xgj (v:=.ty "str") (by rfl) T.str boot_str rfl) Xac)))) Xac))))),?_⟩
  refine⟨_,rfl,_,_,_,_,true,rfl,.tup hR,rfl,Xe1 K "tuple",true,rfl,iteT ?_⟩
  refine⟨_,rfl,a,rfl,⟨_,SqT.of hR⟩,?_⟩
  refine Xg1 (n:=ss.length) (by rw[X3l];omega) (λi=>(ss.map V.str).getD i .non) (λ_=>.bl true) ?_ ?_ ?_ ?_
  ·intro i H2 hi s2
   exact Xtm (SqT.of (s2 _ _ hR)) (by rw[Xzl];exact hi)
  ·intro H2 s2
   have:=Xtn (K:=K) (SqT.of (s2 _ _ hR))
   rwa [Xzl] at this
  ·intro i H2 Q' hi s2 kk
   rw[Xa0 V.str Str.empty ss hi]
   exact⟨_,rfl,_,_,_,_,true,rfl,.str _,rfl,Xe1 K "str",kk H2 (Same.refl _)⟩
  ·intro D H2 nD s2 hD
   refine⟨D,List.replicate ss.length true,rfl,?_,?_⟩
   ·rw[hD,List.map_const',X0j,List.map_replicate]
   ·have e:(List.replicate ss.length true).all id=true:=by
     rw[X0a]
     intro b hb
     rw[(List.mem_replicate.mp hb).2]
     rfl
    rw[e]
    exact k H2 s2
theorem Xwb:FnScope ["_law_found"] ["_law_found"] (defScope s__law_pairs):=⟨rfl,rfl,rfl,by decide +kernel,rfl,by decide +kernel,by decide +kernel⟩
theorem Xtc{f:Addr}{fd:FuncData}(F:Fun K "_law_pairs" "_law_pairs" s__law_pairs f fd)(B:Bl mg)(FT:Fn P w K mg base CX0 1 "_law_tuple" ["_law_found"] spTuple):FnOk P w K mg base CX0 2 f fd ["_law_found"] spPairsL:=by
 refine F.ok Xwb (λvs H Q E h=>?_) (λcdv A outer s H vs Q E hr h=>?_)
 ·obtain⟨l,ps,kept,rfl,_⟩:=h
  rfl
 ·obtain⟨l,ps,kept,rfl,hl,hT,hp,k⟩:=h
  have hr1:Room 1 _:=hr.mono (by decide)
  refine⟨_,Xad (Xb0 (Xgm (Xc1 (Xal Xde (by rfl) B.isi boot_isinstance (Xaa (pv 0) (Xaa (Xgj (v:=.ty "list") (by rfl) B.list boot_list rfl) Xac))))) (Xaf (Xan Xgi)) Xay)
   (Xaf (Xan (Xal (Xes rfl) (by rfl) B.all (by rfl) (Xaa (Xbu (N:=["_law_pair"]) (cap:=[none]) (CompScope.of (defScope s__law_pairs) ["_law_found"] rfl rfl rfl (by decide +kernel)) rfl
    (Xa4 (pv 0)) (λ_ _ _=>Xak (i:=0) (show (["_law_pair"]:List Str).Nodup by decide +kernel) rfl (Or.inl rfl) (Or.inr rfl)) (λ_ _ _=>Xbd)
    (λ_ _ _=>Xiz (Xap (by exact FT) (by exact hr1) (by rfl) pass0 (Xaa (pv 0) Xac)) (Xiy (Xby Xcz (Xal (Xju K (by rfl)) (by rfl) B.len boot_len (Xaa (pv 0) Xac)) Xai (nomark _))))) Xac)))),?_⟩
  refine⟨_,rfl,_,_,_,_,true,rfl,.lst hl,rfl,Xe1 K "list",_,rfl,iteF ?_⟩
  refine⟨_,rfl,l,rfl,⟨_,SqL.of hl⟩,?_⟩
  refine Xg1 (n:=ps.length) (by rw[X3l];omega) (λi=>.ref (ps.getD i 0)) (λi=>.bl true) ?_ ?_ ?_ ?_
  ·intro j H2 hj s2
   have:=Xbn (K:=K) (SqL.of (s2 _ _ hl)) (show j<(ps.map V.ref).length by rw[Xzl];exact hj)
   rwa [Xa0 V.ref 0 ps hj] at this
  ·intro H2 s2
   have:=Xbo (K:=K) (SqL.of (s2 _ _ hl))
   rwa [Xzl] at this
  ·intro j H2 Q' hj s2 kk
   have hj':j<kept.length:=by have:=hT.1;rw[Xzl] at this;omega
   have ht:=s2 _ _ (hT.2 j hj)
   have e1:(kept.map pr2).getD j []=pr2 kept[j]:=by simp[List.getD,hj']
   rw[e1] at ht
   refine⟨_,rfl,_,pr2 kept[j],rfl,Xcv ht,by show 2<=1000;decide,λH3 s3=>⟨true,rfl,iteT ?_⟩⟩
   refine⟨_,rfl,ps.getD j 0,_,rfl,.inr (SqT.of (s3 _ _ ht)),rfl,?_⟩
   rw[show decide (V.int (((pr2 kept[j]).map V.str).length:Nat)=V.int 2)=true from X3o rfl]
   exact kk H3 s3
  ·intro D H2 nD s2 hD
   have hD':H2 D=some (.lst (((List.range ps.length).map λ_=>true).map V.bl)):=by rw[hD,X0h];rfl
   refine⟨D,_,rfl,hD',?_⟩
   have e:((List.range ps.length).map λ_=>true).all id=true:=by simp
   rw[e]
   exact k H2 s2
abbrev NRf:List Str:=["_law_row_here", "_law_kept_here", "_law_other", "_law_refused_here"]
theorem Xhk:FnScope NRf ["_law_row_here", "_law_kept_here", "_law_other"] (defScope s__law_refused):=⟨rfl,rfl,rfl,by decide +kernel,rfl,by decide +kernel,by decide +kernel⟩
theorem Xn3{f C T fa fb:Addr}{fd fda fdb:FuncData}(F:Fun K "_law_refused" "_law_refused" s__law_refused f fd)(hC:mg "BadGround" = some (.ref C))
  (hma:mg "border" = some (.ref fa)) (hka:PySem.W.keepIn K (.ref fa)=true) (hba:Binds K fda ["row", "kept"] []) (FA:FnOk P w K mg base (CX1 P w) 7 fa fda ["row", "kept"] (spBorder C T (lamPos s_in_order)))
  (hmb:mg "joined" = some (.ref fb)) (hkb:PySem.W.keepIn K (.ref fb)=true) (hbb:Binds K fdb ["row", "kept", "other"] []) (FO:FnOk P w K mg base (CX1 P w) 7 fb fdb ["row", "kept", "other"] (Xgh C T (lamPos s_in_order))) (e1:PySem.W.exmOne K (.ref C) (.ref C)=some true):
  FnOk P w K mg base CX0 8 f fd ["_law_row_here", "_law_kept_here", "_law_other"] (Xls T (lamPos s_in_order)):=by
 refine F.ok Xhk (λvs H Q E h=>?_) (λcdv A outer s H vs Q E hr h=>?_)
 ·obtain⟨r,kp,row,kept,v,Ts,rfl,_⟩:=h
  rfl
 ·obtain⟨r,kp,row,kept,v,Ts,rfl,hA,hTs,bad,k⟩:=h
  refine⟨_,Xad (Xao (i:=3) Xhk.nd rfl (Or.inl rfl) Xgi)
   (Xad (Xux (Cc:=C) rfl rfl (by rfl) hC
     (λpn R=>Xaf (Xb0 (Xam Xwn (pv 2) Xte (nomark _))
      (Xaf (Xc8 (Xl7 FA hr (by rfl) hma hka hba .nil (Xaa (pv 0) (Xaa (pv 1) Xac)))))
      (Xaf (Xc8 (Xl7 FO hr (by rfl) hmb hkb hbb .nil (Xaa (pv 0) (Xaa (pv 1) (Xaa (pv 2) Xac))))))))
     (λpn ex=>Xaf (Xao (i:=3) Xhk.nd rfl (Or.inl rfl) Xgi)))
   (Xaf (Xan (pv 3)))),?_⟩
  refine⟨λC1 σ1 H1=>C1=C /\ σ1=[some (.ref r),some (.ref kp),some v,some (.bl false)]/\Xa5 T (lamPos s_in_order) qIn H1/\But T H H1,?_,?_⟩
  ·rcases bad with ⟨rfl,bad⟩ | ⟨k2,other,rfl,hB,bad⟩
   ·refine⟨_,rfl,rfl,_,rfl,?_⟩
    rw[X3o rfl]
    exact iteT ⟨_,rfl,_,rfl,r,kp,row,kept,Ts,Ts.filter (keeps kept),rfl,hA,hTs,λS=>by rw[Xzm,hTs],λz=>absurd z bad,λ_ H' t b=>⟨C,rfl,rfl,rfl,t,b⟩⟩
   ·refine⟨_,rfl,rfl,_,rfl,?_⟩
    rw[X3p (by simp)]
    exact iteF ⟨_,rfl,_,rfl,_,rfl,r,kp,k2,row,kept,other,rfl,hA,hB,λz1 z2=>absurd ⟨z1,z2⟩ bad,λ_ H' t b=>⟨C,rfl,rfl,rfl,t,b⟩⟩
  ·rintro C1 σ1 H1 ⟨rfl,rfl,t1,b1⟩
   exact⟨e1,_,rfl,k H1 t1 b1⟩
end
end K35
set_option maxHeartbeats 8000000
namespace K35
open PySem PySem.Spec PyProof.Rows L2 SH
def Xm4 (K:PySem.W.Frag) (T:Addr):Sp:=λvs H Q _=>∃(a:Addr) (ns:List Int),vs=[.ref a]/\SqL K H a (ns.map V.int)/\ns.length<=63/\H T=some (.tbl #[])/\∀H',Q (.bl true) H'
theorem Xq8{H:Hp}{row:List Str}:∀(qs:List Addr),(∀q∈qs,∃t,H q=some (.tup (t.map V.str))/\Xah row t=true)->∃Ts,Tups H qs Ts/\∀S∈Ts,Xah row S=true
 | [],_=>⟨[],Tups.nil H,λS hS=>by simp at hS⟩
 | q::qs,h=>by
  obtain⟨t,h1,h2⟩:=h q Xzr
  obtain⟨Ts,g1,g2⟩:=Xq8 qs λq' hq=>h q' (Xzq _ hq)
  refine⟨t::Ts,Tups.cons h1 g1,λS hS=>?_⟩
  rcases Xzy.mp hS with e | e
  ·rw[e];exact h2
  ·exact g2 S e
structure Env (H:Hp) (T:Addr) (pos:Pos) (r l kp ko:Addr) (row:List Str) (ps:List Addr) (Ts:List (List Str)) (ks:List Addr) (kept:List (Str×Str)) (os:List Addr) (other:List (Str×Str)):Prop where
 hr:H r=some (.lst (row.map V.str))
 hl:H l=some (.lst (ps.map V.ref))
 ht:Tups H ps Ts
 hk:H kp=some (.lst (ks.map V.ref))
 hks:Tups H ks (kept.map pr2)
 ho:H ko=some (.lst (os.map V.ref))
 hos:Tups H os (other.map pr2)
 tab:Xa5 T pos qIn H
section
variable {H H':Hp}{T:Addr}{pos:Pos}{r l kp ko:Addr}{row:List Str}{ps:List Addr}{Ts:List (List Str)}{ks:List Addr}{kept:List (Str×Str)}{os:List Addr}{other:List (Str×Str)}
theorem Env.same(e:Env H T pos r l kp ko row ps Ts ks kept os other)(s:Same H H'):Env H' T pos r l kp ko row ps Ts ks kept os other:=
 ⟨s _ _ e.hr,s _ _ e.hl,e.ht.same s,s _ _ e.hk,e.hks.same s,s _ _ e.ho,e.hos.same s,SH.Xa5.same e.tab s⟩
theorem Env.mono(e:Env H T pos r l kp ko row ps Ts ks kept os other)(t:Xa5 T pos qIn H')(kk:∀{b:Addr} {o:HO},b=r\/b=l\/b=kp\/b=ko\/(∃u,o = .tup u)->H b=some o->(∀z,o ≠ .tbl z)->H' b=some o):Env H' T pos r l kp ko row ps Ts ks kept os other:=
 have tu:∀{ps:List Addr} {Ts:List (List Str)},Tups H ps Ts->Tups H' ps Ts:=λh=>⟨h.1,λi hi=>kk (.inr (.inr (.inr (.inr ⟨_,rfl⟩)))) (h.2 i hi) λz=>by simp⟩
 ⟨kk (.inl rfl) e.hr λz=>by simp,kk (.inr (.inl rfl)) e.hl λz=>by simp,tu e.ht,kk (.inr (.inr (.inl rfl))) e.hk λz=>by simp,tu e.hks,kk (.inr (.inr (.inr (.inl rfl)))) e.ho λz=>by simp,tu e.hos,t⟩
theorem Env.keep(e:Env H T pos r l kp ko row ps Ts ks kept os other)(bt:But T H H'){b:Addr}{o:HO}(h:H b=some o)(n:∀z,o ≠ .tbl z):H' b=some o:=bt _ _ h (Xa5.ne e.tab h n)
theorem Env.but(e:Env H T pos r l kp ko row ps Ts ks kept os other)(t:Xa5 T pos qIn H')(bt:But T H H'):Env H' T pos r l kp ko row ps Ts ks kept os other:=e.mono t λ_ h n=>e.keep bt h n
theorem Env.put{D:Addr}{xs ys:List V}(e:Env H T pos r l kp ko row ps Ts ks kept os other)(hD:H D=some (.lst xs))(n1:r≠D)(n2:l≠D)(n3:kp≠D)(n4:ko≠D):Env (upd H D (.lst ys)) T pos r l kp ko row ps Ts ks kept os other:=by
 refine e.mono ?_ λ{b o} w h n=>?_
 ·rcases e.tab with q | ⟨c,q,w⟩
  ·exact .inl (by rw[Xae (λz=>by rw[z,hD] at q;cases q)];exact q)
  ·exact .inr ⟨c,by rw[Xae (λz=>by rw[z,hD] at q;cases q)];exact q,by rw[Xae (λz=>by rw[z,hD] at w;cases w)];exact w⟩
 ·have nb:b≠D:=λz=>by
   rcases w with w | w | w | w | ⟨u,w⟩
   ·exact n1 (w ▸ z)
   ·exact n2 (w ▸ z)
   ·exact n3 (w ▸ z)
   ·exact n4 (w ▸ z)
   ·rw[z,hD,w] at h;cases h
  rw[Xae nb]
  exact h
theorem Env.held(e:Env H T pos r l kp ko row ps Ts ks kept os other)(R2:Row2 row)(h3:Xbk row)(hd:(dit row).length<=13)(ok:KpOk kept):HeldAt H T pos r kp row kept:=⟨e.hr,R2,h3,hd,e.tab,⟨ks,e.hk,e.hks⟩,ok⟩
theorem Env.held2(e:Env H T pos r l kp ko row ps Ts ks kept os other)(R2:Row2 row)(h3:Xbk row)(hd:(dit row).length<=13)(ok:KpOk other):HeldAt H T pos r ko row other:=⟨e.hr,R2,h3,hd,e.tab,⟨os,e.ho,e.hos⟩,ok⟩
theorem Xq9(Ts Ws:List (List Str))(kept:List (Str×Str)):(kept.filter λq=>decide (q.1∈Xhp Ts Ws kept))=Xf2 Ts Ws kept:=by
 unfold Xf2
 refine X2q λq hq=>?_
 rw[X0y,decide_eq_true_eq]
 constructor
 ·intro h
  obtain⟨q',h1,h2⟩:=Xz0.mp h
  have:=(Xzm.mp h1).2
  rw[h2] at this
  exact this
 ·exact λh=>Xz0.mpr ⟨q,Xzm.mpr ⟨hq,h⟩,rfl⟩
end
section
variable {P:Program}{w:World}{K:PySem.W.Frag}{mg:Str->Option Value}{base:Heap}
abbrev NLw:List Str:=["_law_script", "_law_draw", "_law_row_here", "_law_some", "_law_kept_here", "_law_other", "_law_odd", "_law_of", "_law_due", "_law_found", "_law_both"]
abbrev NLw1:List Str:=["_law_name", "_law_side", "_law_of", "_law_some"]
abbrev NLw2:List Str:=["_law_plot", "_law_name", "_law_some"]
abbrev NLw3:List Str:=["_law_pair", "_law_due"]
theorem Xhl:FnScope NLw ["_law_script"] (defScope s_law):=⟨rfl,rfl,rfl,by decide +kernel,rfl,by decide +kernel,by decide +kernel⟩
theorem Xyl{f B0 T:Addr}{fd:FuncData}(F:Fun K "law" "law" s_law f fd)(B:Bl mg)(FB:Fn P w K mg base CX0 1 "_law_begin" ["_law_script"] (Xk1 K))(FP:FnPick P w K mg base)
  (FI:Fn P w K mg base CX0 4 "_law_island" ["_law_draw", "_law_most"] spIslandN) (FPl:Fn P w K mg base CX0 3 "_law_plots" ["_law_row_here"] Xit)
  (FF:Fn P w K mg base CX0 3 "_law_few" ["_law_draw", "_law_some"] spFew) (FKt:Fn P w K mg base CX0 1 "_law_kept" ["_law_row_here", "_law_crowd"] Xis)
  (FOk:Fn P w K mg base CX0 3 "_law_odd_kept" ["_law_draw", "_law_row_here", "_law_kept_here"] spOddK) (FGk:Fn P w K mg base CX0 3 "_law_good_kept" ["_law_row_here", "_law_some", "_law_kept_here"] Xlr)
  (FHl:Fn P w K mg base CX0 2 "_law_held" ["_law_some", "_law_kept_here"] spHeldL) (FFl:Fn P w K mg base CX0 1 "_law_flip" ["_law_plot", "_law_name"] spFlip) (FTx:Fn P w K mg base CX0 1 "_law_texts" ["_law_found"] Xij)
  (FPr:Fn P w K mg base CX0 2 "_law_pairs" ["_law_found"] spPairsL) (FRf:Fn P w K mg base CX0 8 "_law_refused" ["_law_row_here", "_law_kept_here", "_law_other"] (Xls T (lamPos s_in_order)))
  (FBd:Fn P w K mg base (CX1 P w) 7 "border" ["row", "kept"] (spBorder B0 T (lamPos s_in_order))) (FJn:Fn P w K mg base (CX1 P w) 7 "joined" ["row", "kept", "other"] (Xgh B0 T (lamPos s_in_order))):
  FnOk P w K mg base CX0 9 f fd ["_law_script"] (Xm4 K T):=by
 refine F.ok Xhl (λvs H Q E h=>?_) (λcdv A outer s H vs Q E hr h=>?_)
 ·obtain⟨a,ns,rfl,_⟩:=h
  rfl
 ·obtain⟨a,ns,rfl,hS,hlen,hTb,k⟩:=h
  have hu4':=hu4 hr
  have hr1:Room 1 _:=hr.mono (by decide)
  have hr2:Room 2 _:=hr.mono (by decide)
  have hr3:Room 3 _:=hr.mono (by decide)
  have hr4:Room 4 _:=hr.mono (by decide)
  have hr7:Room 7 _:=hr.mono (by decide)
  refine⟨_,Xad (Xao (i:=1) Xhl.nd rfl (Or.inl rfl) (Xap FB hr1 (by rfl) pass0 (Xaa (pv 0) Xac)))
   (Xad (Xao (i:=2) Xhl.nd rfl (Or.inl rfl) (Xap FI hr4 (by rfl) pass0 (Xaa (pv 1) (Xaa Xai Xac))))
   (Xad (Xao (i:=3) Xhl.nd rfl (Or.inr rfl) (Xap FPl hr3 (by rfl) pass0 (Xaa (pv 2) Xac)))
   (Xad (Xao (i:=4) Xhl.nd rfl (Or.inl rfl) (Xap FKt hr1 (by rfl) pass0 (Xaa (pv 2) (Xaa (Xap FF hr3 (by rfl) pass0 (Xaa (pv 1) (Xaa (pv 3) Xac))) Xac))))
   (Xad (Xao (i:=5) Xhl.nd rfl (Or.inl rfl) (Xap FKt hr1 (by rfl) pass0 (Xaa (pv 2) (Xaa (Xap FF hr3 (by rfl) pass0 (Xaa (pv 1) (Xaa (pv 3) Xac))) Xac))))
   (Xad (Xb0 (Xam Xcz (Xap FP hr1 (by rfl) pass0 (Xaa (pv 1) (Xaa Xai Xac))) Xai (nomark _))
    (Xad (Xao (i:=6) Xhl.nd rfl (Or.inl rfl) (Xap FOk hr3 (by rfl) pass0 (Xaa (pv 1) (Xaa (pv 2) (Xaa (pv 4) Xac)))))
    (Xaf (Xb0 (Xgm (Xc1 (Xap FGk hr3 (by rfl) pass0 (Xaa (pv 2) (Xaa (pv 3) (Xaa (pv 6) Xac))))))
     (Xad (Xb0 (Xkq (Xgm (Xc1 (Xap FRf hr (by rfl) pass0 (Xaa (pv 2) (Xaa (pv 6) (Xaa Xte Xac)))))) (Xgk (Xgm (Xc1 (Xap FRf hr (by rfl) pass0 (Xaa (pv 2) (Xaa (pv 6) (Xaa (pv 5) Xac)))))))).pt (Xaf (Xan Xgi)) Xay)
     (Xaf (Xan (Xap FRf hr (by rfl) pass0 (Xaa (pv 2) (Xaa (pv 5) (Xaa (pv 6) Xac))))))) Xay))) Xay)
   (Xad (Xao (i:=7) Xhl.nd rfl (Or.inr rfl) (Xap FHl hr2 (by rfl) pass0 (Xaa (pv 3) (Xaa (pv 4) Xac))))
   (Xad (Xao (i:=8) Xhl.nd rfl (Or.inr rfl) (Xbu (N:=NLw1) (cap:=[none,none,some 7,some 3]) (CompScope.of (defScope s_law) NLw rfl rfl rfl (by decide +kernel)) rfl
    (Xa4 (pv 4)) (λ_ _ _=>Xfj K 2 rfl rfl (Xa3 (Xak (i:=0) (show NLw1.Nodup by decide +kernel) rfl (Or.inr rfl) (Or.inl rfl)) (Xa3 (Xak (i:=1) (show NLw1.Nodup by decide +kernel) rfl (Or.inl rfl) (Or.inr rfl)) Xc9)))
    (λs0 H0 ex=>Xbq (Xc1 (Xal (Xmg rfl) (by rfl) B.any (by rfl) (Xaa (Xbu (N:=NLw2) (cap:=[none,some 0,some 3]) (CompScope.of _ NLw1 rfl rfl rfl (by kernel_rfl)) rfl
     (Xiq K (by rfl) (pv 2)) (λ_ _ _=>Xak (i:=0) (show NLw2.Nodup by decide +kernel) rfl (Or.inl rfl) (Or.inr rfl)) (λ_ _ _=>Xbd)
     (λ_ _ _=>Xby (Xpd (by exact hu4')) (Xap (by exact FFl) (by exact hr1) (by rfl) pass0 (Xaa (pv 0) (Xaa (pv 1) Xac))) (pv 2) (by rfl))) Xac)))) (λ_ _ _=>pv 0)))
   (Xad (Xao (i:=9) Xhl.nd rfl (Or.inl rfl) (Xap FBd hr7 (by rfl) Xo5 (Xaa (pv 2) (Xaa (pv 4) Xac))))
   (Xad (Xb0 (Xkq (Xgm (Xc1 (Xap FTx hr1 (by rfl) pass0 (Xaa (pv 9) Xac)))) (Xgk (Xam (Xjx (hu3 hr)) (pv 9) (pv 8) (nomark _)))).pt (Xaf (Xan Xgi)) Xay)
   (Xad (Xb0 (Xam (Xjx (hu3 hr)) (Xap FHl hr2 (by rfl) pass0 (Xaa (pv 3) (Xaa (Xbu (N:=NLw3) (cap:=[none,some 8]) (CompScope.of (defScope s_law) NLw rfl rfl rfl (by decide +kernel)) rfl
    (Xa4 (pv 4)) (λ_ _ _=>Xak (i:=0) (show NLw3.Nodup by decide +kernel) rfl (Or.inl rfl) (Or.inr rfl)) (λ_ _ _=>Xbq (Xam (Xd0 K (by rfl)) (Xba (Xci K (by rfl)) (pv 0) Xai (λ_ _=>rfl)) (pv 1) (by rfl))) (λ_ _ _=>pv 0)) Xac))) (pv 7) (nomark _)) (Xaf (Xan Xgi)) Xay)
   (Xad (Xao (i:=10) Xhl.nd rfl (Or.inl rfl) (Xap FJn hr7 (by rfl) Xo5 (Xaa (pv 2) (Xaa (pv 4) (Xaa (pv 5) Xac)))))
   (Xad (Xb0 (Xkq (Xgm (Xc1 (Xap FPr hr2 (by rfl) pass0 (Xaa (pv 10) Xac)))) (Xgk (Xam (Xjx (hu3 hr)) (pv 10) (Xap FKt hr1 (by rfl) pass0 (Xaa (pv 2) (Xaa (Xar Xbi (pv 7) (Xap FHl hr2 (by rfl) pass0 (Xaa (pv 3) (Xaa (pv 5) Xac)))) Xac))) (nomark _)))).pt (Xaf (Xan Xgi)) Xay)
   (Xad (Xc8 (Xon PySem.F.plainAttrs_list PySem.F.slot_list_append PySem.F.type_list_append Xdp (pv 9) (Xaa Xaw Xac)))
   (Xaf (Xan (Xiz (Xby (Xjw (hu3 hr)) (Xap FBd hr7 (by rfl) Xo5 (Xaa (pv 2) (Xaa (pv 4) Xac))) (pv 8) (nomark _)) (Xiy (Xby (Xjw (hu3 hr)) (Xap FJn hr7 (by rfl) Xo5 (Xaa (pv 2) (Xaa (pv 5) (Xaa (pv 4) Xac)))) (pv 10) (nomark _))))))))))))))))))),?_⟩
  refine⟨_,rfl,a,ns,rfl,hS,hlen,λdr sc H1 ndr nsc d1 s1=>?_⟩
  have tab1:Xa5 T (lamPos s_in_order) qIn H1:=.inl (s1 _ _ hTb)
  refine⟨_,rfl,dr,sc,10,rfl,by decide,d1,λr row n st late H2 nr hn hst hR hp hno d2 b2=>?_⟩
  have tab2:Xa5 T (lamPos s_in_order) qIn H2:=by
   obtain⟨xs1,h1⟩:=d1.at
   exact SH.Xa5.but tab1 h1 b2
  have hI:Isl row:=⟨n,st,late,by omega,hst,hp⟩
  have R2:=hI.row2
  have hd10:(dit row).length<=10:=by
   have hp':(dit row).Perm (Xat st late n):=Xee (Xg0 row) (Xf6 hst (by omega)) λx=>by
    rw[Xaj,hp.mem_iff,Xzw,or_self]
   rw[hp'.length_eq]
   unfold Xat
   rw[Xzl,X0j]
   exact hn
  have nrd:r≠dr:=(d1.ne nr).1
  refine⟨_,rfl,r,row,rfl,hR,R2,hno,by omega,λl ps Ts H3 nl hl3 hTp gP s3=>?_⟩
  have hPL:=gP.mem
  have hps64:ps.length<=64:=by rw[hTp.1];exact gP.len R2.two hno (by omega)
  have d3:=d2.same s3
  have hR3:=s3 _ _ hR
  have tab3:=SH.Xa5.same tab2 s3
  have nld:l≠dr:=(d2.ne nl).1
  have hlp:0<ps.length:=by rw[hTp.1];exact List.length_pos_of_mem ((hPL []).mpr (Xge row))
  have hps:=hTp.1
  have okp:∀t,Xah row t=true->(∀y∈t,okN y)/\t.length<=14:=λt ht=>⟨λy hy=>R2.ok y ((Xa2 ht).1 y hy),X0d (Xgd ht) (by omega)⟩
  have okT:∀W∈Ts,∀y∈W,okN y:=λW hW=>(okp W ((hPL W).mp hW)).1
  have atp:∀{H':Hp} {p:Addr} {t:List Str},But dr H3 H'->H3 p=some (.tup (t.map V.str))->H' p=some (.tup (t.map V.str)):=λb h=>b _ _ h (d3.ntup _ _ h)
  have tps:∀{H':Hp},But dr H3 H'->Tups H' ps Ts:=λb=>⟨hTp.1,λi hi=>atp b (hTp.2 i hi)⟩
  have tabB:∀{H':Hp},But dr H3 H'->Xa5 T (lamPos s_in_order) qIn H':=λb=>by
   obtain⟨xs,h⟩:=d3.at
   exact SH.Xa5.but tab3 h b
  have crowd:∀{H':Hp} {qs:List Addr},But dr H3 H'->(∀q∈qs,q∈ps)->0<qs.length->∃Us,Tups H' qs Us/\(∀S∈Us,Xah row S=true)/\Us≠[]:=λ{H' qs} b4 hsub hq0=>by
   obtain⟨Us,hU,hUp⟩:∃Us,Tups H' qs Us/\∀S∈Us,Xah row S=true:=Xq8 qs λq hq=>by
    obtain⟨i,hi,e⟩:=X0q.mp (hsub q hq)
    refine⟨Ts.getD i [],?_,(hPL _).mp (SH.Tups.at hTp hi)⟩
    have:=hTp.2 i hi
    rw[show ps.getD i 0=q by rw[<-e];simp[List.getD,hi]] at this
    exact atp b4 this
   refine⟨Us,hU,hUp,λe=>?_⟩
   have:=hU.1
   rw[e] at this
   rw[this] at hq0
   exact absurd hq0 (X0r _)
  dsimp only[Xbm]
  refine⟨_,rfl,_,rfl,_,rfl,dr,sc,l,ps,rfl,d3,hl3,nld,hlp,by omega,λc qs H4 nc hc hsub hq0 hq4 d4 b4=>?_⟩
  have b4:But dr H3 H4:=b4
  obtain⟨Us,hU,hUp,hUn⟩:=crowd b4 hsub hq0
  refine⟨r,c,row,qs,Us,rfl,b4 _ _ hR3 nrd,R2,hc,hU,by omega,hUn,λkp ks H5 nkp hkp hks s5=>?_⟩
  have g0:Good row (Xa9 row Us):=⟨Us,hUn,hUp,rfl⟩
  generalize Xa9 row Us=kept at hks g0
  have d5:=d4.same s5
  have b35:=b4.same s5
  have nkd:kp≠dr:=(d4.ne nkp).1
  dsimp only[Xbm]
  refine⟨_,rfl,_,rfl,_,rfl,dr,sc,l,ps,rfl,d5,b35 _ _ hl3 nld,nld,hlp,by omega,λc2 qs2 H6 nc2 hc2 hsub2 hq02 hq42 d6 b6=>?_⟩
  have b6:But dr H5 H6:=b6
  have b36:=b35.trans b6
  obtain⟨Us2,hU2,hUp2,hUn2⟩:=crowd b36 hsub2 hq02
  refine⟨r,c2,row,qs2,Us2,rfl,b36 _ _ hR3 nrd,R2,hc2,hU2,by omega,hUn2,λko os H7 nko hko hos s7=>?_⟩
  have g1:Good row (Xa9 row Us2):=⟨Us2,hUn2,hUp2,rfl⟩
  generalize Xa9 row Us2=other at hos g1
  have d7:=d6.same s7
  have b37:=b36.same s7
  have nod:ko≠dr:=(d6.ne nko).1
  have K0:=g0.kp hI
  have K1:=g1.kp hI
  have hkl:ks.length<=16:=by
   have h1:=hks.1
   have:=K0.len
   rw[Xzl] at h1
   omega
  have hol:os.length<=16:=by
   have h1:=hos.1
   have:=K1.len
   rw[Xzl] at h1
   omega
  have E7:Env H7 T (lamPos s_in_order) r l kp ko row ps Ts ks kept os other:=by
   refine⟨b37 _ _ hR3 nrd,b37 _ _ hl3 nld,tps b37,s7 _ _ (b6 _ _ hkp nkd),?_,hko,hos,tabB b37⟩
   exact Tups.same ⟨hks.1,λi hi=>b6 _ _ (hks.2 i hi) (d5.ntup _ _ (hks.2 i hi))⟩ s7
  have EB:∀{H':Hp},But dr H7 H'->Env H' T (lamPos s_in_order) r l kp ko row ps Ts ks kept os other:=λb=>E7.mono (tabB (b37.trans b)) λ{x o} ww h n=>b _ _ h λz=>by
   rcases ww with ww | ww | ww | ww | ⟨u,ww⟩
   ·exact nrd (ww ▸ z)
   ·exact nld (ww ▸ z)
   ·exact nkd (ww ▸ z)
   ·exact nod (ww ▸ z)
   ·obtain⟨xs,hx⟩:=d7.at
    rw[z,hx,ww] at h;cases h
  clear hks hkp s5 d5 b35 hU hc d4 b4 d6 b6 b36 hc2 hU2 s7 hko hos
  dsimp only[Xbm]
  refine Xns (t:=tIfS _ _ _) (fun σ' H'=>∃v6, σ'=[some (.ref a),some (.ref dr),some (.ref r),some (.ref l),some (.ref kp),some (.ref ko),v6,none,none,none,none]/\Env H' T (lamPos s_in_order) r l kp ko row ps Ts ks kept os other) ?_ ?_
  rotate_left
  ·intro nx hnx
   refine⟨_,rfl,dr,sc,8,rfl,by decide,by decide,d7,λq4 H8 q40 q41 d8 b8=>⟨rfl,_,rfl,?_⟩⟩
   have b8:But dr H7 H8:=b8
   have E8:=EB b8
   refine ite2b (λ_=>?_) (λ_=>hnx _ _ ⟨_,rfl,E8⟩)
   refine⟨_,rfl,_,rfl,_,rfl,dr,sc,r,kp,row,ks,kept,rfl,d8,E8.hr,nrd,hI,E8.hk,nkd,E8.hks,g0,λk' qs' kept' H9 nk' hk' ht' ko' d9 b9=>?_⟩
   have b9:But dr H8 H9:=b9
   have E9:=EB (b8.trans b9)
   dsimp only[Xbm]
   refine⟨_,rfl,_,rfl,_,rfl,r,l,k',row,ps,Ts,qs',kept',rfl,E9.hr,R2,E9.hl,E9.ht,hps64,hPL,hk',ht',ko',λb H10 hb s10=>⟨_,rfl,?_⟩⟩
   cases b with
   | true=>exact iteF (hnx _ _ ⟨_,rfl,E9.same s10⟩)
   | false=>
    refine iteT ?_
    have ng:¬Good row kept':=λg=>absurd (hb.mpr g) (by decide)
    have E10:=E9.same s10
    have hdd:HeldAt H10 T (lamPos s_in_order) r k' row kept':=⟨E10.hr,R2,hno,by omega,E10.tab,⟨qs',s10 _ _ hk',ht'.same s10⟩,ko'⟩
    have odd:∀{H':Hp},Xa5 T (lamPos s_in_order) qIn H'->But T H10 H'->HeldAt H' T (lamPos s_in_order) r k' row kept':=λt b=>⟨(E10.but t b).hr,R2,hno,by omega,t,⟨qs',E10.keep b (s10 _ _ hk') λz=>by simp,⟨ht'.1,λi hi=>E10.keep b (s10 _ _ (ht'.2 i hi)) λz=>by simp⟩⟩,ko'⟩
    refine⟨_,rfl,_,rfl,r,k',row,kept',.non,Ts,rfl,hdd,hPL,.inl ⟨rfl,ng⟩,λH11 t11 b11=>⟨_,rfl,iteF ?_⟩⟩
    have b11:But T H10 H11:=b11
    have E11:=E10.but t11 b11
    refine⟨_,rfl,_,rfl,_,rfl,r,k',row,kept',_,Ts,rfl,odd t11 b11,hPL,.inr ⟨ko,other,rfl,E11.held2 R2 hno (by omega) K1,λz=>ng z.1⟩,λH12 t12 b12=>⟨_,rfl,iteF ?_⟩⟩
    have b12:But T H11 H12:=b12
    have b1012:But T H10 H12:=λb o e n=>b12 _ _ (b11 _ _ e n) n
    exact⟨_,rfl,_,rfl,_,rfl,r,ko,row,other,_,Ts,rfl,(E10.but t12 b1012).held2 R2 hno (by omega) K1,hPL,.inr ⟨k',kept',rfl,odd t12 b1012,λz=>ng z.2⟩,λH13 _ _=>k H13⟩
  rintro σ' H8 ⟨v6,rfl,E8⟩
  have hWs:∀S,S∈Ts.filter (keeps kept)↔Xah row S=true/\keeps kept S=true:=λS=>by rw[Xzm,hPL]
  have hWo:∀S,S∈Ts.filter (keeps other)↔Xah row S=true/\keeps other S=true:=λS=>by rw[Xzm,hPL]
  have hWn:Ts.filter (keeps kept)≠[]:=((Xfa hWs).mp g0).1
  have okF:∀(g:List Str->Bool),∀W∈Ts.filter g,∀y∈W,okN y:=λg W hW=>okT W (Xzm.mp hW).1
  refine⟨_,rfl,_,rfl,l,kp,ps,Ts,ks,kept,rfl,E8.hl,E8.ht,by omega,E8.hk,E8.hks,by omega,λW us H9 nW hW hus hul s9=>?_⟩
  have E9:=E8.same s9
  dsimp only[Xbm]
  refine⟨_,rfl,kp,rfl,⟨_,SqL.of E9.hk⟩,?_⟩
  refine Xmy (some (.ref W)) (some (.ref l)) rfl E9.hk E9.hks (by omega) (Xny Ts (Ts.filter (keeps kept))) ?_ ?_ ?_
  ·intro x b H3 Q' hm s3 kk
   have okx:okN x:=(K0.ok _ hm).2.2.1
   refine⟨_,rfl,W,rfl,⟨_,SqL.of (s3 _ _ hW)⟩,?_⟩
   refine Xg1 (n:=us.length) (by rw[X3l];omega) (λj=>.ref (us.getD j 0)) (λj=>.bl (decide (Xco ((Ts.filter (keeps kept)).getD j []) x∈Ts))) ?_ ?_ ?_ ?_
   ·intro j H4 hj s4
    have:=Xbn (K:=K) (SqL.of (s4 _ _ (s3 _ _ hW))) (show j<(us.map V.ref).length by rw[Xzl];exact hj)
    rwa [Xa0 V.ref 0 us hj] at this
   ·intro H4 s4
    have:=Xbo (K:=K) (SqL.of (s4 _ _ (s3 _ _ hW)))
    rwa [Xzl] at this
   ·intro j H4 Q2 hj s4 kk2
    have hj':=(s3.trans s4) _ _ (hus.2 j hj)
    have hm2:=SH.Tups.at hus hj
    generalize (Ts.filter (keeps kept)).getD j []=S at hj' hm2 kk2
    obtain⟨oS,lS⟩:=okp S ((hWs S).mp hm2).1
    refine⟨_,rfl,_,rfl,us.getD j 0,S,x,rfl,hj',by omega,λq H5 nq hq5 s5=>?_⟩
    have E5:=E9.same ((s3.trans s4).trans s5)
    have oF:∀y∈Xco S x,okN y:=λy hy=>(Xmj hy).elim (oS y) λe=>e ▸ okx
    refine⟨_,rfl,tupD (Xco S x),Ts.map tupD,Xcv hq5,Xbz E5.hl E5.ht,Xas _ (Xcf oF),Xbp _ (Xd4 okT),by show PyData.depthAll ((Xco S x).map PyData.str)+1<=3;rw[Xca];decide,?_⟩
    rw[isin okT oF]
    exact kk2 H5 s5
   ·intro O H4 nO s4 hO
    have hO':H4 O=some (.lst (((List.range us.length).map λj=>decide (Xco ((Ts.filter (keeps kept)).getD j []) x∈Ts)).map V.bl)):=by rw[hO,X0h];rfl
    refine⟨O,_,rfl,hO',?_⟩
    rw[hus.1,Xj5 [] (λS=>decide (Xco S x∈Ts)) (Ts.filter (keeps kept))]
    exact⟨_,rfl,kk H4 s4⟩
  ·intro x v2 H3 Q' q
   exact⟨_,rfl,q⟩
  intro D HX nD sX hD
  have hD:HX D=some (.lst ((Xhp Ts (Ts.filter (keeps kept)) kept).map V.str)):=hD
  have EX:=E9.same sX
  have hWX:=sX _ _ hW
  have husX:=hus.same sX
  have okB:∀y∈Xhp Ts (Ts.filter (keeps kept)) kept,okN y:=λy hy=>by
   obtain⟨q,hq,rfl⟩:=Xz0.mp hy
   exact(K0.ok q (Xzm.mp hq).1).2.2.1
  have lB:(Xhp Ts (Ts.filter (keeps kept)) kept).length<=16:=by
   unfold Xhp Xf2
   rw[Xzl]
   exact X0d (X0e ..) K0.len
  have hbA:=Xsx R2.two hPL hWs hWn
  have hbF:=Xq9 Ts (Ts.filter (keeps kept)) kept
  dsimp only[Xbm]
  refine⟨_,rfl,_,rfl,r,kp,row,kept,Ts,Ts.filter (keeps kept),rfl,EX.held R2 hno (by omega) K0,hPL,hWs,λ_ fo HA nf hf tabA bA=>?_,λz=>absurd g0 z⟩
  generalize hBB:Xhp Ts (Ts.filter (keeps kept)) kept=BB at hD hf okB lB hbF
  have bA:But T HX HA:=bA
  have EA:=EX.but tabA bA
  have hDA:=EX.keep bA hD λz=>by simp
  have hWA:=EX.keep bA hWX λz=>by simp
  have husA:Tups HA us (Ts.filter (keeps kept)):=⟨husX.1,λi hi=>EX.keep bA (husX.2 i hi) λz=>by simp⟩
  have dpB:min (PyData.depth (.list (BB.map PyData.str))) (PyData.depth (.list (BB.map PyData.str)))<=3:=by
   show min (PyData.depthAll (BB.map PyData.str)+1) _<=3
   rw[Xca];omega
  dsimp only[Xbm]
  refine⟨_,rfl,fo,BB,rfl,hf,by omega,λHB sB=>⟨_,rfl,iteF ?_⟩⟩
  refine⟨_,rfl,_,rfl,.list (BB.map PyData.str),.list (BB.map PyData.str),Xdu (sB _ _ hf) (Xcn _),Xdu (sB _ _ hDA) (Xcn _),Xas _ (Xcg okB),Xas _ (Xcg okB),dpB,_,rfl,?_⟩
  rw[(Xg5 _ _ (Xcg okB) (Xcg okB)).mpr rfl]
  refine iteF ?_
  have EBB:=EA.same sB
  refine⟨_,rfl,_,rfl,kp,rfl,⟨_,SqL.of EBB.hk⟩,?_⟩
  have hkk:ks.length=kept.length:=by
   have:=E8.hks.1
   rwa [Xzl] at this
  refine Xdf (n:=ks.length) (by rw[X3l];omega) (λi=>.ref (ks.getD i 0)) (λi=>decide (((kept.map pr2).getD i []).headD Str.empty∈BB)) (λi=>.ref (ks.getD i 0)) ?_ ?_ ?_ ?_ ?_
  ·intro i H4 hi s4
   have:=Xbn (K:=K) (SqL.of (s4 _ _ EBB.hk)) (by rw[Xzl];exact hi)
   rw[Xa0 V.ref 0 ks hi] at this
   exact this
  ·intro H4 s4
   have:=Xbo (K:=K) (SqL.of (s4 _ _ EBB.hk))
   rwa [Xzl] at this
  ·intro i H4 Q' hi s4 kk
   have hi2:i<kept.length:=by omega
   have hi':=s4 _ _ (EBB.hks.2 i hi)
   have e1:(kept.map pr2).getD i []=pr2 kept[i]:=by simp[List.getD,hi2]
   rw[e1] at hi' kk
   refine⟨_,rfl,ks.getD i 0,_,_,.str kept[i].1,rfl,rfl,SqT.of hi',rfl,?_⟩
   refine⟨_,rfl,D,_,rfl,.inl (SqL.of (s4 _ _ (sB _ _ hDA))),rfl,Xb5 BB,_,rfl,?_⟩
   rw[X3m (by decide),Xc0]
   exact kk H4 (Same.refl _)
  ·intro i H4 Q' hi _ s4 kk
   exact⟨_,rfl,kk H4 (Same.refl _)⟩
  intro O HC nO sC hO
  have eT:(((List.range ks.length).filter λi=>decide (((kept.map pr2).getD i []).headD Str.empty∈BB)).map λi=>(kept.map pr2).getD i [])=(Xf2 Ts (Ts.filter (keeps kept)) kept).map pr2:=by
   rw[<-hbF,E8.hks.1,Xa7 [] (λS=>decide (S.headD Str.empty∈BB)) (kept.map pr2),List.filter_map]
   rfl
  have tx:Tups HC (((List.range ks.length).filter λi=>decide (((kept.map pr2).getD i []).headD Str.empty∈BB)).map λi=>ks.getD i 0) ((Xf2 Ts (Ts.filter (keeps kept)) kept).map pr2):=by
   rw[<-eT]
   exact Xir (EBB.hks.same sC) λi hi=>X0l.mp (Xzm.mp hi).1
  have hO':HC O=some (.lst ((((List.range ks.length).filter λi=>decide (((kept.map pr2).getD i []).headD Str.empty∈BB)).map λi=>ks.getD i 0).map V.ref)):=by rw[hO,X0h];rfl
  have hOl:(((List.range ks.length).filter λi=>decide (((kept.map pr2).getD i []).headD Str.empty∈BB)).map λi=>ks.getD i 0).length<=1000:=by
   rw[Xzl]
   exact X0d (X0e ..) (by rw[X0j];omega)
  generalize (((List.range ks.length).filter λi=>decide (((kept.map pr2).getD i []).headD Str.empty∈BB)).map λi=>ks.getD i 0)=zs at tx hO' hOl
  have EC:=EBB.same sC
  refine⟨l,O,ps,Ts,zs,_,rfl,EC.hl,EC.ht,by omega,hO',tx,hOl,λW2 us2 HD nW2 hW2 hus2 hul2 sD=>?_⟩
  have sAD:=(sB.trans sC).trans sD
  have eF:Ts.filter (keeps (Xf2 Ts (Ts.filter (keeps kept)) kept))=Ts.filter (keeps kept):=X2q hbA
  rw[eF] at hus2
  refine⟨_,rfl,.list ((Ts.filter (keeps kept)).map tupD),.list ((Ts.filter (keeps kept)).map tupD),Xbz hW2 hus2,Xbz (sAD _ _ hWA) (husA.same sAD),Xas _ (Xav (okF _)),Xas _ (Xav (okF _)),Xcp _ _,_,rfl,?_⟩
  rw[Xdh (okF _) (okF _),X3o rfl]
  refine iteF ?_
  have ED:=EA.same sAD
  refine⟨_,rfl,_,rfl,_,rfl,r,kp,ko,row,kept,other,rfl,ED.held R2 hno (by omega) K0,ED.held2 R2 hno (by omega) K1,λ_ _ J js HE nJ hJ hjs tabE bE=>?_,λz=>absurd ⟨g0,g1⟩ z⟩
  have bE:But T HD HE:=bE
  have EE:=ED.but tabE bE
  have hDE:=ED.keep bE (sAD _ _ hDA) λz=>by simp
  have hfE:=ED.keep bE (sAD _ _ hf) λz=>by simp
  have hWE:=ED.keep bE (sAD _ _ hWA) λz=>by simp
  have husE:Tups HE us (Ts.filter (keeps kept)):=⟨husA.1,λi hi=>ED.keep bE (sAD _ _ (husA.2 i hi)) λz=>by simp⟩
  have K2:=K0.filt λq=>decide (q∈other)
  have eb:=Xvu g0 g1 hWs hWo
  have ec:=Xqs g0 g1
  generalize (kept.filter λq=>decide (q∈other))=both at hjs K2 eb ec
  have hjl:js.length<=16:=by
   have h1:=hjs.1
   have:=K2.len
   rw[Xzl] at h1
   omega
  dsimp only[Xbm]
  refine⟨_,rfl,J,js,both,rfl,hJ,hjs,by omega,λHF sF=>⟨_,rfl,iteF ?_⟩⟩
  have EF:=EE.same sF
  refine⟨_,rfl,_,rfl,_,rfl,_,rfl,_,rfl,l,ko,ps,Ts,os,other,rfl,EF.hl,EF.ht,by omega,EF.ho,EF.hos,by omega,λW3 us3 HG nW3 hW3 hus3 hul3 sG=>?_⟩
  have sEG:=sF.trans sG
  refine⟨W,W3,_,_,rfl,rfl,sEG _ _ hWE,hW3,by rw[Xzl,Xzl,X3l];omega,λp np=>?_⟩
  have sH:Same HG (upd HG p (.lst (us.map V.ref++us3.map V.ref))):=(Same.refl HG).step np
  have hpH:upd HG p (.lst (us.map V.ref++us3.map V.ref)) p=some (.lst ((us++us3).map V.ref)):=by rw[Xab,Xzu]
  dsimp only
  generalize upd HG p (.lst (us.map V.ref++us3.map V.ref))=HH at sH hpH
  have sEH:=sEG.trans sH
  refine⟨r,p,row,us++us3,Ts.filter (keeps kept)++Ts.filter (keeps other),rfl,sEH _ _ EE.hr,R2,hpH,Tups.app (husE.same sEH) (hus3.same sH),by rw[Xzx];omega,λz=>hWn (List.append_eq_nil_iff.mp z).1,λY ys HI nY hY hys sI=>?_⟩
  rw[<-eb] at hys
  have sEI:=sEH.trans sI
  refine⟨.list ((both.map pr2).map tupD),.list ((both.map pr2).map tupD),Xbz (sEI _ _ hJ) (hjs.same sEI),Xbz hY hys,Xas _ (Xav K2.okL),Xas _ (Xav K2.okL),Xcp _ _,_,rfl,?_⟩
  rw[Xdh K2.okL K2.okL,X3o rfl]
  refine iteF ?_
  have EI:=EE.same sEI
  have hfI:=sEI _ _ hfE
  refine⟨_,rfl,.inl ⟨rfl,_,SqL.of hfI⟩,fo,_,_,rfl,rfl,hfI,by rw[Xzl,X3l];omega,?_⟩
  have nfo:∀{b:Addr} {o:HO},HX b=some o->b≠fo:=λe z=>by rw[z,nf] at e;cases e
  have EJ:=EI.put (ys:=BB.map V.str++[.str "none"]) hfI (nfo EX.hr) (nfo EX.hl) (nfo EX.hk) (nfo EX.ho)
  have nDf:D≠fo:=nfo hD
  have nJf:J≠fo:=λz=>by rw[z,sAD _ _ hf] at nJ;cases nJ
  have hDJ:upd HI fo (.lst (BB.map V.str++[.str "none"])) D=some (.lst (BB.map V.str)):=by rw[Xae nDf];exact sEI _ _ hDE
  have hJJ:upd HI fo (.lst (BB.map V.str++[.str "none"])) J=some (.lst (js.map V.ref)):=by rw[Xae nJf];exact sEI _ _ hJ
  have hjsJ:Tups (upd HI fo (.lst (BB.map V.str++[.str "none"]))) js (both.map pr2):=⟨hjs.1,λi hi=>by
   have e:=sEI _ _ (hjs.2 i hi)
   rw[Xae (λz=>by rw[z,hfI] at e;cases e)]
   exact e⟩
  dsimp only
  generalize upd HI fo (.lst (BB.map V.str++[.str "none"]))=HJ at EJ hDJ hJJ hjsJ
  refine⟨_,rfl,_,rfl,r,kp,row,kept,Ts,Ts.filter (keeps kept),rfl,EJ.held R2 hno (by omega) K0,hPL,hWs,λ_ f2 HK nf2 hf2 tabK bK=>?_,λz=>absurd g0 z⟩
  rw[hBB] at hf2
  have bK:But T HJ HK:=bK
  have EK:=EJ.but tabK bK
  refine⟨_,rfl,.list (BB.map PyData.str),.list (BB.map PyData.str),Xdu hf2 (Xcn _),Xdu (EJ.keep bK hDJ λz=>by simp) (Xcn _),Xas _ (Xcg okB),Xas _ (Xcg okB),dpB,?_⟩
  rw[(Xg5 _ _ (Xcg okB) (Xcg okB)).mpr rfl]
  refine⟨_,rfl,iteT ?_⟩
  refine⟨_,rfl,_,rfl,_,rfl,r,ko,kp,row,other,kept,rfl,EK.held2 R2 hno (by omega) K1,EK.held R2 hno (by omega) K0,λ_ _ J2 js2 HL nJ2 hJ2 hjs2 tabL bL=>?_,λz=>absurd ⟨g1,g0⟩ z⟩
  have bL:But T HK HL:=bL
  rw[ec] at hjs2
  have hJK:=EJ.keep bK hJJ λz=>by simp
  have hjsL:Tups HL js (both.map pr2):=⟨hjsJ.1,λi hi=>EK.keep bL (EJ.keep bK (hjsJ.2 i hi) λz=>by simp) λz=>by simp⟩
  refine⟨_,rfl,.list ((both.map pr2).map tupD),.list ((both.map pr2).map tupD),Xbz hJ2 hjs2,Xbz (EK.keep bL hJK λz=>by simp) hjsL,Xas _ (Xav K2.okL),Xas _ (Xav K2.okL),Xcp _ _,?_⟩
  rw[Xdh K2.okL K2.okL,X3o rfl]
  exact k _
end
end K35
set_option maxHeartbeats 4000000
namespace PySem.OldK
theorem of_tab{h₀ h:Heap}{T:Addr}(ht:isCodeTable h₀ T)(hT:h₀.get? T=some (PySem.W.tabObj #[]))(hT':∃ps,h.get? T=some (PySem.W.tabObj ps))(k:∀b o,b≠T->h₀.get? b=some o->h.get? b=some o):OldK h₀ h:=by
 obtain⟨ps,hps⟩:=hT'
 refine⟨λb o e=>?_,λb o e=>?_⟩
 ·by_cases z:b=T
  ·subst z
   rw[hT] at e
   cases e
   exact .inr (.inl ⟨ht,rfl, #[],ps,rfl,by simpa using hps⟩)
  ·exact .inl (k b o z e)
 ·by_cases z:b=T
  ·exact⟨_,z ▸ hps⟩
  ·exact⟨o,k b o z e⟩
end PySem.OldK
namespace L2
open PySem PySem.Spec PyProof.Rows
theorem Xra{P:Program}{w:World}{K:PySem.W.Frag}{mg mb:Str->Option Value}{CX:CXT}{k:Nat}{fa a:Addr}{fd:FuncData}{x:Str}{sp:Sp}{s₁ : Shared}{vs:List Value}{ns:List Int}{T c0:Addr}
  (hT:s₁.heap.get? T=some (PySem.W.tabObj #[])) (hTK:K.lookup T=none) (hhd:PySem.W.codeHdIn K c0 T=true) (hbm:BmOk mg s₁.heap)
  (KX:K.In s₁.heap) (hns:s₁.heap.Ns mainGlobals mg) (hb:s₁.heap.Ns builtinsNs mb) (hbb:∀x:Str,x ≠ "__name__" -> mb x=bootBuiltins x) (hlim:s₁.heap.NoLimit) (hg:s₁.gens = #[])
  (ha:s₁.heap.get? a=some {cls:=.type "list",data:=.seq vs.toArray}) (hi:IntsAre vs ns) (hl:ns.length<=sizeLine) (hr:Room k callerA)
  (F:∀base:Heap,K.In base->base.Ns mainGlobals mg->BmOk mg base->FnOk P w K mg base CX k fa fd [x] sp) (hbind:∀(s:Shared) (u:Value),BindsTo s fd ⟨[u],[]⟩ [(x,u)])
  (hsp:∀H:Hp,H T=some (.tbl #[])->SqL K H a (ns.map V.int)->sp [.ref a] H (λv _=>v = .bl true) λ_ _ _=>False)
  (hCX:∀H e s',CX [] H s₁ (λ_ _ _=>False) e s'->False):
  codeAny (model P w) callerA (.call (.ref fa) ⟨[.ref a],[]⟩) (λr s'=>r = .ok (.ret (.bool true))/\OldK s₁.heap s'.heap/\s'.os=s₁.os/\AllBare s'.gens) s₁:=by
 have rv:=Xjb hi
 have lenV:=hi.length
 have core:∀H:Hp,H T=some (.tbl #[])->(∀b,b≠T->H b=none \/ ∃o xs,H b=some (.frz o (.lst xs)))->SqL K H a (ns.map V.int)->HOk P w H s₁.heap->(∀b,H b≠none->b=a\/b=T)->(H a≠none->K.lookup a=none) ->
   codeAny (model P w) callerA (.call (.ref fa) ⟨[.ref a],[]⟩) (λr s'=>r = .ok (.ret (.bool true))/\OldK s₁.heap s'.heap/\s'.os=s₁.os/\AllBare s'.gens) s₁:=by
  intro H hHT hO hS hok hA hK
  have base_of:∀{b:Addr} {o:Obj},s₁.heap.get? b=some o->H b=none->(hidT s₁.heap H).get? b=some o:=λe n=>Xrb e n
  have noA:∀{b:Addr} {o:Obj} {es:Array DictEntry} {ep:Nat},s₁.heap.get? b=some o->o.data = .dict es ep->H b=none:=λ{b o es ep} e d=>by
   cases q:H b with
   | none=>rfl
   | some u=>
    rcases hA b (by rw[q];simp) with e' | e'
    ·subst e'
     rw[ha] at e;cases e
     have d':Data.seq vs.toArray _=Data.dict es ep:=d
     cases d'
    ·subst e'
     rw[hT] at e;cases e
     cases d
  have nsK:∀{b:Addr} {m:Str->Option Value},s₁.heap.Ns b m->(hidT s₁.heap H).Ns b m:=λ{b m} ⟨o,es,ep,e,d,r⟩=>⟨o,es,ep,base_of e (noA e d),d,r⟩
  have hKb:K.In (hidT s₁.heap H):=λb o e=>base_of (KX b o e) (by
   cases q:H b with
   | none=>rfl
   | some u=>
    rcases hA b (by rw[q];simp) with e' | e'
    ·subst e'
     rw[hK (by rw[q];simp)] at e;cases e
    ·subst e'
     rw[hTK] at e;cases e)
  have hbm':BmOk mg (hidT s₁.heap H):=by
   obtain⟨bm,ob,b1,b2,b3,b4,b5,b6⟩:=hbm
   refine⟨bm,ob,b1,b2,base_of b3 ?_,b4,b5,b6⟩
   cases q:H bm with
   | none=>rfl
   | some u=>
    rcases hA bm (by rw[q];simp) with e' | e'
    ·subst e'
     rw[ha] at b3;cases b3
     exact absurd (show Value.type "list" = Value.type "module" from b4) (by decide)
    ·subst e'
     rw[hT] at b3;cases b3
     cases b4
  have hM:Mod K mg (hidT s₁.heap H):=⟨hKb,nsK hns,⟨mb,nsK hb,hbb⟩,let ⟨mc,h1,h2⟩:=hlim; ⟨mc,nsK h1,h2⟩⟩
  have e0:Env0 P w K mg (hidT s₁.heap H) callerA [] s₁ H:=⟨rfl,hM,λb o e=>Xt5 e,Nat.le_of_eq (Xn6 _ _),trivial,λb hb=>absurd (show b∈([]:List Addr) from hb) (by simp),hok,.of_eq hg⟩
  refine codeAny_mono ((F _ hKb (nsK hns) hbm').run callerA [] s₁ H ⟨[.ref a],[]⟩ [.ref a] [.ref a] _ _ hr e0 (hbind s₁ (.ref a)) (.cons rfl .nil) (hsp H hHT hS)) λr s' h=>?_
  cases r with
  | error e=>exact(hCX H e s' h).elim
  | ok fl=>
   cases fl with
   | next=>exact False.elim h
   | brk=>exact False.elim h
   | cont=>exact False.elim h
   | ret u=>
    obtain⟨v,H',os,bare,un,hok',r',q⟩:=h
    have q':v = .bl true:=q
    subst q'
    obtain rfl:u=Value.bool true:=r'
    refine⟨rfl,OldK.of_tab (T:=T) (by have C:=PySem.W.codeHd_of_K KX hhd;exact(C.tab hT).isCodeTable) hT ?_ λb o nb e=>?_,os,bare⟩
    ·obtain⟨more,hm⟩:=un.tbls T #[] hHT
     exact⟨#[]++more,hok' T _ hm⟩
    cases q:H b with
    | none=>exact un.keep b o e q (by intro z;exact absurd (show b∈([]:List Addr) from z) (by simp)) (by simp)
    | some u=>
     rcases hO b nb with z | ⟨ob,xs,z⟩
     ·rw[q] at z;cases z
     ·have z2:=un.frzs b ob _ z
      obtain⟨e1,_⟩:=hok b _ z
      obtain⟨e2,_⟩:=hok' b _ z2
      rw[e] at e1;cases e1
      exact e2
 cases hk:K.lookup a with
 | some o=>
  have e:=KX a o hk
  rw[ha] at e
  cases e
  have naT:a≠T:=λz=>by rw[z,hTK] at hk;cases hk
  refine core (λb=>if b=T then some (.tbl #[]) else none) (X3n rfl) (λb n=>.inl (X3m n)) (.inr ⟨_,vs.toArray,_,hk,rfl,rfl,rfl,by rw[Xzp,lenV];exact hl,by simpa using rv⟩) (λb u z=>?_) (λb z=>.inr (Classical.byContradiction λn=>z (X3m n))) λz=>absurd (X3m naT) z
  by_cases hb:b=T
  ·have z':=(X3n hb).symm.trans z
   cases z'
   rw[hb]
   exact hT
  ·have z':=(X3m hb).symm.trans z
   cases z'
 | none=>
  have naT:T≠a:=λz=>by rw[z,ha] at hT;cases hT
  refine core (λb=>if b=T then some (.tbl #[]) else if b=a then some (.frz {cls:=.type "list",data:=.seq vs.toArray} (.lst (ns.map V.int))) else none) (X3n rfl) (λb n=>?_) (.inl (.inr ⟨{cls:=.type "list",data:=.seq vs.toArray},(X3m naT.symm).trans (X3n rfl)⟩)) (λb u z=>?_) (λb z=>?_) λ_=>hk
  ·by_cases hb:b=a
   ·exact .inr ⟨_,_,(X3m n).trans (X3n hb)⟩
   ·exact .inl ((X3m n).trans (X3m hb))
  ·by_cases hb:b=T
   ·have z':=(X3n hb).symm.trans z
    cases z'
    rw[hb]
    exact hT
   ·have z1:=(X3m hb).symm.trans z
    by_cases hb:b=a
    ·have z':=(X3n hb).symm.trans z1
     cases z'
     subst hb
     exact⟨ha,by rw[Xzl];exact hl,vs,_,rv,ha⟩
    ·have z':=(X3m hb).symm.trans z1
     cases z'
  ·by_cases hb:b=T
   ·exact .inr hb
   ·by_cases hc:b=a
    ·exact .inl hc
    ·exact absurd ((X3m hb).trans (X3m hc)) z
theorem Xtd{l:PySem.W.OpenLaw}{n k:Nat}{q:Program}{loose:List Str}{XP:(Str->Option Value)->Heap->Prop}{YP:World->Heap->Prop}{d:DefRec}{K:Params->PySem.W.Frag}{CX:World->CXT}{sp:World->Sp}{x:Str}{T c0:Addr}
  (hn:l.most=some n) (hn2:n<=sizeLine) (hdf:d.params.defaults=[]) (hr:Room k callerA)
  (hY:∀(w:World) (h:Heap),YP w h->(K w.params).In h) (hYT:∀(w:World) (h:Heap),YP w h->h.get? T=some (PySem.W.tabObj #[])) (hTK:∀P,(K P).lookup T=none) (hhd:∀P,PySem.W.codeHdIn (K P) c0 T=true)
  (F:∀(w:World) (mg:Str->Option Value) (fa:Addr) (h:Heap),(K w.params).In h->h.Ns mainGlobals mg->mg d.name=some (.ref fa) ->
   ∃fd:FuncData,(∀(s:Shared) (u:Value),BindsTo s fd ⟨[u],[]⟩ [(x,u)]) /\
    ∀base:Heap,(K w.params).In base->base.Ns mainGlobals mg->BmOk mg base->FnOk l.prog w (K w.params) mg base (CX w) k fa fd [x] (sp w))
  (hsp:∀(w:World) (H:Hp) (a:Addr) (ns:List Int),ns.length<=n->H T=some (.tbl #[])->SqL (K w.params) H a (ns.map V.int)->sp w [.ref a] H (λv _=>v = .bl true) λ_ _ _=>False)
  (hCX:∀(w:World) (H:Hp) (s:Shared) (e:Value) (s':Shared),CX w [] H s (λ_ _ _=>False) e s'->False):
  PySem.W.WalkO q loose XP YP l.row.toRowW d [] (λf vs=>PySem.call f vs):=by
 refine Att.attach_call hn hdf λw s₀ s₁ mg mb fa o pm cd doc a vs ns G Y ho hd hcd hmg hobj hints hlen hg=>?_
 have KX:=hY w _ Y
 obtain⟨fd,hb,hF⟩:=F w mg fa _ KX G.T.g hmg
 exact Xra (hYT w _ Y) (hTK _) (hhd _) G.T.bmain KX G.T.g G.T.b G.T.builtins G.T.nolimit hg hobj hints (X0d hlen hn2) hr hF hb (λH hO hS=>hsp w H a ns hlen hO hS) λH e s'=>hCX w H s₁ e s'
theorem Fn.ofT{P:Program}{w:World}{K:PySem.W.Frag}{h:Heap}{mg:Str->Option Value}{base:Heap}{CX:CXT}{k:Nat}{x:Str}{st:Stmt}{ps:List Str}{sp:Sp}{T:Addr}(X:K.In h)(G:h.Ns mainGlobals mg)(D:DefT K x st T)
  (hb:∀(kV doc pm:Value) (an:Option Addr) (cdv ct:Value) (us:List Value),us.length=ps.length->bindArgs (PySem.W.fnOf x x (Xdc st) (Xb9 st) (defScope st) .none kV doc pm an cdv ct) ⟨us,[]⟩=pure (ps.zip us))
  (ok:∀f fd,FunT K x st f fd T->FnOk P w K mg base CX k f fd ps sp):Fn P w K mg base CX k x ps sp:=by
 obtain⟨f,fd,a,hk,F,F'⟩:=D.ex
 exact⟨⟨f,fd,PySem.W.mg_of X G a,hk,F'.binds hb,ok f fd F⟩⟩
end L2
namespace L2
open PySem
theorem len1{us:List Value}(h:us.length=1):∃a,us=[a]:=X2o.mp h
theorem len2{us:List Value}(h:us.length=2):∃a b,us=[a,b]:=by
 cases us with
 | nil=>cases h
 | cons a r=>
  obtain⟨b,rfl⟩:=len1 (Nat.succ.inj h)
  exact⟨a,b,rfl⟩
theorem len3{us:List Value}(h:us.length=3):∃a b c,us=[a,b,c]:=by
 cases us with
 | nil=>cases h
 | cons a r=>
  obtain⟨b,c,rfl⟩:=len2 (Nat.succ.inj h)
  exact⟨a,b,c,rfl⟩
theorem len4{us:List Value}(h:us.length=4):∃a b c d,us=[a,b,c,d]:=by
 cases us with
 | nil=>cases h
 | cons a r=>
  obtain⟨b,c,d,rfl⟩:=len3 (Nat.succ.inj h)
  exact⟨a,b,c,d,rfl⟩
end L2
namespace K35
open PySem PySem.Spec PyProof.Rows L2 SH
theorem Xym{P:Program}{w:World}{K:PySem.W.Frag}{h:Heap}{mg:Str->Option Value}{fa C_NoDitch C_BadGround T_:Addr}(X:K.In h)(G:h.Ns mainGlobals mg)(hfa:mg "law" = some (.ref fa))
  (d_ask_ditch:DefAt K "ask_ditch" sAsk)
  (d_ditches:DefAt K "ditches" sDitches)
  (d_ends:DefAt K "ends" sEnds)
  (d_spans:DefAt K "spans" sSpans)
  (d_lie_of:DefAt K "lie_of" sLieOf)
  (d_crossings:DefAt K "crossings" sCross)
  (d_told:DefAt K "told" sTold)
  (d_in_order:DefT K "in_order" s_in_order T_)
  (d_plots:DefAt K "plots" s_plots)
  (d_bank_of:DefAt K "bank_of" s_bank_of)
  (d_parting:DefAt K "parting" s_parting)
  (d_across:DefAt K "across" s_across)
  (d_lies_on:DefAt K "lies_on" s_lies_on)
  (d_shared:DefAt K "shared" s_shared)
  (d_held:DefAt K "held" s_held)
  (d_border:DefAt K "border" s_border)
  (d_joined:DefAt K "joined" s_joined)
  (d__law_begin:DefAt K "_law_begin" sBegin)
  (d__law_pick:DefAt K "_law_pick" sPick)
  (d__law_put:DefAt K "_law_put" sPut)
  (d__law_where:DefAt K "_law_where" sWhere)
  (d__law_word:DefAt K "_law_word" sWord)
  (d__law_barred:DefAt K "_law_barred" sBarred)
  (d__law_row:DefAt K "_law_row" sRow)
  (d__law_names:DefAt K "_law_names" sNames)
  (d__law_island:DefAt K "_law_island" sIsland)
  (d__law_bars:DefAt K "_law_bars" s__law_bars)
  (d__law_fits:DefAt K "_law_fits" s__law_fits)
  (d__law_plots:DefAt K "_law_plots" s__law_plots)
  (d__law_kept:DefAt K "_law_kept" s__law_kept)
  (d__law_one:DefAt K "_law_one" s__law_one)
  (d__law_few:DefAt K "_law_few" s__law_few)
  (d__law_stranger:DefAt K "_law_stranger" s__law_stranger)
  (d__law_odd_kept:DefAt K "_law_odd_kept" s__law_odd_kept)
  (d__law_keeps:DefAt K "_law_keeps" s__law_keeps)
  (d__law_held:DefAt K "_law_held" s__law_held)
  (d__law_good_kept:DefAt K "_law_good_kept" s__law_good_kept)
  (d__law_flip:DefAt K "_law_flip" s__law_flip)
  (d__law_texts:DefAt K "_law_texts" sTexts)
  (d__law_tuple:DefAt K "_law_tuple" s__law_tuple)
  (d__law_pairs:DefAt K "_law_pairs" s__law_pairs)
  (d__law_refused:DefAt K "_law_refused" s__law_refused)
  (d_law:DefAt K "law" s_law)
  (x_NoDitch:ExcAt K "NoDitch" C_NoDitch)
  (x_BadGround:ExcAt K "BadGround" C_BadGround)
  (z_len:PySem.W.nsIn K mainGlobals "len" = some none)
  (z_range:PySem.W.nsIn K mainGlobals "range" = some none)
  (z_list:PySem.W.nsIn K mainGlobals "list" = some none)
  (z_min:PySem.W.nsIn K mainGlobals "min" = some none)
  (z_isinstance:PySem.W.nsIn K mainGlobals "isinstance" = some none)
  (z_all:PySem.W.nsIn K mainGlobals "all" = some none)
  (z_str:PySem.W.nsIn K mainGlobals "str" = some none)
  (z_ValueError:PySem.W.nsIn K mainGlobals "ValueError" = some none)
  (z_sorted:PySem.W.nsIn K mainGlobals "sorted" = some none)
  (z_set:PySem.W.nsIn K mainGlobals "set" = some none)
  (z_enumerate:PySem.W.nsIn K mainGlobals "enumerate" = some none)
  (z_int:PySem.W.nsIn K mainGlobals "int" = some none)
  (z_bool:PySem.W.nsIn K mainGlobals "bool" = some none)
  (z_tuple:PySem.W.nsIn K mainGlobals "tuple" = some none)
  (z_any:PySem.W.nsIn K mainGlobals "any" = some none)
  (z_dict:PySem.W.nsIn K mainGlobals "dict" = some none)
  (z_sum:PySem.W.nsIn K mainGlobals "sum" = some none)
  (z_max:PySem.W.nsIn K mainGlobals "max" = some none)
  : ∃fd:FuncData,(∀(s:Shared) (v:Value),BindsTo s fd ⟨[v],[]⟩ [("_law_script",v)])/\∀base:Heap,K.In base->base.Ns mainGlobals mg->BmOk mg base->FnOk P w K mg base CX0 9 fa fd ["_law_script"] (Xm4 K T_):=by
 have T:Bl mg:=⟨PySem.W.mg_none_of X G z_len,PySem.W.mg_none_of X G z_range,PySem.W.mg_none_of X G z_list,PySem.W.mg_none_of X G z_min,PySem.W.mg_none_of X G z_isinstance,PySem.W.mg_none_of X G z_all,PySem.W.mg_none_of X G z_str,PySem.W.mg_none_of X G z_ValueError,PySem.W.mg_none_of X G z_sorted,PySem.W.mg_none_of X G z_set,PySem.W.mg_none_of X G z_enumerate,PySem.W.mg_none_of X G z_int,PySem.W.mg_none_of X G z_bool,PySem.W.mg_none_of X G z_tuple,PySem.W.mg_none_of X G z_any,PySem.W.mg_none_of X G z_dict,PySem.W.mg_none_of X G z_sum,PySem.W.mg_none_of X G z_max⟩
 obtain⟨f,fd,a,hk,F⟩:=d_law.ex
 have e:=hfa.symm.trans (PySem.W.mg_of X G a)
 cases e
 refine⟨fd,?_,λbase hB hG hbm=>?_⟩
 ·obtain⟨oc,od,kV,doc,pm,an,cdv,ct,osl,rfl,lk,hcd⟩:=F.ex
  exact λs v=>.of_eq rfl
 ·have FB:Fn P w K mg base CX0 1 "_law_begin" ["_law_script"] (Xk1 K):=Fn.of X G d__law_begin (λ_ _ _ _ _ _ us hl=>by obtain⟨a,rfl⟩:=L2.len1 hl;rfl) λf fd F=>Xs4 F T
  have FP:FnPick P w K mg base:=Fn.of X G d__law_pick (λ_ _ _ _ _ _ us hl=>by obtain⟨a,b,rfl⟩:=L2.len2 hl;rfl) λf fd F=>Xv0 F T
  have FU:Fn P w K mg base CX0 1 "_law_put" ["_law_row_here", "_law_name", "_law_at", "_law_to"] Xu0:=Fn.of X G d__law_put (λ_ _ _ _ _ _ us hl=>by obtain⟨a,b,c,d,rfl⟩:=L2.len4 hl;rfl) λf fd F=>Xyg F
  have FW:Fn P w K mg base CX0 1 "_law_where" ["_law_row_here"] Xii:=Fn.of X G d__law_where (λ_ _ _ _ _ _ us hl=>by obtain⟨a,rfl⟩:=L2.len1 hl;rfl) λf fd F=>Xs5 F T
  have FO:Fn P w K mg base CX0 1 "_law_word" ["_law_where_here", "_law_one_here", "_law_other"] spWord:=Fn.of X G d__law_word (λ_ _ _ _ _ _ us hl=>by obtain⟨a,b,c,rfl⟩:=L2.len3 hl;rfl) λf fd F=>Xv1 F T
  have FA:Fn P w K mg base CX0 2 "_law_barred" ["_law_row_here", "_law_name"] spBarredN:=Fn.of X G d__law_barred (λ_ _ _ _ _ _ us hl=>by obtain⟨a,b,rfl⟩:=L2.len2 hl;rfl) λf fd F=>Xq5 F T FW FO
  have FR:Fn P w K mg base CX0 3 "_law_row" ["_law_draw", "_law_names_here"] spRowN:=Fn.of X G d__law_row (λ_ _ _ _ _ _ us hl=>by obtain⟨a,b,rfl⟩:=L2.len2 hl;rfl) λf fd F=>Xyh F T FP FU FA
  have FN:Fn P w K mg base CX0 2 "_law_names" ["_law_draw", "_law_many"] Xk4:=Fn.of X G d__law_names (λ_ _ _ _ _ _ us hl=>by obtain⟨a,b,rfl⟩:=L2.len2 hl;rfl) λf fd F=>Xs6 F T FP
  have FI:Fn P w K mg base CX0 4 "_law_island" ["_law_draw", "_law_most"] spIslandN:=Fn.of X G d__law_island (λ_ _ _ _ _ _ us hl=>by obtain⟨a,b,rfl⟩:=L2.len2 hl;rfl) λf fd F=>Xq6 F T FP FN FR
  have FX:Fn P w K mg base CX0 1 "_law_texts" ["_law_found"] Xij:=Fn.of X G d__law_texts (λ_ _ _ _ _ _ us hl=>by obtain⟨a,rfl⟩:=L2.len1 hl;rfl) λf fd F=>Xm3 F T
  have FK:Fn P w K mg base (CX1 P w) 1 "ask_ditch" ["row", "name"] (Xu3 C_NoDitch):=Fn.of X G d_ask_ditch (λ_ _ _ _ _ _ us hl=>by obtain⟨a,b,rfl⟩:=L2.len2 hl;rfl) λf fd F=>Xyd F (PySem.W.mg_of X G x_NoDitch.a) x_NoDitch.e
  have FD:Fn P w K mg base CX0 1 "ditches" ["row"] spDitches:=Fn.of X G d_ditches (λ_ _ _ _ _ _ us hl=>by obtain⟨a,rfl⟩:=L2.len1 hl;rfl) λf fd F=>Xnz F T
  have FE:Fn P w K mg base (CX1 P w) 2 "ends" ["row", "name"] (Xpk C_NoDitch):=Fn.of X G d_ends (λ_ _ _ _ _ _ us hl=>by obtain⟨a,b,rfl⟩:=L2.len2 hl;rfl) λf fd F=>Xvv F T FK
  have FSp:Fn P w K mg base CX0 3 "spans" ["row"] spSpans:=Fn.of X G d_spans (λ_ _ _ _ _ _ us hl=>by obtain⟨a,rfl⟩:=L2.len1 hl;rfl) λf fd F=>Xsy F FD FE
  have FLo:Fn P w K mg base CX0 2 "lie_of" ["here", "there"] spLieOf:=Fn.of X G d_lie_of (λ_ _ _ _ _ _ us hl=>by obtain⟨a,b,rfl⟩:=L2.len2 hl;rfl) λf fd F=>Xsz F
  have FCr:Fn P w K mg base CX0 4 "crossings" ["row"] Xeg:=Fn.of X G d_crossings (λ_ _ _ _ _ _ us hl=>by obtain⟨a,rfl⟩:=L2.len1 hl;rfl) λf fd F=>Xkn F FSp FLo
  have FTo:Fn P w K mg base CX0 1 "told" ["names"] (spTold K):=Fn.of X G d_told (λ_ _ _ _ _ _ us hl=>by obtain⟨a,rfl⟩:=L2.len1 hl;rfl) λf fd F=>Xvx F T
  have FIo:Fn P w K mg base CX0 4 "in_order" ["some"] (spInOrder T_ (lamPos s_in_order)):=Fn.ofT X G d_in_order (λ_ _ _ _ _ _ us hl=>by obtain⟨a,rfl⟩:=L2.len1 hl;rfl) λf fd F=>Xn0 F T hbm
  have FPl:Fn P w K mg base CX0 5 "plots" ["row"] (Xgf T_ (lamPos s_in_order)):=Fn.of X G d_plots (λ_ _ _ _ _ _ us hl=>by obtain⟨a,rfl⟩:=L2.len1 hl;rfl) λf fd F=>Xqw F FSp FLo FTo FCr FIo
  have FBo:Fn P w K mg base CX0 1 "bank_of" ["plot", "name"] spBankOf:=Fn.of X G d_bank_of (λ_ _ _ _ _ _ us hl=>by obtain⟨a,b,rfl⟩:=L2.len2 hl;rfl) λf fd F=>Xqx F
  have FLn:Fn P w K mg base CX0 2 "lies_on" ["plot", "kept"] spLiesOn:=Fn.of X G d_lies_on (λ_ _ _ _ _ _ us hl=>by obtain⟨a,b,rfl⟩:=L2.len2 hl;rfl) λf fd F=>Xq0 F T FBo
  have FSh:Fn P w K mg base CX0 2 "shared" ["row", "some"] spShared:=Fn.of X G d_shared (λ_ _ _ _ _ _ us hl=>by obtain⟨a,b,rfl⟩:=L2.len2 hl;rfl) λf fd F=>Xq1 F T FD FBo
  have FHe:Fn P w K mg base (CX1 P w) 6 "held" ["row", "kept"] (spHeld C_BadGround T_ (lamPos s_in_order)):=Fn.of X G d_held (λ_ _ _ _ _ _ us hl=>by obtain⟨a,b,rfl⟩:=L2.len2 hl;rfl) λf fd F=>Xvy F (PySem.W.mg_of X G x_BadGround.a) x_BadGround.e FPl FLn FSh
  have FFi:Fn P w K mg base CX0 1 "_law_fits" ["_law_bars_here", "_law_plot"] Xpp:=Fn.of X G d__law_fits (λ_ _ _ _ _ _ us hl=>by obtain⟨a,b,rfl⟩:=L2.len2 hl;rfl) λf fd F=>Xv3 F
  have FBr:Fn P w K mg base CX0 2 "_law_bars" ["_law_row_here"] spBars:=Fn.of X G d__law_bars (λ_ _ _ _ _ _ us hl=>by obtain⟨a,rfl⟩:=L2.len1 hl;rfl) λf fd F=>Xv2 F T FW FO
  have FLp:Fn P w K mg base CX0 3 "_law_plots" ["_law_row_here"] Xit:=Fn.of X G d__law_plots (λ_ _ _ _ _ _ us hl=>by obtain⟨a,rfl⟩:=L2.len1 hl;rfl) λf fd F=>Xs7 F T FFi FBr
  have FOn:Fn P w K mg base CX0 2 "_law_one" ["_law_draw", "_law_some"] spOne:=Fn.of X G d__law_one (λ_ _ _ _ _ _ us hl=>by obtain⟨a,b,rfl⟩:=L2.len2 hl;rfl) λf fd F=>Xyi F T FP
  have FFw:Fn P w K mg base CX0 3 "_law_few" ["_law_draw", "_law_some"] spFew:=Fn.of X G d__law_few (λ_ _ _ _ _ _ us hl=>by obtain⟨a,b,rfl⟩:=L2.len2 hl;rfl) λf fd F=>Xyj F T FP FOn
  have FKp:Fn P w K mg base CX0 1 "_law_keeps" ["_law_kept_here", "_law_plot"] spKeepsL:=Fn.of X G d__law_keeps (λ_ _ _ _ _ _ us hl=>by obtain⟨a,b,rfl⟩:=L2.len2 hl;rfl) λf fd F=>Xs8 F T
  have FS:Fn P w K mg base CX0 1 "_law_stranger" ["_law_row_here"] Xfl:=Fn.of X G d__law_stranger (λ_ _ _ _ _ _ us hl=>by obtain⟨a,rfl⟩:=L2.len1 hl;rfl) λf fd F=>Xlv F
  have FT:Fn P w K mg base CX0 1 "_law_tuple" ["_law_found"] spTuple:=Fn.of X G d__law_tuple (λ_ _ _ _ _ _ us hl=>by obtain⟨a,rfl⟩:=L2.len1 hl;rfl) λf fd F=>Xtb F T
  have FFl:Fn P w K mg base CX0 1 "_law_flip" ["_law_plot", "_law_name"] spFlip:=Fn.of X G d__law_flip (λ_ _ _ _ _ _ us hl=>by obtain⟨a,b,rfl⟩:=L2.len2 hl;rfl) λf fd F=>Xv8 F T
  have FKt:Fn P w K mg base CX0 1 "_law_kept" ["_law_row_here", "_law_crowd"] Xis:=Fn.of X G d__law_kept (λ_ _ _ _ _ _ us hl=>by obtain⟨a,b,rfl⟩:=L2.len2 hl;rfl) λf fd F=>Xv4 F T
  have FHl:Fn P w K mg base CX0 2 "_law_held" ["_law_some", "_law_kept_here"] spHeldL:=Fn.of X G d__law_held (λ_ _ _ _ _ _ us hl=>by obtain⟨a,b,rfl⟩:=L2.len2 hl;rfl) λf fd F=>Xs9 F FKp
  have FGk:Fn P w K mg base CX0 3 "_law_good_kept" ["_law_row_here", "_law_some", "_law_kept_here"] Xlr:=Fn.of X G d__law_good_kept (λ_ _ _ _ _ _ us hl=>by obtain⟨a,b,c,rfl⟩:=L2.len3 hl;rfl) λf fd F=>Xta F FHl FKt
  have FOk:Fn P w K mg base CX0 3 "_law_odd_kept" ["_law_draw", "_law_row_here", "_law_kept_here"] spOddK:=Fn.of X G d__law_odd_kept (λ_ _ _ _ _ _ us hl=>by obtain⟨a,b,c,rfl⟩:=L2.len3 hl;rfl) λf fd F=>Xv5 F T FP FS FOn
  have FPt:Fn P w K mg base CX0 1 "parting" ["one", "other"] spParting:=Fn.of X G d_parting (λ_ _ _ _ _ _ us hl=>by obtain⟨a,b,rfl⟩:=L2.len2 hl;rfl) λf fd F=>Xn1 F T
  have FAr:Fn P w K mg base CX0 2 "across" ["plot", "name"] spAcross:=Fn.of X G d_across (λ_ _ _ _ _ _ us hl=>by obtain⟨a,b,rfl⟩:=L2.len2 hl;rfl) λf fd F=>Xqz F T FPt
  have FBd:Fn P w K mg base (CX1 P w) 7 "border" ["row", "kept"] (spBorder C_BadGround T_ (lamPos s_in_order)):=Fn.of X G d_border (λ_ _ _ _ _ _ us hl=>by obtain⟨a,b,rfl⟩:=L2.len2 hl;rfl) λf fd F=>Xq2 F T FHe FPl FAr
  have FJn:Fn P w K mg base (CX1 P w) 7 "joined" ["row", "kept", "other"] (Xgh C_BadGround T_ (lamPos s_in_order)):=Fn.of X G d_joined (λ_ _ _ _ _ _ us hl=>by obtain⟨a,b,c,rfl⟩:=L2.len3 hl;rfl) λf fd F=>Xq3 F FHe
  have FTx:Fn P w K mg base CX0 1 "_law_texts" ["_law_found"] Xij:=Fn.of X G d__law_texts (λ_ _ _ _ _ _ us hl=>by obtain⟨a,rfl⟩:=L2.len1 hl;rfl) λf fd F=>Xm3 F T
  have FPr:Fn P w K mg base CX0 2 "_law_pairs" ["_law_found"] spPairsL:=Fn.of X G d__law_pairs (λ_ _ _ _ _ _ us hl=>by obtain⟨a,rfl⟩:=L2.len1 hl;rfl) λf fd F=>Xtc F T FT
  have FRf:Fn P w K mg base CX0 8 "_law_refused" ["_law_row_here", "_law_kept_here", "_law_other"] (Xls T_ (lamPos s_in_order)):=Fn.of X G d__law_refused (λ_ _ _ _ _ _ us hl=>by obtain⟨a,b,c,rfl⟩:=L2.len3 hl;rfl) λf fd F=>by
   obtain⟨fa,fda,hma,hka,hba,hFa⟩:=FBd.ex
   obtain⟨fb,fdb,hmb,hkb,hbb,hFb⟩:=FJn.ex
   exact Xn3 F (PySem.W.mg_of X G x_BadGround.a) hma hka hba hFa hmb hkb hbb hFb x_BadGround.self
  exact Xyl F T FB FP FI FLp FFw FKt FOk FGk FHl FFl FTx FPr FRf FBd FJn
theorem walk{l:PySem.W.OpenLaw}{q:Program}{loose:List Str}{XP:(Str->Option Value)->Heap->Prop}{YP:World->Heap->Prop}{d:DefRec}{K:Params->PySem.W.Frag}{T c0:Addr}(hn:l.most=some 63)(hdf:d.params.defaults=[])
  (hY:∀(w:World) (h:Heap),YP w h->(K w.params).In h) (hYT:∀(w:World) (h:Heap),YP w h->h.get? T=some (PySem.W.tabObj #[])) (hTK:∀P,(K P).lookup T=none) (hhd:∀P,PySem.W.codeHdIn (K P) c0 T=true)
  (F:∀(w:World) (mg:Str->Option Value) (fa:Addr) (h:Heap),(K w.params).In h->h.Ns mainGlobals mg->mg d.name=some (.ref fa) ->
   ∃fd:FuncData,(∀(s:Shared) (u:Value),BindsTo s fd ⟨[u],[]⟩ [("_law_script",u)])/\∀base:Heap,(K w.params).In base->base.Ns mainGlobals mg->BmOk mg base->FnOk l.prog w (K w.params) mg base CX0 9 fa fd ["_law_script"] (Xm4 (K w.params) T)):
  PySem.W.WalkO q loose XP YP l.row.toRowW d [] (λf vs=>PySem.call f vs):=
 L2.Xtd (n:=63) (k:=9) (x := "_law_script") (CX:=λ_=>CX0) (sp:=λw=>Xm4 (K w.params) T) hn (by decide) hdf ⟨rfl,by decide,by decide,rfl⟩ hY hYT hTK hhd F (λ_ _ a ns hl hT hS=>⟨a,ns,rfl,hS,hl,hT,λ_=>rfl⟩) λ_ _ _ _ _ z=>z
end K35
open PySem PySem.W PyProof.Rows
namespace HD
open PySem PySem.W PySem.Calls PyProof.Rows
abbrev O := Option SharedT
noncomputable abbrev B (a b:O) (c:Bool):O := @Bool.rec (fun _=>O) a b c
noncomputable def go (F:SharedT→Thread→Option (SharedT×Thread)) (ok:Thread→Bool) (n:Nat):SharedT→Thread→O := @Nat.rec (fun _=>SharedT→Thread→O) (fun _ _=>none) (fun _ ih s t=>B (B none (@Option.rec (SharedT×Thread) (fun _=>O) none (fun x=>@Prod.rec SharedT Thread (fun _=>O) ih x) (F s t)) (ok t)) (some s) (through t)) n
theorem go_spec {tb p w m a z}:∀ n s t,go (stepT (denote tb) p w) (stepOk m a) n s t=some z→topRun tb p w m a n s.abs t=some z.abs := by
 intro n
 induction n with
 | zero=>intro s t h;cases h
 | succ n ih=>
  intro s t h
  unfold topRun
  have h':B (B none (@Option.rec (SharedT×Thread) (fun _=>O) none (fun x=>@Prod.rec SharedT Thread (fun _=>O) (go (stepT (denote tb) p w) (stepOk m a) n) x) (stepT (denote tb) p w s t)) (stepOk m a t)) (some s) (through t)=some z := h
  cases ht:through t with
  | true=>rw [ht] at h';cases h';rfl
  | false=>
   cases hk:stepOk m a t with
   | false=>rw [ht,hk] at h';cases h'
   | true=>
    cases hs:stepT (denote tb) p w s t with
    | none=>rw [ht,hk,hs] at h';cases h'
    | some x=>
     rw [ht,hk,hs] at h'
     rw [stepT_spec hs]
     exact ih _ _ h'
noncomputable def tree (P:Params):BT := ((boot_heap P).objs.toList.foldl (fun (x:BT×Nat) o=>(x.1.ins x.2 o,x.2+1)) (.nil,0)).1
theorem tree_abs (P):absHeap (tree P) 11 {}=boot_heap P := by kernel_rfl
theorem boot_is (P):((boot_heap P).isNs mainGlobals,(boot_heap P).objs.size,(boot_heap P).nsMap mainGlobals "__annotations__")=(true,11,some (.ref 6)) := by kernel_rfl
abbrev ck (p:Program) (g h:Heap) (z:Shared) := staticsOk (importedModules p.main.body) g h&&namesBound p h&&gensDone z&&laidKept g h
theorem left {p q loose Xt α} {Yf:Shared→α} {Ya N g} (e:opening p=plainProg p.main.scope.names) (hN:Nat.ble 600 N=true) (f:∀ s,fenceModules? p s=some s)
 (h:∀ w:World,(fun os=>(go (Fast.tw10156331382660048174 (Fast.tw11892475500146522536 Fast.tw14364793385576792824) p w) (Fast.tw6613529449190102663 11 (some (.ref 6))) N ⟨tree w.params,11,{},#[],boot_drawn,boot_toks,os⟩ (topStub p)).map fun z=>(ck p (boot_heap w.params) z.abs.heap z.abs,Fast.tw4187177175401517315 q loose (importedModules p.main.body) Xt g z.abs,Yf z.abs))=fun _=>some (true,openGood q loose,Ya w)):LeftO p q loose Xt Yf Ya N g := fun w=>by
 rw [←Fast.te10156331382660048174,←Fast.te11892475500146522536,←Fast.te14364793385576792824,←Fast.te6613529449190102663,←Fast.te4187177175401517315] at h
 obtain ⟨⟨hp,gs,d,k,os⟩,e1,e2⟩ := Option.map_eq_some_iff.mp (boot_open e hN f w)
 obtain ⟨rfl,rfl,rfl,rfl⟩:hp=boot_heap w.params∧gs=#[]∧d=boot_drawn∧k=boot_toks := by simpa using e2
 obtain ⟨z1,z2,z3⟩:_∧_∧_ := by simpa only [Prod.mk.injEq] using boot_is w.params
 obtain ⟨z,hz,l⟩ := Option.map_eq_some_iff.mp (congrFun (h w) os)
 obtain ⟨l1,l2,l3⟩:_∧_∧_ := by simpa only [Prod.mk.injEq] using l
 have r := go_spec _ _ _ hz
 rw [show (SharedT.mk (tree w.params) 11 {} #[] boot_drawn boot_toks os).abs=⟨boot_heap w.params,#[],boot_drawn,boot_toks,os⟩ by show Shared.mk (absHeap (tree w.params) 11 {}) _ _ _ _=_;rw [tree_abs]] at r
 unfold openEnds
 rw [e1]
 show (topFrom treeTable p w N _).map _=_
 rw [show topFrom treeTable p w N ⟨boot_heap w.params,#[],boot_drawn,boot_toks,os⟩=some z.abs by
  unfold topFrom
  dsimp only
  rw [z1,z2,z3,r]
  show (match ck p (boot_heap w.params) z.abs.heap z.abs with | true=>_ | false=>_)=_
  rw [l1]]
 exact congrArg some (Prod.ext l2 l3)
def isDef:Stmt→Bool
 | .Assign _ (.Constant (.str _) _ _) _=>false
 | _=>true
def q:Program := {PySem.Challenge.pw_shoretold_k35_borders_and_joined_grounds with main:={PySem.Challenge.pw_shoretold_k35_borders_and_joined_grounds.main with body:=PySem.Challenge.pw_shoretold_k35_borders_and_joined_grounds.main.body.filter isDef}}
theorem said:PySem.Challenge.rw_shoretold_k35_borders_and_joined_grounds.wellSaid=true := by
 rw [Fast.te9446332074065402090]
 kernel_rfl
end HD
local macro_rules | `(tactic| o_head $H) => `(tactic| refine PySem.W.holds_open (q:=HD.q) (loose:=[]) (Xt:=fun s=>xlAt HD.q [] s&&recOk [] s) (XP:=XL HD.q []) (N:=1000000) ?hl (Hook.of $H) (Hook.keeps $H) (fun s e=>xl_of s (Bool.and_eq_true_iff.mp e).1) XL.keeps (by rfl) (by rfl) (by rfl) (fun s e=>recFacts_of (Bool.and_eq_true_iff.mp e).2) (by rfl) (by assumption) (by decide +kernel) ⟨rfl,rfl,rfl,rfl,rfl,by decide +kernel⟩ ?hw ?hc)
set_option maxRecDepth 100000 in
set_option maxHeartbeats 0 in
theorem PySem.Challenge.cw_shoretold_k35_borders_and_joined_grounds_holds : PySem.Challenge.rw_shoretold_k35_borders_and_joined_grounds.Holds := by
 w_on
 refine holds_law HD.said fun said=>?_
 k_head
 case hw=>w_witness2
 case hl=>exact HD.left (by kernel_rfl) (by kernel_rfl) (fun s=>by kernel_rfl) (fun w=>by kernel_rfl)
 k_fill
 refine K35.walk (l:=PySem.Challenge.rw_shoretold_k35_borders_and_joined_grounds) (T:=96) (c0:=100) rfl rfl (λw h Y=>PySem.W.km_in_of Y) (λw h Y=>PySem.W.km_tabs_of Y _ (Xzs.mpr rfl)) ?hTK ?hhd ?F
 case hTK=>intro P;kernel_rfl
 case hhd=>intro P;kernel_rfl
 case F=>
  intro w mg fa h KX G hmg
  refine' K35.Xym KX G hmg ?d_ask_ditch ?d_ditches ?d_ends ?d_spans ?d_lie_of ?d_crossings ?d_told ?d_in_order ?d_plots ?d_bank_of ?d_parting ?d_across ?d_lies_on ?d_shared ?d_held ?d_border ?d_joined ?d__law_begin ?d__law_pick ?d__law_put ?d__law_where ?d__law_word ?d__law_barred ?d__law_row ?d__law_names ?d__law_island ?d__law_bars ?d__law_fits ?d__law_plots ?d__law_kept ?d__law_one ?d__law_few ?d__law_stranger ?d__law_odd_kept ?d__law_keeps ?d__law_held ?d__law_good_kept ?d__law_flip ?d__law_texts ?d__law_tuple ?d__law_pairs ?d__law_refused ?d_law ?x_NoDitch ?x_BadGround ?z_len ?z_range ?z_list ?z_min ?z_isinstance ?z_all ?z_str ?z_ValueError ?z_sorted ?z_set ?z_enumerate ?z_int ?z_bool ?z_tuple ?z_any ?z_dict ?z_sum ?z_max
  (case d_ask_ditch=>(refine' L2.DefAt.of ?a ?l ?c ?k;(case a=>k_is);(case l=>k_is);(case c=>k_is);(case k=>k_is)))
  (case d_ditches=>(refine' L2.DefAt.of ?a ?l ?c ?k;(case a=>k_is);(case l=>k_is);(case c=>k_is);(case k=>k_is)))
  (case d_ends=>(refine' L2.DefAt.of ?a ?l ?c ?k;(case a=>k_is);(case l=>k_is);(case c=>k_is);(case k=>k_is)))
  (case d_spans=>(refine' L2.DefAt.of ?a ?l ?c ?k;(case a=>k_is);(case l=>k_is);(case c=>k_is);(case k=>k_is)))
  (case d_lie_of=>(refine' L2.DefAt.of ?a ?l ?c ?k;(case a=>k_is);(case l=>k_is);(case c=>k_is);(case k=>k_is)))
  (case d_crossings=>(refine' L2.DefAt.of ?a ?l ?c ?k;(case a=>k_is);(case l=>k_is);(case c=>k_is);(case k=>k_is)))
  (case d_told=>(refine' L2.DefAt.of ?a ?l ?c ?k;(case a=>k_is);(case l=>k_is);(case c=>k_is);(case k=>k_is)))
  (case d_in_order=>(refine' L2.DefT.of ?a ?l ?c ?k ?t;(case a=>k_is);(case l=>k_is);(case c=>k_is);(case k=>k_is);(case t=>kernel_rfl)))
  (case d_plots=>(refine' L2.DefAt.of ?a ?l ?c ?k;(case a=>k_is);(case l=>k_is);(case c=>k_is);(case k=>k_is)))
  (case d_bank_of=>(refine' L2.DefAt.of ?a ?l ?c ?k;(case a=>k_is);(case l=>k_is);(case c=>k_is);(case k=>k_is)))
  (case d_parting=>(refine' L2.DefAt.of ?a ?l ?c ?k;(case a=>k_is);(case l=>k_is);(case c=>k_is);(case k=>k_is)))
  (case d_across=>(refine' L2.DefAt.of ?a ?l ?c ?k;(case a=>k_is);(case l=>k_is);(case c=>k_is);(case k=>k_is)))
  (case d_lies_on=>(refine' L2.DefAt.of ?a ?l ?c ?k;(case a=>k_is);(case l=>k_is);(case c=>k_is);(case k=>k_is)))
  (case d_shared=>(refine' L2.DefAt.of ?a ?l ?c ?k;(case a=>k_is);(case l=>k_is);(case c=>k_is);(case k=>k_is)))
  (case d_held=>(refine' L2.DefAt.of ?a ?l ?c ?k;(case a=>k_is);(case l=>k_is);(case c=>k_is);(case k=>k_is)))
  (case d_border=>(refine' L2.DefAt.of ?a ?l ?c ?k;(case a=>k_is);(case l=>k_is);(case c=>k_is);(case k=>k_is)))
  (case d_joined=>(refine' L2.DefAt.of ?a ?l ?c ?k;(case a=>k_is);(case l=>k_is);(case c=>k_is);(case k=>k_is)))
  (case d__law_begin=>(refine' L2.DefAt.of ?a ?l ?c ?k;(case a=>k_is);(case l=>k_is);(case c=>k_is);(case k=>k_is)))
  (case d__law_pick=>(refine' L2.DefAt.of ?a ?l ?c ?k;(case a=>k_is);(case l=>k_is);(case c=>k_is);(case k=>k_is)))
  (case d__law_put=>(refine' L2.DefAt.of ?a ?l ?c ?k;(case a=>k_is);(case l=>k_is);(case c=>k_is);(case k=>k_is)))
  (case d__law_where=>(refine' L2.DefAt.of ?a ?l ?c ?k;(case a=>k_is);(case l=>k_is);(case c=>k_is);(case k=>k_is)))
  (case d__law_word=>(refine' L2.DefAt.of ?a ?l ?c ?k;(case a=>k_is);(case l=>k_is);(case c=>k_is);(case k=>k_is)))
  (case d__law_barred=>(refine' L2.DefAt.of ?a ?l ?c ?k;(case a=>k_is);(case l=>k_is);(case c=>k_is);(case k=>k_is)))
  (case d__law_row=>(refine' L2.DefAt.of ?a ?l ?c ?k;(case a=>k_is);(case l=>k_is);(case c=>k_is);(case k=>k_is)))
  (case d__law_names=>(refine' L2.DefAt.of ?a ?l ?c ?k;(case a=>k_is);(case l=>k_is);(case c=>k_is);(case k=>k_is)))
  (case d__law_island=>(refine' L2.DefAt.of ?a ?l ?c ?k;(case a=>k_is);(case l=>k_is);(case c=>k_is);(case k=>k_is)))
  (case d__law_bars=>(refine' L2.DefAt.of ?a ?l ?c ?k;(case a=>k_is);(case l=>k_is);(case c=>k_is);(case k=>k_is)))
  (case d__law_fits=>(refine' L2.DefAt.of ?a ?l ?c ?k;(case a=>k_is);(case l=>k_is);(case c=>k_is);(case k=>k_is)))
  (case d__law_plots=>(refine' L2.DefAt.of ?a ?l ?c ?k;(case a=>k_is);(case l=>k_is);(case c=>k_is);(case k=>k_is)))
  (case d__law_kept=>(refine' L2.DefAt.of ?a ?l ?c ?k;(case a=>k_is);(case l=>k_is);(case c=>k_is);(case k=>k_is)))
  (case d__law_one=>(refine' L2.DefAt.of ?a ?l ?c ?k;(case a=>k_is);(case l=>k_is);(case c=>k_is);(case k=>k_is)))
  (case d__law_few=>(refine' L2.DefAt.of ?a ?l ?c ?k;(case a=>k_is);(case l=>k_is);(case c=>k_is);(case k=>k_is)))
  (case d__law_stranger=>(refine' L2.DefAt.of ?a ?l ?c ?k;(case a=>k_is);(case l=>k_is);(case c=>k_is);(case k=>k_is)))
  (case d__law_odd_kept=>(refine' L2.DefAt.of ?a ?l ?c ?k;(case a=>k_is);(case l=>k_is);(case c=>k_is);(case k=>k_is)))
  (case d__law_keeps=>(refine' L2.DefAt.of ?a ?l ?c ?k;(case a=>k_is);(case l=>k_is);(case c=>k_is);(case k=>k_is)))
  (case d__law_held=>(refine' L2.DefAt.of ?a ?l ?c ?k;(case a=>k_is);(case l=>k_is);(case c=>k_is);(case k=>k_is)))
  (case d__law_good_kept=>(refine' L2.DefAt.of ?a ?l ?c ?k;(case a=>k_is);(case l=>k_is);(case c=>k_is);(case k=>k_is)))
  (case d__law_flip=>(refine' L2.DefAt.of ?a ?l ?c ?k;(case a=>k_is);(case l=>k_is);(case c=>k_is);(case k=>k_is)))
  (case d__law_texts=>(refine' L2.DefAt.of ?a ?l ?c ?k;(case a=>k_is);(case l=>k_is);(case c=>k_is);(case k=>k_is)))
  (case d__law_tuple=>(refine' L2.DefAt.of ?a ?l ?c ?k;(case a=>k_is);(case l=>k_is);(case c=>k_is);(case k=>k_is)))
  (case d__law_pairs=>(refine' L2.DefAt.of ?a ?l ?c ?k;(case a=>k_is);(case l=>k_is);(case c=>k_is);(case k=>k_is)))
  (case d__law_refused=>(refine' L2.DefAt.of ?a ?l ?c ?k;(case a=>k_is);(case l=>k_is);(case c=>k_is);(case k=>k_is)))
  (case d_law=>(refine' L2.DefAt.of ?a ?l ?c ?k;(case a=>k_is);(case l=>k_is);(case c=>k_is);(case k=>k_is)))
  (case x_NoDitch=>(refine' ⟨?a,?e,?ga,?gn,?cl,?sb,?so,?sv,?ss,?ic,?ty⟩;(case a=>k_is);(case e=>k_exc);(case ga=>k_is);(case gn=>k_is);(case cl=>k_is);(case sb=>k_is);(case so=>k_is);(case sv=>k_is);(case ss=>k_is);(case ic=>k_is);(case ty=>k_is)))
  (case x_BadGround=>(refine' ⟨?a,?e,?ga,?gn,?cl,?sb,?so,?sv,?ss,?ic,?ty⟩;(case a=>k_is);(case e=>k_exc);(case ga=>k_is);(case gn=>k_is);(case cl=>k_is);(case sb=>k_is);(case so=>k_is);(case sv=>k_is);(case ss=>k_is);(case ic=>k_is);(case ty=>k_is)))
  (case z_len=>k_is);(case z_range=>k_is);(case z_list=>k_is);(case z_min=>k_is);(case z_isinstance=>k_is);(case z_all=>k_is);(case z_str=>k_is);(case z_ValueError=>k_is);(case z_sorted=>k_is);(case z_set=>k_is);(case z_enumerate=>k_is);(case z_int=>k_is);(case z_bool=>k_is);(case z_tuple=>k_is);(case z_any=>k_is);(case z_dict=>k_is);(case z_sum=>k_is);(case z_max=>k_is)
#print axioms PySem.Challenge.cw_shoretold_k35_borders_and_joined_grounds_holds
