import PyProof.Rows.All
import Wide.All
import OpenK.AllK
import Wide.FinOn
import Lean
import PyProof.EqAt
import PyProof.EqKinds
import PyProof.TupleCall
import KE.KDictSum
import PyProof.Rows.SortStr
import PyProof.EnumStmt
import PyProof.EnumMake
import PyProof.StrBlockH
import PyProof.ReprStr
import PyProof.StrLawsRepr
import PyProof.FString
import PyProof.DictCompW
import PyProof.P3Eq
import PyProof.P3In
import PyProof.NeData
import PyProof.ReprHeadsTuple
import KE.KSortTup
import PyProof.ExcInit
import PyProof.InstStoreFacts
import PyProof.StrWalks
import PyProof.FString5
import PyProof.WalkInts
import PySem.Challenge.RW_shoretold_k16_where_walks_lead
set_option bootstrap.genMatcherCode false
noncomputable section
set_option Elab.async false
set_option linter.all false
set_option maxRecDepth 100000
abbrev Li := @List.length_map
abbrev Lj := @List.size_toArray
abbrev Lk := @Nat.le_refl
abbrev Ll := @List.mem_cons_of_mem
abbrev Lm := @List.getElem?_eq_getElem
abbrev Ln := @List.length_append
abbrev Lo := @List.mem_cons_self
abbrev Lp := @Array.length_toList
abbrev Lq := @Option.some.inj
abbrev Lr := @Nat.ne_of_lt
abbrev Ls := @List.mem_append
abbrev Lu := @Bool.false_ne_true
abbrev Lv := @Bool.and_eq_true
abbrev Lw := @List.mem_cons
abbrev Lx := @List.map_append
abbrev Ly := @List.mem_singleton
abbrev Lz := @List.getElem?_map
abbrev L3 := @List.getElem?_eq_some_iff
abbrev L4 := @List.length_cons
abbrev L5 := @Nat.lt_of_lt_of_le
abbrev L6 := @List.filter_append
abbrev L7 := @List.take_succ_eq_append_getElem
abbrev L8 := @List.map_cons
abbrev L9 := @List.all_eq_true
abbrev Ma := @Int.eq_ofNat_of_zero_le
abbrev Mb := @List.length_take
abbrev Mc := @List.mem_filter
abbrev Md := @Bool.false_eq_true
abbrev Me := @List.getElem_mem
abbrev Mf := @List.mem_map
abbrev Mg := @Nat.lt_irrefl
abbrev Mh := @List.filterMap_cons
abbrev Mi := @List.filter_cons
abbrev Mj := @Nat.le_trans
abbrev Ml := @List.lookup_cons
abbrev Mm := @List.mem_append_right
abbrev Mn := @List.take_append_drop
abbrev Mo := @List.mem_range
abbrev Mp := @List.take_length
abbrev Mq := @List.length_singleton
abbrev Mr := @List.append_nil
abbrev Ms := @Bool.false_and
abbrev Mt := @Nat.zero_le
abbrev Mu := @Bool.true_and
abbrev Mv := @List.nodup_cons
abbrev Mw := @List.range_succ
abbrev Mx := @List.filter_eq_self
abbrev My := @Array.getElem?_eq_some_iff
abbrev Mz := @Bool.eq_iff_iff
abbrev M0 := @List.Perm.refl
abbrev M3 := @List.map_congr_left
abbrev M4 := @List.length_range
abbrev M5 := @List.length_filter_le
abbrev M6 := @List.length_eq_zero_iff
abbrev M7 := @List.mem_append_left
abbrev M8 := @List.mem_of_getElem?
abbrev M9 := @List.mem_of_mem_take
abbrev Na := @List.length_drop
abbrev Nb := @List.take_of_length_le
abbrev Nc := @Int.toNat_natCast
abbrev Nd := @List.replicate_succ
abbrev Nf := @List.nodup_append
abbrev Ng := @Option.isSome_iff_exists
abbrev Nh := @List.countP_cons
abbrev Ni := @List.mem_iff_getElem
abbrev Nj := @List.mem_of_mem_drop
abbrev Nk := @Option.map_some
abbrev Nl := @Nat.le_succ
abbrev Nm := @List.dropWhile_cons
abbrev Nn := @List.takeWhile_cons
abbrev Np := @Nat.not_lt_zero
abbrev Nq := @List.filter_eq_nil_iff
abbrev Nr := @List.getElem?_append_right
abbrev Nt := @List.length_eraseIdx_of_lt
abbrev Nv := @List.pairwise_cons
abbrev Nw := @List.map_map
abbrev Nx := @List.length_nil
abbrev Ny := @Nat.lt_succ_of_lt
abbrev Nz := @Bool.eq_false_iff
abbrev N0 := @Nat.min_eq_left
abbrev N1 := @List.count_append
abbrev N2 := @Nat.lt_of_succ_lt
abbrev N3 := @List.sum_cons
abbrev N4 := @List.any_eq_true
abbrev N5 := @List.perm_middle
abbrev N6 := @List.mem_filterMap
abbrev N7 := @List.count_eq_zero
abbrev N8 := @Int.emod_lt_of_pos
abbrev N9 := @List.find?_cons
abbrev Oa := @List.getElem?_eq_none
abbrev Ob := @List.take_sublist
abbrev Oc := @List.append_assoc
abbrev Od := @List.count_cons_self
abbrev Oe := @List.getElem?_append_left
abbrev Og := @Sum.inr.inj
abbrev Oh := @List.length_reverse
abbrev Oi := @List.foldl_cons
abbrev Oj := @List.nil_append
abbrev Ol := @List.findIdx?_eq_some_iff_getElem
abbrev Om := @Bool.not_true
abbrev Oo := @Bool.and_self
abbrev Op := @Int.emod_nonneg
abbrev Oq := @List.getElem?_set_self
abbrev Os := @List.flatten_cons
abbrev Ot := @Bool.not_eq_true'
abbrev Ou := @List.flatMap_cons
abbrev Ov := @Array.getElem?_setIfInBounds_ne
abbrev Ow := @Bool.and_false
abbrev Ox := @Nat.le_of_lt
abbrev Oy := @Nat.ne_of_gt
abbrev Oz := @Nat.lt_trans
abbrev O0 := @Array.getElem?_toList
abbrev O1 := @Nat.zero_add
abbrev O2 := @List.cons_append
abbrev O3 := @List.getElem?_set_ne
abbrev O4 := @List.any_cons
abbrev O5 := @List.forIn_cons
abbrev O6 := @Bool.or_eq_true_iff
abbrev O7 := @List.flatMap_append
abbrev O8 := @List.length_pos_iff
abbrev O9 := @Array.append_assoc
abbrev Pa := @List.filterMap_map
abbrev Pb := @Option.isSome_some
abbrev Pc := @List.count_pos_iff
abbrev Pd := @Bool.or_true
abbrev Pe := @Int.zero_add
abbrev Pf := @List.forIn_nil
abbrev Pg := @List.drop_zero
abbrev Ph := @Nat.mod_lt
abbrev Pi := @Bool.or_false
abbrev Pj := @List.map_take
abbrev Pk := @List.map_drop
abbrev Pl := @List.set_set
abbrev Pm := @PySem.wpAny_bind
abbrev Pn := @PySem.wpAny_pure
abbrev Po := @PySem.sizeLine_eq
abbrev Pp := @if_neg
abbrev Pq := @if_pos
abbrev Pr := @decide_eq_true
abbrev Ps := @decide_eq_false
abbrev Pt := @of_decide_eq_true
abbrev Pu := @of_decide_eq_false
abbrev Pw := @PySem.Heap.lt_size
abbrev Px := @PySem.Heap.get?_push_of_some
abbrev Py := @PySem.Heap.SameBut.update
namespace L2
open PySem PySem.Spec PyProof.Rows
abbrev Key:=Sum Int Str
def D3:Key->Value->Bool
 | .inl k,v=>Value.isInt k v
 | .inr x,v=>Value.isStrOf x v
def keyH (w:World):Key->Int
 | .inl k=>hashInt k
 | .inr x=>hashStr w x
theorem Cs:∀{k:Key} {v:Value},D3 k v=true->(∃i t,k=Sum.inl i/\v=Value.int i t)\/(∃x t,k=Sum.inr x/\v=Value.str x t)
 | .inl i,v,h=>by
  obtain⟨t,e⟩:=Value.isInt_shape (k:=i) (v:=v) h;exact .inl ⟨i,t,rfl,e⟩
 | .inr x,v,h=>by
  obtain⟨t,e⟩:=Value.isStrOf_shape (x:=x) (v:=v) h;exact .inr ⟨x,t,rfl,e⟩
theorem Xfl(i:Int)(t:Tok):D3 (.inl i) (.int i t)=true:=by simp[D3,Value.isInt]
theorem Xfm(x:Str)(t:Tok):D3 (.inr x) (.str x t)=true:=by simp[D3,Value.isStrOf]
theorem Xfn(a b:Int):decide ((Sum.inl a:Key)=Sum.inl b)=(a==b):=by
 by_cases e:a=b
 ·subst e;simp
 ·have h:¬(Sum.inl a:Key)=Sum.inl b:=λq=>e (Sum.inl.inj q);rw[Ps h];exact(beq_eq_false_iff_ne.mpr e).symm
theorem Xfo(a b:Str):decide ((Sum.inr a:Key)=Sum.inr b)=decide (a=b):=by
 by_cases e:a=b
 ·subst e;simp
 ·have h:¬(Sum.inr a:Key)=Sum.inr b:=λq=>e (Og q);rw[Ps h,Ps e]
theorem Xfp(a:Int)(b:Str):decide ((Sum.inl a:Key)=Sum.inr b)=false:=Ps (λq=>nomatch q)
theorem Xfq(a:Str)(b:Int):decide ((Sum.inr a:Key)=Sum.inl b)=false:=Ps (λq=>nomatch q)
def Bc (prog:Program) (w:World):PySem.KeyKind prog w Key where
 is:=D3
 hash:=keyH w
 inj:=λv a b ha hb=>by
  rcases Cs ha with ⟨i,t,rfl,rfl⟩ | ⟨x,t,rfl,rfl⟩
  ·rcases Cs hb with ⟨j,u,rfl,e⟩ | ⟨y,u,rfl,e⟩
   ·injection e with e1 _;rw[e1]
   ·exact nomatch e
  ·rcases Cs hb with ⟨j,u,rfl,e⟩ | ⟨y,u,rfl,e⟩
   ·exact nomatch e
   ·injection e with e1 _;rw[e1]
 byValue:=λk v h=>by
  rcases Cs h with ⟨i,t,rfl,rfl⟩ | ⟨x,t,rfl,rfl⟩<;>rfl
 pyHash:=λhv h=>by
  rcases Cs hv with ⟨i,t,rfl,rfl⟩ | ⟨x,t,rfl,rfl⟩
  ·exact wpAny_pyHash_int h
  ·exact wpAny_pyHash_str h
 eqBool:=λhu hv h=>by
  rcases Cs hu with ⟨i,t,rfl,rfl⟩ | ⟨x,t,rfl,rfl⟩
  ·rcases Cs hv with ⟨j,u,rfl,rfl⟩ | ⟨y,u,rfl,rfl⟩
   ·rw[Xfn] at h;exact wpAny_eqBool_int h
   ·rw[Xfp] at h;exact SeqAt.EqAt.int_str i t y u _ _ _ _ h
  ·rcases Cs hv with ⟨j,u,rfl,rfl⟩ | ⟨y,u,rfl,rfl⟩
   ·rw[Xfq] at h;exact SeqAt.EqAt.str_int x t j u _ _ _ _ h
   ·rw[Xfo] at h;exact wpAny_eqBool_str h
 «strs»:=λk x t v h=>by
  rcases Cs h with ⟨i,u,rfl,e⟩ | ⟨y,u,rfl,e⟩
  ·exact nomatch e
  ·injection e with e1 _
   subst e1;cases v<;>rfl
theorem Xfr(prog:Program)(w:World)(i:Int)(t:Tok):(Bc prog w).is (.inl i) (.int i t)=true:=Xfl i t
theorem Xfs(prog:Program)(w:World)(x:Str)(t:Tok):(Bc prog w).is (.inr x) (.str x t)=true:=Xfm x t
inductive V where
 | non | bl (b:Bool) | int (i:Int) | str (x:Str) | byt (b:Array UInt8) | flt (b:UInt64) | ref (a:Addr) | ty (n:String)
 deriving DecidableEq
def Ah:V->Value->Prop
 | .non,u=>u=Value.none
 | .bl b,u=>u=Value.bool b
 | .int i,u=>∃t,u=Value.int i t
 | .str x,u=>∃t,u=Value.str x t
 | .byt b,u=>∃t,u=Value.bytes b t
 | .flt b,u=>∃t,u=Value.float b t
 | .ref a,u=>u=Value.ref a
 | .ty n,u=>u=Value.type n
abbrev Vals:List V->List Value->Prop:=Paired Ah
theorem Vals.length{xs:List V}{us:List Value}(r:Vals xs us):xs.length=us.length:=Paired.length r
theorem Vals.get:∀{xs:List V} {us:List Value} {i:Nat} {x:V},Vals xs us->xs[i]? = some x->∃u,us[i]? = some u/\Ah x u
 | _,_,_,_,.nil,e=>by simp at e
 | _,_,0,_,.cons r _,e=>by simp at e;subst e;exact⟨_,rfl,r⟩
 | _,_,i+1,x,.cons _ t,e=>by
  obtain⟨u,h1,h2⟩:=Vals.get (i:=i) (x:=x) t (by simpa using e);exact⟨u,by simpa using h1,h2⟩
theorem Vals.set{x:V}{u:Value}(r:Ah x u):∀{xs:List V} {us:List Value} (i:Nat),Vals xs us->Vals (xs.set i x) (us.set i u)
 | _,_,_,.nil=>.nil
 | _,_,0,.cons _ t=>.cons r t
 | _,_,i+1,.cons q t=>.cons q (Vals.set r i t)
theorem Vals.append:∀{xs ys:List V} {us ws:List Value},Vals xs us->Vals ys ws->Vals (xs++ys) (us++ws)
 | _,_,_,_,.nil,s=>s
 | _,_,_,_,.cons r t,s=>.cons r (Vals.append t s)
theorem Vals.take:∀{xs:List V} {us:List Value} (n:Nat),Vals xs us->Vals (xs.take n) (us.take n)
 | _,_,0,_=>.nil
 | _,_,_+1,.nil=>.nil
 | _,_,n+1,.cons r t=>.cons r (Vals.take n t)
theorem Vals.drop:∀{xs:List V} {us:List Value} (n:Nat),Vals xs us->Vals (xs.drop n) (us.drop n)
 | _,_,0,r=>r
 | _,_,_+1,.nil=>.nil
 | _,_,n+1,.cons _ t=>Vals.drop n t
def Bp:Option V->Option Value->Prop
 | some v,some u=>Ah v u
 | none,none=>True
 | _,_=>False
def KV {κ : Type}:List (κ × V)->List (κ × Value)->Prop:=Paired λ(p : κ × V) (q : κ × Value)=>p.1=q.1/\Ah p.2 q.2
def kV:Key->V
 | .inl i=>.int i
 | .inr x=>.str x
inductive HO where
 | lst (xs:List V)
 | tup (xs:List V)
 | dK (kvs:List (Key×V)) | dT (kvs:List (List Key×V))
 | set (S:Int->Bool) (n:Nat)
 | ins (C dx:Addr) (fs:List (Str×V))
 | own (x:Addr)
 | xd (fs:List (Str×V))
 | met (f x:Addr)
 | rng (lo hi:Int)
 | frz (o:Obj) (u:HO)
 | tbl (ps:Array Value)
 | ext (φ : Heap->Prop)
abbrev Hp:=Addr->Option HO
def upd (H:Hp) (a:Addr) (o:HO):Hp:=λb=>if b=a then some o else H b
theorem Ac{H:Hp}{a:Addr}{o:HO}:upd H a o a=some o:=by unfold upd;rw[Pq rfl]
theorem Af{H:Hp}{a b:Addr}{o:HO}(h:b≠a):upd H a o b=H b:=by unfold upd;rw[Pp h]
theorem Xaa{H:Hp}{a b:Addr}{o u:HO}(h:H a=some o)(h':H b=some u)(d:o≠u):a≠b:=by
 intro e;subst e;rw[h] at h';exact d (Lq h')
theorem Aq{H:Hp}{a b:Addr}{o:HO}(h:H a=some o)(h':H b=none):a≠b:=by
 intro e;subst e;rw[h] at h';cases h'
section
variable (P:Program) (w:World)
def Ar (H:Hp) (h:Heap) (a:Addr):HO->Prop
 | .lst xs=>xs.length<=sizeLine/\∃(its:List Value) (n:Nat),Vals xs its/\h.get? a=some {cls:=.type "list",data:=.seq its.toArray n}
 | .tup xs=>xs.length<=sizeLine/\∃its:List Value,Vals xs its/\IsTup h a its.toArray
 | .dK kvs=>kvs.length<=sizeLine/\(a==sysModules)=false/\∃vs,KV kvs vs/\h.DictOf (Bc P w) a vs
 | .dT kvs=>kvs.length<=sizeLine/\(a==sysModules)=false/\∃xs:List (List Key×Addr×Value),
   Paired (λ(p:List Key×V) (q:List Key×Addr×Value)=>p.1=q.1/\H q.2.1=some (.tup (p.1.map kV))/\Ah p.2 q.2.2) kvs xs /\
   ∃o es ep,h.get? a=some o/\o.ExactDict/\o.data = .dict es ep/\es.toList=xs.map (entryOfKey (tupleKind (Bc P w)))/\(xs.map (·.1)).Nodup
 | .set S n=>h.SetOf (intKind P w) a S n
 | .ins C dx fs=>H dx=some (.own a)/\fs.length<=1000/\dx≠a/\h.get? a=some (PySem.W.instObj C dx) /\
   ∃mA,h.Ns1 dx mA/\(∀f,Bp (fs.lookup f) (mA f))/\PySem.Within mA (fs.map (·.1))
 | .own _=>∃o,h.get? a=some o
 | .xd fs=>∃mA,h.Ns1 a mA/\∀f,Bp (fs.lookup f) (mA f)
 | .rng lo hi=>∃t u v,h.get? a=some {cls:=.type "range",data:=.fields #[.int lo t,.int hi u,.int 1 v]}
 | .frz o u=>h.get? a=some o/\Ar H h a u
 | .tbl ps=>h.get? a=some {cls:=.none,data:=.fields ps}
 | .met f x=>h.get? a=some (PySem.W.methodObj (.ref f) (.ref x))
 | .ext φ => φ h/\(∃o,h.get? a=some o)/\∀h1 h2:Heap, φ h1->(∀o,h1.get? a=some o->h2.get? a=some o) -> φ h2
def HOk (H:Hp) (h:Heap):Prop:=∀a o,H a=some o->Ar P w H h a o
end
section
variable {P:Program}{w:World}{H H':Hp}{h h':Heap}{a:Addr}{o:HO}
theorem Ar.lt(x:Ar P w H h a o):a<h.objs.size:=by
 cases o with
 | lst xs=>obtain⟨_,_,_,_,e⟩:=x;exact Pw e
 | tup xs=>obtain⟨_,_,_,p⟩:=x;exact p.lt
 | dK kvs=>obtain⟨_,_,_,_,o,_,_,e,_⟩:=x;exact Pw e
 | dT kvs=>obtain⟨_,_,_,_,o,_,_,e,_⟩:=x;exact Pw e
 | set S n=>obtain⟨o,_,_,_,e,_⟩:=x;exact Pw e
 | ins C dx fs=>obtain⟨_,_,_,e,_⟩:=x;exact Pw e
 | own y=>obtain⟨_,e⟩:=x;exact Pw e
 | xd fs=>obtain⟨_,⟨_,_,_,e,_⟩,_⟩:=x;exact Pw e
 | rng lo hi=>obtain⟨_,_,_,e⟩:=x;exact Pw e
 | frz ob u=>obtain⟨e,_⟩:=x;exact Pw e
 | tbl ps=>exact Pw (show h.get? a=some _ from x)
 | met f y=>exact Pw (show h.get? a=some _ from x)
 | ext φ=>obtain⟨_,⟨_,e⟩,_⟩:=x;exact Pw e
theorem Paired.mapP{α β : Type}{F G : α -> β->Prop}:∀{l₁ : List α} {l₂ : List β},Paired F l₁ l₂->(∀a b,F a b->G a b)->Paired G l₁ l₂
 | _,_,.nil,_=>.nil
 | _,_,.cons r t,f=>.cons (f _ _ r) (Paired.mapP t f)
theorem Ar.stay(x:Ar P w H h a o)(k:∀b u,(b=a\/H b=some (.own a))->h.get? b=some u->h'.get? b=some u)
  (ho:∀b,H b=some (.own a)->H' b=some (.own a)) (ht:∀b xs,H b=some (.tup xs)->H' b=some (.tup xs)):Ar P w H' h' a o:=by
 induction o with
 | lst xs=>obtain⟨z,its,n,r,e⟩:=x;exact⟨z,its,n,r,k _ _ (.inl rfl) e⟩
 | tup xs=>obtain⟨z,its,r,ob,e,c⟩:=x;exact⟨z,its,r,ob,k _ _ (.inl rfl) e,c⟩
 | dK kvs=>obtain⟨z,y,vs,r,ob,es,ep,e,c⟩:=x;exact⟨z,y,vs,r,ob,es,ep,k _ _ (.inl rfl) e,c⟩
 | dT kvs=>
  obtain⟨z,y,xs,r,ob,es,ep,e,c⟩:=x;exact⟨z,y,xs,Paired.mapP r λp q z=>⟨z.1,ht _ _ z.2.1,z.2.2⟩,ob,es,ep,k _ _ (.inl rfl) e,c⟩
 | set S n=>obtain⟨ob,es,ep,t,e,c⟩:=x;exact⟨ob,es,ep,t,k _ _ (.inl rfl) e,c⟩
 | ins C dx fs=>
  obtain⟨d,z,ne,e,mA,⟨od,es,ep,e2,c⟩,r⟩:=x;exact⟨ho _ d,z,ne,k _ _ (.inl rfl) e,mA,⟨od,es,ep,k _ _ (.inr d) e2,c⟩,r⟩
 | own y=>obtain⟨ob,e⟩:=x;exact⟨ob,k _ _ (.inl rfl) e⟩
 | xd fs=>obtain⟨mA,⟨od,es,ep,e,c⟩,r⟩:=x;exact⟨mA,⟨od,es,ep,k _ _ (.inl rfl) e,c⟩,r⟩
 | rng lo hi=>obtain⟨t,u,v,e⟩:=x;exact⟨t,u,v,k _ _ (.inl rfl) e⟩
 | frz ob u ih=>obtain⟨e,q⟩:=x;exact⟨k _ _ (.inl rfl) e,ih q⟩
 | tbl ps=>
  have e:h.get? a=some {cls:=.none,data:=.fields ps}:=x;show h'.get? a=some {cls:=.none,data:=.fields ps};exact k a _ (.inl rfl) e
 | met f y=>
  have e:h.get? a=some (PySem.W.methodObj (.ref f) (.ref y)):=x;show h'.get? a=some (PySem.W.methodObj (.ref f) (.ref y));exact k a _ (.inl rfl) e
 | ext φ=>obtain⟨p,⟨o,e⟩,st⟩:=x;exact⟨st _ _ p λo q=>k _ _ (.inl rfl) q,⟨o,k _ _ (.inl rfl) e⟩,st⟩
theorem HOk.lt(x:HOk P w H h)(e:H a=some o):a<h.objs.size:=(x a o e).lt
theorem HOk.fresh(x:HOk P w H h)(e:h.objs.size<=a):H a=none:=by
 cases q:H a with
 | none=>rfl
 | some u=>exact absurd (L5 (x.lt q) e) (Mg _)
theorem HOk.kept(x:HOk P w H h)(k:∀b u,h.get? b=some u->h'.get? b=some u):HOk P w H h':=λa o e=>
 (x a o e).stay (λb u _ q=>k b u q) (λ_ q=>q) λ_ _ q=>q
theorem HOk.laid(x:HOk P w H h)(k:∀b u,h.get? b=some u->h'.get? b=some u)(hp:h.objs.size<=a)(new:Ar P w (upd H a o) h' a o):HOk P w (upd H a o) h':=λb u e=>by
 have hn:=x.fresh hp;by_cases hb:b=a
 ·subst hb;rw[Ac] at e;cases e;exact new
 ·rw[Af hb] at e;exact(x b u e).stay (λc v _ q=>k c v q) (λc q=>by rw[Af (Aq q hn)];exact q) λc xs q=>by rw[Af (Aq q hn)];exact q
end
def Rd (H:Hp) (a:Addr) (u:HO):Prop:=H a=some u \/ ∃o,H a=some (.frz o u)
theorem Rd.ok{P:Program}{w:World}{H:Hp}{h:Heap}{a:Addr}{u:HO}(r:Rd H a u)(x:HOk P w H h):Ar P w H h a u:=by
 rcases r with r | ⟨o,r⟩
 ·exact x a u r
 ·obtain⟨_,q⟩:=x a _ r;exact q
def Mut:Option HO->Prop
 | some (.lst _)=>True
 | some (.dK _)=>True
 | some (.dT _)=>True
 | some (.set _ _)=>True
 | some (.ins _ _ _)=>True
 | some (.ext _)=>True
 | _=>False
section
variable {P:Program}{w:World}{H:Hp}{h h':Heap}{x e:Addr}{o':HO}
theorem HOk.write(ok:HOk P w H h)(mu:Mut (H x))(he:e=x\/H e=some (.own x))(k:∀b u,b≠e->h.get? b=some u->h'.get? b=some u)(heo:∃u,h'.get? e=some u)
  (new:Ar P w (upd H x o') h' x o'):HOk P w (upd H x o') h':=λb u q=>by
 have nown:∀c y,H c=some (.own y)->c≠x:=λc y r z=>by subst z;rw[r] at mu;exact mu
 have ntup:∀c xs,H c=some (.tup xs)->c≠x:=λc xs r z=>by subst z;rw[r] at mu;exact mu
 by_cases hb:b=x
 ·subst hb;rw[Ac] at q;cases q;exact new
 ·rw[Af hb] at q;by_cases hbe:b=e
  ·have q':H b=some (.own x):=by
    rcases he with z | z
    ·exact absurd (hbe.trans z) hb
    ·rw[hbe];exact z
   rw[q] at q';cases q';obtain⟨v,hv⟩:=heo;exact⟨v,by rw[hbe];exact hv⟩
  ·refine(ok b u q).stay (λc v hc r=>k c v ?_ r) (λc r=>by rw[Af (nown c b r)];exact r) λc xs r=>by rw[Af (ntup c xs r)];exact r
   rcases hc with rfl | hc
   ·exact hbe
   ·rintro rfl;rcases he with z | z
    ·exact nown c b hc z
    ·rw[hc] at z;cases z;exact hb rfl
end
structure Un (fs ex:List Addr) (H H':Hp) (h h':Heap):Prop where
 keep:∀b o,h.get? b=some o->H b=none->b∉fs->b∉ex->h'.get? b=some o
 slot:∀b o,h.get? b=some o->H b=none->b∈fs->b∉ex->∃sl,h'.get? b=some {o with slots:=sl}
 free:∀b o,h.get? b=some o->H b=none->b∉ex->H' b=none
 there:∀b o,h.get? b=some o->b∉ex->∃o',h'.get? b=some o'
 tups:∀b xs,H b=some (.tup xs)->H' b=some (.tup xs)
 frzs:∀b o u,H b=some (.frz o u)->H' b=some (.frz o u)
 tbls:∀b ps,H b=some (.tbl ps)->∃more,H' b=some (.tbl (ps++more))
section
variable {fs fs' ex ex':List Addr}{H H1 H2:Hp}{h h1 h2 h':Heap}{a x e:Addr}{o:HO}
theorem Un.any(u:Un fs ex H H1 h h1){b:Addr}{ob:Obj}(q:h.get? b=some ob)(n:H b=none)(hx:b∉ex):∃sl,h1.get? b=some {ob with slots:=sl}:=by
 by_cases hb:b∈fs
 ·exact u.slot b ob q n hb hx
 ·exact⟨ob.slots,u.keep b ob q n hb hx⟩
theorem Un.kept(k:∀b u,h.get? b=some u->h'.get? b=some u):Un fs ex H H h h':=
 ⟨λb ob q _ _ _=>k b ob q,λb ob q _ _ _=>⟨ob.slots,k b ob q⟩,λ_ _ _ n _=>n,λb ob q _=>⟨ob,k b ob q⟩,λ_ _ q=>q,λ_ _ _ q=>q,λ_ ps q=>⟨#[],by rw[q];simp⟩⟩
theorem Un.refl:Un fs ex H H h h:=Un.kept λ_ _ q=>q
theorem Un.laid(k:∀b u,h.get? b=some u->h'.get? b=some u)(hp:h.objs.size<=a)(hn:H a=none):Un fs ex H (upd H a o) h h' where
 keep:=λb u q _ _ _=>k b u q
 slot:=λb u q _ _ _=>⟨u.slots,k b u q⟩
 free:=λb u q n _=>by rw[Af (Lr (L5 (Pw q) hp))];exact n
 there:=λb u q _=>⟨u,k b u q⟩
 tups:=λb xs q=>by rw[Af (Aq q hn)];exact q
 frzs:=λb u xs q=>by rw[Af (Aq q hn)];exact q
 tbls:=λb ps q=>⟨#[],by rw[Af (Aq q hn),q];simp⟩
theorem Un.write(mu:Mut (H x))(he:e=x\/H e=some (.own x))(k:∀b u,b≠e->h.get? b=some u->h'.get? b=some u)(heo:∃u,h'.get? e=some u):Un fs ex H (upd H x o) h h':=by
 have hx:∀b,H b=none->b≠x:=λb n z=>by subst z;rw[n] at mu;exact mu
 have hb:∀b,H b=none->b≠e:=λb n z=>by
  subst z;rcases he with r | r
  ·exact hx b n r
  ·rw[n] at r;cases r
 have hm:∀b u,H b=some u->¬Mut (some u)->b≠x:=λb u q nm z=>by subst z;rw[q] at mu;exact nm mu
 refine⟨λb u q n _ _=>k b u (hb b n) q,λb u q n _ _=>⟨u.slots,k b u (hb b n) q⟩,λb u q n _=>by rw[Af (hx b n)];exact n,λb u q _=>?_,
  λb xs q=>by rw[Af (hm b _ q λz=>z)];exact q,λb u xs q=>by rw[Af (hm b _ q λz=>z)];exact q,λb ps q=>⟨#[],by rw[Af (hm b _ q λz=>z),q];simp⟩⟩
 by_cases hbe:b=e
 ·subst hbe;exact heo
 ·exact⟨u,k b u hbe q⟩
end
def trk (h:Heap) (H:Hp):List Addr:=(List.range h.objs.size).filter λa=>(H a).isSome
def C3 (h:Heap) (H:Hp):Heap:=PySem.W.hideAll h (trk h H)
theorem Xft(h:Heap)(H:Hp):(C3 h H).objs.size=h.objs.size:=PySem.W.hideAll_size _ _
theorem Xfu{h:Heap}{H:Hp}{b:Addr}{o:Obj}(e:h.get? b=some o)(n:H b=none):(C3 h H).get? b=some o:=
 PySem.W.hideAll_get _ e λhm=>by
  have q:(H b).isSome=true:=(Mc.mp hm).2;rw[n] at q;simp at q
theorem Xfv{h:Heap}{H:Hp}{b:Addr}{o:Obj}(e:(C3 h H).get? b=some o):h.get? b=some o/\H b=none:=by
 have e':h.get? b=some o:=PySem.W.of_hideAll (trk h H) e;refine⟨e',?_⟩;cases q:H b with
 | none=>rfl
 | some x=>
  have hm:b∈trk h H:=Mc.mpr ⟨Mo.mpr (Pw e'),by simp[q]⟩;have z:(C3 h H).get? b=none:=PySem.W.hideAll_none (trk h H) hm;rw[z] at e;cases e
def Xfw (g h:Heap) (L:Addr):List (Addr×Obj):=(List.range h.objs.size).filterMap λa=>if a=L\/(g.get? a).isSome=true then none else (h.get? a).map λo=>(a,o)
def rest (g h:Heap) (L d:Addr):List (Addr×Obj):=(Xfw g h L).filter λp=>decide (p.1≠d)
structure Mod (K:PySem.W.Frag) (mg:Str->Option Value) (base:Heap):Prop where
 kin:K.In base
 glob:base.Ns mainGlobals mg
 blt:∃mb,base.Ns builtinsNs mb/\∀x:Str,x ≠ "__name__" -> mb x=bootBuiltins x
 nolimit:base.NoLimit
structure Cx where
 prog:Program
 w:World
 K:PySem.W.Frag
 mg:Str->Option Value
 base:Heap
 A:Around
 N:List Str
 s₀ : Shared
 H₀ : Hp
 env:Env
 outer:List Env
 stack:List Env
 ex:List Addr
 fn:Str->Bool
 calm:Bool
 pn:List (Addr×Obj)
 xe:Value->Shared->Prop
def frs (l:List Env):List Addr:=l.filterMap (·.frame)
abbrev Cx.fs (X:Cx):List Addr:=frs X.outer
def Vis (sc:Scope) (x:Str):Prop:=sc.names.lookup x=some .local\/sc.names.lookup x=some .cell\/sc.names.lookup x=some .free
def Loc (sc:Scope) (x:Str):Prop:=sc.names.lookup x=some .local\/sc.names.lookup x=some .cell
def Look (env:Env) (h:Heap) (m:Str->Option Value) (x:Str) (u:Value):Prop:=
 (env.kindOf x=some .local/\m x=some u)\/((env.kindOf x=some .cell\/env.kindOf x=some .free)/\∃c,env.cells.lookup x=some c/\h.IsCell c (some u))
structure Cx.Ok (X:Cx):Prop where
 mod:Mod X.K X.mg X.base
 kind:X.env.scope.kind = .function
 glob:X.env.globals=mainGlobals
 blt:X.env.builtins=builtinsNs
 above:X.s₀.heap.objs.size<=X.env.locals
 inj:∀x y c,X.env.cells.lookup x=some c->X.env.cells.lookup y=some c->x=y
 has:∀x,(X.env.kindOf x=some .cell\/X.env.kindOf x=some .free)->∃c,X.env.cells.lookup x=some c
 cab:∀x c,X.fn x=true->X.env.cells.lookup x=some c->X.s₀.heap.objs.size<=c
 hd:X.calm=true->X.A.handled=none
 frames:X.A.frames=some X.stack
 stk:X.stack=X.outer\/(X.stack=X.env::X.outer/\X.env.frame=some X.env.locals)
 exf:∀b∈X.ex,b≠X.env.locals/\∀x c,X.env.cells.lookup x=some c->c≠b
 bs:∀b o,X.base.get? b=some o->X.s₀.heap.get? b=some o/\X.H₀ b=none
 bsz:X.base.objs.size<=X.s₀.heap.objs.size
 noex:∀b o,X.base.get? b=some o->b∉X.ex
 exfs:∀b∈X.ex,b∉X.fs
 funs:X.s₀.heap.FunFrames X.base X.outer
 frf:∀b∈X.fs,X.H₀ b=none
structure Inv (X:Cx) (pins:List (Addr×Obj)) (σ:List (Option V)) (H:Hp) (s:Shared):Prop where
 ok:X.Ok
 os:s.os=X.s₀.os
 bare:AllBare s.gens
 base:Un X.fs X.ex X.H₀ H X.s₀.heap s.heap
 loc:∃m,s.heap.Ns X.env.locals m/\∀(i:Nat) (x:Str) (v:V),X.N[i]? = some x -> σ[i]? = some (some v)->Vis X.env.scope x->∃u,Ah v u/\Look X.env s.heap m x u
 cell:∀x c,X.env.cells.lookup x=some c->∃v,s.heap.IsCell c v
 free:H X.env.locals=none
 freeC:∀x c,X.env.cells.lookup x=some c->H c=none
 pin:∀p∈X.pn++pins,s.heap.get? p.1=some p.2/\H p.1=none/\p.1≠X.env.locals/\p.1∉X.fs/\∀v,p.2.data ≠ .cell v
 hok:HOk X.prog X.w H s.heap
 len : σ.length=X.N.length
section
variable {X:Cx}{pins:List (Addr×Obj)}{σ:List (Option V)}{H H':Hp}{s:Shared}{h':Heap}
theorem Cx.Ok.nofr(ok:X.Ok){b:Addr}{o:Obj}(e:X.base.get? b=some o):b∉X.fs:=λhb=>by
 have:=(ok.funs.mem hb).1;rw[e] at this;cases this
theorem Inv.bs(I:Inv X pins σ H s):∀b o,X.base.get? b=some o->s.heap.get? b=some o/\H b=none:=λb o e=>
 ⟨I.base.keep b o (I.ok.bs b o e).1 (I.ok.bs b o e).2 (I.ok.nofr e) (I.ok.noex b o e),I.base.free b o (I.ok.bs b o e).1 (I.ok.bs b o e).2 (I.ok.noex b o e)⟩
theorem Inv.bk(I:Inv X pins σ H s):∀b o,X.base.get? b=some o->s.heap.get? b=some o:=λb o e=>(I.bs b o e).1
theorem Inv.mod(I:Inv X pins σ H s):Mod X.K X.mg X.base:=I.ok.mod
theorem Inv.kIn(I:Inv X pins σ H s):X.K.In s.heap:=I.ok.mod.kin.keeps I.bk
theorem Inv.lt(I:Inv X pins σ H s):X.env.locals<s.heap.objs.size:=let ⟨_,hn,_⟩:=I.loc;hn.lt
theorem Inv.sz(I:Inv X pins σ H s):X.s₀.heap.objs.size<=s.heap.objs.size:=Mj I.ok.above (Ox I.lt)
theorem Inv.nofs(I:Inv X pins σ H s){a:Addr}(h:s.heap.objs.size<=a):a∉X.fs:=λhb=>by
 obtain⟨_,o,ho,_⟩:=I.ok.funs.mem hb;exact absurd (L5 (Pw ho) (Mj I.sz h)) (Mg _)
theorem Inv.cne(I:Inv X pins σ H s):∀x c,X.env.cells.lookup x=some c->c≠X.env.locals:=λx c e z=>by
 obtain⟨v,o,ho,hd⟩:=I.cell x c e;obtain⟨m,⟨o',es,ep,ho',hd',_⟩,_⟩:=I.loc;rw[z,ho'] at ho;cases ho;rw[hd'] at hd;cases hd
theorem Inv.funs(I:Inv X pins σ H s):s.heap.FunFrames X.base X.outer:=by
 have all:∀(l:List Env),(∀b∈frs l,b∈X.fs)->X.s₀.heap.FunFrames X.base l->s.heap.FunFrames X.base l:=by
  intro l
  induction l with
  | nil=>intro _ _;trivial
  | cons env r ih=>
   intro hs hl;obtain⟨hk,⟨L,o,hf,hn,ho,hd⟩,hr⟩:=hl;have hL:L∈X.fs:=hs L (by unfold frs;rw[Mh,hf];exact Lo);obtain⟨sl,e⟩:=I.base.slot L o ho (I.ok.frf L hL) hL λz=>I.ok.exfs L z hL;exact⟨hk,⟨L,_,hf,hn,e,hd⟩,ih (λb hb=>hs b (by unfold frs;rw[Mh,hf];exact Ll _ hb)) hr⟩
 exact all X.outer (λ_ hb=>hb) I.ok.funs
theorem Inv.stack(I:Inv X pins σ H s):s.heap.FunFrames X.base X.stack:=by
 rcases I.ok.stk with e | ⟨e,hf⟩
 ·rw[e];exact I.funs
 ·rw[e];obtain⟨m,hn,_⟩:=I.loc;refine .cons (by rw[I.ok.kind];decide) hf hn ?_ I.funs;exact Heap.get?_none_of_le (Mj I.ok.bsz I.ok.above)
theorem Inv.stkSub(I:Inv X pins σ H s):∀b∈frs X.stack,b∈X.env.locals::X.fs:=λb hb=>by
 rcases I.ok.stk with e | ⟨e,hf⟩
 ·rw[e] at hb;exact Ll _ hb
 ·rw[e] at hb;unfold frs at hb;rw[Mh,hf] at hb;exact hb
theorem Inv.stkFree(I:Inv X pins σ H s):∀b∈frs X.stack,H b=none:=λb hb=>by
 rcases Lw.mp (I.stkSub b hb) with e | hb
 ·rw[e];exact I.free
 ·obtain⟨_,o,ho,_⟩:=I.ok.funs.mem hb;exact I.base.free b o ho (I.ok.frf b hb) λz=>I.ok.exfs b z hb
theorem Inv.step{g':Array GenState}{t':Nat}{d':Drawn}{ch:List Addr}(I:Inv X pins σ H s)
  (hch:∀b∈ch,(b∈X.ex\/X.s₀.heap.objs.size<=b)/\b≠X.env.locals/\(∀x c,X.env.cells.lookup x=some c->c≠b)/\∀p∈X.pn++pins,p.1≠b)
  (keep:∀b o,b≠X.env.locals->b∉X.fs->b∉ch->s.heap.get? b=some o->H b=none->h'.get? b=some o)
  (slot:∀b o,b≠X.env.locals->b∈X.fs->b∉ch->s.heap.get? b=some o->H b=none->∃sl,h'.get? b=some {o with slots:=sl}) (free:∀b o,b∉ch->s.heap.get? b=some o->H b=none->H' b=none)
  (there:∀b o,b∉ch->s.heap.get? b=some o->∃o',h'.get? b=some o')
  (tups:∀b xs,H b=some (.tup xs)->H' b=some (.tup xs)) (frzs:∀b o u,H b=some (.frz o u)->H' b=some (.frz o u)) (tbls:∀b ps,H b=some (.tbl ps)->∃more,H' b=some (.tbl (ps++more)))
  (ns:∀m,s.heap.Ns X.env.locals m->h'.Ns X.env.locals m) (hok:HOk X.prog X.w H' h') (hg:AllBare g'):
  Inv X pins σ H' {s with heap:=h',gens:=g',drawn:=d',toks:=t'}:=by
 have neL:∀b o,X.s₀.heap.get? b=some o->b≠X.env.locals:=λb o e=>Lr (L5 (Pw e) I.ok.above);have neC:∀b o,X.s₀.heap.get? b=some o->b∉X.ex->b∉ch:=λb o e hx hb=>by
  rcases (hch b hb).1 with z | z
  ·exact hx z
  ·exact absurd (L5 (Pw e) z) (Mg _)
 have cellK:∀x c,X.env.cells.lookup x=some c->∀v,s.heap.IsCell c v->h'.IsCell c v:=λx c e v ⟨o,ho,hd⟩=>by
  have nch:c∉ch:=λz=>(hch c z).2.2.1 x c e rfl;by_cases hc:c∈X.fs
  ·obtain⟨sl,q⟩:=slot c o (I.cne x c e) hc nch ho (I.freeC x c e);exact⟨_,q,hd⟩
  ·exact⟨o,keep c o (I.cne x c e) hc nch ho (I.freeC x c e),hd⟩
 refine⟨I.ok,I.os,hg,⟨λb o e n hb hx=>?_,λb o e n hb hx=>?_,λb o e n hx=>?_,λb o e hx=>?_,λb xs e=>tups b xs (I.base.tups b xs e),λb o xs e=>frzs b o xs (I.base.frzs b o xs e),λb ps e=>?_⟩,?_,λx c e=>?_,?_,λx c e=>?_,λp hp=>?_,hok,I.len⟩
 ·exact keep b o (neL b o e) hb (neC b o e hx) (I.base.keep b o e n hb hx) (I.base.free b o e n hx)
 ·obtain⟨sl,e1⟩:=I.base.slot b o e n hb hx;obtain⟨sl',e2⟩:=slot b _ (neL b o e) hb (neC b o e hx) e1 (I.base.free b o e n hx);exact⟨sl',e2⟩
 ·obtain⟨o',e1⟩:=I.base.there b o e hx;exact free b o' (neC b o e hx) e1 (I.base.free b o e n hx)
 ·obtain⟨o',e1⟩:=I.base.there b o e hx;exact there b o' (neC b o e hx) e1
 ·obtain⟨m1,e1⟩:=I.base.tbls b ps e;obtain⟨m2,e2⟩:=tbls b _ e1;exact⟨m1++m2,by rw[e2,O9]⟩
 ·obtain⟨m,hn,hl⟩:=I.loc;refine⟨m,ns m hn,λi x v e1 e2 e3=>?_⟩;obtain⟨u,r,l⟩:=hl i x v e1 e2 e3;refine⟨u,r,?_⟩;rcases l with l | ⟨k,c,e,z⟩
  ·exact .inl l
  ·exact .inr ⟨k,c,e,cellK x c e _ z⟩
 ·obtain⟨v,z⟩:=I.cell x c e;exact⟨v,cellK x c e v z⟩
 ·obtain⟨m,⟨o,_,_,ho,_⟩,_⟩:=I.loc;exact free _ o (λz=>(hch _ z).2.1 rfl) ho I.free
 ·obtain⟨v,o,ho,hd⟩:=I.cell x c e;exact free c o (λz=>(hch c z).2.2.1 x c e rfl) ho (I.freeC x c e)
 ·obtain⟨e,n,ne,nf,d⟩:=I.pin p hp;have nch:p.1∉ch:=λz=>(hch p.1 z).2.2.2 p hp rfl;exact⟨keep p.1 p.2 ne nf nch e n,free p.1 p.2 nch e n,ne,nf,d⟩
theorem Inv.un{t':Nat}(I:Inv X pins σ H s)(u:Un X.fs [] H H' s.heap h')(hok:HOk X.prog X.w H' h'):Inv X pins σ H' {s with heap:=h',toks:=t'}:=by
 obtain⟨m,⟨o,es,ep,ho,r⟩,_⟩:=id I.loc;obtain⟨sl,hL⟩:=u.any ho I.free (by simp);exact I.step (g':=s.gens) (d':=s.drawn) (ch:=[]) (λ_ z=>nomatch z) (λb o _ hb _ e n=>u.keep b o e n hb (by simp)) (λb o _ hb _ e n=>u.slot b o e n hb (by simp)) (λb o _ e n=>u.free b o e n (by simp)) (λb o _ e=>u.there b o e (by simp)) u.tups u.frzs u.tbls (λm' hm=>by
  obtain⟨o',es',ep',ho',r'⟩:=hm;rw[ho] at ho';cases ho';exact⟨_,es',ep',hL,r'⟩) hok I.bare
theorem Inv.call{g':Array GenState}{t':Nat}{d':Drawn}{ch:List Addr}(I:Inv X pins σ H s)(u:Un (frs X.stack) ch H H' s.heap h')(hok:HOk X.prog X.w H' h')(hg:AllBare g')
  (hch:∀b∈ch,(b∈X.ex\/X.s₀.heap.objs.size<=b)/\b≠X.env.locals/\(∀x c,X.env.cells.lookup x=some c->c≠b)/\∀p∈X.pn++pins,p.1≠b):
  Inv X pins σ H' {s with heap:=h',gens:=g',drawn:=d',toks:=t'}:=by
 obtain⟨m,⟨o,es,ep,ho,r⟩,_⟩:=id I.loc;obtain⟨sl,hL⟩:=u.any ho I.free λz=>(hch _ z).2.1 rfl;exact I.step (ch:=ch) hch (λb o hL hb hc e n=>u.keep b o e n (λz=>(Lw.mp (I.stkSub b z)).elim hL hb) hc) (λb o _ _ hc e n=>u.any e n hc) (λb o hc e n=>u.free b o e n hc) (λb o hc e=>u.there b o e hc) u.tups u.frzs u.tbls (λm' hm=>by
  obtain⟨o',es',ep',ho',r'⟩:=hm;rw[ho] at ho';cases ho';exact⟨_,es',ep',hL,r'⟩) hok hg
theorem Inv.turned{t':Nat}{it:Addr}(I:Inv X pins σ H s)(k:∀b o,b≠it->s.heap.get? b=some o->h'.get? b=some o)(hn:H it=none)(hL:it≠X.env.locals)
  (h1:it∈X.ex\/X.s₀.heap.objs.size<=it) (h2:∀x c,X.env.cells.lookup x=some c->c≠it) (h3:∀p∈X.pn++pins,p.1≠it):Inv X pins σ H {s with heap:=h',toks:=t'}:=by
 have nit:∀b u,H b=some u->b≠it:=λb u e z=>by rw[z,hn] at e;cases e
 refine I.step (g':=s.gens) (d':=s.drawn) (ch:=[it]) (λb hb=>?_) (λb o _ _ hc e _=>k b o (λz=>hc (by simp[z])) e) (λb o _ _ hc e _=>⟨o.slots,k b o (λz=>hc (by simp[z])) e⟩) (λ_ _ _ _ n=>n)
  (λb o hc e=>⟨o,k b o (λz=>hc (by simp[z])) e⟩) (λ_ _ e=>e) (λ_ _ _ e=>e) (λb ps e=>⟨#[],by rw[e];simp⟩) (λm hm=>?_) (λb u e=>?_) I.bare
 ·have e:b=it:=by simpa using hb
  subst e;exact⟨h1,hL,h2,h3⟩
 ·obtain⟨o,es,ep,ho,r⟩:=hm;exact⟨o,es,ep,k _ o (Ne.symm hL) ho,r⟩
 ·refine(I.hok b u e).stay (λc v hc q=>k c v ?_ q) (λ_ q=>q) λ_ _ q=>q;rcases hc with z | z
  ·rw[z];exact nit b u e
  ·exact nit c _ z
theorem Inv.tok(I:Inv X pins σ H s)(t:Nat):Inv X pins σ H {s with toks:=t}:=I.un (h':=s.heap) (t':=t) Un.refl I.hok
theorem Inv.kept{t':Nat}(I:Inv X pins σ H s)(k:∀b u,s.heap.get? b=some u->h'.get? b=some u):Inv X pins σ H {s with heap:=h',toks:=t'}:=I.un (Un.kept k) (I.hok.kept k)
theorem Inv.laid{a:Addr}{o:HO}{t':Nat}(I:Inv X pins σ H s)(k:∀b u,s.heap.get? b=some u->h'.get? b=some u)(hp:s.heap.objs.size<=a)(new:Ar X.prog X.w (upd H a o) h' a o):
  Inv X pins σ (upd H a o) {s with heap:=h',toks:=t'}:=I.un (Un.laid k hp (I.hok.fresh hp)) (I.hok.laid k hp new)
theorem Inv.write{x e:Addr}{o:HO}{t':Nat}(I:Inv X pins σ H s)(mu:Mut (H x))(he:e=x\/H e=some (.own x))(k:∀b u,b≠e->s.heap.get? b=some u->h'.get? b=some u)(heo:∃u,h'.get? e=some u)
  (new:Ar X.prog X.w (upd H x o) h' x o):Inv X pins σ (upd H x o) {s with heap:=h',toks:=t'}:=I.un (Un.write mu he k heo) (I.hok.write mu he k heo new)
theorem Inv.pins_of{pins':List (Addr×Obj)}(I:Inv X pins σ H s)(h:∀p∈pins',s.heap.get? p.1=some p.2/\H p.1=none/\p.1≠X.env.locals/\p.1∉X.fs/\∀v,p.2.data ≠ .cell v):Inv X pins' σ H s:=
 ⟨I.ok,I.os,I.bare,I.base,I.loc,I.cell,I.free,I.freeC,λp hp=>(Ls.mp hp).elim (λz=>I.pin p (M7 _ z)) (h p),I.hok,I.len⟩
theorem Ih{N:List Str}(hN:N.Nodup){i j:Nat}{x:Str}(a:N[i]? = some x)(b:N[j]? = some x):i=j:=by
 obtain⟨h1,e1⟩:=L3.mp a;obtain⟨h2,e2⟩:=L3.mp b;exact(List.getElem_inj hN).mp (e1.trans e2.symm)
theorem Ii{M:Model}{A:Around}{E:Value->Shared->Prop}{i:Nat}{x:Str}{v:V}{u:Value}{Q:Unit->Shared->Prop}(I:Inv X pins σ H s)(hN:X.N.Nodup)(hi:X.N[i]? = some x)(hx:Loc X.env.scope x)(r:Ah v u)
  (h:∀s',Inv X pins (σ.set i (some v)) H s'->(∃a,Heap.SameBut a s.heap s'.heap/\(a=X.env.locals\/X.env.cells.lookup x=some a))->Q () s') (hf:X.fn x=true\/X.env.scope.names.lookup x=some .local:=by first | exact .inl rfl | exact .inr rfl | assumption):wpAny M A (storeName X.env x u) Q E s:=by
 obtain⟨m,hn,hl⟩:=id I.loc;have hcls:(X.env.scope.kind == .class||(X.env.scope.kind == .module&&X.env.locals != X.env.globals))=false:=by rw[I.ok.kind];rfl
 have hiσ:i < σ.length:=by rw[I.len];exact(L3.mp hi).1
 have cne:=I.cne;have tracked:∀{a:Addr} {h':Heap},(∃o,s.heap.get? a=some o/\H a=none)->Heap.SameBut a s.heap h'->HOk X.prog X.w H h':=λ{a h'} ha hs b ob e=>by
  obtain⟨_,_,hfree⟩:=ha;refine(I.hok b ob e).stay (λc w' hc q=>(hs.2 c ?_).trans q) (λ_ q=>q) λ_ _ q=>q;rintro rfl;rcases hc with rfl | hc
  ·rw[hfree] at e;cases e
  ·rw[hfree] at hc;cases hc
 rcases hx with hk | hk
 ·refine wpAny_storeName_local hk hn (λh' hn' hs=>?_) hcls;obtain⟨oL,_,_,hoL,_⟩:=id hn;refine h _ ⟨I.ok,I.os,I.bare,⟨λb o e n hb hx=>?_,λb o e n hb hx=>?_,I.base.free,λb o e hx=>?_,I.base.tups,I.base.frzs,I.base.tbls⟩,⟨_,hn',λj y v' e1 e2 e3=>?_⟩,λy c e=>?_,I.free,I.freeC,λp hp=>?_,tracked ⟨oL,hoL,I.free⟩ hs,by simpa using I.len⟩ ⟨_,hs,.inl rfl⟩
  ·exact(hs.2 b (Lr (L5 (Pw e) I.ok.above))).trans (I.base.keep b o e n hb hx)
  ·obtain⟨sl,e1⟩:=I.base.slot b o e n hb hx;exact⟨sl,(hs.2 b (Lr (L5 (Pw e) I.ok.above))).trans e1⟩
  ·obtain⟨o',e1⟩:=I.base.there b o e hx;exact⟨o',(hs.2 b (Lr (L5 (Pw e) I.ok.above))).trans e1⟩
  ·by_cases hj:j=i
   ·subst hj;rw[hi] at e1;cases e1;rw[Oq hiσ] at e2;cases e2;exact⟨u,r,.inl ⟨hk,by simp⟩⟩
   ·rw[O3 (Ne.symm hj)] at e2;obtain⟨u',r',q⟩:=hl j y v' e1 e2 e3;refine⟨u',r',?_⟩;rcases q with ⟨k,e⟩ | ⟨k,c,e,z⟩
    ·refine .inl ⟨k,?_⟩;have:y≠x:=λe=>hj (Ih hN e1 (e ▸ hi));simp[this,e]
    ·exact .inr ⟨k,c,e,z.sameBut hs (cne y c e)⟩
  ·obtain⟨w',z⟩:=I.cell y c e;exact⟨w',z.sameBut hs (cne y c e)⟩
  ·obtain⟨e,n,ne,nf,d⟩:=I.pin p hp;exact⟨(hs.2 p.1 ne).trans e,n,ne,nf,d⟩
 ·have hfn:X.fn x=true:=by
   rcases hf with z | z
   ·exact z
   ·rw[z] at hk;cases hk
  obtain⟨c,hc⟩:=I.ok.has x (.inl hk);obtain⟨w',z⟩:=I.cell x c hc;refine wpAny_storeName_cell I.ok.kind hk hc z (λh' hc' hs=>?_);obtain⟨oc,hoc,hocd⟩:=id z;refine h {s with heap:=h'} ⟨I.ok,I.os,I.bare,⟨λb o e n hb hx=>?_,λb o e n hb hx=>?_,I.base.free,λb o e hx=>?_,I.base.tups,I.base.frzs,I.base.tbls⟩,⟨m,hn.sameBut hs (Ne.symm (cne x c hc)),λj y v' e1 e2 e3=>?_⟩,λy c' e=>?_,I.free,I.freeC,λp hp=>?_,tracked ⟨oc,hoc,I.freeC x c hc⟩ hs,by simpa using I.len⟩ ⟨c,hs,.inr hc⟩
  ·exact(hs.2 b (Lr (L5 (Pw e) (I.ok.cab x c hfn hc)))).trans (I.base.keep b o e n hb hx)
  ·obtain⟨sl,e1⟩:=I.base.slot b o e n hb hx;exact⟨sl,(hs.2 b (Lr (L5 (Pw e) (I.ok.cab x c hfn hc)))).trans e1⟩
  ·obtain⟨o',e1⟩:=I.base.there b o e hx;exact⟨o',(hs.2 b (Lr (L5 (Pw e) (I.ok.cab x c hfn hc)))).trans e1⟩
  ·by_cases hj:j=i
   ·subst hj;rw[hi] at e1;cases e1;rw[Oq hiσ] at e2;cases e2;exact⟨u,r,.inr ⟨.inl hk,c,hc,hc'⟩⟩
   ·rw[O3 (Ne.symm hj)] at e2;obtain⟨u',r',q⟩:=hl j y v' e1 e2 e3;refine⟨u',r',?_⟩;rcases q with q | ⟨k,c',e,z'⟩
    ·exact .inl q
    ·refine .inr ⟨k,c',e,z'.sameBut hs ?_⟩;rintro rfl;exact hj (Ih hN e1 (I.ok.inj _ _ _ e hc ▸ hi))
  ·by_cases hcc:c'=c
   ·subst hcc;exact⟨_,hc'⟩
   ·obtain⟨w2,z2⟩:=I.cell y c' e;exact⟨w2,z2.sameBut hs hcc⟩
  ·obtain⟨e,n,ne,nf,d⟩:=I.pin p hp;refine⟨(hs.2 p.1 ?_).trans e,n,ne,nf,d⟩;intro q;rw[q,hoc] at e;have q':oc=p.2:=Lq e;exact d w' (by rw[<-q'];exact hocd)
theorem Xab{M:Model}{A:Around}{E:Value->Shared->Prop}{i:Nat}{x:Str}{v:V}{u:Value}{Q:Unit->Shared->Prop}(I:Inv X pins σ H s)(hN:X.N.Nodup)(hi:X.N[i]? = some x)(hx:Loc X.env.scope x)(r:Ah v u)
  (h:∀s',Inv X pins (σ.set i (some v)) H s'->Q () s') (hf:X.fn x=true\/X.env.scope.names.lookup x=some .local:=by first | exact .inl rfl | exact .inr rfl | assumption):wpAny M A (storeName X.env x u) Q E s:=
 Ii I hN hi hx r (λs' I' _=>h s' I') hf
theorem Inv.call'{s':Shared}{ch:List Addr}(I:Inv X pins σ H s)(ho:s'.os=s.os)(u:Un (frs X.stack) ch H H' s.heap s'.heap)(hok:HOk X.prog X.w H' s'.heap)(hg:AllBare s'.gens)
  (hch:∀b∈ch,(b∈X.ex\/X.s₀.heap.objs.size<=b)/\b≠X.env.locals/\(∀x c,X.env.cells.lookup x=some c->c≠b)/\∀p∈X.pn++pins,p.1≠b):Inv X pins σ H' s':=by
 obtain⟨h',g',d',t',o'⟩:=s';have e:o'=s.os:=ho;subst e;exact I.call (g':=g') (t':=t') (d':=d') u hok hg hch
end
abbrev XK:=Value->Option Addr->Hp->Prop
abbrev St:=List (Option V)
abbrev VK:=V->Hp->Prop
abbrev TE:=St->Hp->VK->Prop
abbrev TT:=St->Hp->(Bool->Hp->Prop)->Prop
abbrev TA:=St->Hp->(List V->Hp->Prop)->Prop
structure Ends where
 nx:St->Hp->Prop
 rt:VK
 bk:St->Hp->Prop:=λ_ _=>False
 ct:St->Hp->Prop:=λ_ _=>False
abbrev TS:=Ends->St->Hp->Prop
def EP (X:Cx) (pins:List (Addr×Obj)) (σ:St) (Q:VK) (u:Value) (s':Shared):Prop:=∃v H',Inv X pins σ H' s'/\Ah v u/\Q v H'
def TP (X:Cx) (pins:List (Addr×Obj)) (σ:St) (Q:Bool->Hp->Prop) (b:Bool) (s':Shared):Prop:=∃H',Inv X pins σ H' s'/\Q b H'
def AP (X:Cx) (pins:List (Addr×Obj)) (σ:St) (Q:List V->Hp->Prop) (us:List Value) (s':Shared):Prop:=∃vs H',Inv X pins σ H' s'/\Vals vs us/\Q vs H'
def SP (X:Cx) (pins:List (Addr×Obj)) (D:Ends) (f:Flow) (s':Shared):Prop:=
 match f with
 | .next=>∃σ' H',Inv X pins σ' H' s'/\D.nx σ' H'
 | .brk=>∃σ' H',Inv X pins σ' H' s'/\D.bk σ' H'
 | .cont=>∃σ' H',Inv X pins σ' H' s'/\D.ct σ' H'
 | .ret u=>∃v σ' H',Inv X pins σ' H' s'/\Ah v u/\D.rt v H'
def PE (X:Cx) (e:Expr) (t:TE):Prop:=
 ∀(pins:List (Addr×Obj)) (s:Shared) (σ:St) (H:Hp) (Q:VK),Inv X pins σ H s->t σ H Q->wpAny (model X.prog X.w) X.A (eval e X.env) (EP X pins σ Q) X.xe s
def PT (X:Cx) (e:Expr) (t:TT):Prop:=
 ∀(pins:List (Addr×Obj)) (s:Shared) (σ:St) (H:Hp) (Q:Bool->Hp->Prop),Inv X pins σ H s->t σ H Q->wpAny (model X.prog X.w) X.A (isTrue e X.env (eval e X.env)) (TP X pins σ Q) X.xe s
def PW (X:Cx) (e:Expr) (t:TT):Prop:=
 ∀(whole:Sem Value) (pins:List (Addr×Obj)) (s:Shared) (σ:St) (H:Hp) (Q:Bool->Hp->Prop),Inv X pins σ H s->t σ H Q->wpAny (model X.prog X.w) X.A (isTrue e X.env whole) (TP X pins σ Q) X.xe s
theorem PW.pt{X:Cx}{e:Expr}{t:TT}(h:PW X e t):PT X e t:=h _
def PA (X:Cx) (es:List Expr) (t:TA):Prop:=
 ∀(pos:Pos) (pins:List (Addr×Obj)) (s:Shared) (σ:St) (H:Hp) (Q:List V->Hp->Prop),Inv X pins σ H s->t σ H Q->wpAny (model X.prog X.w) X.A (spliced (backTo pos (starEach es X.env))) (AP X pins σ Q) X.xe s
def PS (X:Cx) (st:Stmt) (t:TS):Prop:=
 ∀(pins:List (Addr×Obj)) (s:Shared) (σ:St) (H:Hp) (D:Ends),Inv X pins σ H s->t D σ H->wpAny (model X.prog X.w) X.A (exec st X.env) (SP X pins D) X.xe s
def PSs (X:Cx) (st:List Stmt) (t:TS):Prop:=
 ∀(pins:List (Addr×Obj)) (s:Shared) (σ:St) (H:Hp) (D:Ends),Inv X pins σ H s->t D σ H->wpAny (model X.prog X.w) X.A (execs st X.env) (SP X pins D) X.xe s
theorem thn{α : Type}{t:Sem α}{Q Q' : α->Shared->Prop}{M:Model}{A:Around}{E:Value->Shared->Prop}{s:Shared}(h:wpAny M A t Q E s)(hQ:∀a s,Q a s->Q' a s):wpAny M A t Q' E s:=wpAny_mono h hQ λ_ _ x=>x
section
variable {X:Cx}
def Ca (i:Nat):TE:=fun σ H Q=>∃v, σ[i]? = some (some v)/\Q v H
def tC (v:V):TE:=λ_ H Q=>Q v H
theorem Xfx{i:Nat}{x:Str}{pos:Pos}(hN:X.N[i]? = some x)(hv:Vis X.env.scope x)(hd:(x==("__debug__" : Str))=false:=by decide)(hcd:(x==("__classdict__" : Str))=false:=by decide):PE X (.Name x pos) (Ca i):=by
 intro pins s σ H Q I h;obtain⟨v,e,h⟩:=h;obtain⟨m,hn,hl⟩:=I.loc;obtain⟨u,r,l⟩:=hl i x v hN e hv;have fin:EP X pins σ Q u s:=⟨v,H,I,r,h⟩;rcases l with ⟨hk,hm⟩ | ⟨hk,c,hc,hcell⟩
 ·exact wpAny_Name (wpAny_loadName_local I.ok.kind hk hn hm fin) hd
 ·rcases hk with hk | hk
  ·exact wpAny_Name (wpAny_loadName_cell I.ok.kind hk hc hcell fin) hd
  ·exact wpAny_Name (wpAny_loadName_free I.ok.kind hk hc hcell fin hcd) hd
theorem Ag{i j pos}:PE X (.Constant (.int i) j pos) (tC (.int i)):=λ_ _ _ H _ I h=>wpAny_Constant_int ⟨.int i,H,I.tok _,⟨_,rfl⟩,h⟩
theorem Dp{b j pos}:PE X (.Constant (.bool b) j pos) (tC (.bl b)):=λ_ _ _ H _ I h=>Constant_bool ⟨.bl b,H,I,rfl,h⟩
theorem Fi{j pos}:PE X (.Constant .none j pos) (tC .non):=λ_ _ _ H _ I h=>Constant_none ⟨.non,H,I,rfl,h⟩
theorem A7{x j pos}:PE X (.Constant (.str x) j pos) (tC (.str x)):=λ_ _ _ H _ I h=>Calls.Constant_str ⟨.str x,H,I.tok _,⟨_,rfl⟩,h⟩
def Gl (X:Cx) (x:Str):Prop:=X.env.kindOf x=some .globalImplicit
theorem D4{E:Value->Shared->Prop}{pins:List (Addr×Obj)}{s:Shared}{σ:St}{H:Hp}{x:Str}{u:Value}{pos:Pos}{Q:Value->Shared->Prop}(I:Inv X pins σ H s)(hg:Gl X x)(hm:X.mg x=some u)(h:Q u s)
  (hd:(x==("__debug__" : Str))=false:=by decide):wpAny (model X.prog X.w) X.A (eval (.Name x pos) X.env) Q E s:=
 Calls.Name_function_global I.ok.kind hg (Calls.loadGlobal_global (by rw[I.ok.glob];exact I.mod.glob.keeps I.bk) hm h) hd
theorem Fj{E:Value->Shared->Prop}{pins:List (Addr×Obj)}{s:Shared}{σ:St}{H:Hp}{x:Str}{u:Value}{pos:Pos}{Q:Value->Shared->Prop}(I:Inv X pins σ H s)(hg:Gl X x)(hm:X.mg x=none)(hv:bootBuiltins x=some u)(h:Q u s)
  (hn:x ≠ "__name__" := by decide) (hd:(x==("__debug__" : Str))=false:=by decide):wpAny (model X.prog X.w) X.A (eval (.Name x pos) X.env) Q E s:=by
 obtain⟨mb,h1,h2⟩:=I.mod.blt;exact Calls.Name_function_global I.ok.kind hg (Calls.loadGlobal_builtin (by rw[I.ok.glob];exact I.mod.glob.keeps I.bk) hm (by rw[I.ok.blt];exact h1.keeps I.bk) ((h2 x hn).trans hv) h) hd
theorem Ij{x:Str}{v:V}{u:Value}{pos:Pos}(hg:Gl X x)(hm:X.mg x=some u)(r:Ah v u)(hd:(x==("__debug__" : Str))=false:=by decide):PE X (.Name x pos) (tC v):=
 λ_ _ _ H _ I h=>D4 I hg hm ⟨v,H,I,r,h⟩ hd
theorem Ik{x:Str}{v:V}{u:Value}{pos:Pos}(hg:Gl X x)(hm:X.mg x=none)(hv:bootBuiltins x=some u)(r:Ah v u)(hn:x ≠ "__name__" := by decide)(hd:(x==("__debug__" : Str))=false:=by decide):PE X (.Name x pos) (tC v):=
 λ_ _ _ H _ I h=>Fj I hg hm hv ⟨v,H,I,r,h⟩ hn hd
def t2I (ta tb:TE) (k:Int->Int->Hp->Prop):St->Hp->Prop:=fun σ H=>ta σ H λx H1=>tb σ H1 λy H2=>∃i j,x = .int i/\y = .int j/\k i j H2
def tMul (ta tb:TE):TE:=fun σ H Q=>t2I ta tb (λi j H2=>(-(2 ^ 64)<i/\i<2 ^ 64)/\Q (.int (i * j)) H2) σ H
variable {a b:Expr}{ta tb:TE}{pos:Pos}
def PC (X:Cx) (op:CmpOp) (a b:Expr) (t:TE):Prop:=
 ∀(pins:List (Addr×Obj)) (s:Shared) (σ:St) (H:Hp) (Q:VK),Inv X pins σ H s->t σ H Q ->
  wpAny (model X.prog X.w) X.A (eval a X.env) (λv s₁=>wpAny (model X.prog X.w) X.A (eval b X.env) (λu s₂=>wpAny (model X.prog X.w) X.A (compareOp op v u) (EP X pins σ Q) X.xe s₂) X.xe s₁) X.xe s
def tIsN (ta:TE):TE:=fun σ H Q=>ta σ H λx H1=>Q (.bl (decide (x = .non))) H1
def tB (t:TE):TT:=fun σ H Q=>t σ H λx H1=>∃c,x = .bl c/\Q c H1
theorem Xfy{op:CmpOp}{t:TE}(h:PC X op a b t)(h1:behindInMarks op b=false:=by first | exact nobehind _ (by decide) (by decide) | rfl):PE X (.Compare a [op] [b] pos) t:=λpins s σ H Q I hw=>wpAny_Compare1 (h pins s σ H Q I hw) h1
theorem Cb{e:Expr}{t:TE}(h:PE X e t)(he:∀whole,isTrue e X.env whole=(do let v <-whole;standAt e.pos;holding [v] (truthy v)):=by intro _;rfl):PT X e (tB t):=by
 intro pins s σ H Q I hw;refine isTrue_plain (thn (h pins s σ H _ I hw) λv s1 ⟨x,H1,I1,r1,q1⟩=>?_) (he _);obtain⟨d,rfl,q⟩:=q1;cases r1;exact wpAny_truthy_bool ⟨H1,I1,q⟩
variable {tA tB':TT}{rest:List Expr}
def tAnd (t u:TT):TT:=fun σ H Q=>t σ H λc H1=>if c=true then u σ H1 Q else Q false H1
def tOr (t u:TT):TT:=fun σ H Q=>t σ H λc H1=>if c=true then Q true H1 else u σ H1 Q
def tNot (t:TT):TT:=fun σ H Q=>t σ H λc H1=>Q (!c) H1
theorem C4(ha:PT X a tA):PW X (.BoolOp .And [a] pos) tA:=by
 intro wh pins s σ H Q I h;refine isTrue_and (thn (ha pins s σ H Q I h) λc s1 e=>?_);cases c with
 | true=>exact isTrue_and_nil e
 | false=>exact e
theorem Fk(ha:PT X a tA):PW X (.BoolOp .Or [a] pos) tA:=by
 intro wh pins s σ H Q I h;refine isTrue_or (thn (ha pins s σ H Q I h) λc s1 e=>?_);cases c with
 | false=>exact isTrue_or_nil e
 | true=>exact e
theorem Ct(ha:PT X a tA)(hb:PW X (.BoolOp .And (b::rest) pos) tB'):PW X (.BoolOp .And (a::b::rest) pos) (tAnd tA tB'):=by
 intro wh pins s σ H Q I h;refine isTrue_and (thn (ha pins s σ H _ I h) λc s1 ⟨H1,I1,q1⟩=>?_);cases c with
 | true=>exact hb wh pins s1 σ H1 Q I1 q1
 | false=>exact⟨H1,I1,q1⟩
theorem Fl(ha:PT X a tA)(hb:PW X (.BoolOp .Or (b::rest) pos) tB'):PW X (.BoolOp .Or (a::b::rest) pos) (tOr tA tB'):=by
 intro wh pins s σ H Q I h;refine isTrue_or (thn (ha pins s σ H _ I h) λc s1 ⟨H1,I1,q1⟩=>?_);cases c with
 | true=>exact⟨H1,I1,q1⟩
 | false=>exact hb wh pins s1 σ H1 Q I1 q1
theorem Gp(ha:PT X a tA):PT X (.UnaryOp .Not a pos) (tNot tA):=by
 intro pins s σ H Q I h;exact isTrue_not (ha pins s σ H (λc H1=>Q (!c) H1) I h)
def Xfz (ta tb:TE):TE:=fun σ H Q=>ta σ H λx H1=>∃c,x = .bl c/\if c=true then tb σ H1 Q else Q (.bl false) H1
def tOrV (ta tb:TE):TE:=fun σ H Q=>ta σ H λx H1=>∃c,x = .bl c/\if c=true then Q (.bl true) H1 else tb σ H1 Q
def Xf0 (ta:TE):TE:=fun σ H Q=>ta σ H λx H1=>∃c,x = .bl c/\Q (.bl (!c)) H1
theorem Il{op}{t:TE}(h:PE X a t):PE X (.BoolOp op [a] pos) t:=λpins s σ H Q I hw=>BoolOp_one (h pins s σ H Q I hw)
theorem Xf1(ha:PE X a ta)(hb:PE X (.BoolOp .And (b::rest) pos) tb):PE X (.BoolOp .And (a::b::rest) pos) (Xfz ta tb):=by
 intro pins s σ H Q I h;refine BoolOp_and (thn (ha pins s σ H _ I h) λv s1 ⟨x,H1,I1,r1,q1⟩=>?_);obtain⟨c,rfl,q1⟩:=q1;cases r1;refine wpAny_truthy_bool ?_;cases c with
 | true=>exact hb pins s1 σ H1 Q I1 q1
 | false=>exact⟨.bl false,H1,I1,rfl,q1⟩
theorem Xac(ha:PE X a ta)(hb:PE X (.BoolOp .Or (b::rest) pos) tb):PE X (.BoolOp .Or (a::b::rest) pos) (tOrV ta tb):=by
 intro pins s σ H Q I h;refine BoolOp_or (thn (ha pins s σ H _ I h) λv s1 ⟨x,H1,I1,r1,q1⟩=>?_);obtain⟨c,rfl,q1⟩:=q1;cases r1;refine wpAny_truthy_bool ?_;cases c with
 | false=>exact hb pins s1 σ H1 Q I1 q1
 | true=>exact⟨.bl true,H1,I1,rfl,q1⟩
theorem Xf2(ha:PE X a ta):PE X (.UnaryOp .Not a pos) (Xf0 ta):=by
 intro pins s σ H Q I h;refine UnaryOp_ (thn (ha pins s σ H _ I h) λv s1 ⟨x,H1,I1,r1,q1⟩=>?_);obtain⟨c,rfl,q1⟩:=q1;cases r1;exact not_of (wpAny_truthy_bool ⟨.bl (!c),H1,I1,rfl,q1⟩)
def tIf (t:TT) (ta tb:TE):TE:=fun σ H Q=>t σ H λc H1=>if c=true then ta σ H1 Q else tb σ H1 Q
theorem Gq{c:Expr}(hc:PT X c tA)(ha:PE X a ta)(hb:PE X b tb):PE X (.IfExp c a b pos) (tIf tA ta tb):=by
 intro pins s σ H Q I h;refine wpAny_IfExp (thn (hc pins s σ H _ I h) λd s1 ⟨H1,I1,q1⟩=>?_);cases d with
 | true=>exact ha pins s1 σ H1 Q I1 q1
 | false=>exact hb pins s1 σ H1 Q I1 q1
end
def SqL (K:PySem.W.Frag) (H:Hp) (a:Addr) (xs:List V):Prop:=
 Rd H a (.lst xs) \/
  ∃(o:Obj) (its:Array Value) (n:Nat),K.lookup a=some o/\o.cls = .type "list" /\ o.dict=none/\o.data = .seq its n/\its.size<=sizeLine/\Vals xs its.toList
def SqT (K:PySem.W.Frag) (H:Hp) (a:Addr) (xs:List V):Prop:=
 Rd H a (.tup xs) \/
  ∃(o:Obj) (its:Array Value) (n:Nat),K.lookup a=some o/\o.cls = .type "tuple" /\ o.data = .seq its n/\its.size<=sizeLine/\Vals xs its.toList
def absV:Value->Option V
 | .none=>some .non
 | .bool b=>some (.bl b)
 | .int i _=>some (.int i)
 | .str x _=>some (.str x)
 | .bytes b _=>some (.byt b)
 | .float b _=>some (.flt b)
 | .ref a=>some (.ref a)
 | .type n=>some (.ty n)
 | _=>none
theorem Ah.abs{x:V}{u:Value}(r:Ah x u):absV u=some x:=by
 cases x with
 | non=>cases r;rfl
 | bl _=>cases r;rfl
 | int _=>obtain⟨t,rfl⟩:=r;rfl
 | str _=>obtain⟨t,rfl⟩:=r;rfl
 | byt _=>obtain⟨t,rfl⟩:=r;rfl
 | flt _=>obtain⟨t,rfl⟩:=r;rfl
 | ref _=>cases r;rfl
 | ty _=>cases r;rfl
theorem Ah.inj{x y:V}{u:Value}(r:Ah x u)(q:Ah y u):x=y:=Lq (r.abs.symm.trans q.abs)
theorem Vals.inj:∀{xs ys:List V} {us:List Value},Vals xs us->Vals ys us->xs=ys
 | _,_,_,.nil,.nil=>rfl
 | _,_,_,.cons r t,.cons r' t'=>by rw[r.inj r',Vals.inj t t']
section
variable {X:Cx}{pins:List (Addr×Obj)}{σ:St}{H:Hp}{s:Shared}{a:Addr}{xs ys:List V}
theorem SqL.of{K:PySem.W.Frag}(h:H a=some (.lst xs)):SqL K H a xs:=.inl (.inl h)
theorem SqT.of{K:PySem.W.Frag}(h:H a=some (.tup xs)):SqT K H a xs:=.inl (.inl h)
theorem Inv.list(I:Inv X pins σ H s)(h:SqL X.K H a xs):∃its:List Value,Vals xs its/\PlainL s.heap a its.toArray/\xs.length<=sizeLine:=by
 rcases h with h | ⟨o,its,n,hk,hc,hd,hs,hz,r⟩
 ·obtain⟨z,its,n,r,e⟩:=h.ok I.hok;exact⟨its,r,⟨_,n,e,rfl,rfl,rfl⟩,z⟩
 ·refine⟨its.toList,r,⟨o,n,I.kIn a o hk,hc,hd,by simpa using hs⟩,?_⟩;have e:=r.length;simp only[Lp] at e;omega
theorem Inv.tuple(I:Inv X pins σ H s)(h:SqT X.K H a xs):∃its:List Value,Vals xs its/\IsTup s.heap a its.toArray/\xs.length<=sizeLine:=by
 rcases h with h | ⟨o,its,n,hk,hc,hs,hz,r⟩
 ·obtain⟨z,its,r,p⟩:=h.ok I.hok;exact⟨its,r,p,z⟩
 ·refine⟨its.toList,r,⟨o,I.kIn a o hk,hc,n,by simpa using hs⟩,?_⟩;have e:=r.length;simp only[Lp] at e;omega
theorem Inv.list_inj(I:Inv X pins σ H s)(h:SqL X.K H a xs)(h':SqL X.K H a ys):xs=ys:=by
 obtain⟨its,r,⟨o,n,e,_,_,d⟩,_⟩:=I.list h;obtain⟨its',r',⟨o',n',e',_,_,d'⟩,_⟩:=I.list h';rw[e] at e';cases e';rw[d] at d';injection d' with d1 _
 have:its=its':=by simpa using congrArg Array.toList d1
 subst this;exact r.inj r'
theorem Inv.tuple_inj(I:Inv X pins σ H s)(h:SqT X.K H a xs)(h':SqT X.K H a ys):xs=ys:=by
 obtain⟨its,r,⟨o,e,_,n,d⟩,_⟩:=I.tuple h;obtain⟨its',r',⟨o',e',_,n',d'⟩,_⟩:=I.tuple h';rw[e] at e';cases e';rw[d] at d';injection d' with d1 _
 have:its=its':=by simpa using congrArg Array.toList d1
 subst this;exact r.inj r'
end
abbrev Cx.wish (X:Cx) (E:Value->Shared->Prop):Cx:={X with xe:=E}
abbrev Cx.nox (X:Cx):Cx:=X.wish λ_ _=>False
theorem Cx.Ok.wish{X:Cx}(ok:X.Ok)(E:Value->Shared->Prop):(X.wish E).Ok:=
 ⟨ok.mod,ok.kind,ok.glob,ok.blt,ok.above,ok.inj,ok.has,ok.cab,ok.hd,ok.frames,ok.stk,ok.exf,ok.bs,ok.bsz,ok.noex,ok.exfs,ok.funs,ok.frf⟩
theorem Cx.Ok.unwish{X:Cx}{E:Value->Shared->Prop}(ok:(X.wish E).Ok):X.Ok:=
 ⟨ok.mod,ok.kind,ok.glob,ok.blt,ok.above,ok.inj,ok.has,ok.cab,ok.hd,ok.frames,ok.stk,ok.exf,ok.bs,ok.bsz,ok.noex,ok.exfs,ok.funs,ok.frf⟩
section
variable {X:Cx}{pins:List (Addr×Obj)}{σ:St}{H:Hp}{s:Shared}{E:Value->Shared->Prop}
theorem Inv.wish(I:Inv X pins σ H s)(E:Value->Shared->Prop):Inv (X.wish E) pins σ H s:=⟨I.ok.wish E,I.os,I.bare,I.base,I.loc,I.cell,I.free,I.freeC,I.pin,I.hok,I.len⟩
theorem Inv.unwish(I:Inv (X.wish E) pins σ H s):Inv X pins σ H s:=⟨I.ok.unwish,I.os,I.bare,I.base,I.loc,I.cell,I.free,I.freeC,I.pin,I.hok,I.len⟩
theorem SP.unwish{D:Ends}{f:Flow}{s':Shared}(h:SP (X.wish E) pins D f s'):SP X pins D f s':=by
 cases f with
 | next=>obtain⟨σ',H',I,q⟩:=h;exact⟨σ',H',I.unwish,q⟩
 | brk=>obtain⟨σ',H',I,q⟩:=h;exact⟨σ',H',I.unwish,q⟩
 | cont=>obtain⟨σ',H',I,q⟩:=h;exact⟨σ',H',I.unwish,q⟩
 | ret u=>obtain⟨v, σ',H',I,r,q⟩:=h;exact⟨v, σ',H',I.unwish,r,q⟩
theorem PSs.nox{st:List Stmt}{t:TS}(h:PSs X.nox st t):PSs X st t:=λpins s σ H D I hw=>
 wpAny_mono (h pins s σ H D (I.wish _) hw) (λ_ _ q=>q.unwish) λ_ _ z=>False.elim z
end
section
variable {X:Cx}{st:Stmt}{rest:List Stmt}{t u:TS}{e:Expr}{te:TE}{pos:Pos}
def Im:TS:=λD σ H=>D.nx σ H
def Fm (t u:TS):TS:=λD σ H=>t {D with nx:=u D} σ H
theorem A6:PSs X [] Im:=λ_ _ σ H _ I h=>wpAny_execs_nil ⟨σ,H,I,h⟩
theorem Ad(h1:PS X st t)(h2:PSs X rest u):PSs X (st::rest) (Fm t u):=by
 intro pins s σ H D I h;refine wpAny_execs_cons (thn (h1 pins s σ H {D with nx:=u D} I h) λf s1 q=>?_);cases f with
 | next=>
  obtain⟨σ',H',I',q⟩:=q;exact h2 pins s1 σ' H' D I' q
 | ret v=>exact q
 | brk=>exact q
 | cont=>exact q
theorem Ae(h1:PS X st t):PSs X [st] t:=by
 intro pins s σ H D I h;refine wpAny_execs_cons (thn (h1 pins s σ H D I h) λf s1 q=>?_);cases f with
 | next=>exact wpAny_execs_nil q
 | ret v=>exact q
 | brk=>exact q
 | cont=>exact q
theorem Inv.quiet{pins:List (Addr×Obj)}{σ:St}{H:Hp}{s:Shared}(I:Inv X pins σ H s):interactive X.env=false:=by simp[interactive,I.ok.kind]
def Xad (te:TE):TS:=λD σ H=>te σ H λ_ H1=>D.nx σ H1
theorem C5(he:PE X e te)(hs:swapsWith e none pos.line X.env=pure false:=by rfl):PS X (.Expr e pos) (Xad te):=by
 intro pins s σ H D I h;exact wpAny_Expr_any (thn (he pins s σ H _ I h) λv s1 ⟨x,H1,I1,r1,q1⟩=>⟨σ,H1,I1,q1⟩) I.quiet hs
def Xae (te:TE):TS:=λD σ H=>te σ H D.rt
theorem Am(he:PE X e te):PS X (.Return (some e) pos) (Xae te):=by
 intro pins s σ H D I h;exact wpAny_Return_some (thn (he pins s σ H _ I h) λv s1 ⟨x,H1,I1,r1,q1⟩=>⟨x, σ,H1,I1,r1,q1⟩)
def Fo (c:TT) (t u:TS):TS:=λD σ H=>c σ H λb H1=>if b=true then t D σ H1 else u D σ H1
theorem A3{c:Expr}{a b:List Stmt}{tc:TT}(hc:PT X c tc)(ha:PSs X a t)(hb:PSs X b u):PS X (.If c a b pos) (Fo tc t u):=by
 intro pins s σ H D I h;refine wpAny_If (thn (hc pins s σ H _ I h) λd s1 ⟨H1,I1,q1⟩=>?_);cases d with
 | true=>exact ha pins s1 σ H1 D I1 q1
 | false=>exact hb pins s1 σ H1 D I1 q1
def Xpb:TS:=λ_ _ _=>False
end
abbrev TG:=V->St->Hp->(St->Hp->Prop)->Prop
abbrev TGs:=List V->St->Hp->(St->Hp->Prop)->Prop
def PG (X:Cx) (target:Expr) (t:TG):Prop:=
 ∀(pins:List (Addr×Obj)) (s:Shared) (σ:St) (H:Hp) (v:V) (u:Value) (Q:St->Hp->Prop),Inv X pins σ H s->Ah v u->t v σ H Q ->
  wpAny (model X.prog X.w) X.A (assign target X.env u) (λ_ s'=>∃σ' H',Inv X pins σ' H' s'/\Q σ' H') X.xe s
def PGs (X:Cx) (ts:List Expr) (t:TGs):Prop:=
 ∀(pins:List (Addr×Obj)) (s:Shared) (σ:St) (H:Hp) (vs:List V) (us:List Value) (Q:St->Hp->Prop),Inv X pins σ H s->Vals vs us->t vs σ H Q ->
  wpAny (model X.prog X.w) X.A (assignInOrder ((assignEach ts X.env).map (·.2)) us) (λ_ s'=>∃σ' H',Inv X pins σ' H' s'/\Q σ' H') X.xe s
abbrev TSet:=V->V->V->Hp->(Hp->Prop)->Prop
def PSet (X:Cx) (t:TSet):Prop:=
 ∀(pins:List (Addr×Obj)) (s:Shared) (σ:St) (H:Hp) (o i v:V) (ov iv u:Value) (Q:Hp->Prop),Inv X pins σ H s->Ah o ov->Ah i iv->Ah v u->t o i v H Q ->
  wpAny (model X.prog X.w) X.A (setItem ov iv u) (λ_ s'=>∃H',Inv X pins σ H' s'/\Q H') X.xe s
abbrev TIp:=V->V->Hp->VK->Prop
section
variable {X:Cx}{pos:Pos}
def Az (i:Nat):TG:=λv σ H Q=>Q (σ.set i (some v)) H
theorem A2{i:Nat}{x:Str}(hN:X.N.Nodup)(hi:X.N[i]? = some x)(hx:Loc X.env.scope x)(hf:X.fn x=true\/X.env.scope.names.lookup x=some .local:=by first | exact .inl rfl | exact .inr rfl | assumption):PG X (.Name x pos) (Az i):=by
 intro pins s σ H v u Q I r h;exact wpAny_assign_Name (Xab I hN hi hx r (λs' I'=>⟨_,H,I',h⟩) hf)
def Xaf:TGs:=λvs σ H Q=>vs=[]/\Q σ H
def Io (t:TG) (u:TGs):TGs:=λvs σ H Q=>∃v r,vs=v::r/\t v σ H fun σ' H'=>u r σ' H' Q
theorem Fp:PGs X [] Xaf:=by
 intro pins s σ H vs us Q I r h;obtain⟨e,h⟩:=h;subst e;cases r;exact assignInOrder_nil ⟨σ,H,I,h⟩
theorem Cj{e:Expr}{es:List Expr}{t:TG}{u:TGs}(h1:PG X e t)(h2:PGs X es u)
  (hs:(assignEach (e::es) X.env).map (·.2)=assign e X.env::(assignEach es X.env).map (·.2):=by rfl):PGs X (e::es) (Io t u):=by
 intro pins s σ H vs us Q I r h;obtain⟨v,vr,e1,h⟩:=h;subst e1;cases r with
 | cons r rr=>
  rw[hs];refine assignInOrder_cons (thn (h1 pins s σ H _ _ _ I r h) λ_ s1 ⟨σ1,H1,I1,q1⟩=>?_);exact h2 pins s1 σ1 H1 _ _ Q I1 rr q1
def Ip (K:PySem.W.Frag) (n:Nat) (t:TGs):TG:=λv σ H Q=>∃a xs,v = .ref a/\SqT K H a xs/\xs.length=n/\t xs σ H Q
theorem Xag{es:List Expr}{k:Nat}{t:TGs}{n:Nat}(hc:X.calm=true)(h:PGs X es t)
  (hn:(assignEach es X.env).length=n:=by rfl) (hst:(assignEach es X.env).findIdx? (·.1)=none:=by rfl):PG X (.Tuple es k pos) (Ip X.K n t):=by
 intro pins s σ H v u Q I r hw;obtain⟨a,xs,e1,hq,hl,hw⟩:=hw;subst e1;cases r;obtain⟨its,rv,ht,hz⟩:=I.tuple hq;refine assign_Tuple_tuple (I.ok.hd hc) ht (by simp[hn,<-hl,rv.length]) hst λh' hx=>?_;have I1:Inv X pins σ H {s with heap:=h'}:=I.kept (t':=s.toks) λb o e=>hx b o (Lr (Pw e)) e;exact h pins _ σ H xs _ Q I1 (by simpa using rv) hw
def gSub (to ti:TE) (t:TSet):TG:=λv σ H Q=>to σ H λo H1=>ti σ H1 λi H2=>t o i v H2 λH3=>Q σ H3
theorem D6{o i:Expr}{to ti:TE}{t:TSet}(ho:PE X o to)(hi:PE X i ti)(hs:PSet X t)
  (ha:∀v,assign (.Subscript o i pos) X.env v=(do
   let ov <-holding [v] (eval o X.env)
   let iv <-holding [v,ov] (eval i X.env)
   standAt pos
   holding [v,ov,iv] (setItem ov iv v)
   release [v,ov,iv] []):=by intro _;rfl):PG X (.Subscript o i pos) (gSub to ti t):=by
 intro pins s σ H v u Q I r h;rw[ha];refine Pm (wpAny_holding (thn (ho pins s σ H _ I h) λov s1 ⟨x,H1,I1,r1,q1⟩=>?_));refine Pm (wpAny_holding (thn (hi pins s1 σ H1 _ I1 q1) λiv s2 ⟨y,H2,I2,r2,q2⟩=>?_));refine Pm (wpAny_standAt (Pm (wpAny_holding (thn (hs pins s2 σ H2 x y v ov iv u _ I2 r1 r2 r q2) λ_ s3 ⟨H3,I3,q3⟩=>?_))));exact wpAny_release ⟨σ,H3,I3,q3⟩
def Iq (te:TE) (g:TG):TS:=λD σ H=>te σ H λx H1=>g x σ H1 D.nx
theorem C6{tg e:Expr}{te:TE}{g:TG}(he:PE X e te)(hg:PG X tg g)(hs:swapsWithSole [tg] e pos.line X.env=pure false:=by rfl)(hw:swappedStores [tg] e X.env=pure none:=by rfl)
  (h1:(assignEach [tg] X.env).map (·.2)=[assign tg X.env]:=by rfl):PS X (.Assign [tg] e pos) (Iq te g):=by
 intro pins s σ H D I h;refine wpAny_Assign_stores (thn (he pins s σ H _ I h) λv s1 ⟨x,H1,I1,r1,q1⟩=>?_) hs hw;rw[h1];exact thn (hg pins s1 σ H1 x v _ I1 r1 q1) λ_ s2 q=>q
theorem Ak{i:Nat}{x:Str}{e:Expr}{te:TE}{pos':Pos}(hN:X.N.Nodup)(hi:X.N[i]? = some x)(hx:Loc X.env.scope x)(he:PE X e te)(hs:swapsWith e (some (.Name x pos')) pos.line X.env=pure false:=by rfl)(hf:X.fn x=true\/X.env.scope.names.lookup x=some .local:=by first | exact .inl rfl | exact .inr rfl | assumption):
  PS X (.Assign [.Name x pos'] e pos) (Iq te (Az i)):=by
 intro pins s σ H D I h;refine wpAny_Assign_Name (thn (he pins s σ H _ I h) λv s1 ⟨y,H1,I1,r1,q1⟩=>?_) hs;exact Xab I1 hN hi hx r1 (λs2 I2=>⟨_,H1,I2,q1⟩) hf
def tPar (i j:Nat) (ta:TA):TS:=λD σ H=>ta σ H λvs H1=>∃v w,vs=[v,w]/\D.nx ((σ.set i (some v)).set j (some w)) H1
def tAug (i:Nat) (te:TE) (ti:TIp):TS:=λD σ H=>∃x, σ[i]? = some (some x)/\te σ H λy H1=>ti x y H1 λz H2=>D.nx (σ.set i (some z)) H2
def tAugS (to ti te:TE) (tget:V->V->Hp->VK->Prop) (tip:TIp) (tset:TSet):TS:=λD σ H=>to σ H λo H1=>ti σ H1 λi H2=>tget o i H2 λx H3=>te σ H3 λy H4=>tip x y H4 λz H5=>tset o i z H5 λH6=>D.nx σ H6
def PGet (X:Cx) (t:V->V->Hp->VK->Prop):Prop:=
 ∀(pins:List (Addr×Obj)) (s:Shared) (σ:St) (H:Hp) (o i:V) (ov iv:Value) (Q:VK),Inv X pins σ H s->Ah o ov->Ah i iv->t o i H Q ->
  wpAny (model X.prog X.w) X.A (getItem ov iv) (EP X pins σ Q) X.xe s
def ipI (f:Int->Int->Int):TIp:=λx y H Q=>∃i j,x = .int i/\y = .int j/\Q (.int (f i j)) H
end
section
variable {X:Cx}{pos:Pos}
def Xpc (c:TT) (tb:TS):TS:=λD σ H=>∃W:Nat->St->Hp->Prop,(∃m,W m σ H)/\∀m σ H,W m σ H ->
 c σ H λb H1=>if b=true then ∃N:St->Hp->Prop,(∀σ' H',N σ' H'->∃m',m'<m/\W m' σ' H')/\tb {D with nx:=N,ct:=N,bk:=D.nx} σ H1 else D.nx σ H1
end
structure It where
 go:Nat->Hp->Prop
 yld:Nat->Hp->V->Hp->Prop
 stop:Nat->Hp->Prop
def FpOk (X:Cx) (pins:List (Addr×Obj)) (H:Hp) (b:Addr):Prop:=
 H b=none/\b≠X.env.locals/\b∉X.fs/\(b∈X.ex\/X.s₀.heap.objs.size<=b)/\(∀x c,X.env.cells.lookup x=some c->c≠b)/\∀p∈X.pn++pins,p.1≠b
theorem Inv.fpOk{X:Cx}{pins:List (Addr×Obj)}{σ:St}{H H':Hp}{s:Shared}{b:Addr}(I:Inv X pins σ H s)(hb:s.heap.objs.size<=b)(hn:H' b=none):FpOk X pins H' b:=by
 refine⟨hn,Oy (L5 I.lt hb),I.nofs hb,.inr (Mj I.sz hb),λx c e z=>?_,λp hp z=>?_⟩
 ·obtain⟨v,q⟩:=I.cell x c e;exact absurd (L5 q.lt (by rw[z];exact hb)) (Mg _)
 ·exact absurd (L5 (Pw (I.pin p hp).1) (by rw[z];exact hb)) (Mg _)
structure Turn (P:Program) (w:World) (K:PySem.W.Frag) (tg:Expr) (J:It) (fp:List Addr) (it:Addr) (tn:Nat->Heap->Prop):Prop where
 mem:it∈fp
 obj:∀i h,tn i h->∀b∈fp,∃o,h.get? b=some o/\∀v,o.data ≠ .cell v
 keep:∀i h h',tn i h->(∀b∈fp,∀o,h.get? b=some o->h'.get? b=some o)->tn i h'
 item:∀(X:Cx),X.prog=P->X.w=w->X.K=K->X.calm=true->∀(i:Nat) (pins:List (Addr×Obj)) (s:Shared) (σ:St) (H:Hp) (E:Value->Shared->Prop),Inv X pins σ H s->(∀b∈fp,FpOk X pins H b)->tn i s.heap->J.go i H ->
  wpAny (model P w) X.A (pyNext (.ref it)) (λr s1=>∃u,r=some u /\
   wpAny (model P w) X.A (letOwnedTupleGo tg (.ref it) u) (λ_ s2=>∃x H',Inv X pins σ H' s2/\Ah x u/\J.yld i H x H'/\tn (i+1) s2.heap/\∀b∈fp,H' b=none) E s1) E s
 done:∀(X:Cx),X.prog=P->X.w=w->X.K=K->X.calm=true->∀(i:Nat) (pins:List (Addr×Obj)) (s:Shared) (σ:St) (H:Hp) (E:Value->Shared->Prop),Inv X pins σ H s->(∀b∈fp,FpOk X pins H b)->tn i s.heap->J.stop i H ->
  wpAny (model P w) X.A (pyNext (.ref it)) (λr s1=>r=none/\Inv X pins σ H s1) E s
 self:∀(A:Around) (i:Nat) (s:Shared) (Q:Value->Shared->Prop) (E:Value->Shared->Prop),tn i s.heap->Q (.ref it) s->wpAny (model P w) A (pyIter (.ref it)) Q E s
abbrev TI:=St->Hp->(It->Hp->Prop)->Prop
def PIE (X:Cx) (pins:List (Addr×Obj)) (σ:St) (tg:Expr) (R:It->Hp->Prop) (itv:Value) (s2:Shared):Prop:=
 ∃(it:Addr) (fp:List Addr) (tn:Nat->Heap->Prop) (J:It) (H':Hp),itv = .ref it/\Inv X pins σ H' s2/\Turn X.prog X.w X.K tg J fp it tn/\tn 0 s2.heap/\(∀b∈fp,FpOk X pins H' b)/\R J H'
def PI (X:Cx) (tg iter:Expr) (wi:TI):Prop:=
 ∀(pins:List (Addr×Obj)) (s:Shared) (σ:St) (H:Hp) (R:It->Hp->Prop),Inv X pins σ H s->wi σ H R ->
  wpAny (model X.prog X.w) X.A (eval iter X.env) (λv s1=>wpAny (model X.prog X.w) X.A (pyIter v) (PIE X pins σ tg R) X.xe s1) X.xe s
theorem Gr{M:Model}{A:Around}{E:Value->Shared->Prop}{s:Shared}{tg:Expr}{it:Addr}{u:Value}{o:Obj}{n:String}{vs:Array Value}{Q:Unit->Shared->Prop}(ho:s.heap.get? it=some o)(hc:o.cls = .type n)(hd:o.data = .fields vs)
    (hn:["enumerate", "zip", "dict_itemiterator", "dict_reverseitemiterator", "odict_iterator", "itertools.zip_longest", "itertools.pairwise"].contains n=false) (hQ:Q () s):wpAny M A (letOwnedTupleGo tg (.ref it) u) Q E s:=by
  unfold letOwnedTupleGo;cases tg<;>first
    | exact Pn hQ
    | (cases u<;>first
        | exact Pn hQ
        | (refine Pm (wpAny_load ho ?_)
           rw[hc,hd];show wpAny M A (if (["enumerate", "zip", "dict_itemiterator", "dict_reverseitemiterator", "odict_iterator", "itertools.zip_longest", "itertools.pairwise"].contains n&&vs[0]? == some (rawInt _))=true then _ else _) Q E s;rw[Pp (by intro h;rw[hn,Ms] at h;cases h)];exact Pn hQ))
def Itl (K:PySem.W.Frag) (a:Addr):It:=
 ⟨λi H=>∃xs x,SqL K H a xs/\xs[i]? = some x,λi H x H'=>H'=H/\∀xs,SqL K H a xs->xs[i]? = some x,λi H=>∃xs,SqL K H a xs/\xs.length<=i⟩
def Itt (K:PySem.W.Frag) (a:Addr):It:=
 ⟨λi H=>∃xs x,SqT K H a xs/\xs[i]? = some x,λi H x H'=>H'=H/\∀xs,SqT K H a xs->xs[i]? = some x,λi H=>∃xs,SqT K H a xs/\xs.length<=i⟩
def Itr (lo:Int) (n:Nat):It:=⟨λi _=>i<n,λi H x H'=>H'=H/\x = .int (lo+i),λi _=>n<=i⟩
theorem Xf3{P:Program}{w:World}{K:PySem.W.Frag}{tg:Expr}(a it:Addr):Turn P w K tg (Itl K a) [it] it (λi h=>h.IsListIter it a i) where
 mem:=by simp
 obj:=λi h st b hb=>by
  have e:b=it:=by simpa using hb
  subst e;obtain⟨o,e,c,d⟩:=st;exact⟨o,e,λv z=>by rw[d] at z;cases z⟩
 keep:=λi h h' st k=>st.at λo e=>k it (by simp) o e
 item:=by
  intro X hP hw hK hc i pins s σ H E I hf st hg;subst hP hw hK;obtain⟨xs,x,hq,hx⟩:=hg;obtain⟨its,rv,p,hz⟩:=I.list hq;obtain⟨u,hu,ru⟩:=rv.get hx;obtain⟨f0,f1,f2,f3,f4,f5⟩:=hf it (by simp);refine wpAny_pyNext_list_item st p.isList (x:=u) (by simpa using hu) λh' st' sb=>?_;have I1:Inv X pins σ H {s with heap:=h'}:=I.turned (t':=s.toks) (λb o hb e=>(sb.2 b hb).trans e) f0 f1 f3 f4 f5;obtain⟨o,e,c,d⟩:=id st';exact⟨u,rfl,Gr (s:={s with heap:=h'}) e c d (by decide) ⟨x,H,I1,ru,⟨rfl,λys hy=>by rw[I.list_inj hy hq];exact hx⟩,st',λb hb=>(hf b hb).1⟩⟩
 done:=by
  intro X hP hw hK hc i pins s σ H E I hf st hg;subst hP hw hK;obtain⟨xs,hq,hx⟩:=hg;obtain⟨its,rv,p,hz⟩:=I.list hq;obtain⟨f0,f1,f2,f3,f4,f5⟩:=hf it (by simp);have hl:=rv.length;exact wpAny_pyNext_list_end (I.ok.hd hc) st p.isList (by simp;omega) λh' eb=>⟨rfl,I.turned (t':=s.toks) (λb o hb e=>eb b o hb e) f0 f1 f3 f4 f5⟩
 self:=λ_ _ _ _ _ st h=>wpAny_pyIter_listiter st h
theorem Xf4{P:Program}{w:World}{K:PySem.W.Frag}{tg:Expr}(a it:Addr):Turn P w K tg (Itt K a) [it] it (λi h=>h.IsTupleIter it a i) where
 mem:=by simp
 obj:=λi h st b hb=>by
  have e:b=it:=by simpa using hb
  subst e;obtain⟨o,e,c,d⟩:=st;exact⟨o,e,λv z=>by rw[d] at z;cases z⟩
 keep:=λi h h' st k=>st.at λo e=>k it (by simp) o e
 item:=by
  intro X hP hw hK hc i pins s σ H E I hf st hg;subst hP hw hK;obtain⟨xs,x,hq,hx⟩:=hg;obtain⟨its,rv,p,hz⟩:=I.tuple hq;obtain⟨u,hu,ru⟩:=rv.get hx;obtain⟨f0,f1,f2,f3,f4,f5⟩:=hf it (by simp);refine wpAny_pyNext_tuple_item st (show s.heap.IsTuple a its.toArray from p) (x:=u) (by simpa using hu) λh' st' sb=>?_;have I1:Inv X pins σ H {s with heap:=h'}:=I.turned (t':=s.toks) (λb o hb e=>(sb.2 b hb).trans e) f0 f1 f3 f4 f5;obtain⟨o,e,c,d⟩:=id st';exact⟨u,rfl,Gr (s:={s with heap:=h'}) e c d (by decide) ⟨x,H,I1,ru,⟨rfl,λys hy=>by rw[I.tuple_inj hy hq];exact hx⟩,st',λb hb=>(hf b hb).1⟩⟩
 done:=by
  intro X hP hw hK hc i pins s σ H E I hf st hg;subst hP hw hK;obtain⟨xs,hq,hx⟩:=hg;obtain⟨its,rv,p,hz⟩:=I.tuple hq;obtain⟨f0,f1,f2,f3,f4,f5⟩:=hf it (by simp);have hl:=rv.length;exact wpAny_pyNext_tuple_end (I.ok.hd hc) st (show s.heap.IsTuple a its.toArray from p) (by simp;omega) λh' eb=>⟨rfl,I.turned (t':=s.toks) (λb o hb e=>eb b o hb e) f0 f1 f3 f4 f5⟩
 self:=λ_ _ _ _ _ st h=>wpAny_pyIter_tupleiter st h
theorem Xf5{P:Program}{w:World}{K:PySem.W.Frag}{tg:Expr}(it:Addr)(lo:Int)(n:Nat):Turn P w K tg (Itr lo n) [it] it (λi h=>IsRangeIter h it (lo+(i:Nat) * 1) ((n:Int) - (i:Nat)) 1) where
 mem:=by simp
 obj:=λi h st b hb=>by
  have e:b=it:=by simpa using hb
  subst e;exact⟨_,st,λv z=>by
   have z':Data.fields _=Data.cell v:=z;cases z'⟩
 keep:=λi h h' st k=>k it (by simp) _ st
 item:=by
  intro X hP hw hK hc i pins s σ H E I hf st hg;subst hP hw hK;obtain⟨f0,f1,f2,f3,f4,f5⟩:=hf it (by simp);have W:=Walks.range (prog:=X.prog) (w:=X.w) (I.ok.hd hc) it lo 1 n;refine W.item i s _ _ hg st λv h' tk hv st' kk=>?_;obtain⟨t,rfl⟩:=hv;have I1:Inv X pins σ H {s with heap:=h',toks:=tk}:=I.turned (λb o hb e=>kk b o (by simpa using hb) e) f0 f1 f3 f4 f5;refine⟨_,rfl,Gr (s:={s with heap:=h',toks:=tk}) (n := "range_iterator") st' rfl rfl (by decide) ⟨.int (lo+i),H,I1,⟨t,?_⟩,⟨rfl,rfl⟩,st',λb hb=>(hf b hb).1⟩⟩;rw[Int.mul_one]
 done:=by
  intro X hP hw hK hc i pins s σ H E I hf st hg;subst hP hw hK;obtain⟨f0,f1,f2,f3,f4,f5⟩:=hf it (by simp);exact wpAny_pyNext_range_end (I.ok.hd hc) st (by have:n<=i:=hg;omega) λh' eb=>⟨rfl,I.turned (t':=s.toks) (λb o hb e=>eb b o hb e) f0 f1 f3 f4 f5⟩
 self:=λ_ _ _ _ _ st h=>wpAny_pyIter_rangeiter st h
section
variable {X:Cx}{tg:Expr}
def Xf6 (K:PySem.W.Frag) (tl:TE):TI:=fun σ H R=>tl σ H λx H1=>∃a,x = .ref a/\(∃xs,SqL K H1 a xs)/\R (Itl K a) H1
def iTup (K:PySem.W.Frag) (tl:TE):TI:=fun σ H R=>tl σ H λx H1=>∃a,x = .ref a/\(∃xs,SqT K H1 a xs)/\R (Itt K a) H1
theorem Cd{l:Expr}{tl:TE}(hl:PE X l tl):PI X tg l (Xf6 X.K tl):=by
 intro pins s σ H R I h;refine thn (hl pins s σ H _ I h) λv s1 ⟨x,H1,I1,r1,q1⟩=>?_;obtain⟨a,e,⟨xs,hq⟩,q⟩:=q1;subst e;cases r1;obtain⟨its,rv,p,hz⟩:=I1.list hq;refine wpAny_pyIter_list p.isList ?_;refine⟨s1.heap.objs.size,[s1.heap.objs.size],_,_,H1,rfl,I1.kept (t':=s1.toks) λb o e=>Px _ e,Xf3 a _,⟨_,Heap.get?_push_size _ rfl,rfl,rfl⟩,λb hb=>?_,q⟩;have e:b=s1.heap.objs.size:=by simpa using hb
 subst e;exact I1.fpOk (Lk _) (I1.hok.fresh (Lk _))
theorem Gs{l:Expr}{tl:TE}(hl:PE X l tl):PI X tg l (iTup X.K tl):=by
 intro pins s σ H R I h;refine thn (hl pins s σ H _ I h) λv s1 ⟨x,H1,I1,r1,q1⟩=>?_;obtain⟨a,e,⟨xs,hq⟩,q⟩:=q1;subst e;cases r1;obtain⟨its,rv,p,hz⟩:=I1.tuple hq;refine wpAny_pyIter_tuple (show s1.heap.IsTuple a its.toArray from p) ?_;refine⟨s1.heap.objs.size,[s1.heap.objs.size],_,_,H1,rfl,I1.kept (t':=s1.toks) λb o e=>Px _ e,Xf4 a _,⟨_,Heap.get?_push_size _ rfl,rfl,rfl⟩,λb hb=>?_,q⟩;have e:b=s1.heap.objs.size:=by simpa using hb
 subst e;exact I1.fpOk (Lk _) (I1.hok.fresh (Lk _))
theorem Xf7{pins:List (Addr×Obj)}{σ:St}{H:Hp}{s:Shared}{R:It->Hp->Prop}{E:Value->Shared->Prop}{lo hi:Int}{t u v:Tok}{tk:Nat}(I:Inv X pins σ H s)(h1 : -(2 ^ 62)<=lo)(h2:lo<2 ^ 62)(h3 : -(2 ^ 62)<=hi)(h4:hi<2 ^ 62)
  (q:R (Itr lo (hi - lo).toNat) H):wpAny (model X.prog X.w) X.A (pyIter (.ref s.heap.objs.size)) (PIE X pins σ tg R) E {s with heap:=s.heap.push {cls:=.type "range",data:=.fields #[.int lo t,.int hi u,.int 1 v]},toks:=tk}:=by
 refine wpAny_pyIter_range (IsRange.new ..) (small_one h1 h2 h3 h4) ?_;have I1:Inv X pins σ H {s with heap:=s.heap.push {cls:=.type "range",data:=.fields #[.int lo t,.int hi u,.int 1 v]},toks:=tk}:=I.kept λb o e=>Px _ e;refine⟨(s.heap.push {cls:=.type "range",data:=.fields #[.int lo t,.int hi u,.int 1 v]}).objs.size,[(s.heap.push {cls:=.type "range",data:=.fields #[.int lo t,.int hi u,.int 1 v]}).objs.size],_,_,H,rfl,
  I1.kept (t':=tk) λb o e=>Px _ e,Xf5 _ lo (hi - lo).toNat,?_,λb hb=>?_,q⟩
 ·have e1:lo+((0:Nat):Int) * 1=lo:=by simp
  have e2:(((hi - lo).toNat:Nat):Int) - ((0:Nat):Int)=Builtin.Range.rangeSize lo hi 1:=by rw[rangeSize_one];split<;>omega
  show IsRangeIter _ _ (lo+((0:Nat):Int) * 1) ((((hi - lo).toNat:Nat):Int) - ((0:Nat):Int)) 1;rw[e1,e2];exact Heap.get?_push_size _ rfl
 ·have e:b=(s.heap.push {cls:=.type "range",data:=.fields #[.int lo t,.int hi u,.int 1 v]}).objs.size:=by simpa using hb
  subst e;exact I1.fpOk (Lk _) (I1.hok.fresh (Lk _))
def Xf8 (ta:TA):TI:=fun σ H R=>ta σ H λvs H1=>∃j:Int,vs=[.int j] /\ -(2 ^ 62)<=j/\j<2 ^ 62/\R (Itr 0 j.toNat) H1
theorem D7{a:Expr}{ta:TA}{p pos:Pos}(hg:Gl X "range")(hm:X.mg "range" = none)(ha:PA X [a] ta)(hs:starEach [a] X.env=[(false,eval a X.env)]:=by rfl):PI X tg (.Call (.Name "range" p) [a] [] pos) (Xf8 ta):=by
 intro pins s σ H R I h;refine Call_ (Fj I hg hm boot_range (PyProof.Rows.callWith_type1 (thn (ha pos pins s σ H _ I h) λus s1 ⟨vs,H1,I1,r1,q1⟩=>?_) hs rfl));obtain⟨j,e,q1,q2,q⟩:=q1;subst e;cases r1 with
 | cons r rr=>
  cases rr;obtain⟨t,rfl⟩:=r;exact call_range_1 (Xf7 I1 (by omega) (by omega) q1 q2 (by simpa using q))
def tFor (wi:TI) (g:TG) (tb:TS):TS:=λD σ H=>wi σ H λJ H1=>∃W:Nat->Nat->St->Hp->Prop,(∃m,W 0 m σ H1)/\∀i m σ H,W i m σ H ->
 (J.stop i H/\D.nx σ H)\/(J.go i H/\∃N:St->Hp->Prop,(∀σ' H',N σ' H'->∃m',m'<m/\W (i+1) m' σ' H')/\∀x H',J.yld i H x H'->g x σ H' fun σ2 H2=>tb {D with nx:=N,ct:=N,bk:=D.nx} σ2 H2)
def Fq (fp:List Addr) (h:Heap):List (Addr×Obj):=fp.filterMap λb=>(h.get? b).map λo=>(b,o)
theorem Gu{fp:List Addr}{h:Heap}{b:Addr}{o:Obj}(hb:b∈fp)(e:h.get? b=some o):(b,o)∈Fq fp h:=N6.mpr ⟨b,hb,by rw[e];rfl⟩
theorem Xf9{fp:List Addr}{h:Heap}{p:Addr×Obj}(hp:p∈Fq fp h):p.1∈fp/\h.get? p.1=some p.2:=by
 obtain⟨b,hb,e⟩:=N6.mp hp;cases q:h.get? b with
 | none=>rw[q] at e;cases e
 | some o=>
  rw[q] at e;have e':(b,o)=p:=Lq e;subst e';exact⟨hb,q⟩
theorem Inv.pinned{pins:List (Addr×Obj)}{σ:St}{H:Hp}{s:Shared}{fp:List Addr}(I:Inv X pins σ H s)(hf:∀b∈fp,FpOk X pins H b)(ho:∀b∈fp,∃o,s.heap.get? b=some o/\∀v,o.data ≠ .cell v):Inv X (pins++Fq fp s.heap) σ H s:=
 I.pins_of λp hp=>(Ls.mp hp).elim (λz=>I.pin p (Mm _ z)) λz=>by
  obtain⟨hb,e⟩:=Xf9 z;obtain⟨f0,f1,f2,_⟩:=hf p.1 hb;obtain⟨o,e',d⟩:=ho p.1 hb;rw[e] at e';cases e';exact⟨e,f0,f1,f2,d⟩
theorem Inv.unpinned{pins pl:List (Addr×Obj)}{σ:St}{H:Hp}{s:Shared}(I:Inv X (pins++pl) σ H s):Inv X pins σ H s:=I.pins_of λp hp=>I.pin p (Mm _ (M7 _ hp))
theorem Bq{iter:Expr}{body:List Stmt}{wi:TI}{g:TG}{tb:TS}{pos:Pos}(hp:PassesOwn (model X.prog X.w) X.A X.env X.xe)(hc:X.calm=true)(hi:PI X tg iter wi)(hg:PG X tg g)(hb:PSs X body tb)
  (hs:∀x,foldedSetIterable iter X.env x=pure x:=by intro _;rfl):PS X (.For tg iter body [] pos) (tFor wi g tb):=by
 intro pins s σ H D I h;refine wpAny_For (thn (hi pins s σ H _ I h) λv s1 h1=>thn h1 λitv s2 h2=>?_) hs;obtain⟨it,fp,tn,J,H2,e,I2,T,st2,f2,W,⟨m0,w0⟩,turn⟩:=h2;subst e;have stat:∀{H':Hp},(∀b∈fp,H' b=none)->∀b∈fp,FpOk X pins H' b:=λhn b hb=>⟨hn b hb,(f2 b hb).2⟩;refine codeAny_forLoop_any (λn s'=>∃i σ' H',Inv X pins σ' H' s'/\tn i s'.heap/\(∀b∈fp,H' b=none)/\W i n σ' H') ?_ m0 ⟨0, σ,H2,I2,st2,λb hb=>(f2 b hb).1,w0⟩;rintro n s3 ⟨i, σ3,H3,I3,st3,fr3,w3⟩;rcases turn i n σ3 H3 w3 with ⟨stop,qn⟩ | ⟨go,N,hN,step⟩
 ·refine wpAny_passesOwn hp (thn (T.done X rfl rfl rfl hc i pins s3 σ3 H3 X.xe I3 (stat fr3) st3 stop) λr s4 ⟨hr,I4⟩=>?_);subst hr;exact wpAny_execs_nil ⟨σ3,H3,I4,qn⟩
 ·refine wpAny_passesOwn hp (thn (T.item X rfl rfl rfl hc i pins s3 σ3 H3 X.xe I3 (stat fr3) st3 go) λr s4 ⟨u,hr,h4⟩=>?_);subst hr;refine wpAny_passesOwn hp (thn h4 λ_ s5 ⟨x,H5,I5,r5,y5,st5,fr5⟩=>?_);have I5':=I5.pinned (stat fr5) (T.obj _ _ st5);refine wpAny_passesOwn hp (thn (hg _ s5 σ3 H5 x u _ I5' r5 (step x H5 y5)) λ_ s6 ⟨σ6,H6,I6,q6⟩=>?_);refine wpAny_passesOwn hp (thn (hb _ s6 σ6 H6 _ I6 q6) λf s7 q7=>?_);have again:∀{σ7:St} {H7:Hp},Inv X (pins++Fq fp s5.heap) σ7 H7 s7->N σ7 H7->∃m,m<n/\∃i σ' H',Inv X pins σ' H' s7/\tn i s7.heap/\(∀b∈fp,H' b=none)/\W i m σ' H':=λ{σ7 H7} I7 n7=>by
   obtain⟨m',hm,w7⟩:=hN σ7 H7 n7;refine⟨m',hm,i+1, σ7,H7,I7.unpinned,T.keep _ _ _ st5 λb hb o e=>(I7.pin (b,o) (Mm _ (Mm _ (Gu hb e)))).1,λb hb=>?_,w7⟩;obtain⟨o,e,d⟩:=T.obj _ _ st5 b hb;exact(I7.pin (b,o) (Mm _ (Mm _ (Gu hb e)))).2.1
  cases f with
  | next=>obtain⟨σ7,H7,I7,n7⟩:=q7;exact again I7 n7
  | cont=>obtain⟨σ7,H7,I7,n7⟩:=q7;exact again I7 n7
  | brk=>obtain⟨σ7,H7,I7,q7⟩:=q7;exact⟨σ7,H7,I7.unpinned,q7⟩
  | ret v=>obtain⟨x7, σ7,H7,I7,r7,q7⟩:=q7;exact⟨x7, σ7,H7,I7.unpinned,r7,q7⟩
end
theorem C7{K:PySem.W.Frag}{a:Addr}{xs:List V}{g:TG}{tb:TS}{D:Ends}{σ:St}{H:Hp}(Pv:Nat->St->Hp->Prop)(h0:Pv 0 σ H)(hl:∀i σ H,i<=xs.length->Pv i σ H->SqL K H a xs)
  (hs:∀i x σ H,xs[i]? = some x->Pv i σ H->g x σ H fun σ2 H2=>tb {D with nx:=Pv (i+1),ct:=Pv (i+1),bk:=D.nx} σ2 H2) (hd:∀σ H,Pv xs.length σ H->D.nx σ H):
  ∃W:Nat->Nat->St->Hp->Prop,(∃m,W 0 m σ H)/\∀i m σ H,W i m σ H ->
   ((Itl K a).stop i H/\D.nx σ H)\/((Itl K a).go i H/\∃N:St->Hp->Prop,(∀σ' H',N σ' H'->∃m',m'<m/\W (i+1) m' σ' H')/\∀x H',(Itl K a).yld i H x H'->g x σ H' fun σ2 H2=>tb {D with nx:=N,ct:=N,bk:=D.nx} σ2 H2):=by
 refine⟨λi m σ H=>m=xs.length - i/\i<=xs.length/\Pv i σ H,⟨xs.length,by simp,Mt _,h0⟩,?_⟩;rintro i m σ H ⟨rfl,hi,p⟩;have q:=hl i σ H hi p;by_cases hlt:i<xs.length
 ·refine .inr ⟨⟨xs,xs[i],q,by simp[hlt]⟩,Pv (i+1),fun σ' H' p'=>⟨xs.length - (i+1),by omega,rfl,hlt,p'⟩,λx H' y=>?_⟩;obtain⟨e,y⟩:=y;subst e;exact hs i x σ _ (y xs q) p
 ·have e:i=xs.length:=by omega
  subst e;exact .inl ⟨⟨xs,q,Lk _⟩,hd σ H p⟩
theorem Eo{lo:Int}{n:Nat}{g:TG}{tb:TS}{D:Ends}{σ:St}{H:Hp}(Pv:Nat->St->Hp->Prop)(h0:Pv 0 σ H)
  (hs:∀i σ H,i<n->Pv i σ H->g (.int (lo+i)) σ H fun σ2 H2=>tb {D with nx:=Pv (i+1),ct:=Pv (i+1),bk:=D.nx} σ2 H2) (hd:∀σ H,Pv n σ H->D.nx σ H):
  ∃W:Nat->Nat->St->Hp->Prop,(∃m,W 0 m σ H)/\∀i m σ H,W i m σ H ->
   ((Itr lo n).stop i H/\D.nx σ H)\/((Itr lo n).go i H/\∃N:St->Hp->Prop,(∀σ' H',N σ' H'->∃m',m'<m/\W (i+1) m' σ' H')/\∀x H',(Itr lo n).yld i H x H'->g x σ H' fun σ2 H2=>tb {D with nx:=N,ct:=N,bk:=D.nx} σ2 H2):=by
 refine⟨λi m σ H=>m=n - i/\i<=n/\Pv i σ H,⟨n,by simp,Mt _,h0⟩,?_⟩;rintro i m σ H ⟨rfl,hi,p⟩;by_cases hlt:i<n
 ·refine .inr ⟨hlt,Pv (i+1),fun σ' H' p'=>⟨n - (i+1),by omega,rfl,hlt,p'⟩,λx H' y=>?_⟩;obtain⟨e,y⟩:=y;subst e y;exact hs i σ _ hlt p
 ·have e:i=n:=by omega
  subst e;exact .inl ⟨Lk _,hd σ H p⟩
abbrev R2:=V->V->Hp->VK->Prop
def OpR (X:Cx) (f:Value->Value->Sem Value) (r:R2):Prop:=
 ∀(pins:List (Addr×Obj)) (s:Shared) (σ:St) (H:Hp) (x y:V) (v u:Value) (Q:VK),Inv X pins σ H s->Ah x v->Ah y u->r x y H Q ->
  wpAny (model X.prog X.w) X.A (f v u) (EP X pins σ Q) X.xe s
def UnR (X:Cx) (f:Value->Sem Value) (r:V->Hp->VK->Prop):Prop:=
 ∀(pins:List (Addr×Obj)) (s:Shared) (σ:St) (H:Hp) (x:V) (v:Value) (Q:VK),Inv X pins σ H s->Ah x v->r x H Q ->
  wpAny (model X.prog X.w) X.A (f v) (EP X pins σ Q) X.xe s
def Bh (X:Cx) (f:Value) (r:List V->Hp->VK->Prop):Prop:=
 ∀(pins:List (Addr×Obj)) (s:Shared) (σ:St) (H:Hp) (xs:List V) (us:List Value) (Q:VK),Inv X pins σ H s->Vals xs us->r xs H Q ->
  wpAny (model X.prog X.w) X.A (call f us) (EP X pins σ Q) X.xe s
def TruR (X:Cx) (r:V->Hp->(Bool->Hp->Prop)->Prop):Prop:=
 ∀(pins:List (Addr×Obj)) (s:Shared) (σ:St) (H:Hp) (x:V) (v:Value) (Q:Bool->Hp->Prop),Inv X pins σ H s->Ah x v->r x H Q ->
  wpAny (model X.prog X.w) X.A (truthy v) (TP X pins σ Q) X.xe s
def tOp (r:R2) (ta tb:TE):TE:=fun σ H Q=>ta σ H λx H1=>tb σ H1 λy H2=>r x y H2 Q
def tUn (r:V->Hp->VK->Prop) (ta:TE):TE:=fun σ H Q=>ta σ H λx H1=>r x H1 Q
def rI (C:Int->Int->Prop) (g:Int->Int->V):R2:=λx y H Q=>∃i j,x = .int i/\y = .int j/\C i j/\Q (g i j) H
def rI0 (g:Int->Int->V):R2:=λx y H Q=>∃i j,x = .int i/\y = .int j/\Q (g i j) H
def rU (g:Int->V):V->Hp->VK->Prop:=λx H Q=>∃i,x = .int i/\Q (g i) H
section
variable {X:Cx}{a b c:Expr}{ta tb tc:TE}{pos:Pos}
theorem binT(ha:PE X a ta)(hb:PE X b tb){pins:List (Addr×Obj)}{s:Shared}{σ:St}{H:Hp}{R:V->V->Hp->Prop}(I:Inv X pins σ H s)
  (h:ta σ H λx H1=>tb σ H1 λy H2=>R x y H2) {Q:Value->Shared->Prop} {f:Value->Value->Sem Value}
  (hf:∀v u s2 x y H2,Inv X pins σ H2 s2->Ah x v->Ah y u->R x y H2->wpAny (model X.prog X.w) X.A (f v u) Q X.xe s2):
  wpAny (model X.prog X.w) X.A (eval a X.env) (λv s₁=>wpAny (model X.prog X.w) X.A (eval b X.env) (λu s₂=>wpAny (model X.prog X.w) X.A (f v u) Q X.xe s₂) X.xe s₁) X.xe s:=by
 refine thn (ha pins s σ H _ I h) λv s1 ⟨x,H1,I1,r1,q1⟩=>?_;refine thn (hb pins s1 σ H1 _ I1 q1) λu s2 ⟨y,H2,I2,r2,q2⟩=>?_;exact hf v u s2 x y H2 I2 r1 r2 q2
theorem An{op:Operator}{r:R2}(ho:OpR X (binaryOp op) r)(ha:PE X a ta)(hb:PE X b tb):PE X (.BinOp a op b pos) (tOp r ta tb):=by
 intro pins s σ H Q I h;exact wpAny_BinOp (binT ha hb I h λv u s2 x y H2 I2 rx ry q=>ho pins s2 σ H2 x y v u Q I2 rx ry q)
theorem Xah{op:UnaryOp}{r:V->Hp->VK->Prop}(ho:UnR X (unaryOp op) r)(ha:PE X a ta):PE X (.UnaryOp op a pos) (tUn r ta):=by
 intro pins s σ H Q I h;exact UnaryOp_ (thn (ha pins s σ H _ I h) λv s1 ⟨x,H1,I1,r1,q1⟩=>ho pins s1 σ H1 x v Q I1 r1 q1)
theorem opI{f:Value->Value->Sem Value}{C:Int->Int->Prop}{g:Int->Int->Int}
  (rule:∀(i j:Int) (t u:Tok) (s:Shared) (Q:Value->Shared->Prop) (E:Value->Shared->Prop),C i j->Q (.int (g i j) s.toks) {s with toks:=s.toks+1}->wpAny (model X.prog X.w) X.A (f (.int i t) (.int j u)) Q E s):
  OpR X f (rI C λi j=>.int (g i j)):=by
 intro pins s σ H x y v u Q I rx ry h;obtain⟨i,j,rfl,rfl,hc,q⟩:=h;obtain⟨t,rfl⟩:=rx;obtain⟨t',rfl⟩:=ry;exact rule i j t t' s _ _ hc ⟨.int (g i j),H,I.tok _,⟨_,rfl⟩,q⟩
theorem Xai{f:Value->Value->Sem Value}{g:Int->Int->Int}
  (rule:∀(i j:Int) (t u:Tok) (s:Shared) (Q:Value->Shared->Prop) (E:Value->Shared->Prop),Q (.int (g i j) s.toks) {s with toks:=s.toks+1}->wpAny (model X.prog X.w) X.A (f (.int i t) (.int j u)) Q E s):
  OpR X f (rI0 λi j=>.int (g i j)):=by
 intro pins s σ H x y v u Q I rx ry h;obtain⟨i,j,rfl,rfl,q⟩:=h;obtain⟨t,rfl⟩:=rx;obtain⟨t',rfl⟩:=ry;exact rule i j t t' s _ _ ⟨.int (g i j),H,I.tok _,⟨_,rfl⟩,q⟩
theorem Ir{f:Value->Value->Sem Value}{g:Int->Int->Bool}
  (rule:∀(i j:Int) (t u:Tok) (s:Shared) (Q:Value->Shared->Prop) (E:Value->Shared->Prop),Q (.bool (g i j)) s->wpAny (model X.prog X.w) X.A (f (.int i t) (.int j u)) Q E s):
  OpR X f (rI0 λi j=>.bl (g i j)):=by
 intro pins s σ H x y v u Q I rx ry h;obtain⟨i,j,rfl,rfl,q⟩:=h;obtain⟨t,rfl⟩:=rx;obtain⟨t',rfl⟩:=ry;exact rule i j t t' s _ _ ⟨.bl (g i j),H,I,rfl,q⟩
def CDiv (i j:Int):Prop:=0<j/\j<1073741824
def CPow (i j:Int):Prop:=0<=j/\j<=1000000/\i.natAbs<2 ^ 64
def CMul (i j:Int):Prop:=(-(2 ^ 64)<i/\i<2 ^ 64)\/(-(2 ^ 64)<j/\j<2 ^ 64)
theorem CMul.ok{i j:Int}(h:CMul i j):IntMulOk i j:=by
 rcases h with ⟨h1,h2⟩ | ⟨h1,h2⟩
 ·exact .of_left (intBits_le_64 h1 h2)
 ·exact .of_right (intBits_le_64 h1 h2)
theorem Bk:OpR X (binaryOp .Add) (rI0 λi j=>.int (i+j)):=Xai λ_ _ _ _ _ _ _ q=>add_int q
theorem Xga:OpR X (binaryOp .Sub) (rI0 λi j=>.int (i - j)):=Xai λ_ _ _ _ _ _ _ q=>sub_int q
theorem Xaj:OpR X (binaryOp .Mult) (rI CMul λi j=>.int (i * j)):=opI λ_ _ _ _ _ _ _ hc q=>mul_int q hc.ok
theorem Xak:OpR X (binaryOp .FloorDiv) (rI CDiv λi j=>.int (i / j)):=opI λi j _ _ _ _ _ hc q=>by
 have h1:(0:Int)<j:=hc.1;have h2:j<1073741824:=hc.2;exact floordiv_int (by omega) (by rw[Int.fdiv_eq_ediv_of_nonneg i (by omega)];exact q) (.inl (PyProof.noPylong_small (by omega)))
theorem Ep:OpR X (binaryOp .Mod) (rI (λ_ j=>0<j) λi j=>.int (i % j)):=opI λi j _ _ _ _ _ hc q=>by
 have h1:(0:Int)<j:=hc;exact mod_int' (by omega) (by rw[Int.fmod_eq_emod_of_nonneg i (by omega)];exact q)
theorem Xal:OpR X (binaryOp .Pow) (rI CPow λi j=>.int (i ^ j.toNat)):=opI λ_ _ _ _ _ _ _ hc q=>pow_int_small hc.1 hc.2.1 hc.2.2 q
theorem unI{f:Value->Sem Value}{g:Int->Int}
  (rule:∀(i:Int) (t:Tok) (s:Shared) (Q:Value->Shared->Prop) (E:Value->Shared->Prop),Q (.int (g i) s.toks) {s with toks:=s.toks+1}->wpAny (model X.prog X.w) X.A (f (.int i t)) Q E s):
  UnR X f (rU λi=>.int (g i)):=by
 intro pins s σ H x v Q I rx h;obtain⟨i,rfl,q⟩:=h;obtain⟨t,rfl⟩:=rx;exact rule i t s _ _ ⟨.int (g i),H,I.tok _,⟨_,rfl⟩,q⟩
theorem Xam:UnR X (unaryOp .USub) (rU λi=>.int (-i)):=unI λ_ _ _ _ _ q=>neg_int q
end
def scal:V->V->Bool
 | .non,.non=>true | .non,.int _=>true | .int _,.non=>true | .non,.bl _=>true | .bl _,.non=>true | .non,.str _=>true | .str _,.non=>true
 | .int _,.int _=>true | .bl _,.bl _=>true | .str _,.str _=>true | .byt _,.byt _=>true
 | .int _,.str _=>true | .str _,.int _=>true | .bl _,.str _=>true | .str _,.bl _=>true
 | _,_=>false
def rEq:R2:=λx y H Q=>scal x y=true/\Q (.bl (decide (x=y))) H
def rNe:R2:=λx y H Q=>scal x y=true/\Q (.bl (!decide (x=y))) H
theorem Xan{i j:Int}:decide (V.int i=V.int j)=(i==j):=by
 rw[Mz];simp
theorem Iu{i j:Bool}:decide (V.bl i=V.bl j)=(i==j):=by
 rw[Mz];simp
theorem Xao{i j:Str}:decide (V.str i=V.str j)=(i==j):=by
 rw[Mz];simp
theorem Xap{i j:Array UInt8}:decide (V.byt i=V.byt j)=(i.toList==j.toList):=by
 rw[Mz];cases i;cases j;simp
section
variable {X:Cx}{a b c:Expr}{ta tb tc:TE}{pos:Pos}
theorem A8{pins:List (Addr×Obj)}{σ:St}{H:Hp}{s:Shared}{Q:VK}{k k':Bool}(I:Inv X pins σ H s)(q:Q (.bl k) H)(e:k=k'):EP X pins σ Q (.bool k') s:=by
 subst e;exact⟨.bl k,H,I,rfl,q⟩
theorem Bm:OpR X (compareOp .Eq) rEq:=by
 intro pins s σ H x y v u Q I rx ry h;obtain⟨hs,q⟩:=h;cases x with
 | non=>
  cases rx;cases y with
  | non=>cases ry;exact PySem.EqNone.eq_none_none (A8 I q (by simp))
  | bl j=>cases ry;exact PySem.EqNone.eq_none_bool (A8 I q (by simp))
  | int j=>obtain⟨t',rfl⟩:=ry;exact PySem.EqNone.eq_none_int (A8 I q (by simp))
  | str j=>obtain⟨t',rfl⟩:=ry;exact PySem.EqNone.eq_none_str (A8 I q (by simp))
  | _=>exact absurd (show false=true from hs) Lu
 | bl i=>
  cases rx;cases y with
  | non=>cases ry;exact PySem.EqNone.eq_bool_none (A8 I q (by simp))
  | bl j=>cases ry;exact eq_bool (A8 I q Iu)
  | str j=>obtain⟨t',rfl⟩:=ry;exact PySem.EqMixed.eq_bool_str (A8 I q (by simp))
  | _=>exact absurd (show false=true from hs) Lu
 | int i=>
  obtain⟨t,rfl⟩:=rx;cases y with
  | non=>cases ry;exact PySem.EqNone.eq_int_none (A8 I q (by simp))
  | int j=>obtain⟨t',rfl⟩:=ry;exact eq_int (A8 I q Xan)
  | str j=>obtain⟨t',rfl⟩:=ry;exact PySem.EqMixed.eq_int_str (A8 I q (by simp))
  | _=>exact absurd (show false=true from hs) Lu
 | str i=>
  obtain⟨t,rfl⟩:=rx;cases y with
  | non=>cases ry;exact PySem.EqNone.eq_str_none (A8 I q (by simp))
  | bl j=>cases ry;exact PySem.EqMixed.eq_str_bool (A8 I q (by simp))
  | int j=>obtain⟨t',rfl⟩:=ry;exact PySem.EqMixed.eq_str_int (A8 I q (by simp))
  | str j=>obtain⟨t',rfl⟩:=ry;exact eq_str (A8 I q Xao)
  | _=>exact absurd (show false=true from hs) Lu
 | byt i=>
  obtain⟨t,rfl⟩:=rx;cases y with
  | byt j=>obtain⟨t',rfl⟩:=ry;exact PySem.W.eq_bytes (A8 I q Xap)
  | _=>exact absurd (show false=true from hs) Lu
 | _=>cases y<;>exact absurd (show false=true from hs) Lu
theorem Fr:OpR X (compareOp .NotEq) rNe:=by
 intro pins s σ H x y v u Q I rx ry h;obtain⟨hs,q⟩:=h;cases x with
 | non=>
  cases rx;cases y with
  | non=>cases ry;exact PySem.EqNone.ne_none_none (A8 I q (by simp))
  | bl j=>cases ry;exact PySem.EqNone.ne_none_bool (A8 I q (by simp))
  | int j=>obtain⟨t',rfl⟩:=ry;exact PySem.EqNone.ne_none_int (A8 I q (by simp))
  | str j=>obtain⟨t',rfl⟩:=ry;exact PySem.EqNone.ne_none_str (A8 I q (by simp))
  | _=>exact absurd (show false=true from hs) Lu
 | bl i=>
  cases rx;cases y with
  | non=>cases ry;exact PySem.EqNone.ne_bool_none (A8 I q (by simp))
  | bl j=>cases ry;exact ne_bool (A8 I q (congrArg not Iu))
  | str j=>obtain⟨t',rfl⟩:=ry;exact PySem.EqMixed.ne_bool_str (A8 I q (by simp))
  | _=>exact absurd (show false=true from hs) Lu
 | int i=>
  obtain⟨t,rfl⟩:=rx;cases y with
  | non=>cases ry;exact PySem.EqNone.ne_int_none (A8 I q (by simp))
  | int j=>obtain⟨t',rfl⟩:=ry;exact ne_int (A8 I q (congrArg not Xan))
  | str j=>obtain⟨t',rfl⟩:=ry;exact PySem.EqMixed.ne_int_str (A8 I q (by simp))
  | _=>exact absurd (show false=true from hs) Lu
 | str i=>
  obtain⟨t,rfl⟩:=rx;cases y with
  | non=>cases ry;exact PySem.EqNone.ne_str_none (A8 I q (by simp))
  | bl j=>cases ry;exact PySem.EqMixed.ne_str_bool (A8 I q (by simp))
  | int j=>obtain⟨t',rfl⟩:=ry;exact PySem.EqMixed.ne_str_int (A8 I q (by simp))
  | str j=>obtain⟨t',rfl⟩:=ry;exact ne_str (A8 I q (congrArg not Xao))
  | _=>exact absurd (show false=true from hs) Lu
 | byt i=>
  obtain⟨t,rfl⟩:=rx;cases y with
  | byt j=>obtain⟨t',rfl⟩:=ry;exact PySem.W.ne_bytes (A8 I q (congrArg not Xap))
  | _=>exact absurd (show false=true from hs) Lu
 | _=>cases y<;>exact absurd (show false=true from hs) Lu
theorem B3:OpR X (compareOp .Lt) (rI0 λi j=>.bl (decide (i<j))):=Ir λ_ _ _ _ _ _ _ q=>lt_int q
theorem Xgb:OpR X (compareOp .Gt) (rI0 λi j=>.bl (decide (j<i))):=Ir λ_ _ _ _ _ _ _ q=>gt_int q
theorem Xaq:OpR X (compareOp .GtE) (rI0 λi j=>.bl (decide (j<=i))):=Ir λ_ _ _ _ _ _ _ q=>ge_int q
theorem Xgc:OpR X (compareOp .Lt) (λx y H Q=>∃i j,x = .str i/\y = .str j/\Q (.bl (decide (i.cps.toList<j.cps.toList))) H):=by
 intro pins s σ H x y v u Q I rx ry h;obtain⟨i,j,rfl,rfl,q⟩:=h;obtain⟨t,rfl⟩:=rx;obtain⟨t',rfl⟩:=ry;exact lt_str (A8 I q rfl)
def isObj:HO->Bool
 | .lst _=>true
 | .ins _ _ _=>true
 | _=>false
theorem Au(b:Expr){op:CmpOp}(h:op ≠ .In:=by decide)(h2:op ≠ .NotIn:=by decide):behindInMarks op b=false:=by
 have e1:(op==CmpOp.In)=false:=by cases op<;>first | rfl | exact absurd rfl h
 have e2:(op==CmpOp.NotIn)=false:=by cases op<;>first | rfl | exact absurd rfl h2
 cases b<;>simp[behindInMarks,e1,e2]
theorem D8{op:CmpOp}{r:R2}(ho:OpR X (compareOp op) r)(ha:PE X a ta)(hb:PE X b tb)(hm:behindInMarks op b=false):PE X (.Compare a [op] [b] pos) (tOp r ta tb):=by
 intro pins s σ H Q I h;exact wpAny_Compare1 (binT ha hb I h λv u s2 x y H2 I2 rx ry q=>ho pins s2 σ H2 x y v u Q I2 rx ry q) hm
def Iv (t:TE):TT:=fun σ H Q=>t σ H λx H'=>∃k,x = .bl k/\Q k H'
theorem Ap{op:CmpOp}{r:R2}(ho:OpR X (compareOp op) r)(ha:PE X a ta)(hb:PE X b tb)(hm:behindInMarks op b=false):PT X (.Compare a [op] [b] pos) (Iv (tOp r ta tb)):=by
 intro pins s σ H Q I h;refine wpAny_isTrue_Compare1 (thn (ha pins s σ H _ I h) λv s1 ⟨x,H1,I1,r1,q1⟩=>thn (hb pins s1 σ H1 _ I1 q1) λu s2 ⟨y,H2,I2,r2,q2⟩=>
  thn (ho pins s2 σ H2 x y v u _ I2 r1 r2 q2) λc s3 ⟨z,H3,I3,r3,k,e,q3⟩=>?_) hm
 subst e;cases r3;exact wpAny_truthy_bool ⟨H3,I3,q3⟩
def Iw (r r':R2) (ta tb tc:TE):TE:=fun σ H Q=>ta σ H λx H1=>tb σ H1 λy H2=>r x y H2 λz H3=>∃k,z = .bl k /\
 (if k=true then tc σ H3 λw' H4=>r' y w' H4 Q else Q (.bl false) H3)
theorem Xar{op op':CmpOp}{r r':R2}(ho:OpR X (compareOp op) r)(ho':OpR X (compareOp op') r')(ha:PE X a ta)(hb:PE X b tb)(hc:PE X c tc)
  (hm:lastMarks [op,op'] [b,c]=false:=by with_unfolding_all rfl):PE X (.Compare a [op,op'] [b,c] pos) (Iw r r' ta tb tc):=by
 intro pins s σ H Q I h;refine Compare_chain (thn (ha pins s σ H _ I h) λv s1 ⟨x,H1,I1,r1,q1⟩=>chain_link (thn (hb pins s1 σ H1 _ I1 q1) λu s2 ⟨y,H2,I2,r2,q2⟩=>
  thn (ho pins s2 σ H2 x y v u _ I2 r1 r2 q2) λd s3 ⟨z,H3,I3,r3,k,e,q3⟩=>?_)) hm
 subst e;cases r3;refine wpAny_truthy_bool ?_;cases k with
 | false=>exact ite_ff ⟨.bl false,H3,I3,rfl,q3⟩
 | true=>exact ite_tt (chain_last (thn (hc pins s3 σ H3 _ I3 q3) λw' s4 ⟨z',H4,I4,r4,q4⟩=>ho' pins s4 σ H4 y z' u w' Q I4 r2 r4 q4))
theorem Xgd{op op':CmpOp}{r r':R2}(ho:OpR X (compareOp op) r)(ho':OpR X (compareOp op') r')(ha:PE X a ta)(hb:PE X b tb)(hc:PE X c tc)
  (hm:lastMarks [op,op'] [b,c]=false:=by with_unfolding_all rfl):PT X (.Compare a [op,op'] [b,c] pos) (Iv (Iw r r' ta tb tc)):=by
 intro pins s σ H Q I h;refine isTrue_chain (thn (ha pins s σ H _ I h) λv s1 ⟨x,H1,I1,r1,q1⟩=>test_link (thn (hb pins s1 σ H1 _ I1 q1) λu s2 ⟨y,H2,I2,r2,q2⟩=>
  thn (ho pins s2 σ H2 x y v u _ I2 r1 r2 q2) λd s3 ⟨z,H3,I3,r3,k,e,q3⟩=>?_)) hm
 subst e;cases r3;refine wpAny_truthy_bool ?_;cases k with
 | false=>
  obtain⟨k',e',q'⟩:=q3;cases e';exact ite_ff ⟨H3,I3,q'⟩
 | true=>
  refine ite_tt (test_last (thn (hc pins s3 σ H3 _ I3 q3) λw' s4 ⟨z',H4,I4,r4,q4⟩=>thn (ho' pins s4 σ H4 y z' u w' _ I4 r2 r4 q4) λd' s5 ⟨z2,H5,I5,r5,k2,e2,q5⟩=>?_));subst e2;cases r5;exact wpAny_truthy_bool ⟨H5,I5,q5⟩
def TruV (K:PySem.W.Frag) (x:V) (H:Hp) (k:Bool):Prop:=
 match x with
 | .non=>k=false
 | .bl b=>k=b
 | .int i=>k=(i != 0)
 | .str y=>y.length<=sizeLine/\k=((y.length:Int) != 0)
 | .byt y=>y.size<=sizeLine/\k=((y.size:Int) != 0)
 | .ref p=>(∃xs,SqL K H p xs/\k = !xs.isEmpty)\/(∃xs,SqT K H p xs/\k = !xs.isEmpty) \/ ∃kvs,H p=some (.dK kvs)/\k = !kvs.isEmpty
 | _=>False
theorem line63:(sizeLine:Nat)<2 ^ 63:=by rw[Po];decide
theorem Gv:OpR X (binaryOp .Add) (λx y H Q=>∃i j,x = .str i/\y = .str j/\i.length+j.length<=sizeLine/\Q (.str (i++j)) H):=by
 intro pins s σ H x y v u Q I rx ry h;obtain⟨i,j,rfl,rfl,hz,q⟩:=h;obtain⟨t,rfl⟩:=rx;obtain⟨t',rfl⟩:=ry;exact add_str (λt' tk=>⟨.str (i++j),H,I.tok _,⟨_,rfl⟩,q⟩) hz
theorem B4{x:V}{us:List Value}(r:Vals [x] us):∃u,us=[u]/\Ah x u:=by
 cases r with
 | cons r1 r2=>cases r2;exact⟨_,rfl,r1⟩
theorem vals2{x y:V}{us:List Value}(r:Vals [x,y] us):∃u w',us=[u,w']/\Ah x u/\Ah y w':=by
 cases r with
 | cons r1 r2=>
  cases r2 with
  | cons r3 r4=>cases r4;exact⟨_,_,rfl,r1,r3⟩
theorem Xge(hc:X.calm=true):Bh X (.builtin "min") (λxs H Q=>∃i j,xs=[.int i,.int j]/\Q (.int (if j<i then j else i)) H):=by
 intro pins s σ H xs us Q I r h;obtain⟨i,j,rfl,q⟩:=h;obtain⟨u,w',rfl,⟨t,rfl⟩,⟨t',rfl⟩⟩:=vals2 r;refine min_two_ints (I.ok.hd hc) λh' tk k=>⟨_,H,I.kept k,?_,q⟩;by_cases hj:j<i
 ·rw[Pq hj,Pq hj];exact⟨_,rfl⟩
 ·rw[Pp hj,Pp hj];exact⟨_,rfl⟩
theorem Xas:Bh X (.type "int") (λxs H Q=>(∃i,xs=[.int i]/\Q (.int i) H) \/ ∃k,xs=[.bl k]/\Q (.int (if k then 1 else 0)) H):=by
 intro pins s σ H xs us Q I r h;rcases h with ⟨i,rfl,q⟩ | ⟨k,rfl,q⟩
 ·obtain⟨u,rfl,t,rfl⟩:=B4 r;exact call_int_int ⟨.int i,H,I,⟨_,rfl⟩,q⟩
 ·obtain⟨u,rfl,r1⟩:=B4 r;cases r1;exact call_int_bool ⟨.int (if k then 1 else 0),H,I.tok _,⟨_,rfl⟩,q⟩
def LenV (K:PySem.W.Frag) (x:V) (H:Hp) (n:Nat):Prop:=
 match x with
 | .str y=>y.length<=sizeLine/\n=y.length
 | .byt y=>y.size<=sizeLine/\n=y.size
 | .ref p=>(∃xs,SqL K H p xs/\n=xs.length) \/ ∃xs,SqT K H p xs/\n=xs.length
 | _=>False
end
structure ObjM (h:Heap) (x dx C:Addr) (mA:Str->Option Value):Prop where
 obj:h.get? x=some (PySem.W.instObj C dx)
 ns:h.Ns1 dx mA
 ne:dx≠x
theorem Xat{h:Heap}{dx:Addr}{mA:Str->Option Value}(n:h.Ns1 dx mA):∃od,h.get? dx=some od/\∀name,PySem.W.lookIn name od=some (mA name):=by
 obtain⟨o,es,ep,ho,hd,hk,_,hm⟩:=n;refine⟨o,ho,λname=>?_⟩;have e:=hm name;unfold nsFind findBy at e;rw[<-Array.find?_toList] at e;unfold PySem.W.lookIn;rw[hd];dsimp only;split
 ·rename_i y q;rw[q] at e;exact congrArg some e
 ·rename_i q;rw[q] at e;have a:es.toList.any (·.refKey)=false:=by
   rw[List.any_eq_false];intro y hy;obtain⟨z,t,hkey⟩:=hk y (Array.mem_toList_iff.mp hy);simp[DictEntry.refKey,hkey]
  have a':¬es.toList.any (·.refKey)=true:=by rw[a];exact Lu
  rw[Pp a'];exact congrArg some e
theorem ObjM.look{h:Heap}{x dx C:Addr}{mA:Str->Option Value}(I:ObjM h x dx C mA):∃od,PySem.W.InstAt h x (PySem.W.instObj C dx) C (some od)/\∀name,PySem.W.lookIn name od=some (mA name):=
 let ⟨od,ho,hl⟩:=Xat I.ns
 ⟨od,⟨I.obj,rfl,rfl,ho⟩,hl⟩
section
variable {prog:Program}{w:World}{A:Around}{E:Value->Shared->Prop}{s:Shared}{K:PySem.W.Frag}{x dx C f:Addr}{mA:Str->Option Value}{name:Str}{v:Value}
end
def Ix (f:Str) (v:V):List (Str×V)->List (Str×V)
 | []=>[(f,v)]
 | (g,x)::r=>if g=f then (g,v)::r else (g,x)::Ix f v r
theorem Bp.some_of{v:V}{o:Option Value}(r:Bp (some v) o):∃u,o=some u/\Ah v u:=by
 cases o with
 | none=>exact(show False from r).elim
 | some u=>exact⟨u,rfl,r⟩
theorem Xgf{v:V}{u:Value}(r:Ah v u):PySem.W.handedIn u=true:=by
 cases v with
 | non=>cases (show u=Value.none from r);rfl
 | bl b=>cases (show u=Value.bool b from r);rfl
 | int i=>obtain⟨t,e⟩:=(show ∃t,u=Value.int i t from r);cases e;rfl
 | str x=>obtain⟨t,e⟩:=(show ∃t,u=Value.str x t from r);cases e;rfl
 | byt b=>obtain⟨t,e⟩:=(show ∃t,u=Value.bytes b t from r);cases e;rfl
 | flt b=>obtain⟨t,e⟩:=(show ∃t,u=Value.float b t from r);cases e;rfl
 | ref a=>cases (show u=Value.ref a from r);rfl
 | ty n=>cases (show u=Value.type n from r);rfl
section
variable {P:Program}{w:World}{H H':Hp}{h h':Heap}{a C dx:Addr}{fs fs':List (Str×V)}
theorem Xgg(hok:HOk P w H h)(e:H a=some (.ins C dx fs)):∃mA,ObjM h a dx C mA/\(∀f,Bp (fs.lookup f) (mA f))/\PySem.Within mA (fs.map (·.1))/\fs.length<=1000/\H dx=some (.own a):=by
 obtain⟨d,z,ne,ob,mA,n,r,q⟩:=(show Ar P w H h a (.ins C dx fs) from hok a _ e);exact⟨mA,⟨ob,n,ne⟩,r,q,z,d⟩
end
structure Cls (K:PySem.W.Frag) (C:Addr):Prop where
 pg:PySem.W.plainGet K C Str.empty=true
 hd:PySem.W.hasDictIn K C=true
 po:PySem.W.plainOver K C=true
 sa:PySem.W.findIn K (.ref C) "__setattr__" = some (some (.builtin "object.__setattr__"))
theorem Cls.get{K:PySem.W.Frag}{C:Addr}(c:Cls K C)(f:Str):PySem.W.plainGet K C f=true:=c.pg
def Iy (K:PySem.W.Frag) (C:Addr) (f:Str):Prop:=PySem.W.findIn K (.ref C) f=some none
structure Con (K:PySem.W.Frag) (C:Addr) (f:Str) (v:V) (u:Value):Prop where
 at_:PySem.W.findIn K (.ref C) f=some (some u)
 rel:Ah v u
 get:PySem.W.specialIn K u "__get__" = some none
 cp:PySem.W.copiedNames.contains f=false
structure Meth (K:PySem.W.Frag) (C:Addr) (m:Str) (f:Addr):Prop where
 at_:PySem.W.findIn K (.ref C) m=some (some (.ref f))
 fn:PySem.W.isFn K (.ref f)=true
 kp:PySem.W.keepIn K (.ref f)=true
section
variable {X:Cx}{pins:List (Addr×Obj)}{σ:St}{H:Hp}{s:Shared}{a C dx:Addr}{fs:List (Str×V)}{f:Str}{v:V}{A:Around}{E:Value->Shared->Prop}
theorem Xgh{prog:Program}{w:World}{env:Env}{e:Expr}{f:Str}{pos:Pos}{s:Shared}{Q:Value->Shared->Prop}(hb:attributeBase e f env (eval e env)=eval e env)
  (h:wpAny (model prog w) A (eval e env) (λo s₁=>wpAny (model prog w) A (getAttr o f true) Q E s₁) E s):wpAny (model prog w) A (eval (.Attribute e f pos) env) Q E s:=
 Attribute_any_ h (by rw[arm_eval_Attribute,hb])
end
def tFld (K:PySem.W.Frag) (ta:TE) (f:Str):TE:=fun σ H Q=>ta σ H λx H1=>∃a C dx fs v,x = .ref a/\H1 a=some (.ins C dx fs)/\Cls K C/\Iy K C f/\fs.lookup f=some v/\Q v H1
def tCon (K:PySem.W.Frag) (ta:TE) (f:Str):TE:=fun σ H Q=>ta σ H λx H1=>∃a C dx fs v u,x = .ref a/\H1 a=some (.ins C dx fs)/\Cls K C/\Con K C f v u/\fs.lookup f=none/\Q v H1
def sFld (K:PySem.W.Frag) (ta tv:TE) (f:Str):TS:=λD σ H=>tv σ H λy H1=>ta σ H1 λx H2=>∃a C dx fs,x = .ref a/\H2 a=some (.ins C dx fs)/\Cls K C/\Iy K C f/\fs.length<1000 /\
 D.nx σ (upd H2 a (.ins C dx (Ix f y fs)))
def InOp (X:Cx) (op:Operator) (rd:V->V->Hp->VK->Prop):Prop:=
 ∀(pins:List (Addr×Obj)) (s:Shared) (σ:St) (H:Hp) (x y:V) (u v:Value) (Q:VK),Inv X pins σ H s->Ah x u->Ah y v->rd x y H Q->wpAny (model X.prog X.w) X.A (inplaceOp op u v) (EP X pins σ Q) X.xe s
def Xpd (K:PySem.W.Frag) (ta tv:TE) (rd:V->V->Hp->VK->Prop) (f:Str):TS:=λD σ H=>ta σ H λx H1=>∃a C dx fs v,x = .ref a/\H1 a=some (.ins C dx fs)/\Cls K C/\Iy K C f/\fs.lookup f=some v /\
 tv σ H1 λy H2=>rd v y H2 λz H3=>∃dx' fs',H3 a=some (.ins C dx' fs')/\fs'.length<1000/\D.nx σ (upd H3 a (.ins C dx' (Ix f z fs')))
section
variable {X:Cx}{o e value:Expr}{f:Str}{pos pos' tpos:Pos}{ta tv:TE}
end
section
variable {X:Cx}{pins:List (Addr×Obj)}{σ:St}{H:Hp}{s:Shared}{A:Around}{E:Value->Shared->Prop}{Q:Value->Shared->Prop}{c:Value}{b:Bool}
inductive TyOf (K:PySem.W.Frag) (H:Hp):V->Value->Prop where
 | non:TyOf K H .non (.type "NoneType")
 | bl (x:Bool):TyOf K H (.bl x) (.type "bool")
 | int (i:Int):TyOf K H (.int i) (.type "int")
 | str (x:Str):TyOf K H (.str x) (.type "str")
 | flt (x:UInt64):TyOf K H (.flt x) (.type "float")
 | lst {a:Addr} {xs:List V} (e:H a=some (.lst xs)):TyOf K H (.ref a) (.type "list")
 | frz {a:Addr} {o:Obj} {xs:List V} (e:H a=some (.frz o (.lst xs))):TyOf K H (.ref a) (.type "list")
 | tup {a:Addr} {xs:List V} (e:H a=some (.tup xs)):TyOf K H (.ref a) (.type "tuple")
 | dK {a:Addr} {kvs:List (Key×V)} (e:H a=some (.dK kvs)):TyOf K H (.ref a) (.type "dict")
 | dT {a:Addr} {kvs:List (List Key×V)} (e:H a=some (.dT kvs)):TyOf K H (.ref a) (.type "dict")
 | ins {a C dx:Addr} {fs:List (Str×V)} (e:H a=some (.ins C dx fs)) (cl:Cls K C) (ha:PySem.W.findIn K (.ref C) "__class__" = some (some (.builtin "object.__class__")))
   (hn:PySem.W.specialIn K (.builtin "object.__class__") "__get__" = some (some (.builtin "getset_descriptor.__get__"))) (htk:PySem.W.takesIn K (.builtin "object.__class__")=some true)
   (hm:PySem.W.mroIn K C (.type "object")=some true):TyOf K H (.ref a) (.ref C)
theorem Xgi{x:V}{u t:Value}(I:Inv X pins σ H s)(rx:Ah x u)(ty:TyOf X.K H x t)(e:PySem.W.kitOne X.K t c=some b)(h:∀tk,Q (.bool b) {s with toks:=tk}):
  wpAny (model X.prog X.w) A (call (.builtin "isinstance") [u,c]) Q E s:=by
 cases ty with
 | non=>cases (show u=Value.none from rx);exact PySem.W.kia_one PySem.W.kitx_none I.kIn True.intro e (λz=>nomatch z) h
 | bl y=>cases (show u=Value.bool y from rx);exact PySem.W.kia_one PySem.W.kitx_bool I.kIn True.intro e (λz=>nomatch z) h
 | int i=>obtain⟨t,q⟩:=(show ∃t,u=Value.int i t from rx);cases q;exact PySem.W.kia_one PySem.W.kitx_int I.kIn True.intro e (λz=>nomatch z) h
 | str y=>obtain⟨t,q⟩:=(show ∃t,u=Value.str y t from rx);cases q;exact PySem.W.kia_one PySem.W.kitx_str I.kIn True.intro e (λz=>nomatch z) h
 | flt y=>obtain⟨t,q⟩:=(show ∃t,u=Value.float y t from rx);cases q;exact PySem.W.kia_one PySem.W.kitx_float I.kIn True.intro e (λz=>nomatch z) h
 | @lst a xs ea=>
  cases (show u=Value.ref a from rx);obtain⟨_,_,n,_,h1⟩:=(show Ar X.prog X.w H s.heap a (.lst xs) from I.hok a _ ea);exact PySem.W.kia_one PySem.W.kitx_list I.kIn ⟨_,h1,rfl⟩ e (λz=>nomatch z) h
 | @frz a ob xs ea=>
  cases (show u=Value.ref a from rx);obtain⟨_,_,_,n,_,h1⟩:=(show Ar X.prog X.w H s.heap a (.frz ob (.lst xs)) from I.hok a _ ea);exact PySem.W.kia_one PySem.W.kitx_list I.kIn ⟨_,h1,rfl⟩ e (λz=>nomatch z) h
 | @tup a xs ea=>
  cases (show u=Value.ref a from rx);obtain⟨_,_,_,p⟩:=(show Ar X.prog X.w H s.heap a (.tup xs) from I.hok a _ ea);obtain⟨o,h1,h2,_⟩:=p;exact PySem.W.kia_one PySem.W.kitx_tuple I.kIn ⟨o,h1,h2⟩ e (λz=>nomatch z) h
 | @dK a kvs ea=>
  cases (show u=Value.ref a from rx);obtain⟨_,_,vs,_,p⟩:=(show Ar X.prog X.w H s.heap a (.dK kvs) from I.hok a _ ea);obtain⟨o,es,ep,h1,h2,_⟩:=p;exact PySem.W.kia_one PySem.W.kitx_dict I.kIn ⟨o,h1,h2.1⟩ e (λz=>nomatch z) h
 | @dT a kvs ea=>
  cases (show u=Value.ref a from rx);obtain⟨_,_,xs,_,o,es,ep,h1,h2,_⟩:=(show Ar X.prog X.w H s.heap a (.dT kvs) from I.hok a _ ea);exact PySem.W.kia_one PySem.W.kitx_dict I.kIn ⟨o,h1,h2.1⟩ e (λz=>nomatch z) h
 | @ins a C dx fs ea cl ha hn htk hm=>
  cases (show u=Value.ref a from rx);obtain⟨mA,O,_⟩:=Xgg I.hok ea;obtain⟨od,J,_⟩:=O.look;exact PySem.W.kia_one (PySem.W.kitx_own (cl.get _) cl.hd ha hn htk hm) I.kIn J e (λz=>nomatch z) h
end
structure Room (k:Nat) (A:Around):Prop where
 hd:A.handled=none
 dp:A.depth+3 * k+5<recursionLimit
 un:A.units+16 * k+200<cLine
 gd:A.guards=some []
theorem Room.mono{j k:Nat}{A:Around}(r:Room k A)(h:j<=k):Room j A:=⟨r.hd,by have:=r.dp;omega,by have:=r.un;omega,r.gd⟩
theorem Room.deeper{k:Nat}{A:Around}(r:Room (k+1) A)(env:Env):Room k (A.deeper env):=
 ⟨r.hd,by have:=r.dp;show A.depth+1+3 * k+5<_;omega,by have:=r.un;show A.units+3+16 * k+200<_;omega,r.gd⟩
theorem Xgj{A:Around}{C:Addr}{us:List Value}{kw:List (Str×Value)}:(A.under (.builtin "type.__call__" ⟨.ref C::us,kw⟩)).depth=A.depth+1:=by
 first | rfl | simp[Around.under,Code.weight,Code.isCreation,Code.isGuard,Code.isCaller,Code.frames,Code.isFrame,guardIds]
theorem Xgk{A:Around}{C:Addr}{us:List Value}{kw:List (Str×Value)}:(A.under (.builtin "type.__call__" ⟨.ref C::us,kw⟩)).units=A.units+1:=by
 first | rfl | simp[Around.under,Code.cUnits,Code.frames,Code.isFrame]
theorem Room.make{k:Nat}{A:Around}(r:Room (k+1) A)(C:Addr)(us:List Value)(kw:List (Str×Value)):Room k (A.under (.builtin "type.__call__" ⟨.ref C::us,kw⟩)):=
 ⟨r.hd,by have:=r.dp;rw[Xgj];omega,by have:=r.un;rw[Xgk];omega,by first | exact r.gd | (have:=r.gd;simp[Around.under,Code.isGuard,guardIds,pushGuards,this])⟩
theorem Room.depth{k:Nat}{A:Around}(r:Room k A):A.depth<recursionLimit:=by have:=r.dp;omega
theorem Room.units{k:Nat}{A:Around}(r:Room k A):A.units+64<cLine:=by have:=r.un;omega
theorem Room.units0{k:Nat}{A:Around}(r:Room k A):A.units<cLine:=by have:=r.un;omega
def Dq:TA:=λ_ H Q=>Q [] H
def D9 (ta:TE) (tr:TA):TA:=fun σ H Q=>ta σ H λx H1=>tr σ H1 λxs H2=>Q (x::xs) H2
section
variable {X:Cx}{e:Expr}{es:List Expr}{te:TE}{t:TA}{pos:Pos}
theorem Ab:PA X [] Dq:=λ_ _ _ _ H Q I h=>Calls.spliced_nil ⟨[],H,I,.nil,h⟩
theorem Aa(ha:PE X e te)(hr:PA X es t)(hs:starEach (e::es) X.env=(false,eval e X.env)::starEach es X.env:=by rfl):PA X (e::es) (D9 te t):=by
 intro pos pins s σ H Q I h;rw[hs];show wpAny _ _ (spliced ((false,eval e X.env)::backTo pos (starEach es X.env))) _ _ s;refine Calls.spliced_cons (thn (ha pins s σ H _ I h) λu s1 ⟨x,H1,I1,r1,q1⟩=>?_);exact thn (hr pos pins s1 σ H1 _ I1 q1) λus s2 ⟨xs,H2,I2,r2,q2⟩=>⟨x::xs,H2,I2,.cons r1 r2,q2⟩
def Iz (t:TA):TE:=fun σ H Q=>t σ H λxs H1=>xs.length<=sizeLine/\∀p,H1 p=none->Q (.ref p) (upd H1 p (.tup xs))
def tLst (t:TA):TE:=fun σ H Q=>t σ H λxs H1=>xs.length<=sizeLine/\∀p,H1 p=none->Q (.ref p) (upd H1 p (.lst xs))
theorem Be{x1}(h:PA X es t):PE X (.Tuple es x1 pos) (Iz t):=by
 intro pins s σ H Q I hq;refine wpAny_Tuple_spliced (thn (h pos pins s σ H _ I hq) λus s1 ⟨xs,H1,I1,r,z,q⟩=>⟨by rw[<-r.length];exact z,?_⟩);have hf:H1 s1.heap.objs.size=none:=I1.hok.fresh (Lk _);refine⟨.ref s1.heap.objs.size,upd H1 s1.heap.objs.size (.tup xs),I1.laid (t':=s1.toks) (λb u e=>Px _ e) (Lk _) ?_,rfl,q _ hf⟩;exact⟨z,us,r,⟨_,Heap.get?_push_size _ rfl,rfl,_,rfl⟩⟩
theorem Bf(h:PA X es t):PE X (.List es pos) (tLst t):=by
 intro pins s σ H Q I hq;refine wpAny_List_spliced (thn (h pos pins s σ H _ I hq) λus s1 ⟨xs,H1,I1,r,z,q⟩=>⟨by rw[<-r.length];exact z,?_⟩);have hf:H1 s1.heap.objs.size=none:=I1.hok.fresh (Lk _);refine⟨.ref s1.heap.objs.size,upd H1 s1.heap.objs.size (.lst xs),I1.laid (t':=s1.toks) (λb u e=>Px _ e) (Lk _) ?_,rfl,q _ hf⟩;exact⟨z,us,0,r,Heap.get?_push_size _ rfl⟩
end
abbrev Sp:=List V->Hp->VK->XK->Prop
abbrev CXT:=List Env->Hp->Shared->XK->Value->Shared->Prop
structure Env0 (P:Program) (w:World) (K:PySem.W.Frag) (mg:Str->Option Value) (base:Heap) (A:Around) (outer:List Env) (s:Shared) (H:Hp):Prop where
 frames:A.frames=some outer
 mod:Mod K mg base
 bs:∀b o,base.get? b=some o->s.heap.get? b=some o/\H b=none
 bsz:base.objs.size<=s.heap.objs.size
 funs:s.heap.FunFrames base outer
 frf:∀b∈frs outer,H b=none
 hok:HOk P w H s.heap
 bare:AllBare s.gens
def CE (outer:List Env) (P:Program) (w:World) (H:Hp) (s:Shared) (Q:VK) (u:Value) (s':Shared):Prop:=
 ∃v H',s'.os=s.os/\AllBare s'.gens/\Un (frs outer) [] H H' s.heap s'.heap/\HOk P w H' s'.heap/\Ah v u/\Q v H'
def CR (CX:CXT) (outer:List Env) (P:Program) (w:World) (H:Hp) (s:Shared) (Q:VK) (E:XK) (r:Result) (s':Shared):Prop:=
 match r with
 | .ok (.ret u)=>CE outer P w H s Q u s'
 | .ok _=>False
 | .error e=>CX outer H s E e s'
structure FnOk (P:Program) (w:World) (K:PySem.W.Frag) (mg:Str->Option Value) (base:Heap) (CX:CXT) (k:Nat) (f:Addr) (fd:FuncData) (ps:List Str) (sp:Sp):Prop where
 len:∀vs H Q E,sp vs H Q E->vs.length=ps.length
 run:∀(A:Around) (outer:List Env) (s:Shared) (H:Hp) (args:Args) (us:List Value) (vs:List V) (Q:VK) (E:XK),Room k A->Env0 P w K mg base A outer s H->BindsTo s fd args (ps.zip us)->Vals vs us->sp vs H Q E ->
  codeAny (model P w) A (.call (.ref f) args) (CR CX outer P w H s Q E) s
theorem Env0.make{P:Program}{w:World}{K:PySem.W.Frag}{mg:Str->Option Value}{base:Heap}{A:Around}{outer:List Env}{s:Shared}{H:Hp}(e:Env0 P w K mg base A outer s H)(C:Addr)(us:List Value)(kw:List (Str×Value)):
  Env0 P w K mg base (A.under (.builtin "type.__call__" ⟨.ref C::us,kw⟩)) outer s H:=⟨by first | exact e.frames | (simpa [Around.under,Code.envs,Code.isFrame,pushEnvs] using e.frames),e.mod,e.bs,e.bsz,e.funs,e.frf,e.hok,e.bare⟩
section
variable {X:Cx}{pins:List (Addr×Obj)}{σ:St}{H:Hp}{s s':Shared}
theorem Inv.env0(I:Inv X pins σ H s):Env0 X.prog X.w X.K X.mg X.base X.A X.stack s H:=
 ⟨I.ok.frames,I.ok.mod,I.bs,Mj I.ok.bsz I.sz,I.stack,I.stkFree,I.hok,I.bare⟩
theorem Inv.after{Q:VK}{u:Value}(I:Inv X pins σ H s)(h:CE X.stack X.prog X.w H s Q u s'):EP X pins σ Q u s':=by
 obtain⟨v,H',os,bare,un,hok,r,q⟩:=h;obtain⟨hh,g,d,t,os'⟩:=s';obtain rfl:os'=s.os:=os;exact⟨v,H',I.call (h':=hh) (g':=g) (d':=d) (t':=t) (ch:=[]) un hok bare (λb z=>absurd z (by simp)),r,q⟩
end
def Ja (sp:Sp) (dvs:List V) (E:XK) (t:TA):TE:=fun σ H Q=>t σ H λvs H1=>sp (vs++dvs) H1 Q E
def tMeth (C:Addr) (m:Str) (sp:Sp) (dvs:List V) (E:XK) (ta:TE) (t:TA):TE:=fun σ H Q=>ta σ H λx H1=>∃a dx fs,x = .ref a/\H1 a=some (.ins C dx fs)/\fs.lookup m=none /\
 t σ H1 λvs H2=>sp (x::(vs++dvs)) H2 Q E
def tMake (C:Addr) (sp:Sp) (dvs:List V) (E:XK) (t:TA):TE:=fun σ H Q=>t σ H λvs H1=>∀x dx,H1 x=none->H1 dx=none->dx≠x ->
 sp (.ref x::(vs++dvs)) (upd (upd H1 dx (.own x)) x (.ins C dx [])) (λv H2=>v = .non/\Q (.ref x) H2) E
def Binds (K:PySem.W.Frag) (fd:FuncData) (ps:List Str) (ds:List Value):Prop:=
 ∀(s:Shared) (us:List Value),K.In s.heap->(us++ds).length=ps.length->BindsTo s fd ⟨us,[]⟩ (ps.zip (us++ds))
theorem Binds.all{K:PySem.W.Frag}{fd:FuncData}{ps:List Str}(h:∀us:List Value,us.length=ps.length->bindArgs fd ⟨us,[]⟩=pure (ps.zip us)):Binds K fd ps []:=λs us _ hl=>by
 rw[Mr] at hl ⊢;exact .of_eq (h us hl)
def Passes (CX:CXT) (X:Cx) (E:XK):Prop:=∀(pins:List (Addr×Obj)) (σ:St) (H:Hp) (s:Shared) (e:Value) (s':Shared),Inv X pins σ H s->CX X.stack H s E e s'->X.xe e s'
section
variable {X:Cx}{CX:CXT}{k:Nat}{f C:Addr}{fd:FuncData}{ps:List Str}{sp:Sp}{dvs:List V}{ds:List Value}{E:XK}{x m:Str}{p pos apos:Pos}{e o:Expr}{es:List Expr}{ta:TE}{t:TA}
theorem Xgl{pins:List (Addr×Obj)}{σ:St}{H:Hp}{s:Shared}{Q:VK}{us:List Value}{vs:List V}(F:FnOk X.prog X.w X.K X.mg X.base CX k f fd ps sp)(hr:Room k X.A)(hb:Binds X.K fd ps ds)(hd:Vals dvs ds)(hx:Passes CX X E)
  (I:Inv X pins σ H s) (r:Vals vs us) (h:sp (vs++dvs) H Q E):wpAny (model X.prog X.w) X.A (call (.ref f) us) (EP X pins σ Q) X.xe s:=by
 have r2:Vals (vs++dvs) (us++ds):=r.append hd;have hl:(us++ds).length=ps.length:=by rw[<-r2.length];exact F.len _ _ _ _ h
 refine wpAny_call (codeAny_mono (F.run X.A X.stack s H ⟨us,[]⟩ (us++ds) (vs++dvs) Q E hr I.env0 (hb s us I.kIn hl) r2 h) λr s' hq=>?_);cases r with
 | error e=>exact hx pins σ H s e s' I hq
 | ok fl=>
  cases fl with
  | ret u=>exact I.after hq
  | next=>exact False.elim hq
  | brk=>exact False.elim hq
  | cont=>exact False.elim hq
theorem Xgm(F:FnOk X.prog X.w X.K X.mg X.base CX k f fd ps sp)(hr:Room k X.A)(hg:Gl X x)(hm:X.mg x=some (.ref f))(hk:PySem.W.keepIn X.K (.ref f)=true)(hb:Binds X.K fd ps ds)(hd:Vals dvs ds)(hx:Passes CX X E)
  (ha:PA X (e::es) t) (hdb:(x==("__debug__" : Str))=false:=by decide) (he:starEach (e::es) X.env=(false,eval e X.env)::starEach es X.env:=by rfl) (hpl:(backTo pos (starEach es X.env)).any (·.1)=false:=by rfl):
  PE X (.Call (.Name x p) (e::es) [] pos) (Ja sp dvs E t):=by
 intro pins s σ H Q I h;refine wpAny_Call_Name_kw (D4 I hg hm ?_ hdb);refine PySem.W.callWith_K (h₀:=X.base) I.ok.mod.kin hk (thn (ha pos pins s σ H _ I h) λus s1 ⟨vs,H1,I1,r,q⟩=>⟨I1.kIn,?_⟩) he hpl;exact Xgl F hr hb hd hx I1 r q
structure Mk (K:PySem.W.Frag) (C f:Addr):Prop where
 makes:PySem.W.makesIn K C=true
 init:PySem.W.findIn K (.ref C) "__init__" = some (some (.ref f))
 fn:PySem.W.isFn K (.ref f)=true
 kp:PySem.W.keepIn K (.ref C)=true
end
def PK (X:Cx) (kws:List Keyword) (t:TA):Prop:=
 ∀(pos:Pos) (pins:List (Addr×Obj)) (s:Shared) (σ:St) (H:Hp) (Q:List V->Hp->Prop),Inv X pins σ H s->t σ H Q->wpAny (model X.prog X.w) X.A (evalAll ((backToKw pos (keywordEach kws X.env)).map (·.2))) (AP X pins σ Q) X.xe s
section
variable {X:Cx}{CX:CXT}{k:Nat}{f C:Addr}{fd:FuncData}{ps ks:List Str}{sp:Sp}{E:XK}{x m:Str}{p pos apos kpos:Pos}{e o:Expr}{es:List Expr}{kws:List Keyword}{te ta:TE}{t tk:TA}{nm:Option Str}
structure KBinds (K:PySem.W.Frag) (fd:FuncData) (ps ks:List Str) (g:List Value->List Value->List Value) (gV:List V->List V->List V):Prop where
 to:∀(s:Shared) (us ws:List Value),K.In s.heap->(g us ws).length=ps.length->BindsTo s fd ⟨us,ks.zip ws⟩ (ps.zip (g us ws))
 rel:∀{vs:List V} {us:List Value} {zs:List V} {ws:List Value},Vals vs us->Vals zs ws->Vals (gV vs zs) (g us ws)
variable {g:List Value->List Value->List Value}{gV:List V->List V->List V}
end
structure FnScope (N P:List Str) (sc:Scope):Prop where
 kind:sc.kind = .function
 co:sc.isCoroutine=false
 gen:sc.isGenerator=false
 nd:N.Nodup
 pre:N.take P.length=P
 par:∀x∈P,sc.names.lookup x=some .local\/sc.names.lookup x=some .cell
 nofree:∀y∈sc.names,y.2 ≠ .free
theorem Xau{kindOf:Str->Option NameKind}{x:Str}:∀{binds:List (Str×Value)} {m:Str->Option Value},(∀v,(x,v)∉binds)->bindL kindOf binds m x=m x
 | [],_,_=>rfl
 | (n,v)::r,m,h=>by
  unfold bindL;rw[Xau λw hw=>h w (Ll _ hw)];split
  ·have:x≠n:=by rintro rfl;exact h v Lo
   simp[this]
  ·rfl
theorem Xav{kindOf:Str->Option NameKind}{x:Str}:∀{binds:List (Str×Value)} {m:Str->Option Value},(∀v,(x,v)∉binds)->bindC kindOf binds m x=m x
 | [],_,_=>rfl
 | (n,v)::r,m,h=>by
  unfold bindC;rw[Xav λw hw=>h w (Ll _ hw)];split
  ·rfl
  ·have:x≠n:=by rintro rfl;exact h v Lo
   simp[this]
theorem Xaw{kindOf:Str->Option NameKind}{x:Str}{v:Value}:∀{P:List Str} {vs:List Value} {i:Nat} {m:Str->Option Value},P.Nodup->P[i]? = some x->vs[i]? = some v->kindOf x=some .local ->
  bindL kindOf (P.zip vs) m x=some v
 | [],_,_,_,_,h,_,_=>by simp at h
 | _::_,[],_,_,_,_,h,_=>by simp at h
 | p::P,w::vs,0,m,nd,h1,h2,hk=>by
  simp at h1 h2;subst h1;subst h2;show bindL kindOf ((p,w)::P.zip vs) m p=_;unfold bindL;rw[Xau λv hv=>(Mv.mp nd).1 (List.of_mem_zip hv).1,Pq hk];simp
 | p::P,w::vs,i+1,m,nd,h1,h2,hk=>by
  show bindL kindOf ((p,w)::P.zip vs) m x=_;unfold bindL;exact Xaw (i:=i) (Mv.mp nd).2 (by simpa using h1) (by simpa using h2) hk
theorem Xax{kindOf:Str->Option NameKind}{x:Str}{v:Value}:∀{P:List Str} {vs:List Value} {i:Nat} {m:Str->Option Value},P.Nodup->P[i]? = some x->vs[i]? = some v->kindOf x≠some .local ->
  bindC kindOf (P.zip vs) m x=some v
 | [],_,_,_,_,h,_,_=>by simp at h
 | _::_,[],_,_,_,_,h,_=>by simp at h
 | p::P,w::vs,0,m,nd,h1,h2,hk=>by
  simp at h1 h2;subst h1;subst h2;show bindC kindOf ((p,w)::P.zip vs) m p=_;unfold bindC;rw[Xav λv hv=>(Mv.mp nd).1 (List.of_mem_zip hv).1,Pp hk];simp
 | p::P,w::vs,i+1,m,nd,h1,h2,hk=>by
  show bindC kindOf ((p,w)::P.zip vs) m x=_;unfold bindC;exact Xax (i:=i) (Mv.mp nd).2 (by simpa using h1) (by simpa using h2) hk
def start (N:List Str) (vs:List V):St:=vs.map some++List.replicate (N.length - vs.length) none
def Br (CX:CXT) (P:Program) (w:World) (K:PySem.W.Frag) (mg:Str->Option Value) (base:Heap) (N:List Str) (qual:Str) (scope:Scope) (f:Addr) (cd:Value) (A:Around) (outer:List Env) (s:Shared) (H:Hp) (E:XK):Cx where
 prog:=P
 w:=w
 K:=K
 mg:=mg
 base:=base
 A:=A.deeper (envOfC qual scope s.heap.objs.size f cd)
 N:=N
 s₀:=s
 H₀:=H
 env:=envOfC qual scope s.heap.objs.size f cd
 outer:=outer
 stack:=envOfC qual scope s.heap.objs.size f cd::outer
 ex:=[]
 calm:=true
 fn:=λ_=>true
 pn:=[]
 xe:=λe s'=>wpAny (model P w) (A.deeper (envOfC qual scope s.heap.objs.size f cd)) (leaving (envOfC qual scope s.heap.objs.size f cd) e) (λ_ s''=>CX outer H s E e s'') (λe' s''=>CX outer H s E e' s'') s'
theorem Xay{sc:Scope}{n:Nat}{x:Str}(h:sc.names.lookup x=some .cell):∃c,(cellsFrom n sc.names []).lookup x=some c:=by
 have q:=PySem.W.cellsFrom_some sc.names n [] (.inl h);exact Ng.mp q
theorem Xgn{CX:CXT}{P:Program}{w:World}{K:PySem.W.Frag}{mg:Str->Option Value}{base:Heap}{N ps:List Str}{qual:Str}{scope:Scope}{f:Addr}{cd:Value}{A:Around}{outer:List Env}{s s1:Shared}{H:Hp}{E:XK}{us:List Value}{vs:List V}
  (S:FnScope N ps scope) (hd:A.handled=none) (e0:Env0 P w K mg base A outer s H) (hl:vs.length=ps.length) (r:Vals vs us)
  (x:InCallC s s.heap.objs.size (bindL (envOfC qual scope s.heap.objs.size f cd).kindOf (ps.zip us) λ_=>none) (cellsFrom (s.heap.objs.size+1) scope.names []) (bindC (envOfC qual scope s.heap.objs.size f cd).kindOf (ps.zip us) λ_=>none) s1):
  Inv (Br CX P w K mg base N qual scope f cd A outer s H E) [] (start N vs) H s1:=by
 have hpl:ps.length<=N.length:=by have:=congrArg List.length S.pre;rw[Mb] at this;omega
 obtain⟨h1,tk,rfl,hk⟩:=x.done;have noA:∀b:Addr,b∉(Br CX P w K mg base N qual scope f cd A outer s H E).ex:=λb z=>absurd (show b∈([]:List Addr) from z) (by simp);refine⟨⟨e0.mod,S.kind,rfl,rfl,Lk _,λy z c h1 h2=>?_,λy hy=>?_,λy c _ h=>?_,λ_=>hd,Around.frames_deeper e0.frames,.inr ⟨rfl,rfl⟩,λb z=>absurd z (noA b),e0.bs,e0.bsz,λb _ _=>noA b,λb z=>absurd z (noA b),e0.funs,e0.frf⟩,
  rfl,e0.bare,Un.kept hk,⟨_,x.toInCall.ns,λi y v h1 h2 h3=>?_⟩,λy c h=>⟨_,x.cell y c h⟩,e0.hok.fresh (Lk _),λy c h=>?_,λp hp=>absurd (show p∈([]:List (Addr×Obj)) from hp) (by simp),e0.hok.kept hk,?_⟩
 ·exact name_of_addr x.apart (PySem.mem_of_lookup h1) (PySem.mem_of_lookup h2)
 ·have hy:scope.names.lookup y=some .cell\/scope.names.lookup y=some .free:=hy;rcases hy with hy | hy
  ·exact Xay hy
  ·exact absurd rfl (S.nofree _ (PySem.mem_of_lookup hy))
 ·exact Ox (x.above y c (PySem.mem_of_lookup h))
 ·have hi:i<vs.length:=by
   unfold start at h2;by_cases hi:i<vs.length
   ·exact hi
   ·rw[Nr (by simpa using hi)] at h2;rw[List.getElem?_replicate] at h2;split at h2<;>cases h2
  have ha:vs[i]? = some v:=by
   unfold start at h2;rw[Oe (by simpa using hi),Lz] at h2;cases e:vs[i]? with
   | none=>rw[e] at h2;cases h2
   | some a=>rw[e] at h2;cases h2;rfl
  obtain⟨u,hu,rv⟩:=r.get ha;have hp:ps[i]? = some y:=by
   rw[<-S.pre,List.getElem?_take_of_lt (by omega)];exact h1
  have ndP:ps.Nodup:=by rw[<-S.pre];exact S.nd.sublist (Ob _ _)
  refine⟨u,rv,?_⟩;rcases S.par y (M8 hp) with k | k
  ·exact .inl ⟨k,Xaw ndP hp hu k⟩
  ·obtain⟨c,e⟩:=Xay (n:=s.heap.objs.size+1) k;refine .inr ⟨.inl k,c,e,?_⟩;have q:=x.cell y c e;rw[Xax ndP hp hu (by show scope.names.lookup y≠_;rw[k];decide)] at q;exact q
 ·exact e0.hok.fresh (Ox (x.above y c (PySem.mem_of_lookup h)))
 ·unfold start;show _=N.length;rw[Ln,Li,List.length_replicate];omega
theorem Jb{CX:CXT}{P:Program}{w:World}{K:PySem.W.Frag}{mg:Str->Option Value}{base:Heap}{k:Nat}{f:Addr}{name qual:Str}{params:Arguments}{body:List Stmt}{scope:Scope}{dV kV doc pm cdv ct oc:Value}{an od:Option Addr}
  {osl:Array (Option Value)} {N ps:List Str} {sp:Sp} (lk:K.lookup f=some ⟨oc,od,.func (PySem.W.fnOf name qual params body scope dV kV doc pm an cdv ct),osl⟩) (hcd:PySem.W.codeIn K cdv qual=true) (S:FnScope N ps scope)
  (len:∀vs H Q E,sp vs H Q E->vs.length=ps.length)
  (hbody:∀(A:Around) (outer:List Env) (s:Shared) (H:Hp) (vs:List V) (Q:VK) (E:XK),Room k (A.deeper (envOfC qual scope s.heap.objs.size f cdv))->sp vs H Q E ->
   ∃t,PSs (Br CX P w K mg base N qual scope f cdv A outer s H E) body t/\t {nx:=λ_ H'=>Q .non H',rt:=Q} (start N vs) H):
  FnOk P w K mg base CX (k+1) f (PySem.W.fnOf name qual params body scope dV kV doc pm an cdv ct) ps sp:=by
 refine⟨len,λA outer s H args us vs Q E hr e0 hb r hsp=>?_⟩;have hl:=len _ _ _ _ hsp;have KX:K.In s.heap:=e0.mod.kin.keeps λb o e=>(e0.bs b o e).1;have lim:s.heap.NoLimit:=e0.mod.nolimit.keeps λb o e=>(e0.bs b o e).1;have hkind:∀y∈ps.zip us,scope.names.lookup y.1=some .local\/(scope.names.lookup y.1=some .cell/\((cellsFrom (s.heap.objs.size+1) scope.names []).lookup y.1).isSome=true):=λ⟨n,v⟩ hy=>by
  rcases S.par n (List.of_mem_zip hy).1 with q | q
  ·exact .inl q
  ·exact .inr ⟨q,PySem.W.cellsFrom_some _ _ _ (.inl q)⟩
 refine codeAny_call_function hr.depth (KX _ _ lk) rfl S.co S.gen rfl (PySem.W.codeRec_of KX hcd) (hb _ _ _ _ ?_);refine wpAny_newFunctionEnv_cells S.kind hkind λenv he s1 x=>?_;subst he;refine⟨lim.keeps x.toInCall.keep,codeAny_func ?_⟩;obtain⟨t,ht,hq⟩:=hbody A outer s H vs Q E (hr.deeper _) hsp;have I:Inv (Br CX P w K mg base N qual scope f cdv A outer s H E) [] (start N vs) H s1:=Xgn S hr.hd e0 hl r x;refine wpAny_mono (ht [] s1 (start N vs) H _ I hq) (λfl s' hs=>?_) λe s' hs=>hs;have fin:∀{σ':St} {H':Hp} {v:V} {u:Value},Inv (Br CX P w K mg base N qual scope f cdv A outer s H E) [] σ' H' s'->Ah v u->Q v H'->CE outer P w H s Q u s':=
  λ{σ' H' v u} J rv q=>⟨v,H',J.os,J.bare,J.base,J.hok,rv,q⟩
 cases fl with
 | ret u=>
  obtain⟨v, σ',H',J,rv,q⟩:=hs;exact fin J rv q
 | next=>
  obtain⟨σ',H',J,q⟩:=hs;exact fin (v:=V.non) (u:=Value.none) J rfl q
 | brk=>
  obtain⟨_,_,_,q⟩:=hs;exact False.elim q
 | cont=>
  obtain⟨_,_,_,q⟩:=hs;exact False.elim q
section
variable {X:Cx}{x:Str}{p pos:Pos}{e:Expr}{es:List Expr}{t:TA}{id T:String}{r:List V->Hp->VK->Prop}
def tCB (r:List V->Hp->VK->Prop) (t:TA):TE:=fun σ H Q=>t σ H λvs H1=>r vs H1 Q
theorem A4(hc:Bh X (.builtin id) r)(hg:Gl X x)(hm:X.mg x=none)(hv:bootBuiltins x=some (.builtin id))(ha:PA X (e::es) t)(hn:x ≠ "__name__" := by decide)(hdb:(x==("__debug__" : Str))=false:=by decide)
  (he:starEach (e::es) X.env=(false,eval e X.env)::starEach es X.env:=by rfl) (hpl:(backTo pos (starEach es X.env)).any (·.1)=false:=by rfl):PE X (.Call (.Name x p) (e::es) [] pos) (tCB r t):=by
 intro pins s σ H Q I h;refine wpAny_Call_Name_kw (Fj I hg hm hv ?_ hn hdb);exact PyProof.Rows.callWith_builtin1 (thn (ha pos pins s σ H _ I h) λus s1 ⟨vs,H1,I1,r1,q1⟩=>hc pins s1 σ H1 vs us Q I1 r1 q1) he hpl
theorem Bn(hc:Bh X (.type T) r)(hg:Gl X x)(hm:X.mg x=none)(hv:bootBuiltins x=some (.type T))(ha:PA X (e::es) t)(hn:x ≠ "__name__" := by decide)(hdb:(x==("__debug__" : Str))=false:=by decide)
  (he:starEach (e::es) X.env=(false,eval e X.env)::starEach es X.env:=by rfl) (hpl:(backTo pos (starEach es X.env)).any (·.1)=false:=by rfl):PE X (.Call (.Name x p) (e::es) [] pos) (tCB r t):=by
 intro pins s σ H Q I h;refine wpAny_Call_Name_kw (Fj I hg hm hv ?_ hn hdb);exact PyProof.Rows.callWith_type1 (thn (ha pos pins s σ H _ I h) λus s1 ⟨vs,H1,I1,r1,q1⟩=>hc pins s1 σ H1 vs us Q I1 r1 q1) he hpl
end
end L2
namespace HT
open PySem PyProof.Rows
def Xgo:List Int->List Int->Bool
 | [],[]=>false
 | [],_::_=>true
 | _::_,[]=>false
 | x::xs,y::ys=>if x=y then Xgo xs ys else decide (x<y)
section
open PySem.SeqAt
open PySem.AutoSeq1 (wpAny_loadPart')
open PySem.MeetsSeq PySem.MeetsSeq2 PySem.MeetsSeq3
end
section
variable {prog:Program}{w:World}{A:Around}{E:Value->Shared->Prop}{s:Shared}
theorem cat_tup{t b:Addr}{vs ws:List Value}{Q:Value->Shared->Prop}(ht:IsTup s.heap t vs.toArray)(hb:IsTup s.heap b ws.toArray)(hv:vs≠[])
  (h1:ws=[]->Q (.ref t) s) (h2:ws≠[]->Q (.ref s.heap.objs.size) {s with heap:=s.heap.push {cls:=.type "tuple",data:=.seq (vs++ws).toArray} })
  (hsz:vs.length+ws.length<=sizeLine):wpAny (model prog w) A (binaryOp .Add (.ref t) (.ref b)) Q E s:=by
 obtain⟨⟨cls,dd,data,sl⟩,ho,hc,n,hd⟩:=id ht;obtain⟨⟨cls2,dd2,data2,sl2⟩,ho2,hc2,n2,hd2⟩:=id hb;simp only at hc hd hc2 hd2;subst hc hd hc2 hd2;have e:vs.toArray++ws.toArray=(vs++ws).toArray:=by simp
 by_cases hw:ws=[]
 ·exact concat_meets ⟨_,ho,rfl⟩ ⟨_,ho2,rfl⟩ noFill_tuple_add seq_tuple_add PySem.F.slot_tuple_add PySem.F.entry_tuple_add (PySem.F.args_tuple_add_2 _ _)
   (tuple_addW1 t b vs.toArray ws.toArray n n2 dd dd2 sl sl2 (by simpa using hv) (by simp[hw])) ⟨ho,ho2,h1 hw⟩
 ·refine concat_meets ⟨_,ho,rfl⟩ ⟨_,ho2,rfl⟩ noFill_tuple_add seq_tuple_add PySem.F.slot_tuple_add PySem.F.entry_tuple_add (PySem.F.args_tuple_add_2 _ _)
   (tuple_addW2 t b vs.toArray ws.toArray n n2 dd dd2 sl sl2 (by simpa using hv) (by simpa using hw) (by rw[Lj,Lj];exact hsz)) ⟨ho,ho2,?_⟩
  rw[e];exact h2 hw
def sIx (n d:Nat):Option Int->Nat
 | none=>d
 | some v=>if v<0 then (v+(n:Int)).toNat else min v.toNat n
theorem sIx_none(n d:Nat):sIx n d none=d:=rfl
theorem sIx_nat(n d k:Nat):sIx n d (some (k:Int))=min k n:=by
 show (if (k:Int)<0 then ((k:Int)+(n:Int)).toNat else min (k:Int).toNat n)=min k n;rw[Pp (by omega),Nc]
theorem Xgp(n d:Nat)(hd:d<=n)(o:Option Int):sIx n d o<=n:=by
 cases o with
 | none=>exact hd
 | some v=>
  show (if v<0 then (v+(n:Int)).toNat else min v.toNat n)<=n;by_cases hv:v<0
  ·rw[Pq hv];omega
  ·rw[Pp hv];exact Nat.min_le_right _ _
theorem Xaz(v:Int)(n d:Nat):(if v<0 then max (v+(n:Int)) 0 else min v (n:Int))=((sIx n d (some v):Nat):Int):=by
 show (if v<0 then max (v+(n:Int)) 0 else min v (n:Int))=(((if v<0 then (v+(n:Int)).toNat else min v.toNat n):Nat):Int);by_cases hv:v<0
 ·simp only[Pq hv];omega
 ·simp only[Pp hv];omega
theorem Xgq(lo hi:Option Int)(n:Nat):Builtin.Slice.sliceAdjust lo hi 1 (n:Int)=(((sIx n 0 lo:Nat):Int),((sIx n n hi:Nat):Int)):=by
 have h1:¬((1:Int)<0):=by omega
 unfold Builtin.Slice.sliceAdjust;simp only[h1,if_false];refine Prod.ext ?_ ?_
 ·cases lo with
  | none=>rfl
  | some v=>exact Xaz v n 0
 ·cases hi with
  | none=>rfl
  | some v=>exact Xaz v n n
theorem Xgr(i j:Nat):Builtin.Slice.slicePlaces (i:Int) (j:Int) 1=j - i:=by
 unfold Builtin.Slice.slicePlaces;have h1:(1:Int) > 0:=by omega
 simp only[h1,if_true,Int.ediv_one];split<;>omega
theorem Xa0{v:Value}{o:Option Int}{Q:Option Int->Shared->Prop}(p:IsPart v o)(h:Q o s):wpAny (model prog w) A (Builtin.Slice.slicePartIndex v) Q E s:=by
 cases p with
 | none=>exact slicePart_none h
 | int i t=>exact slicePart_int h
theorem Xa1{sl:Addr}{vl vu:Value}{lo hi:Option Int}{n:Nat}{Q:Int×Int×Nat->Shared->Prop}(hs:s.heap.IsSliceOf sl vl vu .none)(pl:IsPart vl lo)(pu:IsPart vu hi)
  (h:Q (((sIx n 0 lo:Nat):Int),1,sIx n n hi - sIx n 0 lo) s):wpAny (model prog w) A (Builtin.Slice.sliceApplied (.ref sl) (pure (n:Int))) Q E s:=by
 obtain⟨os,hos,hcs,hds⟩:=id hs;unfold Builtin.Slice.sliceApplied Builtin.Slice.sliceFields;refine Pm (Pm (wpAny_field hos hds (x:=vl) rfl (Pm (wpAny_field hos hds (x:=vu) rfl (Pm (wpAny_field hos hds (x:=.none) rfl (Pn ?_)))))));refine Pm (slicePart_none ?_);show wpAny _ _ (if ((1:Int)==0)=true then _ else _) _ _ s;rw[Pp (by decide)];refine Pm (Xa0 pl (Pm (Xa0 pu (Pm (Pn ?_)))));show wpAny _ _ (match Builtin.Slice.sliceAdjust lo hi 1 (n:Int) with | (lo,hi)=>pure (lo,(1:Int),Builtin.Slice.slicePlaces lo hi 1)) _ _ s;rw[Xgq lo hi n];show wpAny _ _ (pure (((sIx n 0 lo:Nat):Int),(1:Int),Builtin.Slice.slicePlaces ((sIx n 0 lo:Nat):Int) ((sIx n n hi:Nat):Int) 1)) _ _ s;rw[Xgr];exact Pn h
theorem Xgs(xs:Array Value)(i k:Nat):((List.range k).filterMap λ(m:Nat)=>xs[((i:Int)+(m:Int) * 1).toNat]?).toArray=((xs.toList.drop i).take k).toArray:=by
 have e:(λ(m:Nat)=>xs[((i:Int)+(m:Int) * 1).toNat]?)=λm=>xs[i+m]?:=by
  funext m;have:((i:Int)+(m:Int) * 1).toNat=i+m:=by omega
  rw[this]
 rw[e];have:=pick_run xs i k;rw[Pa] at this;have e2:((λx=>xs[x]?) ∘ λx=>i+x)=λm=>xs[i+m]?:=rfl;rw[e2] at this;rw[this]
theorem getItem_tuple_cut{t sl:Addr}{items:Array Value}{vl vu:Value}{lo hi:Option Int}{Q:Value->Shared->Prop}(ht:IsTup s.heap t items)(hs:s.heap.IsSliceOf sl vl vu .none)(pl:IsPart vl lo)(pu:IsPart vu hi)
  (hw:¬(sIx items.size 0 lo=0/\sIx items.size items.size hi=items.size))
  (h:Q (.ref s.heap.objs.size) {s with heap:=s.heap.push {cls:=.type "tuple",data:=.seq ((items.toList.drop (sIx items.size 0 lo)).take (sIx items.size items.size hi - sIx items.size 0 lo)).toArray} })
  (hsz:items.size<=sizeLine):wpAny (model prog w) A (getItem (.ref t) (.ref sl)) Q E s:=by
 have htake:sizeOk (.seq ((items.toList.drop (sIx items.size 0 lo)).take (sIx items.size items.size hi - sIx items.size 0 lo)).toArray):=by
  show ((items.toList.drop (sIx items.size 0 lo)).take (sIx items.size items.size hi - sIx items.size 0 lo)).toArray.size<=sizeLine;rw[Lj,Mb,Na,Lp];omega
 have hj:sIx items.size items.size hi<=items.size:=Xgp _ _ (Lk _) hi;obtain⟨os,hos,hcs,hds⟩:=id hs;have hTs:s.TypeIs (.ref sl) "slice" := ⟨os,hos,hcs⟩;unfold getItem
 try with_reducible refine wpAny_holding ?_
 first | refine Pm (Pn ?_) | skip
 refine Pm (wpAny_sequenceKey ht.typeIs (by decide) ?_);refine Pm (wpAny_callSpecial?_slot (name:=Str.ofString "__getitem__") ht.typeIs PyProof.Rows.slot_tuple_getitem
  (wpAny_call_entry PyProof.Rows.slot_tuple_getitem ht.typeIs entry_tuple_getitem ?_ (args_tuple_getitem _ _)))
 show wpAny _ _ (Builtin.Tuple.tupleItemsOf (.ref t) >>= _) _ _ s;refine Pm (tupleItemsOf_ ht ?_);refine Pm (wpAny_typeOf hTs ?_);rw[Pq (by decide)];refine Pm (Xa1 hs pl pu ?_);have hno:¬((((sIx items.size 0 lo:Nat):Int)==0&&(1:Int)==1&&(sIx items.size items.size hi - sIx items.size 0 lo)==items.size)=true):=by
  intro q;rw[Lv,Lv] at q;have q1:((sIx items.size 0 lo:Nat):Int)=0:=eq_of_beq q.1.1;have q2:sIx items.size items.size hi - sIx items.size 0 lo=items.size:=eq_of_beq q.2;exact hw ⟨by omega,by omega⟩
 show wpAny _ _ (if (((sIx items.size 0 lo:Nat):Int)==0&&(1:Int)==1&&(sIx items.size items.size hi - sIx items.size 0 lo)==items.size)=true then _ else _) _ _ s;rw[Pp hno,Xgs]
 first
  | exact Pm (m:=Builtin.Tuple.tupleExact _) (wpAny_newObj_type (Pn ⟨_,rfl,Pn h⟩) htake)
  | exact Pm (m:=Builtin.Tuple.tupleExact _) (wpAny_newObj_type (Pm (Pn (Pn ⟨_,rfl,Pn h⟩))) htake)
  | exact Pm (Pm (m:=Builtin.Tuple.tupleExact _) (wpAny_newObj_type (Pn (Pn ⟨_,rfl,Pn h⟩)) htake))
  | exact Pm (Pm (m:=Builtin.Tuple.tupleExact _) (wpAny_newObj_type (Pn ⟨_,rfl,Pn h⟩) htake))
end
end HT
namespace L2
open PySem PySem.Spec PyProof.Rows
abbrev TO:=St->Hp->(Option Int->Hp->Prop)->Prop
def PO (X:Cx) (e:Option Expr) (t:TO):Prop:=
 ∀(pins:List (Addr×Obj)) (s:Shared) (σ:St) (H:Hp) (Q:Option Int->Hp->Prop),Inv X pins σ H s->t σ H Q ->
  wpAny (model X.prog X.w) X.A (evalPart e X.env) (λu s'=>∃o H',Inv X pins σ H' s'/\IsPart u o/\Q o H') X.xe s
def Jc:TO:=λ_ H Q=>Q none H
def Jd (t:TE):TO:=fun σ H Q=>t σ H λx H1=>∃i,x = .int i/\Q (some i) H1
section
variable {X:Cx}{e:Expr}{te:TE}{lo hi:Option Expr}{tl th:TO}{pos p2:Pos}
theorem Bz:PO X none Jc:=by
 intro pins s σ H Q I h;rw[evalPart_none];exact Pn ⟨none,H,I,.none,h⟩
theorem Bs(h:PE X e te):PO X (some e) (Jd te):=by
 intro pins s σ H Q I hw;rw[evalPart_some];refine thn (h pins s σ H _ I hw) λu s1 ⟨x,H1,I1,r1,q1⟩=>?_;obtain⟨i,rfl,q⟩:=q1;obtain⟨t,rfl⟩:=r1;exact⟨some i,H1,I1,.int i t,q⟩
def SlR (X:Cx) (r:V->Option Int->Option Int->Hp->VK->Prop):Prop:=
 ∀(pins:List (Addr×Obj)) (s:Shared) (σ:St) (H:Hp) (x:V) (v vl vu:Value) (lo hi:Option Int) (sl:Addr) (Q:VK),Inv X pins σ H s->Ah x v->s.heap.IsSliceOf sl vl vu .none->IsPart vl lo->IsPart vu hi->r x lo hi H Q ->
  ∃T id,typeLookup (.type T) "__getitem__" = pure (some (.builtin id))/\s.TypeIs v T/\wpAny (model X.prog X.w) X.A (getItem v (.ref sl)) (EP X pins σ Q) X.xe s
def tSl (r:V->Option Int->Option Int->Hp->VK->Prop) (te:TE) (tl th:TO):TE:=fun σ H Q=>te σ H λx H1=>tl σ H1 λl H2=>th σ H2 λu H3=>r x l u H3 Q
theorem Bu{r:V->Option Int->Option Int->Hp->VK->Prop}(hr:SlR X r)(he:PE X e te)(hl:PO X lo tl)(hu:PO X hi th):PE X (.Subscript e (.Slice lo hi none p2) pos) (tSl r te tl th):=by
 intro pins s σ H Q I h;refine Subscript_ (thn (he pins s σ H _ I h) λv s1 ⟨x,H1,I1,r1,q1⟩=>?_);refine wpAny_Slice (thn (hl pins s1 σ H1 _ I1 q1) λvl s2 ⟨l,H2,I2,pl,q2⟩=>thn (hu pins s2 σ H2 _ I2 q2) λvu s3 ⟨u,H3,I3,pu,q3⟩=>?_);rw[evalPart_none];refine Pn ?_;have I4:Inv X pins σ H3 {s3 with heap:=s3.heap.push {cls:=.type "slice",data:=.fields #[vl,vu,.none]} }:=I3.kept (t':=s3.toks) λb ob q=>Px _ q;obtain⟨T,id,hT,ht,hg⟩:=hr pins {s3 with heap:=s3.heap.push {cls:=.type "slice",data:=.fields #[vl,vu,.none]} } σ H3 x v vl vu l u s3.heap.objs.size Q I4 r1 (Heap.IsSliceOf.new ..) pl pu q3;show wpAny (model X.prog X.w) X.A (subscriptTail e (.Slice lo hi none p2) v (.ref s3.heap.objs.size)) (EP X pins σ Q) X.xe {s3 with heap:=s3.heap.push {cls:=.type "slice",data:=.fields #[vl,vu,.none]} };exact tail_any (ops:=[.ref s3.heap.objs.size,v]) ht hT hg (by with_unfolding_all rfl)
def Bj (xs:List V) (lo hi:Option Int):List V:=(xs.drop (HT.sIx xs.length 0 lo)).take (HT.sIx xs.length xs.length hi - HT.sIx xs.length 0 lo)
theorem Xa2(xs:List V)(lo hi:Option Int):(Bj xs lo hi).length<=xs.length:=by
 unfold Bj;rw[Mb,Na];omega
def rSlT (K:PySem.W.Frag):V->Option Int->Option Int->Hp->VK->Prop:=λx lo hi H Q=>∃a xs,x = .ref a/\SqT K H a xs /\
 ¬(HT.sIx xs.length 0 lo=0/\HT.sIx xs.length xs.length hi=xs.length)/\∀p,H p=none->Q (.ref p) (upd H p (.tup (Bj xs lo hi)))
theorem Xgt:SlR X (rSlT X.K):=by
 intro pins s σ H x v vl vu lo hi sl Q I rx hs pl pu h;obtain⟨a,xs,rfl,hx,hw,q⟩:=h;cases rx;obtain⟨its,r,ht,hz⟩:=I.tuple hx;have hlen:its.toArray.size=xs.length:=by rw[Lj];exact r.length.symm
 refine⟨"tuple",_,PyProof.Rows.slot_tuple_getitem.lookup,ht.typeIs,?_⟩;refine HT.getItem_tuple_cut ht hs pl pu (by rw[hlen];exact hw) ?_ (by rw[hlen];exact hz);rw[hlen];refine⟨.ref s.heap.objs.size,_,I.laid (t':=s.toks) (o:=.tup (Bj xs lo hi)) (λb ob q=>Px _ q) (Lk _) ?_,rfl,q _ (I.hok.fresh (Lk _))⟩;exact⟨Mj (Xa2 xs lo hi) hz,_,(r.drop (HT.sIx xs.length 0 lo)).take (HT.sIx xs.length xs.length hi - HT.sIx xs.length 0 lo),IsTup.new _ _⟩
def Xgu (K:PySem.W.Frag):R2:=λx y H Q=>∃a b xs ys,x = .ref a/\y = .ref b/\SqT K H a xs/\SqT K H b ys/\xs≠[]/\xs.length+ys.length<=sizeLine /\
 (ys=[]->Q (.ref a) H)/\(ys≠[]->∀p,H p=none->Q (.ref p) (upd H p (.tup (xs++ys))))
theorem Vals.nil_iff{xs:List V}{us:List Value}(r:Vals xs us):us=[]↔xs=[]:=by
 cases r with
 | nil=>simp
 | cons _ _=>simp
theorem Xgv:OpR X (binaryOp .Add) (Xgu X.K):=by
 intro pins s σ H x y v u Q I rx ry h;obtain⟨a,b,xs,ys,rfl,rfl,ha,hb,hx,hz,q1,q2⟩:=h;cases rx;cases ry;obtain⟨its,r1,p1,_⟩:=I.tuple ha;obtain⟨its2,r2,p2,_⟩:=I.tuple hb;refine HT.cat_tup p1 p2 (λz=>hx (r1.nil_iff.mp z)) (λz=>⟨.ref a,H,I,rfl,q1 (r2.nil_iff.mp z)⟩) (λz=>?_) (by rw[<-r1.length,<-r2.length];exact hz);refine⟨.ref s.heap.objs.size,_,I.laid (t':=s.toks) (o:=.tup (xs++ys)) (λb ob q=>Px _ q) (Lk _) ?_,rfl,q2 (λw=>z (r2.nil_iff.mpr w)) _ (I.hok.fresh (Lk _))⟩;exact⟨by rw[Ln];exact hz,_,r1.append r2,IsTup.new _ _⟩
end
def ixN (n:Nat) (i:Int):Option Nat:=if 0<=i then (if i<n then some i.toNat else none) else if -(n:Int)<=i then some (i+n).toNat else none
def atI {α : Type} (xs:List α) (i:Int):Option α:=(ixN xs.length i).bind λj=>xs[j]?
theorem Xa3{n:Nat}{i:Int}{j:Nat}(h:ixN n i=some j):seqIndex? i n=some j/\j<n /\ -(n:Int)<=i/\i<n:=by
 unfold ixN at h;by_cases h0:0<=i
 ·rw[Pq h0] at h;by_cases h1:i<n
  ·rw[Pq h1] at h;have e:i.toNat=j:=Lq h;exact⟨by rw[seqIndex_of h0 h1,e],by omega,by omega,h1⟩
  ·rw[Pp h1] at h;cases h
 ·rw[Pp h0] at h;by_cases h1 : -(n:Int)<=i
  ·rw[Pq h1] at h;have e:(i+n).toNat=j:=Lq h;exact⟨by rw[seqIndex_neg (by omega) h1,e],by omega,h1,by omega⟩
  ·rw[Pp h1] at h;cases h
theorem Je{α : Type}{xs:List α}{i:Int}{v : α}(h:atI xs i=some v):∃j,seqIndex? i xs.length=some j/\xs[j]? = some v/\j<xs.length /\ -(xs.length:Int)<=i/\i<xs.length:=by
 unfold atI at h;cases e:ixN xs.length i with
 | none=>rw[e] at h;cases h
 | some j=>
  rw[e] at h;obtain⟨h1,h2,h3,h4⟩:=Xa3 e;exact⟨j,h1,h,h2,h3,h4⟩
theorem B0{α : Type}{xs:List α}{j:Nat}{v : α}(h:xs[j]? = some v):atI xs (j:Int)=some v:=by
 have hj:j<xs.length:=(L3.mp h).1;have e:ixN xs.length (j:Int)=some j:=by
  unfold ixN;rw[Pq (by omega),Pq (by omega)];simp
 unfold atI;rw[e];exact h
def Xgw (b:Expr):Prop:=∀o i,subscripted b false o i=operate [o,i] (getItem o i)
def IxR (X:Cx) (r:R2):Prop:=
 ∀(value slice:Expr) (pins:List (Addr×Obj)) (s:Shared) (σ:St) (H:Hp) (x y:V) (v u:Value) (Q:VK),Inv X pins σ H s->Ah x v->Ah y u->r x y H Q ->
  subscripted slice false v u=operate [v,u] (getItem v u)->wpAny (model X.prog X.w) X.A (subscriptTail value slice v u) (EP X pins σ Q) X.xe s
def MtR (X:Cx) (id:String) (r:V->List V->Hp->VK->Prop):Prop:=
 ∀(pins:List (Addr×Obj)) (s:Shared) (σ:St) (H:Hp) (x:V) (xs:List V) (v:Value) (us:List Value) (Q:VK),Inv X pins σ H s->Ah x v->Vals xs us->r x xs H Q ->
  wpAny (model X.prog X.w) X.A (call (.builtin id) (v::us)) (EP X pins σ Q) X.xe s
section
variable {X:Cx}{a b:Expr}{ta tb:TE}{pos:Pos}
theorem Av{r:R2}(hr:IxR X r)(ha:PE X a ta)(hb:PE X b tb)(hs:Xgw b):PE X (.Subscript a b pos) (tOp r ta tb):=by
 intro pins s σ H Q I h;exact Subscript_ (binT ha hb I h λv u s2 x y H2 I2 rx ry q=>hr a b pins s2 σ H2 x y v u Q I2 rx ry q (hs _ _))
def Xa4 (K:PySem.W.Frag):R2:=λx y H Q=>∃p xs i v,x = .ref p/\y = .int i/\SqL K H p xs/\atI xs i=some v/\Q v H
def Jf (K:PySem.W.Frag):R2:=λx y H Q=>∃p xs i v,x = .ref p/\y = .int i/\SqT K H p xs/\atI xs i=some v/\Q v H
def Xa5:R2:=λx y H Q=>∃z i c,x = .str z/\y = .int i/\z.length<=sizeLine/\atI z.cps.toList i=some c/\Q (.str ⟨#[c]⟩) H
theorem Bb:IxR X (Xa4 X.K):=by
 intro value slice pins s σ H x y v u Q I rx ry h hs;obtain⟨p,xs,i,z,rfl,rfl,hq,he,q⟩:=h;cases rx;obtain⟨t,rfl⟩:=ry;obtain⟨its,r,pl,hz⟩:=I.list hq;obtain⟨j,h1,h2,h3,h4,h5⟩:=Je he;obtain⟨w,ew,rw'⟩:=r.get h2;have hl:=r.length;have hn:=line63;have fin:EP X pins σ Q w s:=⟨z,H,I,rw',q⟩;by_cases h0:0<=i
 ·have hj:i.toNat=j:=by
   rw[seqIndex_of h0 h5] at h1;exact Lq h1
  exact item_listR pl.isList h0 (by omega) (by rw[hj];simpa using ew) fin hs
 ·have hj:(i+(its.toArray.size:Int)).toNat=j:=by
   rw[seqIndex_neg (by omega) h4] at h1;rw[Lj,<-hl];exact Lq h1
  exact subscriptTail_builtinR (x:=w) pl.isList.typeIs slot_list_getitem.lookup
   (wpAny_getItem_list_neg (Q:=λr s'=>r=w/\EP X pins σ Q r s') pl.isList (by omega) (by rw[Lj]<;>omega) (by omega) (by rw[hj];simpa using ew) ⟨rfl,fin⟩) hs
theorem Fs:IxR X (Jf X.K):=by
 intro value slice pins s σ H x y v u Q I rx ry h hs;obtain⟨p,xs,i,z,rfl,rfl,hq,he,q⟩:=h;cases rx;obtain⟨t,rfl⟩:=ry;obtain⟨its,r,pl,hz⟩:=I.tuple hq;obtain⟨j,h1,h2,h3,h4,h5⟩:=Je he;obtain⟨w,ew,rw'⟩:=r.get h2;have hl:=r.length;have hn:=line63;have fin:EP X pins σ Q w s:=⟨z,H,I,rw',q⟩;exact subscriptTail_builtinR (x:=w) pl.typeIs slot_tuple_getitem.lookup
  (getItem_tuple (j:=j) (Q:=λr s'=>r=w/\EP X pins σ Q r s') pl (by omega) (by omega) (by rw[Lj,<-hl];exact h1) (by simpa using ew) ⟨rfl,fin⟩) hs
theorem Xgx:IxR X Xa5:=by
 intro value slice pins s σ H x y v u Q I rx ry h hs;obtain⟨z,i,c,rfl,rfl,hz,he,q⟩:=h;obtain⟨t,rfl⟩:=rx;obtain⟨t',rfl⟩:=ry;obtain⟨j,h1,h2,h3,h4,h5⟩:=Je he;have hl:z.cps.toList.length=z.length:=by simp[Str.length]
 rw[hl] at h1 h4 h5;have hn:=line63;exact tail_any (typeIs_str s z t) slot_str_getitem.lookup (getItem_str (c:=c) (by
  have e1:decide (i < -(2 ^ 63:Int))=false:=Ps (by omega);have e2:decide (i ≥ 2 ^ 63)=false:=Ps (by omega);rw[e1,e2,Pi]) (by rw[h1];simpa using h2) ⟨.str ⟨#[c]⟩,H,I.tok _,⟨_,rfl⟩,q⟩) hs
def rIx (K:PySem.W.Frag):R2:=λx y H Q=>Xa4 K x y H Q\/Jf K x y H Q\/Xa5 x y H Q
theorem Xgy(its:List Value)(n j:Nat)(u:Value):Obj.mapSeq (·.setIfInBounds j u) {cls:=.type "list",data:=.seq its.toArray n} = {cls:=.type "list",data:=.seq (its.set j u).toArray n}:=by
 simp[Obj.mapSeq]
theorem Inv.lst{pins:List (Addr×Obj)}{σ:St}{H:Hp}{s:Shared}{p:Addr}{xs:List V}(I:Inv X pins σ H s)(h:H p=some (.lst xs)):
  ∃(its:List Value) (n:Nat),Vals xs its/\s.heap.get? p=some {cls:=.type "list",data:=.seq its.toArray n}/\xs.length<=sizeLine:=by
 obtain⟨z,its,n,r,e⟩:=I.hok p _ h;exact⟨its,n,r,e,z⟩
theorem Inv.lstUpd{pins:List (Addr×Obj)}{σ:St}{H:Hp}{s:Shared}{p:Addr}{xs ys:List V}{its its':List Value}{n n':Nat}{f:Obj->Obj}(I:Inv X pins σ H s)(h:H p=some (.lst xs))
  (ho:s.heap.get? p=some {cls:=.type "list",data:=.seq its.toArray n}) (hf:f {cls:=.type "list",data:=.seq its.toArray n} = {cls:=.type "list",data:=.seq its'.toArray n'}) (r:Vals ys its') (hz:ys.length<=sizeLine) (t:Nat):
  Inv X pins σ (upd H p (.lst ys)) {s with heap:=s.heap.update p f,toks:=t}:=by
 have e:(s.heap.update p f).get? p=some {cls:=.type "list",data:=.seq its'.toArray n'}:=by
  rw[Heap.get?_update_self f ho (by rw[hf]<;>rfl),hf]
 refine I.write (x:=p) (e:=p) (by rw[h];trivial) (.inl rfl) (λb u hb q=>(Heap.get?_update_other _ _ (Ne.symm hb)).trans q) ⟨_,e⟩ ?_;exact⟨hz,its',n',r,e⟩
def Xgz:V->V->V->Hp->(Hp->Prop)->Prop:=λo i v H Q=>∃p xs k j,o = .ref p/\i = .int k/\H p=some (.lst xs)/\ixN xs.length k=some j/\Q (upd H p (.lst (xs.set j v)))
theorem Ea:PSet X Xgz:=by
 intro pins s σ H o i v ov iv u Q I ro ri rv h;obtain⟨p,xs,k,j,rfl,rfl,hp,hj,q⟩:=h;cases ro;obtain⟨t,rfl⟩:=ri;obtain⟨its,n,r,ho,hz⟩:=I.lst hp;obtain⟨h1,h2,h3,h4⟩:=Xa3 hj;have hl:=r.length;have hn:=line63;have I':Inv X pins σ (upd H p (.lst (xs.set j v))) {s with heap:=s.heap.update p (Obj.mapSeq (·.setIfInBounds j u))}:=
  I.lstUpd hp ho (Xgy its n j u) (r.set rv j) (by rw[List.length_set];exact hz) s.toks
 by_cases h0:0<=k
 ·have hk:k.toNat=j:=by
   rw[seqIndex_of h0 h4] at h1;exact Lq h1
  exact PySem.W.ki_setAt ho h0 (by omega) (by rw[Lj,<-hl];exact h4) (by rw[hk];exact⟨_,I',q⟩)
 ·have hk:(k+(its.toArray.size:Int)).toNat=j:=by
   rw[seqIndex_neg (by omega) h3] at h1;rw[Lj,<-hl];exact Lq h1
  exact PySem.W.ki_setBack ho (by omega) (by rw[Lj,<-hl];exact h3) (by omega) (by rw[hk];exact⟨_,I',q⟩)
theorem Xg0(lo hi:Option Int)(n:Nat):(sliceBounds lo hi none n).1=((HT.sIx n 0 lo:Nat):Int)/\(sliceBounds lo hi none n).2.1=((HT.sIx n n hi:Nat):Int)/\(sliceBounds lo hi none n).2.2=1:=by
 refine⟨?_,?_,rfl⟩
 ·cases lo with
  | none=>simp[sliceBounds,HT.sIx]
  | some i=>
   simp only[sliceBounds,HT.sIx,Option.getD_none,show (1:Int) > 0 by decide,if_true];by_cases h:i<0
   ·simp only[h,if_true]<;>omega
   ·simp only[h,if_false]<;>omega
 ·cases hi with
  | none=>simp[sliceBounds,HT.sIx]
  | some i=>
   simp only[sliceBounds,HT.sIx,Option.getD_none,show (1:Int) > 0 by decide,if_true];by_cases h:i<0
   ·simp only[h,if_true]<;>omega
   ·simp only[h,if_false]<;>omega
theorem Xg1(its:List Value)(lo hi:Option Int):slicePick its.toArray lo hi none=((its.drop (HT.sIx its.length 0 lo)).take (HT.sIx its.length its.length hi - HT.sIx its.length 0 lo)).toArray:=by
 obtain⟨h1,h2,h3⟩:=Xg0 lo hi its.toArray.size;unfold slicePick;rw[h1,h2,h3];simp only[sliceRange_one,pick_run,Lj]<;>rfl
def rSlL (K:PySem.W.Frag):V->Option Int->Option Int->Hp->VK->Prop:=λx lo hi H Q=>∃a xs,x = .ref a/\SqL K H a xs/\∀p,H p=none->Q (.ref p) (upd H p (.lst (Bj xs lo hi)))
theorem C8:SlR X (rSlL X.K):=by
 intro pins s σ H x v vl vu lo hi sl Q I rx hs pl pu h;obtain⟨a,xs,rfl,hx,q⟩:=h;cases rx;obtain⟨its,r,ht,hz⟩:=I.list hx;have hlen:=r.length;refine⟨"list",_,slot_list_getitem.lookup,ht.isList.typeIs,?_⟩;refine wpAny_getItem_list_slice ht.isList hs pl pu .none (by simp) ?_ (by rw[Lj]<;>omega);rw[Xg1,<-hlen];refine⟨.ref s.heap.objs.size,_,I.laid (t':=s.toks) (o:=.lst (Bj xs lo hi)) (λb ob q=>Px _ q) (Lk _) ?_,rfl,q _ (I.hok.fresh (Lk _))⟩;exact⟨Mj (Xa2 xs lo hi) hz,_,0,(r.drop (HT.sIx xs.length 0 lo)).take (HT.sIx xs.length xs.length hi - HT.sIx xs.length 0 lo),Heap.get?_push_size _ rfl⟩
def B1:V->Bool
 | .non=>true
 | .bl _=>true
 | .int _=>true
 | .str _=>true
 | _=>false
def eqV:V->V->Bool
 | .non,.non=>true
 | .bl a,.bl b=>a==b
 | .bl a,.int b=>(if a then 1 else 0)==b
 | .int a,.bl b=>a==(if b then 1 else 0)
 | .int a,.int b=>a==b
 | .str a,.str b=>a==b
 | _,_=>false
theorem Xa6{A:Around}{s:Shared}{y x:V}{u v:Value}(ry:Ah y u)(rx:Ah x v)(fy:B1 y=true)(fx:B1 x=true):SeqAt.EqAt A s u v (eqV y x):=by
 cases y with
 | non=>
  cases ry;cases x with
  | non=>cases rx;exact SeqAt.EqAt.same _
  | bl b=>cases rx;exact SeqAt.EqAt.none_bool b
  | int b=>obtain⟨t,rfl⟩:=rx;exact SeqAt.EqAt.none_int b t
  | str b=>obtain⟨t,rfl⟩:=rx;exact SeqAt.EqAt.none_str b t
  | _=>exact absurd (show false=true from fx) Lu
 | bl a=>
  cases ry;cases x with
  | non=>cases rx;exact SeqAt.EqAt.bool_none a
  | bl b=>cases rx;exact SeqAt.EqAt.bool_bool a b
  | int b=>obtain⟨t,rfl⟩:=rx;exact SeqAt.EqAt.bool_int a b t
  | str b=>obtain⟨t,rfl⟩:=rx;exact SeqAt.EqAt.bool_str a b t
  | _=>exact absurd (show false=true from fx) Lu
 | int a=>
  obtain⟨t',rfl⟩:=ry;cases x with
  | non=>cases rx;exact SeqAt.EqAt.int_none a t'
  | bl b=>cases rx;exact SeqAt.EqAt.int_bool a t' b
  | int b=>obtain⟨t,rfl⟩:=rx;exact SeqAt.EqAt.int_int a t' b t
  | str b=>obtain⟨t,rfl⟩:=rx;exact SeqAt.EqAt.int_str a t' b t
  | _=>exact absurd (show false=true from fx) Lu
 | str a=>
  obtain⟨t',rfl⟩:=ry;cases x with
  | non=>cases rx;exact SeqAt.EqAt.str_none a t'
  | bl b=>cases rx;exact SeqAt.EqAt.str_bool a t' b
  | int b=>obtain⟨t,rfl⟩:=rx;exact SeqAt.EqAt.str_int a t' b t
  | str b=>obtain⟨t,rfl⟩:=rx;exact SeqAt.EqAt.str_str a t' b t
  | _=>exact absurd (show false=true from fx) Lu
 | _=>exact absurd (show false=true from fy) Lu
def eqU (x:V) (u:Value):Bool:=match u with
 | .none=>eqV .non x
 | .bool b=>eqV (.bl b) x
 | .int i _=>eqV (.int i) x
 | .str z _=>eqV (.str z) x
 | _=>false
theorem Xa7{x y:V}{u:Value}(r:Ah y u)(f:B1 y=true):eqU x u=eqV y x:=by
 cases y with
 | non=>cases r;rfl
 | bl b=>cases r;rfl
 | int i=>obtain⟨t,rfl⟩:=r;rfl
 | str z=>obtain⟨t,rfl⟩:=r;rfl
 | _=>exact absurd (show false=true from f) Lu
theorem Ft{x:V}:∀{xs:List V} {us:List Value},Vals xs us->xs.all B1=true->us.any (eqU x)=xs.any λy=>eqV y x
 | _,_,.nil,_=>rfl
 | y::xs,u::us,.cons r t,f=>by
  rw[List.all_cons,Lv] at f;rw[O4,O4,Xa7 r f.1,Ft t f.2]
theorem Fu{A:Around}{s:Shared}{x:V}{v:Value}(rx:Ah x v)(fx:B1 x=true):∀{xs:List V} {us:List Value},Vals xs us->xs.all B1=true->∀u∈us,SeqAt.EqAt A s u v (eqU x u)
 | _,_,.nil,_=>λu hu=>by cases hu
 | y::xs,u::us,.cons r t,f=>λu' hu=>by
  rw[List.all_cons,Lv] at f;rcases Lw.mp hu with rfl | hu
  ·rw[Xa7 r f.1];exact Xa6 r rx f.1 fx
  ·exact Fu rx fx t f.2 u' hu
def inV (x:V) (xs:List V):Bool:=xs.any λy=>eqV y x
def rIn (K:PySem.W.Frag) (neg:Bool):R2:=λx y H Q=>∃p xs,y = .ref p/\(SqL K H p xs\/SqT K H p xs)/\B1 x=true/\xs.all B1=true/\Q (.bl (if neg then !inV x xs else inV x xs)) H
theorem Jg:OpR X (compareOp .In) (rIn X.K false):=by
 intro pins s σ H x y v u Q I rx ry h;obtain⟨p,xs,rfl,hq,fx,fs,q⟩:=h;cases ry;rcases hq with hq | hq
 ·obtain⟨its,r,pl,hz⟩:=I.list hq;refine SeqAt.in_listAt (eqU x) pl.isList (λw hw=>Fu rx fx r fs w (by simpa using hw)) ⟨.bl _,H,I,rfl,?_⟩;rw[show its.toArray.any (eqU x)=its.any (eqU x) by simp,Ft r fs];exact q
 ·obtain⟨its,r,pl,hz⟩:=I.tuple hq;refine SeqAt.in_tupleAt (eqU x) pl (λw hw=>Fu rx fx r fs w (by simpa using hw)) ⟨.bl _,H,I,rfl,?_⟩;rw[show its.toArray.any (eqU x)=its.any (eqU x) by simp,Ft r fs];exact q
theorem Gw:OpR X (compareOp .NotIn) (rIn X.K true):=by
 intro pins s σ H x y v u Q I rx ry h;obtain⟨p,xs,rfl,hq,fx,fs,q⟩:=h;cases ry;rcases hq with hq | hq
 ·obtain⟨its,r,pl,hz⟩:=I.list hq;refine SeqAt.notIn_listAt (eqU x) pl.isList (λw hw=>Fu rx fx r fs w (by simpa using hw)) ⟨.bl _,H,I,rfl,?_⟩;rw[show its.toArray.any (eqU x)=its.any (eqU x) by simp,Ft r fs];exact q
 ·obtain⟨its,r,pl,hz⟩:=I.tuple hq;refine SeqAt.notIn_tupleAt (eqU x) pl (λw hw=>Fu rx fx r fs w (by simpa using hw)) ⟨.bl _,H,I,rfl,?_⟩;rw[show its.toArray.any (eqU x)=its.any (eqU x) by simp,Ft r fs];exact q
theorem Bt:Bh X (.builtin "len") (λxs H Q=>∃p ys,xs=[.ref p]/\(SqL X.K H p ys\/SqT X.K H p ys)/\Q (.int ys.length) H):=by
 intro pins s σ H xs us Q I r h;obtain⟨p,ys,rfl,hq,q⟩:=h;obtain⟨u,rfl,rx⟩:=B4 r;cases rx;have hn:=line63;rcases hq with hq | hq
 ·obtain⟨its,r',pl,hz⟩:=I.list hq;have hlen:=r'.length;exact Calls.call_len_list pl.isList (by simp only[Lj]<;>omega) ⟨.int ys.length,H,I.tok _,⟨s.toks+1,by rw[Lj,hlen]⟩,q⟩
 ·obtain⟨its,r',pl,hz⟩:=I.tuple hq;have hlen:=r'.length;exact len_tuple pl (by simp only[Lj]<;>omega) ⟨.int ys.length,H,I.tok _,⟨s.toks+1,by rw[Lj,hlen]⟩,q⟩
theorem Fv:Bh X (.type "list") (λxs H Q=>∃p ys,xs=[.ref p]/\(SqL X.K H p ys\/SqT X.K H p ys)/\∀l,H l=none->Q (.ref l) (upd H l (.lst ys))):=by
 intro pins s σ H xs us Q I r h;obtain⟨p,ys,rfl,hq,q⟩:=h;obtain⟨u,rfl,rx⟩:=B4 r;cases rx;have fin:∀(its:List Value),Vals ys its->ys.length<=sizeLine->∀(h':Heap) (c':Nat),(∀b o',s.heap.get? b=some o'->h'.get? b=some o') ->
   h'.get? s.heap.objs.size=some {cls:=.type "list",dict:=none,data:=.seq its.toArray c',slots := #[]}->EP X pins σ Q (.ref s.heap.objs.size) {s with heap:=h'}:=λits r' hz h' c' kp e=>
  ⟨.ref s.heap.objs.size,_,I.laid (t':=s.toks) kp (Lk _) (show Ar X.prog X.w _ h' _ (.lst ys) from ⟨hz,its,c',r',e⟩),rfl,q _ (I.hok.fresh (Lk _))⟩
 rcases hq with hq | hq
 ·obtain⟨its,r',pl,hz⟩:=I.list hq;have hlen:=r'.length;obtain⟨o,ho,hc,n,hd⟩:=pl.isList;exact call_list_seq p (.inl rfl) ho hc hd (λh' c' kp e=>fin its r' hz h' c' kp e) (by simp only[Lj]<;>omega)
 ·obtain⟨its,r',pl,hz⟩:=I.tuple hq;have hlen:=r'.length;obtain⟨o,ho,hc,n,hd⟩:=pl;exact call_list_seq p (.inr rfl) ho hc hd (λh' c' kp e=>fin its r' hz h' c' kp e) (by simp only[Lj]<;>omega)
theorem Fw:Bh X (.type "tuple") (λxs H Q=>∃p ys,xs=[.ref p]/\((SqL X.K H p ys/\∀l,H l=none->Q (.ref l) (upd H l (.tup ys)))\/(SqT X.K H p ys/\Q (.ref p) H))):=by
 intro pins s σ H xs us Q I r h;obtain⟨p,ys,rfl,h⟩:=h;obtain⟨u,rfl,rx⟩:=B4 r;cases rx;rcases h with ⟨hq,q⟩ | ⟨hq,q⟩
 ·obtain⟨its,r',pl,hz⟩:=I.list hq;have hlen:=r'.length;refine call_tuple_list pl.isList (λh' kp=>?_) (by simp only[Lj]<;>omega);have I1:Inv X pins σ H {s with heap:=h'}:=I.kept (t':=s.toks) kp;have I2:Inv X pins σ (upd H h'.objs.size (.tup ys)) {s with heap:=h'.push {cls:=.type "tuple",data:=.seq its.toArray} }:=
   I1.laid (t':=s.toks) (λb o e=>Px _ e) (Lk _) (show Ar X.prog X.w _ _ _ (.tup ys) from ⟨hz,its,r',IsTup.new _ _⟩)
  exact⟨.ref h'.objs.size,_,I2,rfl,q _ (I1.hok.fresh (Lk _))⟩
 ·obtain⟨its,r',pl,hz⟩:=I.tuple hq;exact call_tuple_same pl ⟨.ref p,H,I,rfl,q⟩
def tyV (K:PySem.W.Frag) (T:String) (x:V) (H:Hp):Prop:=match x with
 | .str _=>T = "str"
 | .int _=>T = "int"
 | .ref p=>(T = "list" /\ ∃xs,SqL K H p xs)\/(T = "tuple" /\ ∃o,K.lookup p=some o/\o.cls = .type "tuple" /\ o.dict=none) \/
   (T = "dict" /\ ((∃kvs,H p=some (.dK kvs)) \/ ∃kvs,H p=some (.dT kvs)))\/(T = "set" /\ ∃S n,H p=some (.set S n))
 | _=>False
theorem Xg2{pins:List (Addr×Obj)}{σ:St}{H:Hp}{s:Shared}{T:String}{x:V}{v:Value}(I:Inv X pins σ H s)(r:Ah x v)(ty:tyV X.K T x H):
  s.TypeIs v T/\∀a,v = .ref a->∃ob,s.heap.get? a=some ob/\ob.dict=none:=by
 cases x with
 | str z=>
  obtain⟨t,rfl⟩:=r;cases (show T = "str" from ty);exact⟨typeIs_str s z t,λ_ e=>nomatch e⟩
 | int i=>
  obtain⟨t,rfl⟩:=r;cases (show T = "int" from ty);exact⟨typeIs_int s i t,λ_ e=>nomatch e⟩
 | ref p=>
  cases r;rcases ty with ⟨rfl,xs,hq⟩ | ⟨rfl,o,hk,hc,hd⟩ | ⟨rfl,hk⟩ | ⟨rfl,S,n,hk⟩
  ·obtain⟨its,_,pl,_⟩:=I.list hq;refine⟨pl.isList.typeIs,λa e=>?_⟩;cases e;obtain⟨o,n,e,c,hd,_⟩:=pl;exact⟨o,e,hd⟩
  ·refine⟨⟨o,I.kIn p o hk,hc⟩,λa e=>?_⟩;cases e;exact⟨o,I.kIn _ o hk,hd⟩
  ·have z:∃o,s.heap.get? p=some o/\o.ExactDict:=by
    rcases hk with ⟨kvs,hk⟩ | ⟨kvs,hk⟩
    ·obtain⟨_,_,_,_,o,_,_,e,ex,_⟩:=I.hok p _ hk;exact⟨o,e,ex⟩
    ·obtain⟨_,_,_,_,o,_,_,e,ex,_⟩:=I.hok p _ hk;exact⟨o,e,ex⟩
   obtain⟨o,e,ex⟩:=z;refine⟨⟨o,e,ex.1⟩,λa e2=>?_⟩;cases e2;exact⟨o,e,ex.2.1⟩
  ·obtain⟨o,_,_,_,e,ex,_⟩:=I.hok p _ hk;refine⟨⟨o,e,ex.1⟩,λa e2=>?_⟩;cases e2;exact⟨o,e,ex.2.1⟩
 | _=>exact False.elim ty
def tBM (K:PySem.W.Frag) (T:String) (r:V->List V->Hp->VK->Prop) (to:TE) (t:TA):TE:=fun σ H Q=>to σ H λx H1=>tyV K T x H1/\t σ H1 λxs H2=>r x xs H2 Q
variable {o e:Expr}{es:List Expr}{to:TE}{t:TA}{name:Str}{apos cpos:Pos}{T id:String}{r:V->List V->Hp->VK->Prop}
theorem Er(pa:PlainAttrs T)(slot:Slot T name id)(hty:typeOf (.builtin id)=pure (.type "method_descriptor"))(hm:MtR X id r)(ho:PE X o to)(ha:PA X (e::es) t)
  (hbase:attributeBase o name X.env (eval o X.env)=eval o X.env:=by rfl)
  (hfew:((backTo cpos (starEach (e::es) X.env)).all (λx => !x.1)&&(backToKw cpos (keywordEach [] X.env)).all (λx=>x.1.isSome)
   && decide ((e::es).length+([]:List Keyword).length+(if ([]:List Keyword).isEmpty then 0 else 1)<30))=true:=by rfl)
  (hline:(apos.endLine==cpos.line)=true:=by rfl) (hs:starEach (e::es) X.env=(false,eval e X.env)::starEach es X.env:=by rfl) (hplain:(backTo cpos (starEach es X.env)).any (·.1)=false:=by rfl):
  PE X (.Call (.Attribute o name apos) (e::es) [] cpos) (tBM X.K T r to t):=by
 intro pins s σ H Q I h;refine wpAny_Call_method_late hbase hfew hline rfl (thn (ho pins s σ H _ I h) λv s1 ⟨x,H1,I1,r1,ty,q1⟩=>?_);obtain⟨h1,h2⟩:=Xg2 I1 r1 ty;refine⟨T,id,pa,slot,hty,h1,h2,?_⟩;have hA:=ha cpos pins s1 σ H1 _ I1 q1;rw[hs] at hA ⊢;refine Calls.callWith_builtin (by show (false||(backTo cpos (starEach es X.env)).any (·.1))=false;rw[hplain]<;>rfl) (Calls.evalArgs_plain ?_);exact thn hA λus s2 ⟨vs,H2,I2,r2,q2⟩=>hm pins s2 σ H2 x vs v us Q I2 r1 r2 q2
end
def MtM (X:Cx) (id:String) (r:V->List V->Hp->VK->Prop):Prop:=
 ∀(pins:List (Addr×Obj)) (s:Shared) (σ:St) (H:Hp) (x:V) (xs:List V) (v:Value) (us:List Value) (Q:VK),Inv X pins σ H s->Ah x v->Vals xs us->r x xs H Q ->
  wpAny (model X.prog X.w) X.A (call (.builtin id) (v::us)) (EP X pins σ Q) X.xe s
theorem Vals.one:∀{x:V} {us:List Value},Vals [x] us->∃u,us=[u]/\Ah x u
 | _,_,.cons r .nil=>⟨_,rfl,r⟩
theorem Vals.two{x y:V}{us:List Value}(h:Vals [x,y] us):∃u v,us=[u,v]/\Ah x u/\Ah y v:=by
 cases h with
 | cons r t=>
  cases t with
  | cons q z=>cases z;exact⟨_,_,rfl,r,q⟩
theorem Vals.reverse{xs:List V}{us:List Value}(h:Vals xs us):Vals xs.reverse us.reverse:=by
 induction h with
 | nil=>exact .nil
 | cons r t ih=>rw[List.reverse_cons,List.reverse_cons];exact Vals.append ih (.cons r .nil)
theorem Vals.rep{xs:List V}{us:List Value}(h:Vals xs us):∀k:Nat,Vals (List.replicate k xs).flatten (List.replicate k us).flatten
 | 0=>.nil
 | k+1=>by
  rw[Nd,Nd,Os,Os];exact Vals.append h (Vals.rep h k)
theorem Xa8(its:List Value):∀(k:Nat) (acc:List Value),
  List.foldl (λx1 x2=>x1++x2) acc.toArray (List.replicate k its.toArray)=(acc++(List.replicate k its).flatten).toArray
 | 0,acc=>by simp
 | k+1,acc=>by
  have e:acc.toArray++its.toArray=(acc++its).toArray:=by simp
  have e2:(acc++its)++(List.replicate k its).flatten=acc++(List.replicate (k+1) its).flatten:=by
   rw[Nd,Os,Oc]
  rw[<-e2,<-Xa8 its k (acc++its),<-e,Nd,Oi]
section
variable {X:Cx}{pins:List (Addr×Obj)}{σ:St}{H:Hp}{s:Shared}{l b:Addr}{xs ys zs:List V}
theorem Inv.lset{its its':List Value}{n:Nat}{f:Array Value->Array Value}{t':Nat}(I:Inv X pins σ H s)(hH:H l=some (.lst xs))
  (e:s.heap.get? l=some {cls:=.type "list",data:=.seq its.toArray n}) (hf:f its.toArray=its'.toArray) (hv:Vals ys its') (hz:ys.length<=sizeLine):
  Inv X pins σ (upd H l (.lst ys)) {s with heap:=s.heap.update l (Obj.mapSeq f),toks:=t'}:=by
 have q:=PySem.IsL.update e f;rw[hf] at q;refine I.write (x:=l) (e:=l) (by rw[hH];exact trivial) (.inl rfl) (λb' u hb hu=>(Heap.get?_update_other s.heap (Obj.mapSeq f) (Ne.symm hb)).trans hu) ⟨_,q⟩ ?_;exact⟨hz,its',_,hv,q⟩
theorem Inv.lnew{its:List Value}{t':Nat}(I:Inv X pins σ H s)(hv:Vals ys its)(hz:ys.length<=sizeLine):
  Inv X pins σ (upd H s.heap.objs.size (.lst ys)) {s with heap:=s.heap.push {cls:=.type "list",data:=.seq its.toArray},toks:=t'}:=
 I.laid (λ_ _ q=>Px _ q) (Lk _) ⟨hz,its,0,hv,Heap.get?_push_size _ rfl⟩
theorem Inv.fresh(I:Inv X pins σ H s):H s.heap.objs.size=none:=I.hok.fresh (Lk _)
theorem Inv.lstM(I:Inv X pins σ H s)(hH:H l=some (.lst xs)):xs.length<=sizeLine/\∃(its:List Value) (n:Nat),Vals xs its/\xs.length=its.length/\s.heap.get? l=some {cls:=.type "list",data:=.seq its.toArray n}:=by
 obtain⟨z,its,n,r,e⟩:=I.hok l _ hH;exact⟨z,its,n,r,r.length,e⟩
theorem Xg3{n:Nat}(h:n<=sizeLine):Builtin.List.listTooLong n=false:=by
 unfold Builtin.List.listTooLong;exact Ps (by omega)
end
section
variable {X:Cx}
def Jh:V->List V->Hp->VK->Prop:=λx vs H Q=>∃l xs y,x = .ref l/\vs=[y]/\H l=some (.lst xs)/\xs.length<sizeLine/\Q .non (upd H l (.lst (xs++[y])))
theorem Fx:MtM X "list.append" Jh:=by
 intro pins s σ H x vs v us Q I rx rv h;obtain⟨l,xs,y,rfl,rfl,hH,hz,q⟩:=h;cases rx;obtain⟨u,rfl,ru⟩:=rv.one;obtain⟨z,its,n,r,hl,e⟩:=I.lstM hH;refine call_meets F.slot_list_append ⟨_,e,rfl⟩ F.entry_list_append (F.args_list_append_2 _ _) (PySem.list_append l its.toArray n u (by rw[Lj];omega)) ⟨e,?_⟩;refine⟨.non,_,I.lset (its':=its++[u]) hH e (by simp) (r.append (.cons ru .nil)) ?_,rfl,q⟩;rw[Ln,Mq];omega
def rCat:R2:=λx y H Q=>∃l b xs zs,x = .ref l/\y = .ref b/\H l=some (.lst xs)/\H b=some (.lst zs)/\xs.length+zs.length<=sizeLine/\∀p,H p=none->Q (.ref p) (upd H p (.lst (xs++zs)))
theorem B5:OpR X (binaryOp .Add) rCat:=by
 intro pins s σ H x y v u Q I rx ry h;obtain⟨l,b,xs,zs,rfl,rfl,hH,hB,hz,q⟩:=h;cases rx;cases ry;obtain⟨z,its,n,r,hl,e⟩:=I.lstM hH;obtain⟨z2,its2,n2,r2,hl2,e2⟩:=I.lstM hB;refine PySem.P.add_list e e2 ?_ (by rw[Lj,Lj];omega);have ea:its.toArray++its2.toArray=(its++its2).toArray:=by simp
 rw[ea];exact⟨.ref _,_,I.lnew (t':=s.toks) (r.append r2) (by rw[Ln];omega),rfl,q _ I.fresh⟩
def Xa9:R2:=λx y H Q=>∃l k xs,x = .ref l/\y = .int k/\H l=some (.lst xs) /\ -(2 ^ 63)<=k/\k<2 ^ 63/\xs.length * k.toNat<=sizeLine /\
 ∀p,H p=none->Q (.ref p) (upd H p (.lst (List.replicate k.toNat xs).flatten))
theorem Xg4{α : Type}(xs:List α)(k:Nat):(List.replicate k xs).flatten.length=k * xs.length:=by
 induction k with
 | zero=>simp
 | succ k ih=>rw[Nd,Os,Ln,ih,Nat.succ_mul,Nat.add_comm]
theorem Xba:OpR X (binaryOp .Mult) Xa9:=by
 intro pins s σ H x y v u Q I rx ry h;obtain⟨l,k,xs,rfl,rfl,hH,h1,h2,hz,q⟩:=h;cases rx;obtain⟨t,rfl⟩:=ry;obtain⟨z,its,n,r,hl,e⟩:=I.lstM hH;have hlen:its.toArray.size * k.toNat<=sizeLine:=by rw[Lj,<-hl];exact hz
 have hcap:¬its.toArray.size * k.toNat > (2 ^ 63 - 1) / 8:=by
  have:(sizeLine:Nat)<=(2 ^ 63 - 1) / 8:=by decide
  omega
 have hfit:¬(!Builtin.List.listFitsIndex k)=true:=by
  rw[fitsIndex_both h1 h2];exact Lu
 have hlong:¬Builtin.List.listTooLong (its.toArray.size * k.toNat)=true:=by
  rw[Xg3 hlen];exact Lu
 have hnew:List.foldl (λx1 x2=>x1++x2) #[] (List.replicate (if its.toArray.isEmpty=true then 0 else k.toNat) its.toArray)=(List.replicate k.toNat its).flatten.toArray:=by
  have f0:∀m:Nat,List.foldl (λx1 x2=>x1++x2) #[] (List.replicate m its.toArray)=(List.replicate m its).flatten.toArray:=λm=>by
   have:=Xa8 its m [];rw[Oj] at this;exact this
  rw[f0];cases its with
  | nil=>simp
  | cons a r'=>rw[Pp (by simp)]
 refine wpAny_binaryOp_repeat_ref (T := "list") (U := "int") (by decide) ⟨_,e,rfl⟩ (λs'=>typeIs_int s' k t) noFill_list_mul F.fills_int_mul F.slot_int_rmul repeat_list F.slot_int_index.lookup
  (call_meets F.slot_int_rmul (typeIs_int s k t) F.entry_int_rmul (F.args_int_rmul_2 _ _) (int___rmul___int_list k t l its.toArray n)
   ⟨e,rfl,⟨_,e,rfl⟩,call_meets F.slot_list_mul ⟨_,e,rfl⟩ F.entry_list_mul (F.args_list_mul_2 _ _) (AutoListH.list___mul___list_int_3 l its.toArray n k t hfit hcap hlong) ⟨e,?_⟩⟩)
 rw[hnew];exact⟨.ref _,_,I.lnew (t':=s.toks) (r.rep k.toNat) (by rw[Xg4,Nat.mul_comm];exact hz),rfl,q _ I.fresh⟩
end
section
variable {prog:Program}{w:World}{A:Around}{E:Value->Shared->Prop}{s:Shared}
end
section
variable {X:Cx}
end
section
variable {κ : Type} [DecidableEq κ]
def Aw (kvs:List (κ × V)) (k : κ):Option V:=(kvs.find? λkv=>decide (kv.1=k)).map (·.2)
def Bd (kvs:List (κ × V)) (k : κ) (v:V):List (κ × V):=
 if (kvs.any λkv=>decide (kv.1=k))=true then kvs.map (λkv=>if kv.1=k then (kv.1,v) else kv) else kvs++[(k,v)]
def Xbb (kvs:List (κ × V)) (k : κ):List (κ × V):=kvs.filter λkv=>decide (kv.1≠k)
theorem Ck{p : κ × V}{r:List (κ × V)}{k : κ}(e:p.1=k):Aw (p::r) k=some p.2:=by simp[Aw,N9,e]
theorem Cl{p : κ × V}{r:List (κ × V)}{k : κ}(e:¬p.1=k):Aw (p::r) k=Aw r k:=by simp[Aw,N9,e]
theorem Dr(k : κ):∀kvs:List (κ × V),(kvs.any λkv=>decide (kv.1=k))=(Aw kvs k).isSome
 | []=>rfl
 | p::r=>by
  rw[O4];by_cases e:p.1=k
  ·simp only[Ck e,Pr e,Bool.true_or,Pb]
  ·rw[Cl e,Ps e,Bool.false_or];exact Dr k r
theorem Xbc(k j : κ)(y:V):∀kvs:List (κ × V),Aw (kvs.map λkv=>if kv.1=k then (kv.1,y) else kv) j=(Aw kvs j).map λx=>if j=k then y else x
 | []=>rfl
 | p::r=>by
  have ih:=Xbc k j y r;rw[L8];by_cases h:p.1=k
  ·rw[Pq h];by_cases e:p.1=j
   ·rw[Ck (p:=(p.1,y)) e,Ck e,Nk,Pq (e.symm.trans h)]
   ·rw[Cl (p:=(p.1,y)) e,Cl e,ih]
  ·rw[Pp h];by_cases e:p.1=j
   ·rw[Ck (p:=p) e,Ck e,Nk,Pp (λz=>h (e.trans z))]
   ·rw[Cl (p:=p) e,Cl e,ih]
theorem Xbd(k j : κ)(y:V):∀kvs:List (κ × V),Aw kvs k=none->Aw (kvs++[(k,y)]) j=if j=k then some y else Aw kvs j
 | [],_=>by
  by_cases e:k=j
  ·rw[Pq e.symm];exact Ck (p:=(k,y)) e
  ·rw[Pp (λz=>e z.symm)];exact Cl (p:=(k,y)) e
 | p::r,hn=>by
  rw[O2];have hk:¬p.1=k:=λz=>by rw[Ck z] at hn;cases hn
  rw[Cl hk] at hn;have ih:=Xbd k j y r hn;by_cases e:p.1=j
  ·rw[Ck e,Ck e,Pp (λz=>hk (e.trans z))]
  ·rw[Cl e,Cl e,ih]
theorem Ji(kvs:List (κ × V))(k j : κ)(y:V):Aw (Bd kvs k y) j=if j=k then some y else Aw kvs j:=by
 unfold Bd;by_cases a:(kvs.any λkv=>decide (kv.1=k))=true
 ·rw[Pq a,Xbc];rw[Dr] at a;by_cases e:j=k
  ·obtain⟨x,hx⟩:=Ng.mp a;rw[Pq e,e,hx,Nk,Pq rfl]
  ·rw[Pp e];cases Aw kvs j with
   | none=>rfl
   | some x=>rw[Nk,Pp e]
 ·rw[Pp a];refine Xbd k j y kvs ?_;rw[Dr] at a;cases q:Aw kvs k with
  | none=>rfl
  | some x=>rw[q] at a;exact(a rfl).elim
theorem Gx(kvs:List (κ × V))(k : κ)(v:V):(Bd kvs k v).length<=kvs.length+1:=by
 unfold Bd;split
 ·rw[Li];omega
 ·rw[Ln,L4,Nx];omega
theorem Jj{kvs:List (κ × V)}{k : κ}(v:V)(h:Aw kvs k=none):Bd kvs k v=kvs++[(k,v)]:=by
 unfold Bd;rw[Dr,h];exact Pp (by decide)
theorem Bp.isSome_eq{o:Option V}{u:Option Value}(r:Bp o u):o.isSome=u.isSome:=by
 cases o with
 | none=>cases u with
  | none=>rfl
  | some _=>exact(show False from r).elim
 | some _=>cases u with
  | none=>exact(show False from r).elim
  | some _=>rfl
theorem Bp.getD{o:Option V}{u:Option Value}{d:V}{d':Value}(r:Bp o u)(rd:Ah d d'):Ah (o.getD d) (u.getD d'):=by
 cases o with
 | none=>cases u with
  | none=>exact rd
  | some _=>exact(show False from r).elim
 | some _=>cases u with
  | none=>exact(show False from r).elim
  | some _=>exact r
theorem KV.val{kvs:List (κ × V)}{vs:List (κ × Value)}(r:KV kvs vs)(k : κ):Bp (Aw kvs k) (valueAt vs k):=by
 unfold KV at r
 induction r with
 | nil=>exact True.intro
 | @cons p q ps qs h t ih=>
  obtain⟨h1,h2⟩:=h;by_cases e:p.1=k
  ·have e':q.1=k:=h1.symm.trans e;have b:valueAt (q::qs) k=some q.2:=by simp[valueAt,N9,e']
   rw[Ck e,b];exact h2
  ·have e':¬q.1=k:=λz=>e (h1.trans z);have b:valueAt (q::qs) k=valueAt qs k:=by simp[valueAt,N9,e']
   rw[Cl e,b];exact ih
theorem KV.any{kvs:List (κ × V)}{vs:List (κ × Value)}(r:KV kvs vs)(k : κ):(kvs.any λkv=>decide (kv.1=k))=vs.any λkv=>decide (kv.1=k):=by
 unfold KV at r
 induction r with
 | nil=>rfl
 | cons h t ih=>rw[O4,O4,ih,h.1]
theorem KV.repl{kvs:List (κ × V)}{vs:List (κ × Value)}(r:KV kvs vs)(k : κ){y:V}{u:Value}(ry:Ah y u):
  KV (kvs.map λkv=>if kv.1=k then (kv.1,y) else kv) (vs.map λkv=>if kv.1=k then (kv.1,u) else kv):=by
 unfold KV at r ⊢
 induction r with
 | nil=>exact .nil
 | @cons p q ps qs h t ih=>
  rw[L8,L8];refine .cons ?_ ih;obtain⟨h1,h2⟩:=h;by_cases e:p.1=k
  ·rw[Pq e,Pq (h1.symm.trans e)];exact⟨h1,ry⟩
  ·rw[Pp e,Pp (λz=>e (h1.trans z))];exact⟨h1,h2⟩
theorem KV.put{kvs:List (κ × V)}{vs:List (κ × Value)}(r:KV kvs vs)(k : κ){y:V}{u:Value}(ry:Ah y u):KV (Bd kvs k y) (stored vs k u):=by
 unfold Bd stored;rw[r.any k];by_cases e:(vs.any λkv=>decide (kv.1=k))=true
 ·rw[Pq e,Pq e];exact r.repl k ry
 ·rw[Pp e,Pp e];exact Paired.snoc r ⟨rfl,ry⟩
theorem KV.keys{kvs:List (κ × V)}{vs:List (κ × Value)}(r:KV kvs vs):kvs.map (·.1)=vs.map (·.1):=by
 unfold KV at r
 induction r with
 | nil=>rfl
 | cons h t ih=>rw[L8,L8,ih,h.1]
theorem KV.length{kvs:List (κ × V)}{vs:List (κ × Value)}(r:KV kvs vs):kvs.length=vs.length:=Paired.length r
end
theorem Es{P:Program}{w:World}{k:Key}{u:Value}(r:Ah (kV k) u):(Bc P w).is k u=true:=by
 cases k with
 | inl i=>obtain⟨t,e⟩:=(show ∃t,u=Value.int i t from r);subst e;exact Xfr P w i t
 | inr x=>obtain⟨t,e⟩:=(show ∃t,u=Value.str x t from r);subst e;exact Xfs P w x t
theorem Xbe{P:Program}{w:World}:∀{ks:List Key} {us:List Value},Vals (ks.map kV) us->ItemsAre (Bc P w) ks us
 | [],_,r=>by rw[List.map_nil] at r;cases r;exact .nil
 | k::ks,_,r=>by
  rw[L8] at r;cases r with
  | cons h t=>exact .cons (Es h) (Xbe t)
abbrev KT (H:Hp):List (List Key×V)->List (List Key×Addr×Value)->Prop:=Paired λp q=>p.1=q.1/\H q.2.1=some (.tup (p.1.map kV))/\Ah p.2 q.2.2
theorem KT.val{H:Hp}{kvs:List (List Key×V)}{xs:List (List Key×Addr×Value)}(r:KT H kvs xs)(k:List Key):Bp (Aw kvs k) ((atKey xs k).map (·.2)):=by
 induction r with
 | nil=>exact True.intro
 | @cons p q ps qs h t ih=>
  obtain⟨h1,_,h2⟩:=h;by_cases e:p.1=k
  ·have e':q.1=k:=h1.symm.trans e;have b:atKey (q::qs) k=some q.2:=by simp[atKey,N9,e']
   rw[Ck e,b];exact h2
  ·have e':¬q.1=k:=λz=>e (h1.trans z);have b:atKey (q::qs) k=atKey qs k:=by simp[atKey,N9,e']
   rw[Cl e,b];exact ih
theorem KT.repl{H:Hp}{kvs:List (List Key×V)}{xs:List (List Key×Addr×Value)}(r:KT H kvs xs)(k:List Key){y:V}{u:Value}(ry:Ah y u):
  KT H (kvs.map λkv=>if kv.1=k then (kv.1,y) else kv) (xs.map (putAt k u)):=by
 induction r with
 | nil=>exact .nil
 | @cons p q ps qs h t ih=>
  rw[L8,L8];refine .cons ?_ ih;obtain⟨h1,h2,h3⟩:=h;unfold putAt;by_cases e:p.1=k
  ·rw[Pq e,Pq (h1.symm.trans e)];exact⟨h1,h2,ry⟩
  ·rw[Pp e,Pp (λz=>e (h1.trans z))];exact⟨h1,h2,h3⟩
theorem KT.put{H:Hp}{kvs:List (List Key×V)}{xs:List (List Key×Addr×Value)}(r:KT H kvs xs)(k:List Key){b:Addr}{y:V}{u:Value}(hb:H b=some (.tup (k.map kV)))(ry:Ah y u):
  KT H (Bd kvs k y) (storedH xs k b u):=by
 have e:(kvs.any λkv=>decide (kv.1=k))=(atKey xs k).isSome:=by
  rw[Dr,(r.val k).isSome_eq,Option.isSome_map]
 unfold Bd storedH;rw[e];by_cases q:(atKey xs k).isSome=true
 ·rw[Pq q,Pq q];exact r.repl k ry
 ·rw[Pp q,Pp q];exact Paired.snoc r ⟨rfl,hb,ry⟩
theorem KT.keeps{H H':Hp}{kvs:List (List Key×V)}{xs:List (List Key×Addr×Value)}(r:KT H kvs xs)(ht:∀b ys,H b=some (.tup ys)->H' b=some (.tup ys)):KT H' kvs xs:=
 Paired.mapP r λ_ _ z=>⟨z.1,ht _ _ z.2.1,z.2.2⟩
section
variable {P:Program}{w:World}{H:Hp}{h:Heap}{a:Addr}
theorem Xbf{u:HO}(ok:HOk P w H h)(e:Rd H a u):Ar P w H h a u:=e.ok ok
theorem Eb{kvs:List (Key×V)}(ok:HOk P w H h)(e:Rd H a (.dK kvs)):kvs.length<=sizeLine/\(a==sysModules)=false/\∃vs,KV kvs vs/\h.DictOf (Bc P w) a vs:=
 show Ar P w H h a (.dK kvs) from Xbf ok e
theorem Xbg{kvs:List (Key×V)}(ok:HOk P w H h)(e:H a=some (.dK kvs)):kvs.length<=sizeLine/\(a==sysModules)=false/\∃vs,KV kvs vs/\h.DictOf (Bc P w) a vs:=Eb ok (.inl e)
theorem Fy{ks:List Key}(ok:HOk P w H h)(e:H a=some (.tup (ks.map kV))):(tupleKind (Bc P w)).is h ks a:=by
 obtain⟨_,its,r,o,h1,h2,n,h3⟩:=(show Ar P w H h a (.tup (ks.map kV)) from ok a _ e);exact⟨o,its.toArray,n,h1,h2,h3,by simpa using Xbe r⟩
theorem Et{kvs:List (List Key×V)}(ok:HOk P w H h)(e:Rd H a (.dT kvs)):kvs.length<=sizeLine/\(a==sysModules)=false /\
  ∃xs,KT H kvs xs/\h.DictOfH (tupleKind (Bc P w)) a xs:=by
 obtain⟨z,y,xs,r,o,es,ep,h1,h2,h3,h4,h5⟩:=(show Ar P w H h a (.dT kvs) from Xbf ok e);refine⟨z,y,xs,r,o,es,ep,h1,h2,h3,h4,λx hx=>?_,h5⟩;have all:∀{l:List (List Key×V)} {m:List (List Key×Addr×Value)},KT H l m->∀x∈m,(tupleKind (Bc P w)).is h x.1 x.2.1:=by
  intro l m q
  induction q with
  | nil=>intro x hx;exact nomatch hx
  | @cons p q ps qs hq t ih=>
   intro x hx;rcases Lw.mp hx with e | hx
   ·subst e;exact Fy ok (by rw[<-hq.1];exact hq.2.1)
   ·exact ih x hx
 exact all r x hx
theorem Xg5{kvs:List (List Key×V)}(ok:HOk P w H h)(e:H a=some (.dT kvs)):kvs.length<=sizeLine/\(a==sysModules)=false /\
  ∃xs,KT H kvs xs/\h.DictOfH (tupleKind (Bc P w)) a xs:=Et ok (.inl e)
end
def DGet (H:Hp) (a:Addr) (y:V) (r:Option V):Prop:=
 (∃kvs k,Rd H a (.dK kvs)/\y=kV k/\r=Aw kvs k) \/ ∃kvs k b,Rd H a (.dT kvs)/\y = .ref b/\H b=some (.tup (k.map kV))/\r=Aw kvs k
def DPut (H:Hp) (a:Addr) (y v:V) (H':Hp):Prop:=
 (∃kvs k,H a=some (.dK kvs)/\y=kV k/\kvs.length<sizeLine/\H'=upd H a (.dK (Bd kvs k v))) \/
 ∃kvs k b,H a=some (.dT kvs)/\y = .ref b/\H b=some (.tup (k.map kV))/\kvs.length<sizeLine/\H'=upd H a (.dT (Bd kvs k v))
theorem DGet.k{H:Hp}{a:Addr}{kvs:List (Key×V)}{k:Key}(e:H a=some (.dK kvs)):DGet H a (kV k) (Aw kvs k):=.inl ⟨kvs,k,.inl e,rfl,rfl⟩
theorem DPut.k{H:Hp}{a:Addr}{kvs:List (Key×V)}{k:Key}{v:V}(e:H a=some (.dK kvs))(hl:kvs.length<sizeLine):DPut H a (kV k) v (upd H a (.dK (Bd kvs k v))):=.inl ⟨kvs,k,e,rfl,hl,rfl⟩
section
variable {X:Cx}{pins:List (Addr×Obj)}{σ:St}{H:Hp}{s:Shared}{a:Addr}{y v:V}{u r:Value}{o:Option V}{A:Around}{E:Value->Shared->Prop}
theorem Inv.big(I:Inv X pins σ H s):sysModules<s.heap.objs.size:=by
 have h:mainGlobals<s.heap.objs.size:=(I.mod.glob.keeps I.bk).lt;exact Oz (by decide) h
theorem d_getItem{Q:Value->Shared->Prop}(hu:A.units+1<cLine)(I:Inv X pins σ H s)(g:DGet H a y (some v))(ry:Ah y u)(h:∀w' s',Inv X pins σ H s'->Ah v w'->Q w' s'):
  wpAny (model X.prog X.w) A (getItem (.ref a) u) Q E s:=by
 rcases g with ⟨kvs,k,e,ey,l⟩ | ⟨kvs,k,b,e,ey,eb,l⟩
 ·subst ey;obtain⟨z,hd,vs,rel,dd⟩:=Eb I.hok e;obtain⟨w',hw,rw'⟩:=Bp.some_of (v:=v) (o:=valueAt vs k) (by rw[l];exact rel.val k);exact wpAny_getItem_of (Es ry) dd.mapOf hw (h w' _ (I.tok _) rw')
 ·subst ey;cases (show u=Value.ref b from ry);obtain⟨z,hd,xs,rel,dd⟩:=Et I.hok e;obtain⟨w',hw,rw'⟩:=Bp.some_of (v:=v) (o:=(atKey xs k).map (·.2)) (by rw[l];exact rel.val k);obtain⟨p,hp,hp2⟩:=Option.map_eq_some_iff.mp hw;refine wpAny_getItem_heap (tupleKind_room_in1 hu) (Fy I.hok eb) dd hp ?_;rw[hp2];exact h w' _ (I.tok _) rw'
theorem Xg6{Q:Value->Shared->Prop}(hu:A.units+1<cLine)(I:Inv X pins σ H s)(g:DGet H a y o)(ry:Ah y u)(h:∀s',Inv X pins σ H s'->Q (.bool (!o.isSome)) s'):
  wpAny (model X.prog X.w) A (compareOp .NotIn u (.ref a)) Q E s:=by
 rcases g with ⟨kvs,k,e,ey,l⟩ | ⟨kvs,k,b,e,ey,eb,l⟩
 ·subst ey;obtain⟨z,hd,vs,rel,dd⟩:=Eb I.hok e;refine wpAny_notIn_of (Es ry) hd dd.mapOf ?_;rw[<-(rel.val k).isSome_eq,<-l];exact h _ (I.tok _)
 ·subst ey;cases (show u=Value.ref b from ry);obtain⟨z,hd,xs,rel,dd⟩:=Et I.hok e;refine wpAny_notIn_heap (tupleKind_room_in1 hu) (Fy I.hok eb) hd dd ?_;have q:=(rel.val k).isSome_eq;rw[Option.isSome_map] at q;rw[<-q,<-l];exact h _ (I.tok _)
theorem Jk{h':Heap}{t':Nat}{ob:HO}(I:Inv X pins σ H s)(mu:Mut (H a))(hs:Heap.SameBut a s.heap h')(he:∃q,h'.get? a=some q)(new:Ar X.prog X.w (upd H a ob) h' a ob):
  Inv X pins σ (upd H a ob) {s with heap:=h',toks:=t'}:=
 I.write (x:=a) (e:=a) mu (.inl rfl) (λb q hb z=>(hs.2 b hb).trans z) he new
theorem Xbh{P:Program}{w:World}{H':Hp}{h':Heap}{kvs:List (Key×V)}{vs:List (Key×Value)}(z:kvs.length<=sizeLine)(hd:(a==sysModules)=false)(rel:KV kvs vs)(dd:h'.DictOf (Bc P w) a vs):
  Ar P w H' h' a (.dK kvs):=⟨z,hd,vs,rel,dd⟩
theorem Xg7{H':Hp}{Q:Unit->Shared->Prop}(hu:A.units+1<cLine)(I:Inv X pins σ H s)(g:DPut H a y v H')(ry:Ah y u)(rv:Ah v r)(h:∀s',Inv X pins σ H' s'->Q () s'):
  wpAny (model X.prog X.w) A (setItem (.ref a) u r) Q E s:=by
 rcases g with ⟨kvs,k,e,ey,l,eH⟩ | ⟨kvs,k,b,e,ey,eb,l,eH⟩
 ·subst ey eH;obtain⟨z,hd,vs,rel,dd⟩:=Xbg I.hok e;have hz:vs.length<=sizeLine:=by rw[<-rel.length];exact z
  have hl:(Bd kvs k v).length<=sizeLine:=by have:=Gx kvs k v;omega
  refine wpAny_setItem_pairs (hsz:=hz) (Es ry) dd λh' dd' hs=>h _ ?_;have he:∃q,h'.get? a=some q:=let ⟨q,_,_,hq,_⟩:=dd'; ⟨q,hq⟩;exact Jk I (by rw[e];exact True.intro) hs he (Xbh hl hd (rel.put k rv) dd')
 ·subst ey eH;cases (show u=Value.ref b from ry);obtain⟨z,hd,xs,rel,dd⟩:=Xg5 I.hok e;have hz:xs.length<=sizeLine:=by rw[<-Paired.length rel];exact z
  have hl:(Bd kvs k v).length<=sizeLine:=by have:=Gx kvs k v;omega
  refine wpAny_setItem_heap (hsz:=hz) (tupleKind_room_in1 hu) (Fy I.hok eb) dd λh' dd' hs=>h _ ?_;obtain⟨q,es,ep,hq,h2,h3,h4,_,h5⟩:=dd';refine Jk I (by rw[e];exact True.intro) hs ⟨q,hq⟩ ⟨hl,hd,_,(rel.put k eb rv).keeps λc ys ec=>?_,q,es,ep,hq,h2,h3,h4,h5⟩;rw[Af (Xaa ec e (λz=>nomatch z))];exact ec
end
section
variable {X:Cx}{pins:List (Addr×Obj)}{σ:St}{H:Hp}{s:Shared}{a:Addr}{kvs:List (Key×V)}{k:Key}{u:Value}{A:Around}{E:Value->Shared->Prop}
end
def Xbi (i:Expr):Prop:=∀ov iv,subscripted i false ov iv=operate [ov,iv] (getItem ov iv)
theorem Xg8{prog:Program}{w:World}{A:Around}{E:Value->Shared->Prop}{s:Shared}{env:Env}{value slice:Expr}{pos:Pos}{T id:String}{Q:Value->Shared->Prop}
  (hl:typeLookup (.type T) "__getitem__" = pure (some (.builtin id))) (hs:Xbi slice)
  (h:wpAny (model prog w) A (eval value env) (λo s₁=>wpAny (model prog w) A (eval slice env) (λi s₂=>s₂.TypeIs o T/\wpAny (model prog w) A (getItem o i) Q E s₂) E s₁) E s):
  wpAny (model prog w) A (eval (.Subscript value slice pos) env) Q E s:=by
 refine Subscript_ (wpAny_mono h (λo s₁ h₁=>wpAny_mono h₁ (λi s₂ h₂=>?_) λ_ _ x=>x) λ_ _ x=>x);obtain⟨hT,h₂⟩:=h₂;unfold subscriptTail;refine Pm ?_;rw[getitemInPython_of_ne hT.not_modules];refine Pm (wpAny_specialOf hT hl ?_);have fin:wpAny (model prog w) A (subscripted slice false o i) (λr s₃=>wpAny (model prog w) A (letTemporaryGo value o r >>= λ_=>pure r) Q E s₃) E s₂:=by
  rw[hs o i];exact wpAny_operating (wpAny_mono h₂ (λr s₃ h₃=>Pm (wpAny_letTemporaryGo (Pn h₃))) λ_ _ x=>x)
 first
  | exact Pn (Pm fin)
  | exact Pm (Pn (Pm fin))
  | exact Pm fin
theorem Xg9{X:Cx}{pins:List (Addr×Obj)}{σ:St}{H:Hp}{s:Shared}{a:Addr}{y:V}{o:Option V}(I:Inv X pins σ H s)(g:DGet H a y o):s.TypeIs (.ref a) "dict" := by
 rcases g with ⟨kvs,k,e,_,_⟩ | ⟨kvs,k,b,e,_,_,_⟩
 ·obtain⟨_,_,vs,_,dd⟩:=Eb I.hok e;exact dd.typeIs
 ·obtain⟨_,_,xs,_,dd⟩:=Et I.hok e;exact dd.typeIs
def Xha (td ty:TE):TE:=fun σ H Q=>td σ H λx H1=>ty σ H1 λy H2=>∃a v,x = .ref a/\DGet H2 a y (some v)/\Q v H2
def tDIn (ty td:TE):TE:=fun σ H Q=>ty σ H λy H1=>td σ H1 λx H2=>∃a o,x = .ref a/\DGet H2 a y o/\Q (.bl o.isSome) H2
def Xhb (ty td:TE):TE:=fun σ H Q=>ty σ H λy H1=>td σ H1 λx H2=>∃a o,x = .ref a/\DGet H2 a y o/\Q (.bl (!o.isSome)) H2
def Xhc (td ty tv:TE):TS:=λD σ H=>tv σ H λv H1=>td σ H1 λx H2=>ty σ H2 λy H3=>∃a H4,x = .ref a/\DPut H3 a y v H4/\D.nx σ H4
def sDAug (td ty tv:TE) (rd:V->V->Hp->VK->Prop):TS:=λD σ H=>td σ H λx H1=>ty σ H1 λy H2=>∃a v,x = .ref a/\DGet H2 a y (some v) /\
 tv σ H2 λy2 H3=>rd v y2 H3 λz H4=>∃H5,DPut H4 a y z H5/\D.nx σ H5
def sDDel (td ty:TE):TS:=λD σ H=>td σ H λx H1=>ty σ H1 λy H2=>∃a kvs k,x = .ref a/\H2 a=some (.dK kvs)/\y=kV k/\(Aw kvs k).isSome=true/\D.nx σ (upd H2 a (.dK (Xbb kvs k)))
section
variable {X:Cx}{o i e value:Expr}{pos pos' tpos:Pos}{td ty tv:TE}
theorem Eu(hu:X.A.units+1<cLine)(ho:PE X o td)(hi:PE X i ty)(hs:Xbi i):PE X (.Subscript o i pos) (Xha td ty):=by
 intro pins s σ H Q I h;refine Xg8 PySem.F.slot_dict_getitem.lookup hs (thn (ho pins s σ H _ I h) λu s1 ⟨x,H1,I1,rx,q1⟩=>thn (hi pins s1 σ H1 _ I1 q1) λiv s2 ⟨y,H2,I2,ry,a,v,ex,g,q2⟩=>?_);subst ex;obtain rfl:u=Value.ref a:=rx;exact⟨Xg9 I2 g,d_getItem hu I2 g ry λw' s3 I3 rw'=>⟨v,H2,I3,rw',q2⟩⟩
theorem Xhd(hu:X.A.units+1<cLine)(hi:PE X i ty)(ho:PE X o td):PC X .NotIn i o (Xhb ty td):=by
 intro pins s σ H Q I h;refine thn (hi pins s σ H _ I h) λiv s1 ⟨y,H1,I1,ry,q1⟩=>thn (ho pins s1 σ H1 _ I1 q1) λu s2 ⟨x,H2,I2,rx,a,ov,ex,g,q2⟩=>?_;subst ex;obtain rfl:u=Value.ref a:=rx;exact Xg6 hu I2 g ry λs3 I3=>⟨.bl (!ov.isSome),H2,I3,rfl,q2⟩
theorem Xhe(hu:X.A.units+1<cLine)(ho:PE X o td)(hi:PE X i ty)(hv:PE X value tv)(hs:swapsWith value (some (.Subscript o i pos')) pos.line X.env=pure false):
  PS X (.Assign [.Subscript o i pos'] value pos) (Xhc td ty tv):=by
 intro pins s σ H D I h;refine wpAny_Assign_Subscript (thn (hv pins s σ H _ I h) λr s1 ⟨v,H1,I1,rv,q1⟩=>thn (ho pins s1 σ H1 _ I1 q1) λu s2 ⟨x,H2,I2,rx,q2⟩=>thn (hi pins s2 σ H2 _ I2 q2) λiv s3 ⟨y,H3,I3,ry,a,H4,ex,g,q3⟩=>?_) hs;subst ex;obtain rfl:u=Value.ref a:=rx;exact Xg7 hu I3 g ry rv λs4 I4=>⟨σ,H4,I4,q3⟩
end
theorem Xbj{P:Program}{w:World}{H:Hp}(h:Heap)(hb:sysModules<h.objs.size):Ar P w H (h.push {cls:=.type "dict",data:=.dict #[]}) h.objs.size (.dK []):=
 ⟨Mt _,beq_eq_false_iff_ne.mpr (Ne.symm (Lr hb)),[],.nil,Heap.DictOf.new h⟩
def Xhf:TE:=λ_ H Q=>∀p,H p=none->Q (.ref p) (upd H p (.dK []))
section
variable {X:Cx}{pos:Pos}
theorem Xhg:PE X (.Dict [] [] pos) Xhf:=λpins s σ H Q I h=>
 wpAny_Dict_empty ⟨.ref s.heap.objs.size,_,I.laid (a:=s.heap.objs.size) (o:=.dK []) (t':=s.toks) (λ_ _ q=>Px _ q) (Lk _) (Xbj s.heap I.big),rfl,h _ (I.hok.fresh (Lk _))⟩
end
def Xbk:List (TE×TE)->St->Hp->(List (V×V)->Hp->Prop)->Prop
 | [],_,H,Q=>Q [] H
 | (tk,tv)::r, σ,H,Q=>tk σ H λx H1=>tv σ H1 λy H2=>Xbk r σ H2 λps H3=>Q ((x,y)::ps) H3
def Xhh (kvs more:List (Key×V)):List (Key×V):=more.foldl (λacc kv=>Bd acc kv.1 kv.2) kvs
def tDisp (trs:List (TE×TE)):TE:=fun σ H Q=>∀p,H p=none->Xbk trs σ (upd H p (.dK [])) λps H2=>H2 p=some (.dK [])/\∃kvs:List (Key×V),ps=kvs.map (λkv=>(kV kv.1,kv.2))/\kvs.length<=15/\Q (.ref p) (upd H2 p (.dK (Xhh [] kvs)))
structure M1 (X:Cx) (o:Expr) (m:Str) (apos:Pos) (e:Expr) (cpos:Pos):Prop where
 base:attributeBase o m X.env (eval o X.env)=eval o X.env
 few:((backTo cpos (starEach [e] X.env)).all (λx => !x.1)&&(backToKw cpos (keywordEach [] X.env)).all (λx=>x.1.isSome)
  && decide (([e]:List Expr).length+([]:List Keyword).length+(if ([]:List Keyword).isEmpty then 0 else 1)<30))=true
 line:(apos.endLine==cpos.line)=true
 trees:backTo cpos (starEach [e] X.env)=[(false,eval e X.env)]
structure M2 (X:Cx) (o:Expr) (m:Str) (apos:Pos) (e f:Expr) (cpos:Pos):Prop where
 base:attributeBase o m X.env (eval o X.env)=eval o X.env
 few:((backTo cpos (starEach [e,f] X.env)).all (λx => !x.1)&&(backToKw cpos (keywordEach [] X.env)).all (λx=>x.1.isSome)
  && decide (([e,f]:List Expr).length+([]:List Keyword).length+(if ([]:List Keyword).isEmpty then 0 else 1)<30))=true
 line:(apos.endLine==cpos.line)=true
 trees:backTo cpos (starEach [e,f] X.env)=[(false,eval e X.env),(false,eval f X.env)]
def IsD (H:Hp) (a:Addr):Prop:=(∃kvs,Rd H a (.dK kvs)) \/ ∃kvs,Rd H a (.dT kvs)
theorem Xhi{X:Cx}{pins:List (Addr×Obj)}{σ:St}{H:Hp}{s:Shared}{a:Addr}(I:Inv X pins σ H s)(d:IsD H a):
  s.TypeIs (.ref a) "dict" /\ (∀b,Value.ref a = .ref b->∃ob,s.heap.get? b=some ob/\ob.dict=none)/\(a==sysModules)=false:=by
 rcases d with ⟨kvs,e⟩ | ⟨kvs,e⟩
 ·obtain⟨_,hd,vs,_,dd⟩:=Eb I.hok e;refine⟨dd.typeIs,λb q=>?_,hd⟩;cases q;obtain⟨ob,_,_,h1,h2,_⟩:=dd;exact⟨ob,h1,h2.2.1⟩
 ·obtain⟨_,hd,xs,_,dd⟩:=Et I.hok e;refine⟨dd.typeIs,λb q=>?_,hd⟩;cases q;obtain⟨ob,_,_,h1,h2,_⟩:=dd;exact⟨ob,h1,h2.2.1⟩
section
variable {X:Cx}{pins:List (Addr×Obj)}{σ:St}{H:Hp}{s:Shared}{a:Addr}{y d:V}{u r:Value}{o:Option V}{A:Around}{E:Value->Shared->Prop}
theorem Xhj{Q:Value->Shared->Prop}(hu:A.units+1<cLine)(I:Inv X pins σ H s)(g:DGet H a y o)(ry:Ah y u)(rd:Ah d r)(h:∀w' s',Inv X pins σ H s'->Ah (o.getD d) w'->Q w' s'):
  wpAny (model X.prog X.w) A (call (.builtin "dict.get") [.ref a,u,r]) Q E s:=by
 rcases g with ⟨kvs,k,e,ey,l⟩ | ⟨kvs,k,b,e,ey,eb,l⟩
 ·subst ey;obtain⟨z,hd,vs,rel,dd⟩:=Eb I.hok e;refine call_meetsIn PySem.F.slot_dict_get dd.typeIs PySem.F.entry_dict_get (PySem.F.args_dict_get_3 _ _ _) (meets_dict_get_default (Bc X.prog X.w) a (Es ry) hd r) ⟨_,dd.mapOf,h _ _ (I.tok _) ?_⟩;rw[l];exact(rel.val k).getD rd
 ·subst ey;cases (show u=Value.ref b from ry);obtain⟨z,hd,xs,rel,dd⟩:=Et I.hok e;refine call_meetsIn PySem.F.slot_dict_get dd.typeIs PySem.F.entry_dict_get (PySem.F.args_dict_get_3 _ _ _) (meetsH_dict_get_default (tupleKind (Bc X.prog X.w)) a b hd r) ⟨tupleKind_room_in1 hu,k,xs,Fy I.hok eb,dd,h _ _ (I.tok _) ?_⟩;rw[l];exact(rel.val k).getD rd
end
def Xhk (td ty tx:TE):TE:=fun σ H Q=>td σ H λx H1=>∃a,x = .ref a/\IsD H1 a/\ty σ H1 λy H2=>tx σ H2 λz H3=>∃o,DGet H3 a y o/\Q (o.getD z) H3
def Xpe (td ty:TE):TE:=fun σ H Q=>td σ H λx H1=>∃a,x = .ref a/\IsD H1 a/\ty σ H1 λy H2=>∃kvs k v,H2 a=some (.dK kvs)/\y=kV k/\Aw kvs k=some v/\Q v (upd H2 a (.dK (Xbb kvs k)))
section
variable {X:Cx}{o e f:Expr}{apos cpos:Pos}{td ty tx:TE}
theorem Xhl(hu:X.A.units+1<cLine)(ho:PE X o td)(he:PE X e ty)(hf:PE X f tx)(m:M2 X o "get" apos e f cpos):PE X (.Call (.Attribute o "get" apos) [e,f] [] cpos) (Xhk td ty tx):=by
 intro pins s σ H Q I h;refine wpAny_Call_method m.base m.few m.line PySem.F.plainAttrs_dict PySem.F.slot_dict_get PySem.F.type_dict_get (thn (ho pins s σ H _ I h) λu s1 ⟨x,H1,I1,rx,a,ex,d,q1⟩=>?_);subst ex;obtain rfl:u=Value.ref a:=rx;obtain⟨t1,t2,_⟩:=Xhi I1 d;refine⟨t1,t2,?_⟩;rw[m.trees];refine Calls.callWith_builtin rfl (Calls.evalArgs_plain (Calls.spliced_cons (thn (he pins s1 σ H1 _ I1 q1) λiv s2 ⟨y,H2,I2,ry,q2⟩=>
  Calls.spliced_cons (thn (hf pins s2 σ H2 _ I2 q2) λfv s3 ⟨z,H3,I3,rz,ov,g,q3⟩=>Calls.spliced_nil ?_))))
 exact Xhj hu I3 g ry rz λw' s4 I4 rw'=>⟨_,H3,I4,rw',q3⟩
end
section
variable {X:Cx}{pins:List (Addr×Obj)}{σ:St}{H:Hp}{s:Shared}{a:Addr}{kvs:List (Key×V)}{A:Around}{E:Value->Shared->Prop}
end
section
variable {X:Cx}{pins:List (Addr×Obj)}{σ:St}{H:Hp}{s:Shared}{a:Addr}{y:V}{u:Value}{A:Around}{E:Value->Shared->Prop}
end
end L2
namespace Att
open PySem PySem.W PySem.Calls PyProof.Rows
theorem Xhm{P:Params}{h:Heap}:∀(ns:List Int) (vs:List Value),WellAll P h vs (ns.map WData.int)->IntsAre vs ns:=by
 intro ns
 induction ns with
 | nil=>
  intro vs w;rw[List.map_nil] at w;cases w;exact .nil
 | cons n ns ih=>
  intro vs w;rw[L8] at w;cases w with
  | cons a b=>
   cases a;exact .cons _ _ (ih _ b)
theorem Xhn{l:OpenLaw}{n:Nat}(hn:l.most=some n){P:Params}{h:Heap}{args:List WData}{vals:List Value}
  (hpre:l.row.toRowW.claim.pre args=true) (hwl:WellAll P h vals args):
  ∃a vs ns,vals=[Value.ref a]/\args=[WData.list (ns.map WData.int)]/\h.get? a=some {cls:=.type "list",data:=.seq vs.toArray}/\IntsAre vs ns/\ns.length<=n:=by
 have hsh:WShape.hasAll [] args [.list .int]=true:=(pre_splitW hpre).1;have hc:l.pre.holds [] {args:=args}=true:=(pre_splitW hpre).2;obtain⟨d,r,rfl,h1,h2⟩:=hasAllW_cons hsh;obtain rfl:=hasAllW_nil h2;obtain⟨xs,rfl,h3⟩:=hasW_list h1;obtain⟨ns,rfl⟩:=items_int h3;have hlen:ns.length<=n:=by
  unfold OpenLaw.pre at hc;have h4:(WTm.not (.lt (.lit (.int (n:Int))) (.len (.arg 0)))).holds [] {args:=[.list (ns.map .int)]}=true:=by
   have h4:=(holds_andW hc).1;rw[hn] at h4;exact h4
  have h5:=condW_of h4 (w_not (w_lt w_lit (w_len_list (w_arg rfl))));rw[Li] at h5;refine Nat.le_of_not_lt λq=>?_;have q':(n:Int)<((ns.length:Nat):Int):=by omega
  first
   | (rw[Pr q'] at h5;exact absurd h5 (by decide))
   | (simp at h5;omega)
 cases hwl with
 | cons w1 w2=>
  cases w2;cases w1 with
  | list ho hall=>exact⟨_,_,ns,rfl,rfl,ho,Xhm ns _ hall,hlen⟩
theorem Xho(l:OpenLaw)(args:List WData):l.row.toRowW.claim.post args (.bool true) args=true:=
 postW_of (r:=l.row.toRowW) (X:=(true==true))
  (show WShape.has [] (.bool true) .bool=true by first | rfl | decide | simp[WShape.has,WShape.arms,WShape.armsAll])
  (show (WTm.eq .res (.lit (.bool true))).value [] {args:=args,res:=some (.bool true),after:=args}=some (.bool (true==true)) from w_eq_bool (w_res rfl) w_lit) rfl
theorem attach_call{l:OpenLaw}{n:Nat}{q:Program}{loose:List Str}{XP:(Str->Option Value)->Heap->Prop}{YP:World->Heap->Prop}{d:DefRec}
  (hn:l.most=some n) (hdf:d.params.defaults=[])
  (call:∀(w:World) (s₀ s₁ : Shared) (mg mb:Str->Option Value) (fa:Addr) (o:Obj) (pm cd doc:Value) (a:Addr) (vs:List Value) (ns:List Int),
   Ground q loose [] XP w s₀ mg mb s₁.heap->YP w s₁.heap ->
   s₁.heap.get? fa=some o->o.data = .func (docDef d.name d.params d.body d.scope pm cd doc)->s₁.heap.CodeRec cd d.name->mg d.name=some (.ref fa) ->
   s₁.heap.get? a=some {cls:=.type "list",data:=.seq vs.toArray}->IntsAre vs ns->ns.length<=n->s₁.gens = #[] ->
   codeAny (model l.prog w) callerA (.call (.ref fa) ⟨[.ref a],[]⟩) (λr s'=>r = .ok (.ret (.bool true))/\OldK s₁.heap s'.heap/\s'.os=s₁.os/\AllBare s'.gens) s₁):
  WalkO q loose XP YP l.row.toRowW d [] (λf vs=>PySem.call f vs):=by
 intro w s₀ s₁ mg mb G Y fa o pm cd doc dV kV ho hd hcd hD hmg hg args vals as hpre hlay hrd hwl hlo;obtain rfl:dV = .none:=Dflts.none hD hdf;obtain rfl:kV = .none:=Dflts.noKw hD;obtain⟨a,vs,ns,rfl,rfl,hobj,hints,hlen⟩:=Xhn hn hpre hwl;refine enter_call (codeAny_mono (call w s₀ s₁ mg mb fa o pm cd doc a vs ns G Y ho (fd_plain hd) hcd hmg hobj hints hlen hg) λr s' hq=>?_);obtain⟨rfl,h2,h3,h4⟩:=hq;exact⟨.inl ⟨.bool true,.bool true,[],rfl,λ_=>rfl,.bool true,Xho l _,λ_=>⟨List.Pairwise.nil,λ_ hm=>(nomatch hm)⟩⟩,h2,h3,h4⟩
section
variable {prog:Program}{w:World}{A:Around}{E:Value->Shared->Prop}{s:Shared}{K:Frag}
def ledger (h:Heap) (L d:Addr):List (Addr×Obj):=(List.range h.objs.size).filterMap λa=>if a=L\/a=d then none else (h.get? a).map λo=>(a,o)
end
end Att
namespace L2
open PySem PySem.Spec PyProof.Rows
theorem Xbl:∀{vs:List Value} {ns:List Int},IntsAre vs ns->Vals (ns.map V.int) vs
 | _,_,.nil=>.nil
 | _,_,.cons n t h=>.cons ⟨t,rfl⟩ (Xbl h)
def Only (H:Hp):Prop:=∀b,H b=none \/ ∃o xs,H b=some (.frz o (.lst xs))
theorem Xhp{P:Program}{w:World}{K:PySem.W.Frag}{mg mb:Str->Option Value}{CX:CXT}{k:Nat}{fa a:Addr}{fd:FuncData}{x:Str}{sp:Sp}{s₁ : Shared}{vs:List Value}{ns:List Int}
  (KX:K.In s₁.heap) (hns:s₁.heap.Ns mainGlobals mg) (hb:s₁.heap.Ns builtinsNs mb) (hbb:∀x:Str,x ≠ "__name__" -> mb x=bootBuiltins x) (hlim:s₁.heap.NoLimit) (hg:s₁.gens = #[])
  (ha:s₁.heap.get? a=some {cls:=.type "list",data:=.seq vs.toArray}) (hi:IntsAre vs ns) (hl:ns.length<=sizeLine) (hr:Room k callerA)
  (F:∀base:Heap,K.In base->base.Ns mainGlobals mg->FnOk P w K mg base CX k fa fd [x] sp) (hbind:∀(s:Shared) (u:Value),BindsTo s fd ⟨[u],[]⟩ [(x,u)])
  (hsp:∀H:Hp,Only H->SqL K H a (ns.map V.int)->sp [.ref a] H (λv _=>v = .bl true) λ_ _ _=>False)
  (hCX:∀H e s',CX [] H s₁ (λ_ _ _=>False) e s'->False):
  codeAny (model P w) callerA (.call (.ref fa) ⟨[.ref a],[]⟩) (λr s'=>r = .ok (.ret (.bool true))/\OldK s₁.heap s'.heap/\s'.os=s₁.os/\AllBare s'.gens) s₁:=by
 have rv:=Xbl hi;have lenV:=hi.length;have core:∀H:Hp,Only H->SqL K H a (ns.map V.int)->HOk P w H s₁.heap->(∀b,H b≠none->b=a)->(H a≠none->K.lookup a=none) ->
   codeAny (model P w) callerA (.call (.ref fa) ⟨[.ref a],[]⟩) (λr s'=>r = .ok (.ret (.bool true))/\OldK s₁.heap s'.heap/\s'.os=s₁.os/\AllBare s'.gens) s₁:=by
  intro H hO hS hok hA hK;have base_of:∀{b:Addr} {o:Obj},s₁.heap.get? b=some o->H b=none->(C3 s₁.heap H).get? b=some o:=λe n=>Xfu e n;have noA:∀{b:Addr} {o:Obj} {es:Array DictEntry} {ep:Nat},s₁.heap.get? b=some o->o.data = .dict es ep->H b=none:=λ{b o es ep} e d=>by
   cases q:H b with
   | none=>rfl
   | some u=>
    have e':b=a:=hA b (by rw[q];simp);subst e';rw[ha] at e;cases e;have d':Data.seq vs.toArray _=Data.dict es ep:=d;cases d'
  have nsK:∀{b:Addr} {m:Str->Option Value},s₁.heap.Ns b m->(C3 s₁.heap H).Ns b m:=λ{b m} ⟨o,es,ep,e,d,r⟩=>⟨o,es,ep,base_of e (noA e d),d,r⟩;have hKb:K.In (C3 s₁.heap H):=λb o e=>base_of (KX b o e) (by
   cases q:H b with
   | none=>rfl
   | some u=>
    have e':b=a:=hA b (by rw[q];simp);subst e';rw[hK (by rw[q];simp)] at e;cases e)
  have hM:Mod K mg (C3 s₁.heap H):=⟨hKb,nsK hns,⟨mb,nsK hb,hbb⟩,let ⟨mc,h1,h2⟩:=hlim; ⟨mc,nsK h1,h2⟩⟩;have e0:Env0 P w K mg (C3 s₁.heap H) callerA [] s₁ H:=⟨rfl,hM,λb o e=>Xfv e,Nat.le_of_eq (Xft _ _),trivial,λb hb=>absurd (show b∈([]:List Addr) from hb) (by simp),hok,.of_eq hg⟩;refine codeAny_mono ((F _ hKb (nsK hns)).run callerA [] s₁ H ⟨[.ref a],[]⟩ [.ref a] [.ref a] _ _ hr e0 (hbind s₁ (.ref a)) (.cons rfl .nil) (hsp H hO hS)) λr s' h=>?_;cases r with
  | error e=>exact(hCX H e s' h).elim
  | ok fl=>
   cases fl with
   | next=>exact False.elim h
   | brk=>exact False.elim h
   | cont=>exact False.elim h
   | ret u=>
    obtain⟨v,H',os,bare,un,hok',r',q⟩:=h;have q':v = .bl true:=q;subst q';obtain rfl:u=Value.bool true:=r';refine⟨rfl,OldK.of_keep λb o e=>?_,os,bare⟩;cases q:H b with
    | none=>exact un.keep b o e q (by intro z;exact absurd (show b∈([]:List Addr) from z) (by simp)) (by simp)
    | some u=>
     rcases hO b with z | ⟨ob,xs,z⟩
     ·rw[q] at z;cases z
     ·have z2:=un.frzs b ob _ z;obtain⟨e1,_⟩:=hok b _ z;obtain⟨e2,_⟩:=hok' b _ z2;rw[e] at e1;cases e1;exact e2
 cases hk:K.lookup a with
 | some o=>
  have e:=KX a o hk;rw[ha] at e;cases e;refine core (λ_=>none) (λ_=>.inl rfl) (.inr ⟨_,vs.toArray,_,hk,rfl,rfl,rfl,by rw[Lj,lenV];exact hl,by simpa using rv⟩) (λb u z=>by have z':(none:Option HO)=some u:=z;cases z') (λb z=>absurd rfl z) λz=>absurd rfl z
 | none=>
  refine core (λb=>if b=a then some (.frz {cls:=.type "list",data:=.seq vs.toArray} (.lst (ns.map V.int))) else none) (λb=>?_) (.inl (.inr ⟨{cls:=.type "list",data:=.seq vs.toArray},Pq rfl⟩)) (λb u z=>?_) (λb z=>?_) λ_=>hk
  ·by_cases hb:b=a
   ·exact .inr ⟨_,_,Pq hb⟩
   ·exact .inl (Pp hb)
  ·by_cases hb:b=a
   ·have z':=(Pq hb).symm.trans z;cases z';subst hb;exact⟨ha,by rw[Li];exact hl,vs,_,rv,ha⟩
   ·have z':=(Pp hb).symm.trans z;cases z'
  ·by_cases hb:b=a
   ·exact hb
   ·exact absurd (Pp hb) z
abbrev KOf {K:PySem.W.Frag} {h:Heap} (_:K.In h):PySem.W.Frag:=K
theorem Xhq{l:PySem.W.OpenLaw}{n k:Nat}{q:Program}{loose:List Str}{XP:(Str->Option Value)->Heap->Prop}{YP:World->Heap->Prop}{d:DefRec}{K:Params->PySem.W.Frag}{CX:World->CXT}{sp:World->Sp}{x:Str}
  (hn:l.most=some n) (hn2:n<=sizeLine) (hdf:d.params.defaults=[]) (hr:Room k callerA)
  (hY:∀(w:World) (h:Heap),YP w h->(K w.params).In h)
  (F:∀(w:World) (mg:Str->Option Value) (fa:Addr) (h:Heap),(K w.params).In h->h.Ns mainGlobals mg->mg d.name=some (.ref fa) ->
   ∃fd:FuncData,(∀(s:Shared) (u:Value),BindsTo s fd ⟨[u],[]⟩ [(x,u)]) /\
    ∀base:Heap,(K w.params).In base->base.Ns mainGlobals mg->FnOk l.prog w (K w.params) mg base (CX w) k fa fd [x] (sp w))
  (hsp:∀(w:World) (H:Hp) (a:Addr) (ns:List Int),ns.length<=n->Only H->SqL (K w.params) H a (ns.map V.int)->sp w [.ref a] H (λv _=>v = .bl true) λ_ _ _=>False)
  (hCX:∀(w:World) (H:Hp) (s:Shared) (e:Value) (s':Shared),CX w [] H s (λ_ _ _=>False) e s'->False):
  PySem.W.WalkO q loose XP YP l.row.toRowW d [] (λf vs=>PySem.call f vs):=by
 refine Att.attach_call hn hdf λw s₀ s₁ mg mb fa o pm cd doc a vs ns G Y ho hd hcd hmg hobj hints hlen hg=>?_;have KX:=hY w _ Y;obtain⟨fd,hb,hF⟩:=F w mg fa _ KX G.T.g hmg;exact Xhp KX G.T.g G.T.b G.T.builtins G.T.nolimit hg hobj hints (Mj hlen hn2) hr hF hb (λH hO hS=>hsp w H a ns hlen hO hS) λH e s'=>hCX w H s₁ e s'
def Xpf (s:Stmt) (j:Nat):Stmt:=match s with
 | .ClassDef _ _ _ body _ _ _ _ _ _ _=>body.getD j (.Pass ⟨0,0,0,0⟩)
 | _=>.Pass ⟨0,0,0,0⟩
def Ec (s:Stmt):Arguments:=match s with
 | .FunctionDef _ a _ _ _ _ _ _ _ _=>a
 | _=>{posonlyargs:=[],args:=[],vararg:=none,kwonlyargs:=[],kw_defaults:=[],kwarg:=none,defaults:=[]}
def Cu (s:Stmt):List Stmt:=match s with
 | .FunctionDef _ _ b _ _ _ _ _ _ _=>b
 | _=>[]
def defScope (s:Stmt):Scope:=match s with
 | .FunctionDef _ _ _ _ _ _ sc _ _ _=>sc
 | _=>{kind:=.function,names:=[],isGenerator:=false,isCoroutine:=false}
abbrev CX0:CXT:=λ_ _ _ _ _ _=>False
abbrev E0:XK:=λ_ _ _=>False
theorem Aj{X:Cx}:Passes CX0 X E0:=λ_ _ _ _ _ _ _ h=>h.elim
structure Fun (K:PySem.W.Frag) (x qual:Str) (st:Stmt) (f:Addr) (fd:FuncData):Prop where
 ex:∃(oc:Value) (od:Option Addr) (kV doc pm:Value) (an:Option Addr) (cdv ct:Value) (osl:Array (Option Value)),
  fd=PySem.W.fnOf x qual (Ec st) (Cu st) (defScope st) .none kV doc pm an cdv ct/\K.lookup f=some ⟨oc,od,.func fd,osl⟩/\PySem.W.codeIn K cdv qual=true
 kp:PySem.W.keepIn K (.ref f)=true
section
variable {P:Program}{w:World}{K:PySem.W.Frag}{mg:Str->Option Value}{base:Heap}
theorem Fun.ok{x qual:Str}{st:Stmt}{f:Addr}{fd:FuncData}{N ps:List Str}{k:Nat}{sp:Sp}(F:Fun K x qual st f fd)(S:FnScope N ps (defScope st))(len:∀vs H Q E,sp vs H Q E->vs.length=ps.length)
  (hbody:∀(cdv:Value) (A:Around) (outer:List Env) (s:Shared) (H:Hp) (vs:List V) (Q:VK) (E:XK),Room k (A.deeper (envOfC qual (defScope st) s.heap.objs.size f cdv))->sp vs H Q E ->
   ∃t,PSs (Br CX0 P w K mg base N qual (defScope st) f cdv A outer s H E).nox (Cu st) t/\t {nx:=λ_ H'=>Q .non H',rt:=Q} (start N vs) H):FnOk P w K mg base CX0 (k+1) f fd ps sp:=by
 obtain⟨oc,od,kV,doc,pm,an,cdv,ct,osl,rfl,lk,hcd⟩:=F.ex;refine Jb lk hcd S len λA outer s H vs Q E hr hsp=>?_;obtain⟨t,h,q⟩:=hbody cdv A outer s H vs Q E hr hsp;exact⟨t,h.nox,q⟩
theorem Fun.binds{x qual:Str}{st:Stmt}{f:Addr}{fd:FuncData}{ps:List Str}(F:Fun K x qual st f fd)
  (h:∀(kV doc pm:Value) (an:Option Addr) (cdv ct:Value) (us:List Value),us.length=ps.length->bindArgs (PySem.W.fnOf x qual (Ec st) (Cu st) (defScope st) .none kV doc pm an cdv ct) ⟨us,[]⟩=pure (ps.zip us)):Binds K fd ps []:=by
 obtain⟨oc,od,kV,doc,pm,an,cdv,ct,osl,rfl,lk,hcd⟩:=F.ex;exact .all (h kV doc pm an cdv ct)
theorem Xbm{x qual:Str}{st:Stmt}{f:Addr}{oc:Value}{od an:Option Addr}{osl:Array (Option Value)}{kV doc pm cdv ct:Value}(l:K.lookup f=some ⟨oc,od,.func (PySem.W.fnOf x qual (Ec st) (Cu st) (defScope st) .none kV doc pm an cdv ct),osl⟩)
  (c:PySem.W.codeIn K cdv qual=true) (k:PySem.W.keepIn K (.ref f)=true):Fun K x qual st f (PySem.W.fnOf x qual (Ec st) (Cu st) (defScope st) .none kV doc pm an cdv ct):=⟨⟨oc,od,kV,doc,pm,an,cdv,ct,osl,rfl,l,c⟩,k⟩
end
theorem C9{A:Around}{k:Nat}(hr:Room k A):A.units+1<cLine:=Nat.lt_of_le_of_lt (Nat.add_le_add_left (by decide:1<=64) _) hr.units
section
variable {X:Cx}
theorem pv(i:Nat){x:Str}{pos:Pos}(hN:X.N[i]? = some x:=by rfl)(hv:Vis X.env.scope x:=by first | exact Or.inl rfl | exact Or.inr (Or.inl rfl) | exact Or.inr (Or.inr rfl))(hd:(x==("__debug__" : Str))=false:=by decide)
  (hcd:(x==("__classdict__" : Str))=false:=by decide):PE X (.Name x pos) (Ca i):=Xfx hN hv hd hcd
end
theorem Bg{A B:Prop}(h:B):if false=true then A else B:=by
 rw[Pp Lu];exact h
theorem iteT{A B:Prop}(h:A):if true=true then A else B:=by
 rw[Pq rfl];exact h
theorem Xbn{c A B:Prop}[Decidable c](hc:c)(h:B):if (!decide c)=true then A else B:=by
 rw[Pr hc];exact Bg h
def Same (H H':Hp):Prop:=∀b o,H b=some o->H' b=some o
theorem Same.refl(H:Hp):Same H H:=λ_ _ h=>h
theorem Same.trans{H H1 H2:Hp}(a:Same H H1)(b:Same H1 H2):Same H H2:=λc o h=>b c o (a c o h)
theorem Same.free{H H':Hp}(e:Same H H'){l:Addr}(h:H' l=Option.none):H l=Option.none:=by
 cases q:H l with
 | none=>rfl
 | some o=>
  rw[e l o q] at h;cases h
theorem Same.seq{K:PySem.W.Frag}{H H':Hp}{a:Addr}{xs:List V}(e:Same H H')(h:SqL K H a xs):SqL K H' a xs:=by
 rcases h with (h | ⟨o,h⟩) | h
 ·exact .inl (.inl (e _ _ h))
 ·exact .inl (.inr ⟨o,e _ _ h⟩)
 ·exact .inr h
section
variable {X:Cx}
end
section
variable {κ : Type} [DecidableEq κ]
theorem Xhr{kvs:List (κ × V)}{k : κ}(h:Aw kvs k=none):¬k∈kvs.map (·.1):=by
 intro m;obtain⟨p,hp,e⟩:=Mf.mp m;have q:(kvs.any λkv=>decide (kv.1=k))=true:=N4.mpr ⟨p,hp,Pr e⟩;rw[Dr,h] at q;exact absurd q (by simp)
theorem Gy{kvs:List (κ × V)}{k : κ}{v:V}(h:Aw kvs k=some v):k∈kvs.map (·.1):=by
 have q:(kvs.any λkv=>decide (kv.1=k))=true:=by
  rw[Dr,h]
  all_goals rfl
 obtain⟨p,hp,e⟩:=N4.mp q;exact Mf.mpr ⟨p,hp,Pt e⟩
theorem nd_snoc:∀{l:List κ} {k : κ},l.Nodup->¬k∈l->(l++[k]).Nodup
 | [],k,_,_=>by simp
 | a::r,k,h,hk=>by
  obtain⟨h1,h2⟩:=Mv.mp h;show (a::(r++[k])).Nodup;refine Mv.mpr ⟨λm=>?_,nd_snoc h2 λm=>hk (Lw.mpr (Or.inr m))⟩;rcases Ls.mp m with q | q
  ·exact h1 q
  ·exact hk (Lw.mpr (Or.inl (Ly.mp q).symm))
theorem Xhs{kvs:List (κ × V)}{k : κ}(v:V)(hn:(kvs.map (·.1)).Nodup)(h:Aw kvs k=none):((Bd kvs k v).map (·.1)).Nodup:=by
 rw[Jj v h,Lx];exact nd_snoc hn (Xhr h)
end
def Bv (env:Env):List (Str×NameKind)->List (Str×Addr)->List (Str×Addr)
 | [],cs=>cs
 | (n,k)::r,cs=>if k == .free then Bv env r ((n,(env.cells.lookup n).getD 0)::cs) else Bv env r cs
theorem Jl{env:Env}:∀(names:List (Str×NameKind)) (cs:List (Str×Addr)),(∀x∈names,x.2 = .free->∃c,env.cells.lookup x.1=some c) ->
  (forIn names cs fun (x : Str × NameKind) r => (if (x.2 == .free) = true then do let c <- cellOf env x.1; pure (ForInStep.yield ((x.1, c) :: r)) else pure (ForInStep.yield r) : Sem (ForInStep (List (Str × Addr))))) = pure (Bv env names cs)
 | [],cs,_=>rfl
 | (n,k)::r,cs,h=>by
  rw[O5];cases hk:(k==NameKind.free) with
  | true=>
   have hk':k = .free:=by simpa using hk
   obtain⟨c,hc⟩:=h (n,k) Lo hk';have e1:cellOf env n=pure c:=by unfold cellOf;rw[hc]
   simp only[hk,if_true,e1,pure_bind];rw[Jl r _ λx hx=>h x (Ll _ hx)];show _=pure (if (k==NameKind.free)=true then _ else _);rw[hk,Pq rfl,hc];rfl
  | false=>
   simp only[hk,Md,if_false,pure_bind];rw[Jl r _ λx hx=>h x (Ll _ hx)];show _=pure (if (k==NameKind.free)=true then _ else _);rw[hk,Pp Lu]
theorem Xbo{scope:Scope}{env:Env}(h:∀x∈scope.names,x.2 = .free->∃c,env.cells.lookup x.1=some c):closureFor scope env=pure (Bv env scope.names []):=by
 have e:=Jl scope.names [] h
 have q : closureFor scope env = (forIn scope.names [] fun (x : Str × NameKind) r => (if (x.2 == .free) = true then do let c <- cellOf env x.1; pure (ForInStep.yield ((x.1, c) :: r)) else pure (ForInStep.yield r) : Sem (ForInStep (List (Str × Addr))))) >>= fun cs => pure cs := rfl
 rw[q,e];rfl
theorem Jm{env:Env}{x:Str}{c:Addr}:∀(names:List (Str×NameKind)) (cs:List (Str×Addr)),(∀x∈names,x.2 = .free->∃c,env.cells.lookup x.1=some c) ->
  (Bv env names cs).lookup x=some c->cs.lookup x=some c\/env.cells.lookup x=some c
 | [],cs,_,h=>.inl h
 | (n,k)::r,cs,hf,h=>by
  unfold Bv at h;split at h
  ·rename_i hk;rcases Jm r _ (λx hx=>hf x (Ll _ hx)) h with q | q
   ·rw[Ml] at q;split at q
    ·rename_i e;have e':x=n:=by simpa using e
     subst e';obtain⟨c',hc⟩:=hf (x,k) Lo (by simpa using hk);have hc':env.cells.lookup x=some c':=hc;rw[hc'] at q ⊢;exact .inr q
    ·exact .inl q
   ·exact .inr q
  ·exact Jm r _ (λx hx=>hf x (Ll _ hx)) h
theorem Jn{env:Env}{x:Str}:∀(names:List (Str×NameKind)) (cs:List (Str×Addr)),((cs.lookup x).isSome=true\/(x,NameKind.free)∈names)->((Bv env names cs).lookup x).isSome=true
 | [],cs,h=>by
  rcases h with h | h
  ·exact h
  ·cases h
 | (n,k)::r,cs,h=>by
  unfold Bv;split
  ·refine Jn r _ ?_;rw[Ml];rcases h with h | h
   ·left;split
    ·rfl
    ·exact h
   ·rcases Lw.mp h with e | h
    ·left;cases e;simp
    ·exact .inr h
  ·rename_i hk;refine Jn r _ ?_;rcases h with h | h
   ·exact .inl h
   ·rcases Lw.mp h with e | h
    ·cases e;exact absurd rfl hk
    ·exact .inr h
theorem Xbp{env:Env}{x:Str}{k':NameKind}:∀{names:List (Str×NameKind)},
  (names.map λ(n,k)=>if (k==NameKind.free&&env.scope.kind == .function&&env.kindOf n==some .cell) then (n,NameKind.cell) else (n,k)).lookup x=some k'->∃k,names.lookup x=some k/\(k'=k\/k = .free)
 | [],h=>by simp at h
 | (n,k)::r,h=>by
  have ih := @Xbp env x k' r;have h':List.lookup x ((if (k==NameKind.free&&env.scope.kind == .function&&env.kindOf n==some .cell)=true then (n,NameKind.cell) else (n,k))::_)=_:=h;rw[Ml];by_cases hc:(k==NameKind.free&&env.scope.kind == .function&&env.kindOf n==some .cell)=true
  ·rw[Pq hc,Ml] at h';cases hx:x==n with
   | true=>
    have hk:k = .free:=by
     simp only[Lv,beq_iff_eq] at hc;exact hc.1.1
    exact⟨k,rfl,.inr hk⟩
   | false=>
    rw[hx] at h';exact ih h'
  ·rw[Pp hc,Ml] at h';cases hx:x==n with
   | true=>
    rw[hx] at h';exact⟨k,rfl,.inl (Lq h').symm⟩
   | false=>
    rw[hx] at h';exact ih h'
theorem Jo:∀(names:List (Str×NameKind)) (h:Heap) (acc:List (Str×Addr)) (x:Str) (c:Addr),(cellsFrom h.objs.size names acc).lookup x=some c ->
  (h.objs.size<=c/\(x,NameKind.cell)∈names/\(pushCells h names).IsCell c none)\/acc.lookup x=some c
 | [],_,_,_,_,e=>.inr e
 | (name,kind)::r,h,acc,x,c,e=>by
  unfold cellsFrom at e;unfold pushCells;by_cases hk:(kind==NameKind.cell)=true
  ·rw[Pq hk] at e ⊢;have hk':kind = .cell:=by simpa using hk
   have sz:(h.push {cls:=.type "cell",data:=.cell none}).objs.size=h.objs.size+1:=Heap.size_push ..;rw[<-sz] at e;rcases Jo r _ _ x c e with ⟨a1,a2,a3⟩ | a
   ·exact .inl ⟨by omega,Ll _ a2,a3⟩
   ·rw[Ml] at a;cases hx:x==name with
    | true=>
     rw[hx] at a;cases a;have:x=name:=by simpa using hx
     subst this;refine .inl ⟨Lk _,by rw[hk'];exact Lo,?_⟩;exact⟨_,pushCells_keeps r _ _ _ (Heap.get?_push_size _ rfl),rfl⟩
    | false=>rw[hx] at a;exact .inr a
  ·rw[Pp hk] at e ⊢;rcases Jo r h acc x c e with ⟨a1,a2,a3⟩ | a
   ·exact .inl ⟨a1,Ll _ a2,a3⟩
   ·exact .inr a
theorem Jp:∀(names:List (Str×NameKind)) (n:Nat) (acc:List (Str×Addr)),(∀x y c,acc.lookup x=some c->acc.lookup y=some c->x=y)->(∀x c,acc.lookup x=some c->c<n) ->
  ∀x y c,(cellsFrom n names acc).lookup x=some c->(cellsFrom n names acc).lookup y=some c->x=y
 | [],_,_,h,_=>h
 | (name,kind)::r,n,acc,h,hb=>by
  unfold cellsFrom;by_cases hk:(kind==NameKind.cell)=true
  ·rw[Pq hk];refine Jp r (n+1) _ (λx y c e1 e2=>?_) (λx c e=>?_)
   ·rw[Ml] at e1 e2;cases hx:x==name with
    | true=>
     cases hy:y==name with
     | true=>rw[beq_iff_eq.mp hx,beq_iff_eq.mp hy]
     | false=>
      rw[hx] at e1;rw[hy] at e2;cases e1;exact absurd (hb y _ e2) (Mg _)
    | false=>
     cases hy:y==name with
     | true=>
      rw[hx] at e1;rw[hy] at e2;cases e2;exact absurd (hb x _ e1) (Mg _)
     | false=>rw[hx] at e1;rw[hy] at e2;exact h x y c e1 e2
   ·rw[Ml] at e;cases hx:x==name with
    | true=>rw[hx] at e;cases e;exact Nat.lt_succ_self _
    | false=>rw[hx] at e;exact Ny (hb x c e)
  ·rw[Pp hk];exact Jp r n acc h hb
theorem Jq{env:Env}{x:Str}{c:Addr}:∀(names:List (Str×NameKind)) (cs:List (Str×Addr)),(Bv env names cs).lookup x=some c->cs.lookup x=some c\/(x,NameKind.free)∈names
 | [],cs,h=>.inl h
 | (n,k)::r,cs,h=>by
  unfold Bv at h;split at h
  ·rename_i hk;have hk':k = .free:=by simpa using hk
   rcases Jq r _ h with q | q
   ·rw[Ml] at q;cases hx:x==n with
    | true=>
     have:x=n:=by simpa using hx
     subst this;exact .inr (by rw[hk'];exact Lo)
    | false=>rw[hx] at q;exact .inl q
   ·exact .inr (Ll _ q)
  ·rcases Jq r _ h with q | q
   ·exact .inl q
   ·exact .inr (Ll _ q)
theorem Xht{M:Model}{A:Around}{E:Value->Shared->Prop}{s:Shared}{scope:Scope}{globals:Addr}{closure:List (Str×Addr)}{qual:Str}{outer:Env}{Q:Env->Shared->Prop}
  (h:Q (newEnv scope s.heap.objs.size globals (cellsFrom (s.heap.objs.size+1) scope.names closure) qual none .none (some outer) builtinsNs) {s with heap:=pushCells (s.heap.push {cls:=.type "dict",data:=.dict #[]}) scope.names}):
  wpAny M A (newFunctionEnv scope globals closure [] qual none .none (some outer)) Q E s:=by
 simp only[newFunctionEnv,Pb,if_true];refine Pm (wpAny_alloc ?_);refine Pm (wpAny_layCells _ (λname kind cells=>by cases hkc:kind==NameKind.cell<;>simp[hkc]) _ _ _ _ ?_);rw[show ({s with heap:=s.heap.push {cls:=.type "dict",data:=.dict #[]} }:Shared).heap.objs.size=s.heap.objs.size+1 from Heap.size_push ..];refine Pm ?_;rw[Pf];exact Pn (Pn h)
def Fz (X:Cx) (scope:Scope) (s0:Shared):List (Str×Addr):=cellsFrom (s0.heap.objs.size+1) scope.names (Bv X.env scope.names [])
def Cx.comp (X:Cx) (N:List Str) (scope:Scope) (s0:Shared) (H0:Hp) (ex:List Addr):Cx where
 prog:=X.prog
 w:=X.w
 K:=X.K
 mg:=X.mg
 base:=X.base
 A:=X.A
 N:=N
 s₀:=s0
 H₀:=H0
 env:=compEnvC scope (Fz X scope s0) s0.heap.objs.size X.env
 outer:=X.stack
 stack:=X.stack
 ex:=ex
 fn:=λx=>decide (scope.names.lookup x=some .cell)
 calm:=X.calm
 pn:=[]
 xe:=λ_ _=>False
def Bo (cap:List (Option Nat)) (σ:St):St:=cap.map λo=>o.bind λj=>(σ[j]?).join
structure CompScope (X:Cx) (N:List Str) (cap:List (Option Nat)) (scope:Scope):Prop where
 kind:scope.kind = .function
 uniq:∀y∈scope.names,scope.names.lookup y.1=some y.2
 free:∀y∈scope.names,y.2 = .free->X.env.kindOf y.1=some .cell\/X.env.kindOf y.1=some .free
 len:cap.length=N.length
 cap:∀(i:Nat) (x:Str) (j:Nat),N[i]? = some x->cap[i]? = some (some j)->X.N[j]? = some x/\scope.names.lookup x=some .free
def PIfs (X:Cx) (ifs:List Expr) (t:TT):Prop:=
 ∀(pins:List (Addr×Obj)) (s:Shared) (σ:St) (H:Hp) (Q:Bool->Hp->Prop),Inv X pins σ H s->t σ H Q ->
  wpAny (model X.prog X.w) X.A (forIn ifs true fun c r => if r = true then do let ok <- isTrue c X.env (eval c X.env); pure (ForInStep.yield ok) else pure (ForInStep.yield r)) (TP X pins σ Q) X.xe s
def Ev:TT:=λ_ H Q=>Q true H
theorem Ew{X:Cx}:PIfs X [] Ev:=λ_ _ _ H _ I h=>wpAny_tests_nil ⟨H,I,h⟩
theorem F0{X:Cx}{c:Expr}{t:TT}(h:PT X c t):PIfs X [c] t:=λpins s σ H Q I hw=>wpAny_tests_one (h pins s σ H Q I hw)
def Ed (cap:List (Option Nat)) (g:TG) (tt:TT) (te:TE) (J:It) (σ:St) (H1:Hp) (F:Addr->Hp->Prop):Prop:=
 ∀D,H1 D=none->∃W:Nat->Nat->St->Hp->Prop,(∃m,W 0 m (Bo cap σ) (upd H1 D (.lst [])))/\∀i m σ1 H2,W i m σ1 H2 ->
  (J.stop i H2/\F D H2)\/(J.go i H2/\∀x H3,J.yld i H2 x H3->g x σ1 H3 fun σ2 H4=>tt σ2 H4 λb H5=>
   if b=true then te σ2 H5 λy H6=>∃ys,H6 D=some (.lst ys)/\ys.length<sizeLine/\∃m',m'<m/\W (i+1) m' σ2 (upd H6 D (.lst (ys++[y])))
   else ∃m',m'<m/\W (i+1) m' σ2 H5)
theorem Xbq{env:Env}{x:Str}:∀{names:List (Str×NameKind)} {k:NameKind},names.lookup x=some k ->
  (names.map λ(n,k)=>if (k==NameKind.free&&env.scope.kind == .function&&env.kindOf n==some .cell) then (n,NameKind.cell) else (n,k)).lookup x=some (if (k==NameKind.free&&env.scope.kind == .function&&env.kindOf x==some .cell) then NameKind.cell else k)
 | [],_,h=>by simp at h
 | (n,q)::r,k,h=>by
  have ih := @Xbq env x r k;show List.lookup x ((if (q==NameKind.free&&env.scope.kind == .function&&env.kindOf n==some .cell)=true then (n,NameKind.cell) else (n,q))::_)=_;rw[Ml] at h;cases hx:x==n with
  | true=>
   rw[hx] at h;cases h;have:x=n:=by simpa using hx
   subst this;by_cases hc:(q==NameKind.free&&env.scope.kind == .function&&env.kindOf x==some .cell)=true
   ·rw[Pq hc,Pq hc,Ml,hx]
   ·rw[Pp hc,Pp hc,Ml,hx]
  | false=>
   rw[hx] at h;by_cases hc:(q==NameKind.free&&env.scope.kind == .function&&env.kindOf n==some .cell)=true
   ·rw[Pq hc,Ml,hx];exact ih h
   ·rw[Pp hc,Ml,hx];exact ih h
section
variable {X:Cx}{N:List Str}{cap:List (Option Nat)}{scope:Scope}{pins:List (Addr×Obj)}{σ:St}{H H':Hp}{s s':Shared}{fp:List Addr}
theorem Jr(C:CompScope X N cap scope)(ok:X.Ok):∀x∈scope.names,x.2 = .free->∃c,X.env.cells.lookup x.1=some c:=λx hx hf=>ok.has x.1 (C.free x hx hf)
theorem Gz(C:CompScope X N cap scope)(ok:X.Ok){x:Str}{c:Addr}(h:(Bv X.env scope.names []).lookup x=some c):X.env.cells.lookup x=some c:=by
 rcases Jm scope.names [] (Jr C ok) h with q | q
 ·simp at q
 ·exact q
theorem Xbr(C:CompScope X N cap scope)(ok:X.Ok){x:Str}(h:scope.names.lookup x=some .free):∃c,(Bv X.env scope.names []).lookup x=some c:=
 Ng.mp (Jn scope.names [] (.inr (PySem.mem_of_lookup h)))
theorem Xbs(C:CompScope X N cap scope)(ok:X.Ok){h:Heap}(hz:h.objs.size=s.heap.objs.size+1){x:Str}{c:Addr}(e:(Fz X scope s).lookup x=some c):
  (s.heap.objs.size<c/\scope.names.lookup x=some .cell/\(pushCells h scope.names).IsCell c none)\/(scope.names.lookup x=some .free/\X.env.cells.lookup x=some c):=by
 unfold Fz at e;rw[<-hz] at e;rcases Jo scope.names h _ x c e with ⟨a1,a2,a3⟩ | a
 ·exact .inl ⟨by omega,C.uniq _ a2,a3⟩
 ·refine .inr ⟨?_,Gz C ok a⟩;rcases Jq scope.names [] a with q | q
  ·simp at q
  ·exact C.uniq _ q
theorem Xhu(C:CompScope X N cap scope)(I:Inv X pins σ H s)(hf:∀b∈fp,FpOk X pins H b)(hfl:∀b∈fp,b<s.heap.objs.size){tk:Nat}:
  Inv (X.comp N scope s H fp) [] (Bo cap σ) H {s with heap:=pushCells (s.heap.push {cls:=.type "dict",data:=.dict #[]}) scope.names,toks:=tk}:=by
 have hC:H s.heap.objs.size=none:=I.hok.fresh (Lk _);have hz:(s.heap.push {cls:=.type "dict",data:=.dict #[]}).objs.size=s.heap.objs.size+1:=Heap.size_push ..;have hns:(pushCells (s.heap.push {cls:=.type "dict",data:=.dict #[]}) scope.names).Ns s.heap.objs.size λ_=>none:=(Heap.Ns.new s.heap (.type "dict")).keeps (pushCells_keeps _ _);have hk:∀b o,s.heap.get? b=some o->(pushCells (s.heap.push {cls:=.type "dict",data:=.dict #[]}) scope.names).get? b=some o:=λb o e=>pushCells_keeps _ _ b o (Px _ e);have look:∀{x c},(X.comp N scope s H fp).env.cells.lookup x=some c->_:=λ{x c} h=>Xbs (s:=s) C I.ok hz h;have clt:∀x c,X.env.cells.lookup x=some c->c<s.heap.objs.size:=λx c h=>by
  obtain⟨v,q⟩:=I.cell x c h;exact q.lt
 have kind:∀x k,(relabel scope X.env).names.lookup x=some k->k = .cell\/k = .free->scope.names.lookup x=some .cell\/scope.names.lookup x=some .free:=λx k e hk=>by
  obtain⟨k0,e0,z⟩:=Xbp e;rcases z with z | z
  ·rw[<-z] at e0;rcases hk with q | q
   ·rw[q] at e0;exact .inl e0
   ·rw[q] at e0;exact .inr e0
  ·rw[z] at e0;exact .inr e0
 refine⟨⟨I.ok.mod,C.kind,I.ok.glob,I.ok.blt,Lk _,?inj,λx hx=>?has,λx c h e=>?cab,I.ok.hd,I.ok.frames,.inl rfl,λb hb=>⟨Lr (hfl b hb),λx c h=>?exf⟩,
   I.bs,Mj I.ok.bsz I.sz,λb o e hb=>?noex,λb hb hs=>?exfs,I.stack,I.stkFree⟩,
  rfl,I.bare,Un.kept hk,⟨_,hns,λi x v h1' h2 h3=>?loc⟩,λx c h=>?cell,hC,λx c h=>?freeC,λp hp=>absurd (show p∈([]:List (Addr×Obj)) from hp) (by simp),I.hok.kept hk,?len⟩
 case inj=>
  refine Jp scope.names _ _ (λx y c e1 e2=>I.ok.inj x y c (Gz C I.ok e1) (Gz C I.ok e2)) λx c e=>Ny (clt x c (Gz C I.ok e))
 case has=>
  have hx':(relabel scope X.env).names.lookup x=some .cell\/(relabel scope X.env).names.lookup x=some .free:=hx;refine Ng.mp (PySem.W.cellsFrom_some scope.names _ _ ?_);rcases (hx'.elim (λq=>kind x _ q (.inl rfl)) λq=>kind x _ q (.inr rfl)) with q | q
  ·exact .inl q
  ·obtain⟨c,hc⟩:=Xbr C I.ok q;exact .inr (by rw[hc];rfl)
 case cab=>
  have h:scope.names.lookup x=some .cell:=Pt h;rcases look e with ⟨a,_⟩ | ⟨a,_⟩
  ·exact Ox a
  ·rw[h] at a;cases a
 case exf=>
  rcases look h with ⟨a,_⟩ | ⟨_,a⟩
  ·exact λz=>Mg _ (Oz a (by rw[z];exact hfl b hb))
  ·exact(hf b hb).2.2.2.2.1 x c a
 case noex=>
  obtain⟨_,_,_,z,_⟩:=hf b hb;rcases z with z | z
  ·exact I.ok.noex b o e z
  ·exact absurd (L5 (Pw e) (Mj I.ok.bsz z)) (Mg _)
 case exfs=>
  obtain⟨_,f1,f2,_⟩:=hf b hb;rcases Lw.mp (I.stkSub b hs) with e | e
  ·exact f1 e
  ·exact f2 e
 case loc=>
  have h2':(cap.map λo=>o.bind λj=>(σ[j]?).join)[i]? = some (some v):=h2;rw[Lz] at h2';cases hc:cap[i]? with
  | none=>rw[hc] at h2';cases h2'
  | some o=>
   rw[hc] at h2';cases o with
   | none=>cases h2'
   | some j=>
    have h2'':(σ[j]?).join=some v:=Lq h2';have hσ : σ[j]? = some (some v):=by
     cases hj : σ[j]? with
     | none=>rw[hj] at h2'';cases h2''
     | some o=>rw[hj] at h2'';exact congrArg some h2''
    obtain⟨hN,hfr⟩:=C.cap i x j h1' hc;obtain⟨m,hn,hl⟩:=I.loc;have hkind:X.env.kindOf x=some .cell\/X.env.kindOf x=some .free:=C.free (x,.free) (PySem.mem_of_lookup hfr) rfl;obtain⟨u,r,l⟩:=hl j x v hN hσ (by rcases hkind with q | q;exact .inr (.inl q);exact .inr (.inr q));refine⟨u,r,.inr ⟨?_,?_⟩⟩
    ·show (relabel scope X.env).names.lookup x=some .cell\/(relabel scope X.env).names.lookup x=some .free;have:=Xbq (env:=X.env) hfr;have e:(relabel scope X.env).names.lookup x=_:=this;rw[e];split
     ·exact .inl rfl
     ·exact .inr rfl
    ·obtain⟨c,hcl⟩:=Xbr C I.ok hfr;obtain⟨c2,hc2⟩:=Ng.mp (PySem.W.cellsFrom_some scope.names (s.heap.objs.size+1) (Bv X.env scope.names []) (x:=x) (.inr (by rw[hcl];rfl)));rcases look (x:=x) (c:=c2) hc2 with ⟨_,a,_⟩ | ⟨_,a⟩
     ·rw[hfr] at a;cases a
     ·rcases l with ⟨k,_⟩ | ⟨_,c',e,z⟩
      ·rcases hkind with q | q
       ·rw[k] at q;cases q
       ·rw[k] at q;cases q
      ·rw[a] at e;cases e;obtain⟨o,ho,hd⟩:=z;exact⟨c2,hc2,o,hk c2 o ho,hd⟩
 case cell=>
  rcases look h with ⟨_,_,a⟩ | ⟨_,a⟩
  ·exact⟨none,a⟩
  ·obtain⟨v,o,ho,hd⟩:=I.cell x c a;exact⟨v,o,hk c o ho,hd⟩
 case freeC=>
  rcases look h with ⟨a,_⟩ | ⟨_,a⟩
  ·exact I.hok.fresh (Ox a)
  ·exact I.freeC x c a
 case len=>
  show (cap.map _).length=N.length;rw[Li,C.len]
end
def Xhv (cap:List (Option Nat)) (wi:TI) (g:TG) (tt:TT) (te:TE):TE:=fun σ H Q=>wi σ H λJ H1=>Ed cap g tt te J σ H1 λD H2=>Q (.ref D) H2
def Xhw (i:Nat) (cap:List (Option Nat)) (wi:TI) (g:TG) (tt:TT) (te:TE):TS:=λD σ H=>wi σ H λJ H1=>Ed cap g tt te J σ H1 λl H2=>D.nx (σ.set i (some (.ref l))) H2
theorem Ar.there{P:Program}{w:World}{H:Hp}{h:Heap}{a:Addr}{o:HO}(x:Ar P w H h a o):∃u,h.get? a=some u:=by
 cases o with
 | lst xs=>obtain⟨_,_,_,_,e⟩:=x;exact⟨_,e⟩
 | tup xs=>obtain⟨_,_,_,o,e,_⟩:=x;exact⟨_,e⟩
 | dK kvs=>obtain⟨_,_,_,_,o,_,_,e,_⟩:=x;exact⟨_,e⟩
 | dT kvs=>obtain⟨_,_,_,_,o,_,_,e,_⟩:=x;exact⟨_,e⟩
 | set S n=>obtain⟨o,_,_,_,e,_⟩:=x;exact⟨_,e⟩
 | ins C dx fs=>obtain⟨_,_,_,e,_⟩:=x;exact⟨_,e⟩
 | own y=>exact x
 | xd fs=>obtain⟨_,⟨_,_,_,e,_⟩,_⟩:=x;exact⟨_,e⟩
 | rng lo hi=>obtain⟨_,_,_,e⟩:=x;exact⟨_,e⟩
 | frz ob u=>obtain⟨e,_⟩:=x;exact⟨_,e⟩
 | tbl ps=>exact⟨_,(show h.get? a=some _ from x)⟩
 | met f y=>exact⟨_,(show h.get? a=some _ from x)⟩
 | ext φ=>obtain⟨_,e,_⟩:=x;exact e
structure Flown (P:Program) (w:World) (outer:List Env) (H:Hp) (hc:Heap) (H':Hp) (ex C:Addr) (B:Heap) (a0:Value) (h:Heap):Prop where
 un:Un (frs outer) [] H H' hc h
 hok:HOk P w H' h
 fly:Heap.FlyingW B outer ex (.ref C) a0 h
 inB:∀b o,h.get? b=some o->b∉frs outer->((∃o',hc.get? b=some o')\/H' b≠none)->B.get? b=some o
 frf:∀b∈frs outer,H' b=none
theorem Flown.move{P:Program}{w:World}{outer:List Env}{H H':Hp}{hc B h h':Heap}{ex C:Addr}{a0:Value}(F:Flown P w outer H hc H' ex C B a0 h)(st:B.StaysIn h')(up:h.UpToSlots h'):
  Un (frs outer) [] H H' hc h'/\HOk P w H' h'/\∀b o,h'.get? b=some o->b∉frs outer->((∃o',hc.get? b=some o')\/H' b≠none)->B.get? b=some o:=by
 have nf:∀b∈frs outer,∀o,h.get? b=some o->∀vs,o.data ≠ .fields vs:=λb hb o e=>by
  obtain⟨_,o',e',d⟩:=F.fly.2.2.1.mem hb;rw[e] at e';cases e';exact d
 have tr:∀b o,H' b=some o->b∉frs outer:=λb o e hb=>by rw[F.frf b hb] at e;cases e
 have old:∀b,(∃o',hc.get? b=some o')\/H' b≠none->∃o,h.get? b=some o:=λb hb=>by
  rcases hb with ⟨o',e⟩ | hb
  ·obtain⟨o,e'⟩:=F.un.there b o' e (by simp);exact⟨o,e'⟩
  ·cases q:H' b with
   | none=>exact absurd q hb
   | some u=>exact(F.hok b u q).there
 refine⟨⟨λb o e n hb hx=>?_,λb o e n hb hx=>?_,F.un.free,λb o e hx=>?_,F.un.tups,F.un.frzs,F.un.tbls⟩,λa o e=>?_,λb o e hb hw=>?_⟩
 ·exact st b o (F.inB b o (F.un.keep b o e n hb hx) hb (.inl ⟨o,e⟩))
 ·obtain⟨sl,e1⟩:=F.un.slot b o e n hb hx;obtain⟨sl',e2⟩:=up b _ e1 (nf b hb _ e1);exact⟨sl',e2⟩
 ·obtain⟨o1,e1⟩:=F.un.there b o e hx;by_cases hb:b∈frs outer
  ·obtain⟨sl',e2⟩:=up b _ e1 (nf b hb _ e1);exact⟨_,e2⟩
  ·exact⟨o1,st b o1 (F.inB b o1 e1 hb (.inl ⟨o,e⟩))⟩
 ·refine(F.hok a o e).stay (λb u hb q=>?_) (λ_ q=>q) λ_ _ q=>q;have hn:H' b≠none:=by
   rcases hb with z | z
   ·rw[z,e];simp
   ·rw[z];simp
  have hb':b∉frs outer:=λz=>hn (F.frf b z);exact st b u (F.inB b u q hb' (.inr hn))
 ·obtain⟨o1,e1⟩:=old b hw;have e2:=F.inB b o1 e1 hb hw;have e3:=st b o1 e2;rw[e] at e3;cases e3;exact e2
def CX1 (P:Program) (w:World):CXT:=λouter H s E e s'=>
 ∃ex C H' B a0,e = .ref ex/\s'.os=s.os/\AllBare s'.gens/\Flown P w outer H s.heap H' ex C B a0 s'.heap/\E (.ref C) none H'
section
variable {P:Program}{w:World}{K:PySem.W.Frag}{mg:Str->Option Value}{base:Heap}{N:List Str}{qual:Str}{scope:Scope}{f:Addr}{cd:Value}{A:Around}{outer:List Env}{s:Shared}{H:Hp}{E:XK}
def Leaves (X:Cx) (E:XK):Prop:=∀(pins:List (Addr×Obj)) (σ:St) (H:Hp) (s:Shared) (h':Heap) (ex C:Addr) (args:List Value),
 Inv X pins σ H s->Heap.MadeExcOf s.heap h' ex (.ref C) args->E (.ref C) none H->X.xe (.ref ex) {s with heap:=h'}
theorem leaves1:Leaves (Br (CX1 P w) P w K mg base N qual scope f cd A outer s H E) E:=by
 intro pins σ H1 s1 h' ex C args I hm hE;show wpAny (model P w) (A.deeper (envOfC qual scope s.heap.objs.size f cd)) (leaving (envOfC qual scope s.heap.objs.size f cd) (.ref ex)) _ _ {s1 with heap:=h'};have hst:(Br (CX1 P w) P w K mg base N qual scope f cd A outer s H E).stack=envOfC qual scope s.heap.objs.size f cd::outer:=rfl;have hin:∀env∈(envOfC qual scope s.heap.objs.size f cd::outer),∀b,env.frame=some b->b∈frs (envOfC qual scope s.heap.objs.size f cd::outer):=λenv he b hb=>N6.mpr ⟨env,he,hb⟩;have hFun:s1.heap.FunFrames base (envOfC qual scope s.heap.objs.size f cd::outer):=I.stack;have hB:(PySem.W.hideAll s1.heap (frs (envOfC qual scope s.heap.objs.size f cd::outer))).StaysIn s1.heap:=λb o q=>PySem.W.of_hideAll _ q;have getB:∀b o,s1.heap.get? b=some o->b∉frs (envOfC qual scope s.heap.objs.size f cd::outer)->(PySem.W.hideAll s1.heap (frs (envOfC qual scope s.heap.objs.size f cd::outer))).get? b=some o:=λb o e n=>PySem.W.hideAll_get _ e n;have sub:∀b,b∈frs (envOfC qual scope s.heap.objs.size f cd::outer)->b=s.heap.objs.size\/b∈frs outer:=λb hb=>Lw.mp (I.stkSub b hb);have sup:∀b,b∈frs outer->b∈frs (envOfC qual scope s.heap.objs.size f cd::outer):=λb hb=>by
  unfold frs at hb ⊢;rw[Mh];split
  ·exact hb
  ·exact Ll _ hb
 have frFree:∀b,b∈frs (envOfC qual scope s.heap.objs.size f cd::outer)->H1 b=none:=λb hb=>I.stkFree b hb;refine wpAny_leaves_madeW (A:=A.deeper (envOfC qual scope s.heap.objs.size f cd)) (L:=s.heap.objs.size) I.ok.frames rfl hB (PySem.W.funFrames_hide hFun hin) hm λh'' t f1 _ _ up=>?_;have old:∀b o,s.heap.get? b=some o->b∉frs outer->b∉frs (envOfC qual scope s.heap.objs.size f cd::outer):=λb o e nb hb=>by
  rcases sub b hb with z | z
  ·exact absurd (Pw e) (by rw[z];exact Mg _)
  ·exact nb z
 have nf:∀b∈frs (envOfC qual scope s.heap.objs.size f cd::outer),∀o,s1.heap.get? b=some o->∀vs,o.data ≠ .fields vs:=λb hb o e=>by
  obtain⟨_,o',e',d⟩:=hFun.mem hb;rw[e] at e';cases e';exact d
 refine⟨ex,C,H1,_,_,rfl,I.os,I.bare,⟨⟨λb o e n hb hx=>?_,λb o e n hb hx=>?_,I.base.free,λb o e hx=>?_,I.base.tups,I.base.frzs,I.base.tbls⟩,λa o e=>?_,f1,λb o e hb hw=>?_,λb hb=>frFree b (sup b hb)⟩,hE⟩
 ·exact f1.1 b o (getB b o (I.base.keep b o e n hb hx) (old b o e hb))
 ·obtain⟨sl,e1⟩:=I.base.slot b o e n hb hx;obtain⟨sl',e2⟩:=up b _ (hm.keeps _ _ e1) (nf b (sup b hb) _ e1);exact⟨sl',e2⟩
 ·obtain⟨o1,e1⟩:=I.base.there b o e hx;by_cases hb:b∈frs (envOfC qual scope s.heap.objs.size f cd::outer)
  ·obtain⟨sl',e2⟩:=up b _ (hm.keeps _ _ e1) (nf b hb _ e1);exact⟨_,e2⟩
  ·exact⟨o1,f1.1 b o1 (getB b o1 e1 hb)⟩
 ·refine(I.hok a o e).stay (λb u hb q=>?_) (λ_ q=>q) λ_ _ q=>q;have hn:H1 b≠none:=by
   rcases hb with z | z
   ·rw[z,e];simp
   ·rw[z];simp
  exact f1.1 b u (getB b u q λz=>hn (frFree b z))
 ·have:∃o1,s1.heap.get? b=some o1/\b∉frs (envOfC qual scope s.heap.objs.size f cd::outer):=by
   rcases hw with ⟨o',e'⟩ | hw
   ·obtain⟨o1,e1⟩:=I.base.there b o' e' (λz=>absurd (show b∈([]:List Addr) from z) (by simp));exact⟨o1,e1,old b o' e' hb⟩
   ·cases q:H1 b with
    | none=>exact absurd q hw
    | some u=>
     obtain⟨o1,e1⟩:=(I.hok b u q).there;exact⟨o1,e1,λz=>hw (frFree b z)⟩
  obtain⟨o1,e1,nb⟩:=this;have e2:=getB b o1 e1 nb;have e3:=f1.1 b o1 e2;rw[e] at e3;cases e3;exact e2
theorem pass1:Passes (CX1 P w) (Br (CX1 P w) P w K mg base N qual scope f cd A outer s H E) E:=by
 intro pins σ H1 s1 e s' I h;obtain⟨ex,C,H',B,a0,rfl,hos,hbare,F,hE⟩:=h;show wpAny (model P w) (A.deeper (envOfC qual scope s.heap.objs.size f cd)) (leaving (envOfC qual scope s.heap.objs.size f cd) (.ref ex)) _ _ s';have sub:∀b,b∈frs (envOfC qual scope s.heap.objs.size f cd::outer)->b=s.heap.objs.size\/b∈frs outer:=λb hb=>Lw.mp (I.stkSub b hb);have sup:∀b,b∈frs outer->b∈frs (envOfC qual scope s.heap.objs.size f cd::outer):=λb hb=>by
  unfold frs at hb ⊢;rw[Mh];split
  ·exact hb
  ·exact Ll _ hb
 have old:∀b o,s.heap.get? b=some o->b∉frs outer->b∉frs (envOfC qual scope s.heap.objs.size f cd::outer):=λb o e nb hb=>by
  rcases sub b hb with z | z
  ·exact absurd (Pw e) (by rw[z];exact Mg _)
  ·exact nb z
 have F':Flown P w (envOfC qual scope s.heap.objs.size f cd::outer) H1 s1.heap H' ex C B a0 s'.heap:=F;refine wpAny_leaves_onW (A:=A.deeper (envOfC qual scope s.heap.objs.size f cd)) (L:=s.heap.objs.size) I.ok.frames rfl F'.fly λh'' f1 up=>?_;obtain⟨un,hok,inB⟩:=F'.move f1.1 up;refine⟨ex,C,H',B,a0,rfl,hos.trans I.os,hbare,⟨?_,hok,f1,λb o e hb hw=>?_,λb hb=>F'.frf b (sup b hb)⟩,hE⟩
 ·have un0:Un (frs outer) [] H H1 s.heap s1.heap:=I.base;refine⟨λb o e n hb hx=>?_,λb o e n hb hx=>?_,λb o e n hx=>?_,λb o e hx=>?_,λb xs e=>un.tups b xs (un0.tups b xs e),λb ob u e=>un.frzs b ob u (un0.frzs b ob u e),λb ps e=>?_⟩
  ·exact un.keep b o (un0.keep b o e n hb hx) (un0.free b o e n hx) (old b o e hb) hx
  ·obtain⟨sl,e1⟩:=un0.slot b o e n hb hx;obtain⟨sl',e2⟩:=un.slot b _ e1 (un0.free b o e n hx) (sup b hb) hx;exact⟨sl',e2⟩
  ·obtain⟨o1,e1⟩:=un0.there b o e hx;exact un.free b o1 e1 (un0.free b o e n hx) hx
  ·obtain⟨o1,e1⟩:=un0.there b o e hx;exact un.there b o1 e1 hx
  ·obtain⟨m1,e1⟩:=un0.tbls b ps e;obtain⟨m2,e2⟩:=un.tbls b _ e1;exact⟨m1++m2,by rw[e2,O9]⟩
 ·refine inB b o e ?_ ?_
  ·rcases hw with ⟨o',e'⟩ | hw
   ·exact old b o' e' hb
   ·intro z;exact hw (F'.frf b z)
  ·rcases hw with ⟨o',e'⟩ | hw
   ·obtain⟨o1,e1⟩:=(show Un (frs outer) [] H H1 s.heap s1.heap from I.base).there b o' e' (by simp);exact .inl ⟨o1,e1⟩
   ·exact .inr hw
end
abbrev bmV:List Value:=[.type "ValueError",.type "Exception",.type "BaseException",.type "object"]
theorem Xhx{K:PySem.W.Frag}{h:Heap}{C:Addr}{bmB:List Value}{newId:String}(X:K.In h)(q:PySem.W.excIn K C bmB newId=true):
  ∃bm N nm q bs hdct sn sub ab col dd k0 k1 k2 k3 k5 mN,h.get? C=some (excClassObj nm q C N bs bm hdct sn sub ab col dd k0 k1 k2 k3 k5 newId)/\h.Ns N mN/\mN "__init__" = none/\OwnTail h bmB bm:=by
 unfold PySem.W.excIn at q;split at q
 ·rename_i dd cd sl ho;split at q
  ·rename_i C' bm k0 k1 k2 k3 n k5 hm hs;simp only[Lv,beq_iff_eq,Ot] at q;obtain⟨⟨⟨⟨⟨rfl,rfl⟩,hdel⟩,ht⟩,hok⟩,hni⟩:=q;obtain⟨nm,bs,mro,ns,qn,hd,sn,sub,ab,col,del⟩:=cd;dsimp only at hm hdel hok hni;subst hm hdel;have hsl:sl = #[k0,k1,k2,k3,some (.builtin n),k5]:=by
    obtain⟨l⟩:=sl;simp only at hs;rw[hs]
   subst hsl;exact⟨bm,ns,nm,qn,bs,hd,sn,sub,ab,col,dd,k0,k1,k2,k3,k5,_,X _ _ ho,.of_isNs (PySem.W.isNs_of_in X hok),PySem.W.nsMap_none_of_in X hok hni,PySem.W.tail_of_in X ht⟩
  ·cases q
 ·cases q
def Xbt (C:Addr) (E:XK) (t:TA):TS:=λ_ σ H=>t σ H λvs H1=>vs.length<=sizeLine/\E (.ref C) none H1
theorem Xbu{X:Cx}{C:Addr}{E:XK}{x:Str}{np cpos pos:Pos}{e:Expr}{es:List Expr}{t:TA}(hc:PySem.W.excIn X.K C bmV "ValueError.__new__" = true)(hcalm:X.calm=true)(hx:Leaves X E)(hg:Gl X x)(hm:X.mg x=some (.ref C))
  (ha:PA X (e::es) t) (hdb:(x==("__debug__" : Str))=false:=by decide) (he:starEach (e::es) X.env=(false,eval e X.env)::starEach es X.env:=by rfl) (hpl:(backTo cpos (starEach es X.env)).any (·.1)=false:=by rfl):
  PS X (.Raise (some (.Call (.Name x np) (e::es) [] cpos)) none pos) (Xbt C E t):=by
 intro pins s σ H D I h;obtain⟨tl,N,nm,q,bs,hdct,sn,sub,ab,col,dd,k0,k1,k2,k3,k5,mN,hC,hN,hni,T⟩:=Xhx I.mod.kin hc;refine wpAny_Raise_call_subT (C:=C) (nm:=nm) (q:=q) (N:=N) (bs:=bs) (bm:=tl) (hdct:=hdct) (sn:=sn) (sub:=sub) (ab:=ab) (col:=col) (dd:=dd) (k0:=k0) (k1:=k1) (k2:=k2) (k3:=k3) (k5:=k5)
  PySem.F.excBase_ValueError (mN:=mN) (T.hasType PySem.F.excBase_ValueError.hasBase) (I.ok.hd hcalm) (by rw[he];show (false||(backTo cpos (starEach es X.env)).any (·.1))=false;rw[hpl];rfl) hni (D4 I hg hm ⟨rfl,?_⟩ hdb)
 have hh:=thn (ha cpos pins s σ H _ I h) (Q':=λvs s₂=>vs.length<=sizeLine/\(∀b o,X.base.get? b=some o->s₂.heap.get? b=some o)/\∀h' e,Heap.MadeExcOf s₂.heap h' e (.ref C) vs->X.xe (.ref e) {s₂ with heap:=h'})
  (λus s2 ⟨vs,H2,I2,r2,hl,hE⟩=>⟨by rw[<-r2.length];exact hl,I2.bk,λh' ex hmk=>hx pins σ H2 s2 h' ex C us I2 hmk hE⟩)
 rw[he] at hh ⊢;exact Calls.evalArgs_plain (wpAny_mono hh (λvs s₂ h₂=>⟨rfl,h₂.1,h₂.2.1 _ _ hC,hN.keeps h₂.2.1,T.keeps h₂.2.1,h₂.2.2⟩) λ_ _ y=>y)
theorem Fun.ok1{P:Program}{w:World}{K:PySem.W.Frag}{mg:Str->Option Value}{base:Heap}{x qual:Str}{st:Stmt}{f:Addr}{fd:FuncData}{N ps:List Str}{k:Nat}{sp:Sp}(F:Fun K x qual st f fd)(S:FnScope N ps (defScope st))(len:∀vs H Q E,sp vs H Q E->vs.length=ps.length)
  (hbody:∀(cdv:Value) (A:Around) (outer:List Env) (s:Shared) (H:Hp) (vs:List V) (Q:VK) (E:XK),Room k (A.deeper (envOfC qual (defScope st) s.heap.objs.size f cdv))->sp vs H Q E ->
   ∃t,PSs (Br (CX1 P w) P w K mg base N qual (defScope st) f cdv A outer s H E) (Cu st) t/\t {nx:=λ_ H'=>Q .non H',rt:=Q} (start N vs) H):FnOk P w K mg base (CX1 P w) (k+1) f fd ps sp:=by
 obtain⟨oc,od,kV,doc,pm,an,cdv,ct,osl,rfl,lk,hcd⟩:=F.ex;exact Jb lk hcd S len λA outer s H vs Q E hr hsp=>hbody cdv A outer s H vs Q E hr hsp
abbrev Cx.re (X:Cx) (pn:List (Addr×Obj)) (A:Around) (c:Bool) (E:Value->Shared->Prop):Cx:={X with pn:=pn,A:=A,calm:=c,xe:=E}
section
variable {X:Cx}{pins pins' pn:List (Addr×Obj)}{σ:St}{H:Hp}{s:Shared}{A:Around}{c:Bool}{E:Value->Shared->Prop}
theorem Inv.as(I:Inv X pins σ H s)(hd:c=true->A.handled=none)(hf:A.frames=some X.stack)(hp:∀p∈pn++pins',p∈X.pn++pins):Inv (X.re pn A c E) pins' σ H s:=
 ⟨⟨I.ok.mod,I.ok.kind,I.ok.glob,I.ok.blt,I.ok.above,I.ok.inj,I.ok.has,I.ok.cab,hd,hf,I.ok.stk,I.ok.exf,I.ok.bs,I.ok.bsz,I.ok.noex,I.ok.exfs,I.ok.funs,I.ok.frf⟩,
  I.os,I.bare,I.base,I.loc,I.cell,I.free,I.freeC,λp hp'=>I.pin p (hp p hp'),I.hok,I.len⟩
theorem Inv.back(I:Inv (X.re pn A c E) pins' σ H s)(ok:X.Ok)(hp:∀p∈X.pn++pins,p∈pn++pins'):Inv X pins σ H s:=
 ⟨ok,I.os,I.bare,I.base,I.loc,I.cell,I.free,I.freeC,λp hp'=>I.pin p (hp p hp'),I.hok,I.len⟩
theorem Inv.unbind{i:Nat}{n:Str}{m:Str->Option Value}{v:Option Value}{h':Heap}{tk:Nat}(I:Inv X pins σ H s)(hN:X.N.Nodup)(hi:X.N[i]? = some n)(hl:X.env.scope.names.lookup n=some .local)
  (hm:∀(j:Nat) (x:Str) (v:V),X.N[j]? = some x -> σ[j]? = some (some v)->Vis X.env.scope x->∃u,Ah v u/\Look X.env s.heap m x u)
  (hn:h'.Ns X.env.locals (λx=>if x=n then v else m x)) (hs:Heap.SameBut X.env.locals s.heap h'):Inv X pins (σ.set i none) H {s with heap:=h',toks:=tk}:=by
 have hiσ:i < σ.length:=by rw[I.len];exact(L3.mp hi).1
 have cne:=I.cne;refine⟨I.ok,I.os,I.bare,⟨λb o e n hb hx=>?_,λb o e n hb hx=>?_,I.base.free,λb o e hx=>?_,I.base.tups,I.base.frzs,I.base.tbls⟩,⟨_,hn,λj y v' e1 e2 e3=>?_⟩,λy c e=>?_,I.free,I.freeC,λp hp=>?_,λb ob e=>?_,by simpa using I.len⟩
 ·exact(hs.2 b (Lr (L5 (Pw e) I.ok.above))).trans (I.base.keep b o e n hb hx)
 ·obtain⟨sl,e1⟩:=I.base.slot b o e n hb hx;exact⟨sl,(hs.2 b (Lr (L5 (Pw e) I.ok.above))).trans e1⟩
 ·obtain⟨o',e1⟩:=I.base.there b o e hx;exact⟨o',(hs.2 b (Lr (L5 (Pw e) I.ok.above))).trans e1⟩
 ·have hj:j≠i:=by
   intro z;subst z;rw[Oq hiσ] at e2;cases e2
  rw[O3 (Ne.symm hj)] at e2;obtain⟨u,r,l⟩:=hm j y v' e1 e2 e3;refine⟨u,r,?_⟩;rcases l with ⟨k,e⟩ | ⟨k,c,e,z⟩
  ·refine .inl ⟨k,?_⟩;have:y≠n:=λe=>hj (Ih hN e1 (e ▸ hi));simp[this,e]
  ·exact .inr ⟨k,c,e,z.sameBut hs (cne y c e)⟩
 ·obtain⟨w',z⟩:=I.cell y c e;exact⟨w',z.sameBut hs (cne y c e)⟩
 ·obtain⟨e,n,ne,nf,d⟩:=I.pin p hp;exact⟨(hs.2 p.1 ne).trans e,n,ne,nf,d⟩
 ·refine(I.hok b ob e).stay (λc' w' hc q=>(hs.2 c' ?_).trans q) (λ_ q=>q) λ_ _ q=>q;rintro rfl;rcases hc with z | z
  ·rw[<-z,I.free] at e;cases e
  ·rw[I.free] at z;cases z
theorem Inv.track{a:Addr}{φ : Heap->Prop}(I:Inv X pins σ H s)(hn:H a=none)(h0:X.s₀.heap.get? a=none)(hL:a≠X.env.locals)(hc:∀x c,X.env.cells.lookup x=some c->c≠a)(hp:∀p∈X.pn++pins,p.1≠a)
  (h1 : φ s.heap) (h2:∃o,s.heap.get? a=some o) (h3:∀h1 h2:Heap, φ h1->(∀o,h1.get? a=some o->h2.get? a=some o) -> φ h2):Inv X pins σ (upd H a (.ext φ)) s:=by
 refine⟨I.ok,I.os,I.bare,⟨I.base.keep,I.base.slot,λb o e n hx=>?_,I.base.there,λb xs e=>?_,λb o u e=>?_,λb ps e=>?_⟩,I.loc,I.cell,?_,λx c e=>?_,λp hp'=>?_,λb ob e=>?_,I.len⟩
 ·rw[Af (λz=>by rw[z,h0] at e;cases e)];exact I.base.free b o e n hx
 ·have q:=I.base.tups b xs e;rw[Af (Aq q hn)];exact q
 ·have q:=I.base.frzs b o u e;rw[Af (Aq q hn)];exact q
 ·obtain⟨more,q⟩:=I.base.tbls b ps e;exact⟨more,by rw[Af (Aq q hn)];exact q⟩
 ·rw[Af (Ne.symm hL)];exact I.free
 ·rw[Af (hc x c e)];exact I.freeC x c e
 ·obtain⟨e,n,r⟩:=I.pin p hp';exact⟨e,by rw[Af (hp p hp')];exact n,r⟩
 ·by_cases hb:b=a
  ·subst hb;rw[Ac] at e;cases e;exact⟨h1,h2,h3⟩
  ·rw[Af hb] at e;exact(I.hok b ob e).stay (λ_ _ _ q=>q) (λc q=>by rw[Af (Aq q hn)];exact q) λc xs q=>by rw[Af (Aq q hn)];exact q
end
def Da (ex C:Addr) (h:Heap):Prop:=∃o vs,h.get? ex=some o/\o.cls = .ref C/\o.data = .fields vs
def ExcO (ex C:Addr):HO:=.ext (Da ex C)
def Cx.tryC (X:Cx) (pn:List (Addr×Obj)) (R:Addr->St->Hp->Prop):Cx:=X.re pn X.A X.calm λe s1=>
 ∃σ Hc sc,Inv (X.re pn X.A X.calm λ_ _=>True) [] σ Hc sc/\CX1 X.prog X.w X.stack Hc sc (λc _ H1=>∃C,c = .ref C/\R C σ H1) e s1
def Cx.suite (X:Cx) (pn:List (Addr×Obj)) (ex:Addr):Cx:=X.re pn (X.A.mark (some (.ref ex))) false λ_ _=>False
section
variable {X:Cx}{pn:List (Addr×Obj)}{R:Addr->St->Hp->Prop}{k:Nat}{f:Addr}{fd:FuncData}{ps:List Str}{sp:Sp}{dvs:List V}{ds:List Value}{x:Str}{p pos:Pos}{e:Expr}{es:List Expr}{t:TA}
end
section
variable {X:Cx}{pos np hpos:Pos}{body:List Stmt}{b0:Stmt}{suite:List Stmt}{n x:Str}{i:Nat}{Cc:Addr}{tb:(Addr->St->Hp->Prop)->TS}{th:TS}
def tTry (K:PySem.W.Frag) (i:Nat) (Cc:Addr) (tb:(Addr->St->Hp->Prop)->TS) (th:TS):TS:=λD σ H=>∃R:Addr->St->Hp->Prop,tb R D σ H/\∀C σ1 H1,R C σ1 H1->PySem.W.exmOne K (.ref C) (.ref Cc)=some true /\
 ∀ex,H1 ex=none->th {nx:=fun σ2 H2=>D.nx (σ2.set i none) H2,rt:=D.rt,bk:=fun σ2 H2=>D.bk (σ2.set i none) H2,ct:=fun σ2 H2=>D.ct (σ2.set i none) H2} (σ1.set i (some (.ref ex))) (upd H1 ex (ExcO ex C))
end
section
variable {X:Cx}{pos p2:Pos}{e:Expr}{te:TE}
def tRev (K:PySem.W.Frag) (te:TE):TE:=fun σ H Q=>te σ H λx H1=>∃a xs,x = .ref a/\SqL K H1 a xs/\∀p,H1 p=none->Q (.ref p) (upd H1 p (.lst xs.reverse))
theorem Xbv{k:Nat}{p3 p4:Pos}(he:PE X e te):PE X (.Subscript e (.Slice none none (some (.UnaryOp .USub (.Constant (.int 1) k p3) p4)) p2) pos) (tRev X.K te):=by
 intro pins s σ H Q I h;refine Subscript_ (thn (he pins s σ H _ I h) λv s1 ⟨x,H1,I1,r1,q1⟩=>?_);have hstep:PE X (.UnaryOp .USub (.Constant (.int 1) k p3) p4) (tUn (rU λi=>.int (-i)) (tC (.int 1))):=Xah Xam Ag;refine wpAny_Slice ?_;rw[evalPart_none];refine Pn (Pn ?_);rw[evalPart_some];refine thn (hstep pins s1 σ H1 (λy H2=>y = .int (-1)/\H2=H1) I1 ⟨1,rfl,rfl,rfl⟩) λu s2 ⟨y,H2,I2,r2,ey,eH⟩=>?_;subst ey eH;obtain⟨t,rfl⟩:=r2;obtain⟨a,xs,ex,hx,q⟩:=q1;subst ex;cases r1;obtain⟨its,r,ht,hz⟩:=I2.list hx;have I4:Inv X pins σ H2 {s2 with heap:=s2.heap.push {cls:=.type "slice",data:=.fields #[.none,.none,.int (-1) t]} }:=I2.kept (t':=s2.toks) λb ob q=>Px _ q;obtain⟨its4,r4,ht4,hz4⟩:=I4.list hx;have hlen:=r4.length;refine tail_any (ops:=[.ref a,.ref s2.heap.objs.size]) ht4.isList.typeIs slot_list_getitem.lookup (wpAny_getItem_list_slice ht4.isList (Heap.IsSliceOf.new ..) .none .none (.int (-1) t) (by simp) ?_ (by rw[Lj]<;>omega)) (by with_unfolding_all rfl);rw[PySem.W.krv_pick];refine⟨.ref _,_,I4.laid (t':=s2.toks) (o:=.lst xs.reverse) (λb ob q=>Px _ q) (Lk _) ?_,rfl,q _ (I4.hok.fresh (Lk _))⟩;exact⟨by rw[Oh];exact hz4,_,0,Vals.reverse r4,Heap.get?_push_size _ rfl⟩
def Bi (xs ys:List V):Bool:=(xs.length==ys.length)&&(List.range xs.length).all λj=>eqV (xs.getD j .non) (ys.getD j .non)
theorem F2:∀(xs ys:List Str),Bi (xs.map V.str) (ys.map V.str)=decide (xs=ys):=by
 intro xs ys;unfold Bi;rw[Li,Li];by_cases e:xs=ys
 ·subst e;simp only[beq_self_eq_true,Mu,decide_true];rw[L9];intro j hj;have hj':j<xs.length:=Mo.mp hj;simp[List.getD,hj',eqV]
 ·rw[Ps e];by_cases hl:xs.length=ys.length
  ·cases hb:((xs.length==ys.length)&&(List.range xs.length).all λj=>eqV ((xs.map V.str).getD j .non) ((ys.map V.str).getD j .non)) with
   | false=>rfl
   | true=>
    exfalso;refine e (List.ext_getElem hl λj h1 h2=>?_);rw[Lv,L9] at hb;have q:=hb.2 j (Mo.mpr h1);simp[List.getD,h1,h2,eqV] at q;exact q
  ·have:(xs.length==ys.length)=false:=by simpa using hl
   rw[this,Ms]
def Xbw (K:PySem.W.Frag) (g:Bool->Bool):R2:=λx y H Q=>∃a b xs ys,x = .ref a/\y = .ref b/\SqL K H a xs/\SqL K H b ys/\(∀v∈xs,B1 v=true)/\(∀v∈ys,B1 v=true)/\Q (.bl (g (Bi xs ys))) H
theorem Xbx{A:Around}{s:Shared}{xs ys:List V}{us vs:List Value}(rx:Vals xs us)(ry:Vals ys vs)(fx:∀v∈xs,B1 v=true)(fy:∀v∈ys,B1 v=true)(j:Nat)(h1:j<us.toArray.size)(h2:j<vs.toArray.size):
  SeqAt.EqAt A s us.toArray[j] vs.toArray[j] (eqV (xs.getD j .non) (ys.getD j .non)):=by
 have l1:=rx.length;have l2:=ry.length;rw[Lj] at h1 h2;have g1:xs[j]? = some (xs[j]'(by omega)):=Lm (by omega);have g2:ys[j]? = some (ys[j]'(by omega)):=Lm (by omega);obtain⟨u,hu,ru⟩:=rx.get g1;obtain⟨v,hv,rv⟩:=ry.get g2;have e1:us.toArray[j]=u:=by
  rw[List.getElem_toArray];rw[Lm h1] at hu;exact Lq hu
 have e2:vs.toArray[j]=v:=by
  rw[List.getElem_toArray];rw[Lm h2] at hv;exact Lq hv
 rw[e1,e2];have d1:xs.getD j .non=xs[j]'(by omega):=by simp[List.getD,g1]
 have d2:ys.getD j .non=ys[j]'(by omega):=by simp[List.getD,g2]
 rw[d1,d2];exact Xa6 ru rv (fx _ (Me _)) (fy _ (Me _))
theorem Xhy(hu:X.A.units<cLine):OpR X (compareOp .Eq) (Xbw X.K id):=by
 intro pins s σ H x y v u Q I rx ry h;obtain⟨a,b,xs,ys,rfl,rfl,hx,hy,fx,fy,q⟩:=h;cases rx;cases ry;obtain⟨us,r1,p1,z1⟩:=I.list hx;obtain⟨vs,r2,p2,z2⟩:=I.list hy;have l1:=r1.length;have l2:=r2.length;by_cases hl:xs.length=ys.length
 ·refine SeqAt.eq_listAt (e:=λj=>eqV (xs.getD j .non) (ys.getD j .non)) p1.isList p2.isList (by rw[Lj,Lj];omega) hu (λj h1 h2=>Xbx r1 r2 fx fy j h1 h2) ?_;refine⟨.bl (Bi xs ys),H,I,?_,q⟩;show Value.bool _=Value.bool (Bi xs ys);unfold Bi;rw[Lj,<-l1,hl,beq_self_eq_true,Mu]
 ·refine SeqAt.eq_list_lengthsAt p1.isList p2.isList (by rw[Lj,Lj];simpa using (by omega:us.length≠vs.length)) hu ?_;refine⟨.bl (Bi xs ys),H,I,?_,q⟩;show Value.bool _=Value.bool (Bi xs ys);unfold Bi;have:(xs.length==ys.length)=false:=by simpa using hl
  rw[this,Ms]
theorem F3(hu:X.A.units<cLine):OpR X (compareOp .NotEq) (Xbw X.K not):=by
 intro pins s σ H x y v u Q I rx ry h;obtain⟨a,b,xs,ys,rfl,rfl,hx,hy,fx,fy,q⟩:=h;cases rx;cases ry;obtain⟨us,r1,p1,z1⟩:=I.list hx;obtain⟨vs,r2,p2,z2⟩:=I.list hy;have l1:=r1.length;have l2:=r2.length;by_cases hl:xs.length=ys.length
 ·refine SeqAt.RcNeAt.lists (e:=λj=>eqV (xs.getD j .non) (ys.getD j .non)) p1.isList p2.isList (by rw[Lj,Lj];omega) hu (λj h1 h2=>Xbx r1 r2 fx fy j h1 h2) _ _ _ _ ?_;refine⟨.bl (!Bi xs ys),H,I,?_,q⟩;show Value.bool _=Value.bool (!Bi xs ys);unfold Bi;rw[Lj,<-l1,hl,beq_self_eq_true,Mu]
 ·refine SeqAt.RcNeAt.lists_lengths p1.isList p2.isList (by rw[Lj,Lj];simpa using (by omega:us.length≠vs.length)) hu _ _ _ _ ?_;refine⟨.bl (!Bi xs ys),H,I,?_,q⟩;show Value.bool _=Value.bool (!Bi xs ys);unfold Bi;have:(xs.length==ys.length)=false:=by simpa using hl
  rw[this,Ms,Bool.not_false]
def Xhz (K:PySem.W.Frag) (n:Nat) (t:TGs):TG:=λv σ H Q=>∃a xs,v = .ref a/\SqL K H a xs/\xs.length=n/\t xs σ H Q
theorem Xh0{es:List Expr}{k:Nat}{t:TGs}{n:Nat}(hc:X.calm=true)(h:PGs X es t)
  (hn:(assignEach es X.env).length=n:=by rfl) (hst:(assignEach es X.env).findIdx? (·.1)=none:=by rfl):PG X (.Tuple es k pos) (Xhz X.K n t):=by
 intro pins s σ H v u Q I r hw;obtain⟨a,xs,e1,hq,hl,hw⟩:=hw;subst e1;cases r;obtain⟨its,rv,ht,hz⟩:=I.list hq;rw[assign_Tuple];refine Pm (wpAny_standAt ?_);unfold unpack;have hlen:(assignEach es X.env).length=its.toArray.size:=by rw[hn,<-hl,Lj];exact rv.length
 rw[hlen,hst];refine Pm (wpAny_holding (PySem.W.kun_itemsOf (I.ok.hd hc) ht.isList λh' hx=>?_));have I1:Inv X pins σ H {s with heap:=h'}:=I.kept (t':=s.toks) λb o e=>hx b o (Lr (Pw e)) e;exact h pins _ σ H xs _ Q I1 (by simpa using rv) hw
def repS (z:Str) (n:Nat):Str:=⟨(List.replicate n z.cps).foldl (· ++ ·) #[]⟩
theorem Xh1(z:Str):repS z 1=z:=by
 obtain⟨c⟩:=z;show (⟨(#[]:Array Nat)++c⟩:Str)=⟨c⟩;rw[Array.empty_append]
theorem Xby(z:Array Nat):∀(n:Nat) (a:Array Nat),((List.replicate n z).foldl (· ++ ·) a).size=a.size+n * z.size
 | 0,a=>by simp
 | n+1,a=>by
  rw[Nd,Oi,Xby z n,Array.size_append,Nat.succ_mul];omega
theorem Js(z:Str)(n:Nat):(repS z n).length=n * z.length:=by
 have e:=Xby z.cps n #[];show ((List.replicate n z.cps).foldl (· ++ ·) #[]).size=n * z.cps.size;simpa using e
theorem Xh2{z:Str}(h:z.length=0)(n:Nat):repS z n=z:=by
 have e:=Js z n;rw[h,Nat.mul_zero] at e;generalize repS z n=y at e;obtain⟨c⟩:=z;obtain⟨d⟩:=y;have h':c.size=0:=h;have e':d.size=0:=e;rw[Array.size_eq_zero_iff] at h' e';rw[h',e']
theorem Xh3:OpR X (binaryOp .Mult) (λx y H Q=>∃z n,x = .str z/\y = .int n/\0<=n/\n<=1000/\z.length<=1000/\Q (.str (repS z n.toNat)) H):=by
 intro pins s σ H x y v u Q I rx ry h;obtain⟨z,n,rfl,rfl,h0,h1,hz,q⟩:=h;obtain⟨t,rfl⟩:=rx;obtain⟨t',rfl⟩:=ry;have hle:z.length * n.toNat<=1000 * 1000:=Nat.mul_le_mul hz (by omega);refine PySem.P.mul_str ?_ (λhn hz1=>?_) (λhn hz1=>?_) ?_
 ·have h2:¬n < -(2 ^ 63:Int):=by omega
  have h3:¬n ≥ 2 ^ 63:=by omega
  rw[Ps h2,Ps h3];rfl
 ·have h4:(1000:Int)<=(2 ^ 63 - 1) / n:=by
   refine(Int.le_ediv_iff_mul_le (by omega)).mpr ?_;have:(1000:Int) * n<=1000 * 1000:=by omega
   omega
  omega
 ·show Builtin.Str.tooLong _=false;unfold Builtin.Str.tooLong
  first
   | (refine Ps ?_;have:=hle;rw[Po];omega)
   | (simp;omega)
 ·by_cases hn:n<1
  ·rw[Pq hn];have:n=0:=by omega
   subst this;exact⟨by decide,.str Str.empty,H,I.tok _,⟨_,rfl⟩,q⟩
  ·rw[Pp hn];by_cases hc:(n==1||z.length==0)=true
   ·rw[Pq hc];have e:repS z n.toNat=z:=by
     rcases O6.mp hc with e | e
     ·have e':n=1:=by simpa using e
      subst e';exact Xh1 z
     ·exact Xh2 (by simpa using e) _
    rw[e] at q;exact⟨.str z,H,I,⟨_,rfl⟩,q⟩
   ·rw[Pp hc];refine⟨?_,.str (repS z n.toNat),H,I.tok _,⟨_,rfl⟩,q⟩;show (repS z n.toNat).length<=sizeLine;rw[Js,Nat.mul_comm,Po];omega
theorem Xbz:X.calm=true->Bh X (.builtin "all") (λxs H Q=>∃(a:Addr) (bs:List Bool),xs=[.ref a]/\H a=some (.lst (bs.map V.bl))/\Q (.bl (bs.all id)) H):=by
 intro hc pins s σ H xs us Q I r h;obtain⟨a,bs,rfl,ha,q⟩:=h;obtain⟨u,rfl,ru⟩:=B4 r;cases ru;obtain⟨its,rv,p,hz⟩:=I.list (SqL.of ha);have hl:=rv.length;rw[Li] at hl;refine call_all_walk (wpAny_pyIter_list p.isList ?_);have hlt:a≠s.heap.objs.size:=by
  obtain⟨o,ho,_⟩:=p.isList;exact Lr (Pw ho)
 refine⟨s.heap.objs.size,_,_,_,_,_,λj=>bs.getD j false,rfl,Walks.list (A:=X.A.in1) (show X.A.in1.handled=none from I.ok.hd hc) s.heap.objs.size a hlt its.toArray,⟨⟨_,Heap.get?_push_size _ rfl,rfl,rfl⟩,p.isList.push _⟩,λi v s' Q' E' hP hQ=>?_,λh' tk k=>?_⟩
 ·have hv:its[i]? = some v:=by simpa using hP
  have hi:i<its.length:=(L3.mp hv).1;have g:(bs.map V.bl)[i]? = some (.bl (bs[i]'(by omega))):=by
   rw[Lz,Lm (by omega)];rfl
  obtain⟨u,hu,ru⟩:=rv.get g;rw[hv] at hu;cases hu;cases ru;have e:bs.getD i false=bs[i]'(by omega):=by simp[List.getD,(by omega:i<bs.length)]
  have hQ':Q' (bs.getD i false) s':=hQ;rw[e] at hQ';exact wpAny_truthy_bool hQ'
 ·refine⟨.bl (bs.all id),H,I.kept (t':=tk) λb o e=>k b o (λz=>?_) (Px _ e),?_,q⟩
  ·have z':b=s.heap.objs.size:=by simpa using z
   exact absurd (Pw e) (by rw[z'];exact Mg _)
  ·show Value.bool _=Value.bool _;congr 1;rw[Lj,<-hl];rw[Mz,L9,L9];constructor
   ·intro hx b hb;obtain⟨j,hj,rfl⟩:=Ni.mp hb;have:=hx j (Mo.mpr hj);simpa [List.getD,hj] using this
   ·intro hx j hj;have hj':=Mo.mp hj;have:=hx _ (Me hj');simpa [List.getD,hj'] using this
end
def Itd (d:Addr) (o:Obj) (kvs:List (Key×V)):It:=
 ⟨λi H=>H d=some (.frz o (.dK kvs))/\i<kvs.length,λi H x H'=>H'=H/\∃p,kvs[i]? = some p/\x=kV p.1,λi H=>H d=some (.frz o (.dK kvs))/\kvs.length<=i⟩
theorem Xh4{P:Program}{w:World}{k:Key}{u:Value}(h:(Bc P w).is k u=true):Ah (kV k) u:=by
 rcases Cs (show D3 k u=true from h) with ⟨i,t,rfl,rfl⟩ | ⟨x,t,rfl,rfl⟩
 ·exact⟨t,rfl⟩
 ·exact⟨t,rfl⟩
theorem Xb0:∀{kvs:List (Key×V)} {vs:List (Key×Value)} {i:Nat} {p:Key×V},KV kvs vs->kvs[i]? = some p->∃u,vs[i]? = some (p.1,u)
 | _,_,_,_,.nil,e=>by simp at e
 | _,_,0,p,.cons (b:=b) r _,e=>by
  simp at e;subst e;obtain⟨k,u⟩:=b;obtain⟨r1,r2⟩:=r;exact⟨u,by simp only[List.getElem?_cons_zero,Option.some.injEq,Prod.mk.injEq];exact⟨r1.symm,trivial⟩⟩
 | _,_,i+1,p,.cons _ t,e=>by
  obtain⟨u,h⟩:=Xb0 (i:=i) t (by simpa using e);exact⟨u,by simpa using h⟩
theorem Jt{P:Program}{w:World}{K:PySem.W.Frag}{tg:Expr}(d it:Addr)(o:Obj)(es:Array DictEntry)(ep:Nat)(hd:o.data = .dict es ep)(kvs:List (Key×V))(hne:d≠it):
  Turn P w K tg (Itd d o kvs) [it] it (λi h=>h.IsKeyIter it d i kvs.length ep) where
 mem:=by simp
 obj:=λi h st b hb=>by
  have e:b=it:=by simpa using hb
  subst e;obtain⟨o,e,c,d⟩:=st;exact⟨o,e,λv z=>by rw[d] at z;cases z⟩
 keep:=λi h h' st k=>by
  obtain⟨o,e,r⟩:=st;exact⟨o,k it (by simp) o e,r⟩
 item:=by
  intro X hP hw hK hc i pins s σ H E I hf st hg;subst hP hw hK;obtain⟨hH,hi⟩:=hg;obtain⟨ho,hz,hm,vs,rv,o',es',ep',ho',hex,hd',r'⟩:=I.hok d _ hH;rw[ho] at ho';cases ho';rw[hd] at hd';cases hd';have hlen:kvs.length=vs.length:=Paired.length rv;obtain⟨f0,f1,f2,f3,f4,f5⟩:=hf it (by simp);have hp:kvs[i]? = some (kvs[i]'hi):=Lm hi;obtain⟨u,hu⟩:=Xb0 rv hp;rw[hlen] at st;refine wpAny_pyNext_dict_item (knd:=Bc X.prog X.w) st ⟨o,es,ho,hex,hd,r'⟩ hu λkey h' hk st' sb=>?_;have I1:Inv X pins σ H {s with heap:=h'}:=I.turned (t':=s.toks) (λb o hb e=>(sb.2 b hb).trans e) f0 f1 f3 f4 f5;obtain⟨o2,e2,c2,d2⟩:=id st';refine⟨key,rfl,Gr (s:={s with heap:=h'}) e2 c2 d2 (by decide) ⟨_,H,I1,Xh4 hk,⟨rfl,_,hp,rfl⟩,?_,λb hb=>(hf b hb).1⟩⟩;rw[hlen];exact st'
 done:=by
  intro X hP hw hK hc i pins s σ H E I hf st hg;subst hP hw hK;obtain⟨hH,hi⟩:=hg;obtain⟨ho,hz,hm,vs,rv,o',es',ep',ho',hex,hd',r'⟩:=I.hok d _ hH;rw[ho] at ho';cases ho';rw[hd] at hd';cases hd';have hlen:kvs.length=vs.length:=Paired.length rv;obtain⟨f0,f1,f2,f3,f4,f5⟩:=hf it (by simp);rw[hlen] at st;exact wpAny_pyNext_dict_end (knd:=Bc X.prog X.w) (I.ok.hd hc) st ⟨o,es,ho,hex,hd,r'⟩ (Oa (by omega)) λh' eb=>⟨rfl,I.turned (t':=s.toks) (λb o hb e=>eb b o hb e) f0 f1 f3 f4 f5⟩
 self:=λA i s Q E st h=>by
  refine wpAny_pyIter_slot st.typeIs PySem.F.slot_dict_keyiterator_iter (wpAny_call_entry PySem.F.slot_dict_keyiterator_iter st.typeIs PySem.F.entry_dict_keyiterator_iter ?_ (PySem.F.args_dict_keyiterator_iter_1 _));show wpAny _ _ (ret (.ref it)) _ _ s;exact Pn ⟨_,rfl, "dict_keyiterator",_,st.typeIs,PySem.F.slot_dict_keyiterator_next.lookup,h⟩
section
variable {X:Cx}{tg:Expr}
theorem Inv.freeze{pins:List (Addr×Obj)}{σ:St}{H:Hp}{s:Shared}{d:Addr}{kvs:List (Key×V)}{o:Obj}(I:Inv X pins σ H s)(hH:H d=some (.dK kvs))(ho:s.heap.get? d=some o):Inv X pins σ (upd H d (.frz o (.dK kvs))) s:=by
 have ne:∀{b:Addr} {u:HO},H b=some u->(HO.dK kvs≠u)->b≠d:=λ{b u} e n=>Xaa e hH (λz=>n z.symm);refine⟨I.ok,I.os,I.bare,⟨I.base.keep,I.base.slot,λb ob e n hx=>?_,I.base.there,λb xs e=>?_,λb ob u e=>?_,λb ps e=>?_⟩,I.loc,I.cell,?_,λx c e=>?_,λp hp'=>?_,λb ob e=>?_,I.len⟩
 ·have q:=I.base.free b ob e n hx;rw[Af (λz=>by rw[z,hH] at q;cases q)];exact q
 ·have q:=I.base.tups b xs e;rw[Af (ne q (by simp))];exact q
 ·have q:=I.base.frzs b ob u e;rw[Af (ne q (by simp))];exact q
 ·obtain⟨more,q⟩:=I.base.tbls b ps e;exact⟨more,by rw[Af (ne q (by simp))];exact q⟩
 ·rw[Af (λz=>by have:=I.free;rw[z,hH] at this;cases this)];exact I.free
 ·have q:=I.freeC x c e;rw[Af (λz=>by rw[z,hH] at q;cases q)];exact q
 ·obtain⟨e,n,r⟩:=I.pin p hp';exact⟨e,by rw[Af (λz=>by rw[z,hH] at n;cases n)];exact n,r⟩
 ·by_cases hb:b=d
  ·subst hb;rw[Ac] at e;cases e;exact⟨ho,(I.hok b _ hH).stay (λ_ _ _ q=>q) (λc q=>by rw[Af (ne q (by simp))];exact q) λc xs q=>by rw[Af (ne q (by simp))];exact q⟩
  ·rw[Af hb] at e;exact(I.hok b ob e).stay (λ_ _ _ q=>q) (λc q=>by rw[Af (ne q (by simp))];exact q) λc xs q=>by rw[Af (ne q (by simp))];exact q
def Xh5 (tl:TE):TI:=fun σ H R=>tl σ H λx H1=>∃d kvs,x = .ref d/\H1 d=some (.dK kvs)/\∀o,R (Itd d o kvs) (upd H1 d (.frz o (.dK kvs)))
theorem Xh6{l:Expr}{tl:TE}(hl:PE X l tl):PI X tg l (Xh5 tl):=by
 intro pins s σ H R I h;refine thn (hl pins s σ H _ I h) λv s1 ⟨x,H1,I1,r1,q1⟩=>?_;obtain⟨d,kvs,e,hH,q⟩:=q1;subst e;cases r1;obtain⟨hz,hm,vs,rv,o,es,ep,ho,hex,hd,r⟩:=I1.hok d _ hH;have hlen:kvs.length=vs.length:=Paired.length rv;refine wpAny_pyIter_dict (knd:=Bc X.prog X.w) hm ⟨o,es,ho,hex,hd,r⟩ ?_;have I2:=I1.freeze hH ho;refine⟨s1.heap.objs.size,[s1.heap.objs.size],_,_,_,rfl,I2.kept (t':=s1.toks) λb o e=>Px _ e,Jt d _ o es ep hd kvs (Lr (Pw ho)),⟨_,Heap.get?_push_size _ rfl,rfl,by rw[hlen];rfl⟩,λb hb=>?_,q o⟩;have e:b=s1.heap.objs.size:=by simpa using hb
 subst e;exact I2.fpOk (Lk _) (I2.hok.fresh (Lk _))
end
def PJ (X:Cx) (es:List Expr) (t:St->Hp->(Hp->Prop)->Prop):Prop:=
 ∀(out:Str) (pins:List (Addr×Obj)) (s:Shared) (σ:St) (H:Hp) (Q:Hp->Prop),Inv X pins σ H s->t σ H Q->out.length+5000 * es.length<=sizeLine ->
  wpAny (model X.prog X.w) X.A (joinParts out (evalEach es X.env)) (λu s'=>∃z tk H',u = .str z tk/\Inv X pins σ H' s'/\Q H') X.xe s
def Xh7:St->Hp->(Hp->Prop)->Prop:=λ_ H Q=>Q H
def Xh8 (t:St->Hp->(Hp->Prop)->Prop):St->Hp->(Hp->Prop)->Prop:=t
section
variable {X:Cx}{es:List Expr}{t:St->Hp->(Hp->Prop)->Prop}{e:Expr}{te:TE}{pos:Pos}
theorem Ju:PJ X [] Xh7:=λout pins s σ H Q I h hz=>joinParts_nil ⟨out,_,H,rfl,I.tok _,h⟩ (by simpa using hz)
theorem Ee(a b:Str):(a++b).length=a.length+b.length:=strLen_append a b
theorem Ex{z:Str}{k:Nat}{p:Pos}(hz:z.length<=5000)(h:PJ X es t)(he:evalEach (.Constant (.str z) k p::es) X.env=eval (.Constant (.str z) k p) X.env::evalEach es X.env:=by rfl):PJ X (.Constant (.str z) k p::es) (Xh8 t):=by
 intro out pins s σ H Q I hw hl;rw[he];rw[L4] at hl;refine joinParts_cons (Calls.Constant_str ⟨by rw[Ee];omega,?_⟩);exact h (out++z) pins _ σ H Q (I.tok _) hw (by rw[Ee];omega)
def Xh9 (t:St->Hp->(Hp->Prop)->Prop):TE:=fun σ H Q=>t σ H λH1=>∀z,Q (.str z) H1
theorem Jv{a b:Expr}(h:PJ X (a::b::es) t)(hz:5000 * (a::b::es).length<=sizeLine:=by decide)(he:evalEach (a::b::es) X.env=eval a X.env::eval b X.env::evalEach es X.env:=by rfl):PE X (.JoinedStr (a::b::es) pos) (Xh9 t):=by
 intro pins s σ H Q I hw;refine JoinedStr_many ?_;rw[<-he];refine thn (h Str.empty pins s σ H _ I hw (by rw[show Str.empty.length=0 from rfl];omega)) λu s' ⟨z,tk,H',e,I',q⟩=>?_;subst e;exact⟨.str z,H',I',⟨tk,rfl⟩,q z⟩
end
end L2
namespace L2
open PySem PySem.Spec PyProof.Rows PySem.Calls Builtin Builtin.ObjectAttr Builtin.Getset_descriptor
structure ExcF (K:PySem.W.Frag) (C:Addr):Prop where
 ga:PySem.W.findIn K (.ref C) "__getattribute__" = some (some (.builtin "BaseException.__getattribute__"))
 gn:PySem.W.findIn K (.ref C) "__getattr__" = some none
 cl:PySem.W.findIn K (.ref C) "__class__" = some (some (.builtin "object.__class__"))
 sb:PySem.W.subIn K (.ref C) (.type "BaseException")=some true
 so:PySem.W.subIn K (.ref C) (.type "object")=some true
 ic:(PySem.W.clsIn K C).isSome=true
section
variable {prog:Program}{w:World}{A:Around}{E:Value->Shared->Prop}{K:PySem.W.Frag}{C a:Addr}{h:Heap}{g:Array GenState}{d:Drawn}{t:Nat}{os:OsState}
open PySem.W in
theorem F4{M:Model}(p:Da a C h):Looks M h (typeOf (.ref a)) (.ref C):=by
 obtain⟨o,vs,h1,h2,h3⟩:=p;exact h2 ▸ (Looks.ld h1).andThen .now
open PySem.W in
theorem Xia{R:Result->Shared->Prop}(X:K.In h)(F:ExcF K C)(p:Da a C h)(hq:R (.ok (.ret (.ref C))) ⟨h,g,d,t,os⟩):
  codeAny (model prog w) A (.call (.builtin "getset_descriptor.__get__") ⟨[.builtin "object.__class__",.ref a,.ref C],[]⟩) R ⟨h,g,d,t,os⟩:=by
 have L0:=F4 (M:=model prog w) p;have L1:Looks (model prog w) h (isSubtype (.ref C) (.type "object")) true:=looks_subIn X F.so;refine codeAny_call_builtin KF.slot_gs.plain KF.entry_gs (KF.slot_gs.check _ _ _ _ _ _ _ _ KF.type_class (KF.args_gs _ _ _) ?_);unfold Builtin.«getset_descriptor.__get__» descrGet;rw[dga_obj];refine Pm (Pn ?_);unfold descrGetter descrCheckInstance descrNameAndClass isInstance;simp only[KF.owner_class]
 repeat lk
 refine⟨Code.quiet_builtin _ (by decide +kernel),codeAny_builtin KF.entry_class ?_⟩;unfold Builtin.«object.__class__» shownTypeOf
 repeat lk
 exact hq
open PySem.W in
theorem Xib{tk:Tok}{Q:Fin->Shared->Prop}(X:K.In h)(F:ExcF K C)(p:Da a C h)(hq:Q (.done (.ret (.ref C))) ⟨h,g,d,t,os⟩):
  wpAny (model prog w) A (Builtin.«object.__getattribute__» ⟨[.ref a,.str "__class__" tk],[]⟩) Q E ⟨h,g,d,t,os⟩:=by
 have L0:=F4 (M:=model prog w) p;have L1:=looks_findIn (M:=model prog w) X F.cl;have hT5:(⟨h,g,d,t,os⟩:Shared).TypeIs (.builtin "object.__class__") "getset_descriptor" := PySem.F.typeOf_object_class;have f5:=PySem.F.typeOf_object_class;have f6:=PySem.F.slot_gs_get.lookup;have f7:=PySem.F.slot_gs_set.lookup
 repeat (any_goals (first | assumption | (refine Pm (L0.at ?_)) | (refine Pm (L1.at ?_)) | wp_step))
 refine Xia X F p ?_
 repeat (any_goals (first | assumption | wp_step))
open PySem.W in
theorem Xb1{M:Model}{nameV:Value}{Q:Unit->Shared->Prop}(X:K.In h)(F:ExcF K C)(p:Da a C h)(hq:Q () ⟨h,g,d,t,os⟩):wpAny M A (checkBuiltinCall "BaseException.__getattribute__" ⟨[.ref a,nameV],[]⟩) Q E ⟨h,g,d,t,os⟩:=by
 have hk:builtinKind "BaseException.__getattribute__" = some .slot:=by decide +kernel
 have hsplit:splitId "BaseException.__getattribute__" = some ("BaseException", "__getattribute__"):=by decide +kernel
 have L0:=F4 (M:=M) p;have L1:Looks M h (isSubtype (.ref C) (.type "BaseException")) true:=looks_subIn X F.sb;have LI:Looks M h (isInstance (.ref a) (.type "BaseException")) true:=L0.andThen L1;have ha:=PySem.F.args_bexc_ga (.ref a) nameV;simp only[checkBuiltinCall,hk,hsplit];refine Pm (LI.at ?_)
 repeat (first | assumption | wp_step)
open PySem.W in
theorem Xic{tk:Tok}{R:Result->Shared->Prop}(X:K.In h)(F:ExcF K C)(p:Da a C h)(hq:R (.ok (.ret (.ref C))) ⟨h,g,d,t,os⟩):
  codeAny (model prog w) A (.call (.builtin "BaseException.__getattribute__") ⟨[.ref a,.str "__class__" tk],[]⟩) R ⟨h,g,d,t,os⟩:=
 codeAny_call_builtin (by decide +kernel) PySem.F.entry_bexc_ga (Xb1 X F p (Xib X F p hq))
open PySem.W in
theorem Xid{tk:Tok}{Q:Value->Shared->Prop}(X:K.In h)(F:ExcF K C)(p:Da a C h)(hq:Q (.ref C) ⟨h,g,d,t,os⟩):
  wpAny (model prog w) A (getAttrBy (.ref a) (.str "__class__" tk) false) Q E ⟨h,g,d,t,os⟩:=by
 have L0:=F4 (M:=model prog w) p;have L1:=looks_findIn (M:=model prog w) X F.ga;have L2:=looks_findIn (M:=model prog w) X F.gn;have f3:bindSpecial (.builtin "BaseException.__getattribute__") (.ref a)=pure (.builtin "BaseException.__getattribute__",[.ref a]):=PySem.F.excAttr_ValueError.ga.bind (.ref a);have hx2:(Value.builtin "BaseException.__getattribute__" == Value.builtin "object.__getattribute__")=false:=by decide +kernel
 have hx1:(onTheHeap (Value.ref C)&&Value.builtin "BaseException.__getattribute__" == Value.builtin "object.__getattribute__")=false:=by rw[hx2];rfl
 repeat (any_goals (first | assumption | (refine Pm (L0.at ?_)) | (refine Pm (L1.at ?_)) | (refine Pm (L2.at ?_)) | wp_step))
 refine Xic X F p ?_
 repeat (any_goals (first | assumption | wp_step))
open PySem.W in
theorem Xie{Q:Option Value->Shared->Prop}(X:K.In h)(F:ExcF K C)(p:Da a C h)(hq:Q (some (.ref C)) ⟨h,g,d,t+1,os⟩):wpAny (model prog w) A (getAttr? (.ref a) "__class__") Q E ⟨h,g,d,t,os⟩:=by
 unfold getAttr? getAttrBy?
 repeat (any_goals (first | assumption | with_reducible apply Xid X F p | wp_step))
end
end L2
namespace L2
open PySem PySem.Spec PyProof.Rows
theorem Xb2{K:PySem.W.Frag}{C a:Addr}(F:ExcF K C):PySem.W.KitX K (.ref a) (.ref C) (Da a C) where
 ty:=λM h X p=>F4 p
 it:=λM h X p=>by
  have z:=F.ic;unfold PySem.W.clsIn at z;split at z
  ·rename_i c' d' cd' sl' ho;intro A' Q' E' s' k q;unfold isType loadHead;exact Pm (wpAny_loadPart (k _ _ (X _ _ ho)) (Pn q))
  ·cases z
 ne:=λh tp dd its n sl X htp=>by
  refine Nz.mpr λq=>?_;have e:C=tp:=Value.ref.inj (beq_iff_eq.mp q);subst e;have z:=F.ic;unfold PySem.W.clsIn at z;split at z
  ·rename_i c' d' cd' sl' ho;have z:=(X _ _ ho).symm.trans htp;cases z
  ·cases z
 ca:=λ{prog w A E Q s} X p k=>by
  obtain⟨h,g,d,t,os⟩:=s;exact Xie X F p k
def G0:V->Option Value
 | .ty n=>some (.type n)
 | .ref a=>some (.ref a)
 | _=>none
theorem Xb3{c:V}{u v:Value}(r:Ah c u)(h:G0 c=some v):u=v:=by
 cases c with
 | ty n=>cases r;exact Lq h
 | ref a=>cases r;exact Lq h
 | _=>cases h
section
variable {X:Cx}
theorem Xb4:Bh X (.builtin "isinstance") (λxs H Q=>∃x c t cv b,xs=[x,c]/\TyOf X.K H x t/\G0 c=some cv/\PySem.W.kitOne X.K t cv=some b/\Q (.bl b) H):=by
 intro pins s σ H xs us Q I r h;obtain⟨x,c,t,cv,b,rfl,ty,hc,e,q⟩:=h;obtain⟨u,v,rfl,ru,rv⟩:=r.two;have:=Xb3 rv hc;subst this;exact Xgi I ru ty e λtk=>⟨.bl b,H,I.tok _,rfl,q⟩
end
def wN (n:Nat) (Pv:Nat->St->Hp->Prop):Nat->Nat->St->Hp->Prop:=λi m σ H=>m=n - i/\i<=n/\Pv i σ H
theorem wput{n i:Nat}{Pv:Nat->St->Hp->Prop}{σ:St}{H:Hp}{D:Addr}{y:V}{ys:List V}(hi:i<n)(hD:H D=some (.lst ys))(hl:ys.length<sizeLine)(p:Pv (i+1) σ (upd H D (.lst (ys++[y])))):
  ∃ys,H D=some (.lst ys)/\ys.length<sizeLine/\∃m',m'<n - i/\wN n Pv (i+1) m' σ (upd H D (.lst (ys++[y]))):=⟨ys,hD,hl,n - (i+1),by omega,rfl,hi,p⟩
theorem wskip{n i:Nat}{Pv:Nat->St->Hp->Prop}{σ:St}{H:Hp}(hi:i<n)(p:Pv (i+1) σ H):∃m',m'<n - i/\wN n Pv (i+1) m' σ H:=⟨n - (i+1),by omega,rfl,hi,p⟩
theorem G1{cap:List (Option Nat)}{g:TG}{tt:TT}{te:TE}{J:It}{σ:St}{H1:Hp}{F:Addr->Hp->Prop}(n:Nat)(vs:Nat->V)(Pv:Addr->Nat->St->Hp->Prop)
  (h0:∀D,H1 D=none->Pv D 0 (Bo cap σ) (upd H1 D (.lst [])))
  (hgo:∀D i σ2 H2,H1 D=none->i<n->Pv D i σ2 H2->J.go i H2/\∀x H3,J.yld i H2 x H3->H3=H2/\x=vs i)
  (hst:∀D σ2 H2,H1 D=none->Pv D n σ2 H2->J.stop n H2)
  (step:∀D i σ1 H2,H1 D=none->i<n->Pv D i σ1 H2->g (vs i) σ1 H2 fun σ2 H4=>tt σ2 H4 λb H5=>
   if b=true then te σ2 H5 λy H6=>∃ys,H6 D=some (.lst ys)/\ys.length<sizeLine/\∃m',m'<n - i/\wN n (Pv D) (i+1) m' σ2 (upd H6 D (.lst (ys++[y])))
   else ∃m',m'<n - i/\wN n (Pv D) (i+1) m' σ2 H5)
  (hd:∀D σ2 H2,H1 D=none->Pv D n σ2 H2->F D H2):Ed cap g tt te J σ H1 F:=by
 intro D hD;refine⟨wN n (Pv D),⟨n,by simp,Mt _,h0 D hD⟩,?_⟩;rintro i m σ1 H2 ⟨rfl,hi,p⟩;by_cases hlt:i<n
 ·obtain⟨h1,h2⟩:=hgo D i σ1 H2 hD hlt p;refine .inr ⟨h1,λx H3 y=>?_⟩;obtain⟨e1,e2⟩:=h2 x H3 y;subst e1 e2;exact step D i σ1 _ hD hlt p
 ·have e:i=n:=by omega
  subst e;exact .inl ⟨hst D σ1 H2 hD p,hd D σ1 H2 hD p⟩
theorem Jw{K:PySem.W.Frag}{a:Addr}{xs:List V}{H:Hp}{i:Nat}(h:SqL K H a xs)(hi:i<xs.length):(Itl K a).go i H/\∀x H3,(Itl K a).yld i H x H3->H3=H/\x=xs.getD i .non:=
 ⟨⟨xs,xs[i],h,by simp[hi]⟩,λx H3 ⟨e,y⟩=>⟨e,by have:=y xs h;simp[List.getD,this]⟩⟩
theorem Jx{K:PySem.W.Frag}{a:Addr}{xs:List V}{H:Hp}(h:SqL K H a xs):(Itl K a).stop xs.length H:=⟨xs,h,Lk _⟩
theorem G2{K:PySem.W.Frag}{a:Addr}{xs:List V}{H:Hp}{i:Nat}(h:SqT K H a xs)(hi:i<xs.length):(Itt K a).go i H/\∀x H3,(Itt K a).yld i H x H3->H3=H/\x=xs.getD i .non:=
 ⟨⟨xs,xs[i],h,by simp[hi]⟩,λx H3 ⟨e,y⟩=>⟨e,by have:=y xs h;simp[List.getD,this]⟩⟩
theorem G3{K:PySem.W.Frag}{a:Addr}{xs:List V}{H:Hp}(h:SqT K H a xs):(Itt K a).stop xs.length H:=⟨xs,h,Lk _⟩
theorem Xb5{d:Addr}{o:Obj}{kvs:List (Key×V)}{H:Hp}{i:Nat}(h:H d=some (.frz o (.dK kvs)))(hi:i<kvs.length):(Itd d o kvs).go i H/\∀x H3,(Itd d o kvs).yld i H x H3->H3=H/\x=(kvs.map λp=>kV p.1).getD i .non:=
 ⟨⟨h,hi⟩,λx H3 ⟨e,p,hp,y⟩=>⟨e,by rw[y];simp[List.getD,hp]⟩⟩
theorem Xb6{d:Addr}{o:Obj}{kvs:List (Key×V)}{H:Hp}(h:H d=some (.frz o (.dK kvs))):(Itd d o kvs).stop kvs.length H:=⟨h,Lk _⟩
end L2
namespace L2
open PySem PySem.Spec PyProof.Rows PySem.Calls
theorem Xif(t:SetTable)(n:Nat):(t.orStandIn n).led=t.led:=by
 unfold SetTable.orStandIn;split
 ·rfl
 ·rfl
theorem Xig(t:SetTable)(es:Array (Int×Value))(k:Int)(x:Value):(layNew t es k x).2.1.led=t.led:=by
 unfold layNew;split
 ·exact Xif _ _
 ·rfl
theorem Xih{mask finger moves:Nat}{led plain:Bool}{hs:Array Int}{t:SetTable}{o:Array Nat}(h:SetTable.laid mask finger moves led plain hs=some (t,o)):t.led=led/\t.plain=plain:=by
 unfold SetTable.laid at h;cases q:SetTable.layClean mask hs with
 | none=>rw[q] at h;cases h
 | some ow=>
  rw[q] at h;cases h;exact⟨rfl,rfl⟩
theorem Xii(t:SetTable)(es:Array (Int×Value))(n:Nat)(hp:t.plain=false):(relayAll t es n).2.1.led=t.led/\(relayAll t es n).2.1.plain=false:=by
 unfold relayAll;split
 ·rename_i t' o e;obtain⟨e1,e2⟩:=Xih e;dsimp only;split
  ·exact⟨e1,e2.trans hp⟩
  ·exact⟨rfl,rfl⟩
 ·exact⟨rfl,rfl⟩
def A5 (w:World):Bool:=w.params.followText "set-order"
def SSet (P:Program) (w:World) (h:Heap) (a:Addr) (ks:List Str):Prop:=
 ∃o es ep t ls,h.get? a=some o/\o.ExactSet/\o.data = .set es ep t/\ElemsOf (PySem.strKind P w) es.toList/\StrsAre (es.toList.map (·.2)) ls/\ls.Perm ks/\es.size<scanBound/\t.fits es.size=true/\t.led = !A5 w/\(t.plain=true->es.size=0)
theorem G4{l1 l2:List (Int×Value)}{ls:List Str}(p:l1.Perm l2)(h:StrsAre (l2.map (·.2)) ls):∃ls',StrsAre (l1.map (·.2)) ls'/\ls'.Perm ls:=by
 refine⟨(l1.map (·.2)).map strOf,strsAre_map _ (λv hv=>?_),?_⟩
 ·exact h.all v ((p.map (·.2)).mem_iff.mp hv)
 ·rw[<-h.strs];exact(p.map (·.2)).map strOf
theorem Xij{vs:List Value}{ls:List Str}{x:Str}{t:Tok}(h:StrsAre vs ls):StrsAre (vs++[.str x t]) (ls++[x]):=by
 induction h with
 | nil=>exact .cons x t .nil
 | cons y u _ ih=>exact .cons y u ih
section
variable {P:Program}{w:World}{A:Around}{E:Value->Shared->Prop}{s:Shared}{a:Addr}{ks:List Str}
theorem SSet.stay{h h':Heap}(S:SSet P w h a ks)(k:∀o,h.get? a=some o->h'.get? a=some o):SSet P w h' a ks:=by
 obtain⟨o,es,ep,t,ls,ho,r⟩:=S;exact⟨o,es,ep,t,ls,k o ho,r⟩
theorem Xb7{vs:List (Int×Value)}{ls:List Str}(h:StrsAre (vs.map (·.2)) ls){x:Str}:x∈ls ↔ ∃e∈vs,(PySem.strKind P w).is x e.2=true:=by
 rw[<-h.strs];constructor
 ·intro hx;obtain⟨v,hv,rfl⟩:=Mf.mp hx;obtain⟨e,he,rfl⟩:=Mf.mp hv;obtain⟨y,t,q⟩:=h.all e.2 hv;refine⟨e,he,?_⟩;rw[q];exact strKind_is P w y t
 ·rintro ⟨e,he,q⟩;obtain⟨t,e2⟩:=Value.isStrOf_shape q;exact Mf.mpr ⟨e.2,Mf.mpr ⟨e,he,rfl⟩,by rw[e2];rfl⟩
theorem Xb8{o:Obj}{es:Array (Int×Value)}{ep:Nat}{t:SetTable}{h:Heap}(ho:h.get? a=some o)(hex:o.ExactSet)(hd:o.data = .set es ep t){es':Array (Int×Value)}{t':SetTable}{ls:List Str}
  (hel:ElemsOf (PySem.strKind P w) es'.toList) (hs:StrsAre (es'.toList.map (·.2)) ls) (hp:ls.Perm ks) (hb:es'.size<scanBound) (hf:t'.fits es'.size=true) (hl:t'.led = !A5 w) (hpl:t'.plain=false):
  (h.update a (Obj.putSet es' t')).get? a=some {o with data:=.set es' (ep+1) t'}/\SSet P w (h.update a (Obj.putSet es' t')) a ks:=by
 have g:=Heap.get?_update_self (Obj.putSet es' t') ho (by rw[putSet_of es' t' hd];rfl);rw[putSet_of es' t' hd] at g;exact⟨g,_,es',ep+1,t',ls,g,hex,rfl,hel,hs,hp,hb,hf,hl,λz=>by rw[hpl] at z;cases z⟩
theorem Xb9{g:Bool->Sem Unit}(hg:∀(b:Bool) (s1:Shared) (Q':Unit->Shared->Prop),Q' () s1->wpAny (model P w) A (g b) Q' E s1)
    {o:Obj} {es:Array (Int×Value)} {ep:Nat} {t:SetTable} (ho:s.heap.get? a=some o) (hex:o.ExactSet) (hd:o.data = .set es ep t) {es1:Array (Int×Value)} {t2:SetTable} {ls:List Str}
    (hel:ElemsOf (PySem.strKind P w) es1.toList) (hs:StrsAre (es1.toList.map (·.2)) ls) (hp:ls.Perm ks) (hb:es1.size<scanBound) (hf:t2.fits es1.size=true) (hl:t2.led = !A5 w) (hpl:t2.plain=false) {wd:Bool} {R:Option Bool->Shared->Prop}
    (h:∀h',Heap.SameBut a s.heap h'->SSet P w h' a ks->R (some true) {s with heap:=h'}):
    wpAny (model P w) A (do
        storeSet a es1 t2
        if (!wd && t2.tooFull) = true then do g (relayAll t2 es1 (SetTable.grown es1.size)).2.2
                                              storeSet a (relayAll t2 es1 (SetTable.grown es1.size)).1 (relayAll t2 es1 (SetTable.grown es1.size)).2.1
                                              pure (some true)
        else pure (some true)) R E s:=by
  refine Pm (wpAny_storeSet_of ho hd ?_ (fits_of_scanBound hb));obtain⟨g1,S1⟩:=Xb8 (P:=P) (w:=w) ho hex hd hel hs hp hb hf hl hpl;have sb:=Py s.heap a (Obj.putSet es1 t2);split
  . have pp:=relayAll_perm t2 es1 (SetTable.grown es1.size);have ff:=relayAll_fits t2 es1 (SetTable.grown es1.size);obtain⟨fl1,fl2⟩:=Xii t2 es1 (SetTable.grown es1.size) hpl;generalize relayAll t2 es1 (SetTable.grown es1.size)=R3 at pp ff fl1 fl2 ⊢;obtain⟨es3,t3,gv⟩:=R3;dsimp only at pp ff fl1 fl2 ⊢;obtain⟨ls3,s3,p3⟩:=G4 pp hs;have z:es3.size=es1.size:=by rw[<-Lp,pp.length_eq,Lp]
    refine Pm (hg _ _ _ ?_);refine Pm (wpAny_storeSet_of g1 rfl ?_ (fits_of_scanBound (by rw[z];exact hb)));obtain⟨_,S3⟩:=Xb8 (P:=P) (w:=w) (ks:=ks) g1 hex rfl (hel.perm pp) s3 (p3.trans hp) (by rw[z];exact hb) ff (fl1.trans hl) fl2;exact Pn (h _ (sb.trans (Py _ a _)) S3)
  . exact Pn (h _ sb S1)
theorem sset_add{x:Str}{tk:Tok}{Q:Bool->Shared->Prop}(S:SSet P w s.heap a ks)(hr:ks.length+1<scanBound)
  (h:∀b h',Heap.SameBut a s.heap h'->SSet P w h' a (if x∈ks then ks else ks++[x])->Q b {s with heap:=h'}):
  wpAny (model P w) A (setAddHashed a (.str x tk) ((PySem.strKind P w).hash x)) Q E s:=by
 obtain⟨o,es,ep,t,ls,ho,hex,hd,hel,hs,hp,hb,hf,hl,hpl⟩:=S;have hlen:es.size=ks.length:=by
  have:=hs.length;rw[Li,Lp] at this;rw[this,hp.length_eq]
 have hkey:(PySem.strKind P w).is x (.str x tk)=true:=strKind_is P w x tk;have hin:x∈ks ↔ ∃e∈es.toList,(PySem.strKind P w).is x e.2=true:=hp.mem_iff.symm.trans (Xb7 hs);unfold setAddHashed setAddHashedIn;refine wpAny_holding (Pm (wpAny_setState_of ho hd hf ?_));dsimp only;rw[byScan_of (knd:=PySem.strKind P w) rfl hb hel];simp only[↓reduceIte];unfold setAddByScan;refine Pm (Pm (wpAny_rule (Pm (wpAny_setScan_of hkey ho hd hf hel ?_))));cases hf1:List.findIdx? (λe=>(PySem.strKind P w).is x e.2) es.toList with
 | some j=>
  dsimp only;obtain⟨hj,hpj,_⟩:=Ol.mp hf1;have hx:x∈ks:=hin.mpr ⟨es.toList[j],Me hj,hpj⟩;refine Pn (Pn ?_);have:=h false s.heap (Heap.SameBut.refl a s.heap) (by rw[Pq hx];exact⟨o,es,ep,t,ls,ho,hex,hd,hel,hs,hp,hb,hf,hl,hpl⟩);exact this
 | none=>
  dsimp only;have hx:x∉ks:=λz=>by
   obtain⟨e,he,q⟩:=hin.mp z;have:=List.findIdx?_eq_none_iff.mp hf1 e he;rw[q] at this;cases this
  have gw:∀(b:Bool) (s1:Shared) (Q':Unit->Shared->Prop),Q' () s1->wpAny (model P w) A (match b with | true=>rule "set.scan.the-table-gave-way" | false=>pure ()) Q' E s1:=λb s1 Q' q=>by
   cases b with
   | true=>exact wpAny_rule q
   | false=>exact Pn q
  have pp:=layNew_perm t es ((PySem.strKind P w).hash x) (.str x tk);have ff:=layNew_fits t es ((PySem.strKind P w).hash x) (.str x tk);have fl:=Xig t es ((PySem.strKind P w).hash x) (.str x tk);generalize layNew t es ((PySem.strKind P w).hash x) (.str x tk)=R at pp ff fl ⊢;obtain⟨es1,t1,wd,gv⟩:=R;dsimp only at pp ff fl ⊢;rw[Array.toList_push] at pp;have el1:=(hel.push hkey rfl).perm pp;have st0:StrsAre ((es.toList++[((PySem.strKind P w).hash x,Value.str x tk)]).map (·.2)) (ls++[x]):=by
   rw[Lx];exact Xij hs
  obtain⟨ls1,st1,p1⟩:=G4 pp st0;have z1:es1.size=ks.length+1:=by
   rw[<-Lp,pp.length_eq,Ln,Lp,hlen];rfl
  have p2:ls1.Perm (ks++[x]):=p1.trans (hp.append_right _);rw[Pp hx] at h;refine Pm (gw _ _ _ ?_);split
  ·refine Pm ?_;rw[hashByValue_scannable 8 (x:=Value.str x tk) rfl];refine Pn ?_;refine Xb9 (ks:=ks++[x]) gw ho hex hd el1 st1 p2 (by rw[z1];exact hr) (SetTable.fits_plain_off ff) (fl.trans hl) rfl (λh' sb S'=>?_);dsimp only;exact Pn (h true h' sb S')
  ·rename_i np;refine Pm (Pn ?_);simp only[↓reduceIte];refine Xb9 (ks:=ks++[x]) gw ho hex hd el1 st1 p2 (by rw[z1];exact hr) ff (fl.trans hl) (by cases q:t1.plain with | false=>rfl | true=>exact absurd q np) (λh' sb S'=>?_);dsimp only;exact Pn (h true h' sb S')
end
def dd1 (acc:List Str) (x:Str):List Str:=if x∈acc then acc else acc++[x]
def ddup (ss:List Str):List Str:=ss.foldl dd1 []
theorem Xca(ss:List Str)(x:Str):ddup (ss++[x])=dd1 (ddup ss) x:=by
 unfold ddup;rw[List.foldl_append];rfl
theorem Jy{p:List Str->List Str->Prop}(h0:p [] [])(h1:∀ss x,p ss (ddup ss)->p (ss++[x]) (dd1 (ddup ss) x))(ss:List Str):p ss (ddup ss):=by
 have go:∀n ss,ss.length=n->p ss (ddup ss):=by
  intro n
  induction n with
  | zero=>
   intro ss e;rw[M6.mp e];exact h0
  | succ n ih=>
   intro ss e;have hne:ss≠[]:=λz=>by rw[z] at e;cases e
   have e2:=List.dropLast_concat_getLast hne;rw[<-e2,Xca];exact h1 _ _ (ih _ (by rw[List.length_dropLast,e];rfl))
 exact go _ ss rfl
theorem Jz(ss:List Str):∀x,x∈ddup ss↔x∈ss:=by
 refine Jy (p:=λss d=>∀x,x∈d↔x∈ss) (λx=>Iff.rfl) (λss y ih x=>?_) ss;unfold dd1;split
 ·rename_i hy;rw[ih,Ls,Ly];constructor
  ·exact .inl
  ·rintro (z | z)
   ·exact z
   ·rw[z];exact(ih y).mp hy
 ·rw[Ls,Ls,ih]
theorem F5(ss:List Str):(ddup ss).Nodup:=by
 refine Jy (p:=λ_ d=>d.Nodup) List.nodup_nil (λss y ih=>?_) ss;unfold dd1;split
 ·exact ih
 ·rename_i hy;exact Nf.mpr ⟨ih,by simp,λa ha b hb=>by rw[Ly.mp hb];exact λz=>hy (z ▸ ha)⟩
theorem F6(ss:List Str):(ddup ss).length<=ss.length:=by
 refine Jy (p:=λss d=>d.length<=ss.length) (Lk _) (λss y ih=>?_) ss;unfold dd1;rw[Ln,Mq];split
 ·omega
 ·rw[Ln,Mq];omega
section
variable {P:Program}{w:World}{A:Around}{E:Value->Shared->Prop}{s:Shared}
theorem Xcb{R:Result->Shared->Prop}{I:Addr}{fp wr:List Addr}{G:Array GenState->Array GenState->Prop}{Pv:Nat->Value->Prop}{St:Nat->Shared->Prop}(ss:List Str)(W:WalksS P w A.in1 I fp wr G ss.length Pv St)(S:Addr)(nS:S∉fp)
  (hval:∀i v,Pv i v->∃t,v = .str (ss.getD i "") t) (hb:ss.length+1<scanBound):
  ∀(k i:Nat) (s:Shared),ss.length - i=k->i<=ss.length->St i s->SSet P w s.heap S (ddup (ss.take i))->(∀s',Moved (S::wr) G s s'->SSet P w s'.heap S (ddup ss)->R (.ok (.ret .none)) s') ->
   codeAny (model P w) A (.builtin "set.update.loop" ⟨[.ref S,.ref I],[]⟩) R s:=by
 have nw:S∉wr:=λz=>nS (W.sub _ z);have up:∀b∈wr,b∈S::wr:=λb z=>Ll _ z;intro k
 induction k with
 | zero=>
  intro i s e hi st hS hR;have:i=ss.length:=by omega
  subst this;rw[Mp] at hS;refine codeAny_builtin F.entry_set_update_loop ?_;rw[Around.under_plainId F.plain_set_update_loop _];show wpAny _ A.in1 (pyNext (.ref I) >>= λ_=>_) _ _ s;refine Pm (W.done s _ _ st λs' mv=>?_);show wpAny _ A.in1 (ret Value.none) _ _ s';exact Pn (hR s' (mv.mono up) (hS.stay λo z=>mv.heap S o nw z))
 | succ k ih=>
  intro i s e hi st hS hR;have lt:i<ss.length:=by omega
  refine codeAny_builtin F.entry_set_update_loop ?_;rw[Around.under_plainId F.plain_set_update_loop _];show wpAny _ A.in1 (pyNext (.ref I) >>= λ_=>_) _ _ s;refine Pm (W.item i s _ _ lt st λv s' hP st' mv=>?_);obtain⟨t,rfl⟩:=hval i v hP;have hS':=hS.stay λo z=>mv.heap S o nw z;show wpAny _ A.in1 (holding [Value.str (ss.getD i "") t] (setAdd S (.str (ss.getD i "") t)) >>= λ_=>_) _ _ s';refine Pm (wpAny_holding ?_);unfold setAdd;refine wpAny_holding (Pm ((PySem.strKind P w).pyHash (k:=ss.getD i "") (strKind_is P w _ t) ?_));have hl1:(ddup (ss.take i)).length<=i:=Mj (F6 _) (by rw[Mb];omega);refine sset_add (s:={s' with toks:=s'.toks+1}) hS' (by omega) λb h' sb S2=>?_;have e3:ddup (ss.take (i+1))=dd1 (ddup (ss.take i)) (ss.getD i ""):=by
   rw[L7 lt,Xca];congr 1;simp[List.getD,lt]
  have S3:SSet P w h' S (ddup (ss.take (i+1))):=by rw[e3];exact S2
  refine Pn ⟨plainId_quiet F.plain_set_update_loop _,ih (i+1) _ (by omega) lt (W.frame _ s' _ _ st' (Nl _) λb hb o q=>?_) S3 λs'' mv2 S4=>?_⟩
  ·rw[sb.2 b (λz=>nS (z ▸ hb))];exact q
  ·refine hR s'' (Moved.trans W.gtrans ((mv.mono up).then_heap (Nl _) λb o hb q=>?_) mv2) S4;rw[sb.2 b (λz=>hb (z ▸ Lo))];exact q
inductive Src (h:Heap) (l:Addr) (items:Array Value):Prop
 | lst:h.IsList l items->Src h l items
 | tup:h.IsTuple l items->Src h l items
theorem Xik(a:Value){Q:Value->Shared->Prop}(h:Q (.ref s.heap.objs.size) {s with heap:=s.heap.push {cls:=.type "set",dict:=none,data:=.set #[] 0 (.fresh 0 0 (!A5 w))} }):
    codeAny (model P w) A (.call (.builtin "set.__new__") ⟨[.type "set",a],[]⟩) (wants Q E) s:=by
  refine codeAny_of_tree ?_
  show wpAny _ A.in1 (do checkBuiltinCall "set.__new__" ⟨[.type "set",a],[]⟩
                         again (.builtin "set.__new__" ⟨[.type "set",a],[]⟩)) _ _ s
  refine Pm (wpAny_of_eq (PySem.F.newCall_set_1 a) (Pn ⟨plainId_quiet PySem.F.plain_set_new _,codeAny_builtin PySem.F.entry_set_new ?_⟩));rw[Around.under_plainId PySem.F.plain_set_new _];unfold Builtin.«set.__new__» Builtin.Frozenset.newClass;have q:=sub_set_self;obtain⟨hp,g,d,tk,os⟩:=s;dsimp only
  wp_walk
  refine wpAny_askSetting (Pn ?_);dsimp only;simp only[newObj];exact Pm (wpAny_alloc (Pn (Pn h)))
end
end L2
set_option maxHeartbeats 3200000
namespace L2
open PySem PySem.Spec PyProof.Rows PySem.Calls
section
variable {P:Program}{w:World}{A:Around}{E:Value->Shared->Prop}{s:Shared}
abbrev Ds (w:World):Obj:={cls:=.type "set",dict:=none,data:=.set #[] 0 (.fresh 0 0 (!A5 w))}
theorem Xil{h:Heap}{a:Addr}(g:h.get? a=some (Ds w)):SSet P w h a []:=
 ⟨_, #[],0,_,[],g,⟨rfl,rfl,rfl⟩,rfl,λe he=>by simp at he,.nil,.nil,by decide,rfl,rfl,λ_=>rfl⟩
theorem Xim{l S:Addr}{items:Array Value}{ss:List Str}{R:Unit->Shared->Prop}(hh:A.handled=none)(src:Src s.heap l items)(hs:StrsAre items.toList ss)(hb:ss.length+1<scanBound)(hS:SSet P w s.heap S [])(hlS:l≠S)
  (hTS:∀(Q:Bool->Shared->Prop),Q false s->wpAny (model P w) A (Builtin.Frozenset.isAnySet (.ref l)) Q E s)
  (h:∀(h':Heap) (tk:Nat),SSet P w h' S (ddup ss)->(∀b o,b≠S->s.heap.get? b=some o->h'.get? b=some o)->R () {s with heap:=h',toks:=tk}):
  wpAny (model P w) A (Builtin.Frozenset.updateFrom "set.__init__" S (.ref l)) R E s:=by
 have hlen:items.size=ss.length:=by
  have:=hs.length
  rwa [Lp] at this
 have hval:∀(i:Nat) (v:Value),items[i]? = some v->∃t,v = .str (ss.getD i "") t:=λi v q=>by
  have q':items.toList[i]? = some v:=by rw[O0];exact q
  obtain⟨x,t,rfl⟩:=hs.all v (M8 q');refine⟨t,?_⟩;congr 1;rw[<-hs.strs];simp[List.getD,Lz,q,strOf]
 obtain⟨oS,_,_,_,_,gS,_⟩:=id hS;have ltS:=Pw gS;unfold Builtin.Frozenset.updateFrom;refine Pm (hTS _ ?_);simp only[Md,if_false];cases src with
 | lst hl=>
  have hll:l<s.heap.objs.size:=by obtain⟨o,g,_⟩:=hl;exact Pw g
  refine Pm (wpAny_typeOf (T := "list") hl.typeIs ?_);have ne:(Value.type "list" == Value.type "dict")=false:=by decide
  simp only[ne,Md,if_false];refine Pm (wpAny_pyIter_list hl ?_);refine Pm (wpAny_runValue ?_);have nI:S∉[s.heap.objs.size,l]:=by simp only[Lw,List.not_mem_nil,or_false,not_or];exact⟨Lr ltS,hlS.symm⟩
  have W:=(Walks.list (prog:=P) (w:=w) (A:=A.in1) (by simp[hh]) s.heap.objs.size l (Lr hll) items).toS;rw[hlen] at W;refine Xcb ss W S nI hval hb _ 0 _ rfl (Mt _) ⟨⟨_,Heap.get?_push_size _ rfl,rfl,rfl⟩,hl.push _⟩ (hS.stay λo q=>Px _ q) λs' mv S'=>?_;rw[Moved.eq_with mv];refine Pn (h s'.heap s'.toks S' λb o nb q=>mv.heap b o (λz=>?_) (Px _ q));rcases Lw.mp z with z | z
  ·exact nb z
  ·exact absurd (Pw q) (by rw[Ly.mp z];exact Mg _)
 | tup hl=>
  have hll:l<s.heap.objs.size:=by obtain⟨o,g,_⟩:=hl;exact Pw g
  refine Pm (wpAny_typeOf (T := "tuple") hl.typeIs ?_);have ne:(Value.type "tuple" == Value.type "dict")=false:=by decide
  simp only[ne,Md,if_false];refine Pm (wpAny_pyIter_tuple hl ?_);refine Pm (wpAny_runValue ?_);have nI:S∉[s.heap.objs.size,l]:=by simp only[Lw,List.not_mem_nil,or_false,not_or];exact⟨Lr ltS,hlS.symm⟩
  have W:=(Walks.tuple (prog:=P) (w:=w) (A:=A.in1) (by simp[hh]) s.heap.objs.size l (Lr hll) items).toS;rw[hlen] at W;refine Xcb ss W S nI hval hb _ 0 _ rfl (Mt _) ⟨⟨_,Heap.get?_push_size _ rfl,rfl,rfl⟩,hl.push _⟩ (hS.stay λo q=>Px _ q) λs' mv S'=>?_;rw[Moved.eq_with mv];refine Pn (h s'.heap s'.toks S' λb o nb q=>mv.heap b o (λz=>?_) (Px _ q));rcases Lw.mp z with z | z
  ·exact nb z
  ·exact absurd (Pw q) (by rw[Ly.mp z];exact Mg _)
theorem Src.push{h:Heap}{l:Addr}{items:Array Value}(x:Src h l items)(o:Obj):Src (h.push o) l items:=by
 cases x with
 | lst y=>exact .lst (y.push o)
 | tup y=>exact .tup (y.push o)
theorem Src.any{l:Addr}{items:Array Value}(x:Src s.heap l items){Q:Bool->Shared->Prop}(q:Q false s):wpAny (model P w) A (Builtin.Frozenset.isAnySet (.ref l)) Q E s:=by
 cases x with
 | lst y=>
  obtain⟨o,g,c,n,d⟩:=y;obtain⟨oc,od,odt,os⟩:=o;simp only at c d;subst c d;have h1:=PySem.F.sub_list_set;have h2:=PySem.F.sub_list_frozenset;unfold Builtin.Frozenset.isAnySet
  wp_walk
  exact q
 | tup y=>
  obtain⟨o,g,c,n,d⟩:=y;obtain⟨oc,od,odt,os⟩:=o;simp only at c d;subst c d;have h1:isSubtype (.type "tuple") (.type "set")=pure false:=by rw[isSubtype_type];kernel_rfl
  have h2:isSubtype (.type "tuple") (.type "frozenset")=pure false:=by rw[isSubtype_type];kernel_rfl
  unfold Builtin.Frozenset.isAnySet
  wp_walk
  exact q
theorem Src.lt{h:Heap}{l:Addr}{items:Array Value}(x:Src h l items):l<h.objs.size:=by
 cases x with
 | lst y=>obtain⟨o,g,_⟩:=y;exact Pw g
 | tup y=>obtain⟨o,g,_⟩:=y;exact Pw g
theorem Xin{l:Addr}{items:Array Value}{ss:List Str}{Q:Value->Shared->Prop}(hh:A.handled=none)(src:Src s.heap l items)(hs:StrsAre items.toList ss)(hb:ss.length+1<scanBound)
  (h:∀(h':Heap) (tk:Nat),SSet P w h' s.heap.objs.size (ddup ss)->(∀b o,s.heap.get? b=some o->h'.get? b=some o)->Q (.ref s.heap.objs.size) {s with heap:=h',toks:=tk}):
  wpAny (model P w) A (call (.type "set") [.ref l]) Q E s:=by
 obtain⟨c,tl,hmro⟩:=PySem.F.called_set.mro;have hmade:=PySem.F.called_set.made;have hsub:=PySem.F.called_set.sub;refine wpAny_call (codeAny_of_tree ?_);show wpAny _ _ (callAny (.type "set") _) _ _ s;refine Pn ⟨Code.quiet_builtin _ (by decide +kernel),codeAny_builtin PySem.F.entry_type_call ?_⟩;rw[Around.under_plain (weight_type_call_type "set" [.ref l] []) rfl];have f1:=PySem.F.called_set.notType;have f2:=PySem.F.called_set.canCreate;have f3:=PySem.F.typeCall_set_1 (.ref l)
 repeat (any_goals (first | assumption | wp_step))
 refine codeAny_mono (Xik (.ref l) (E:=E) (Q:=λobj s1=>obj = .ref s.heap.objs.size/\s1 = {s with heap:=s.heap.push (Ds w)}) ⟨rfl,rfl⟩) λr s1 hr=>?_;cases r with
 | error e=>exact hr
 | ok fl=>
  cases fl with
  | ret obj=>
   obtain⟨rfl,rfl⟩:=hr;have gS:(s.heap.push (Ds w)).get? s.heap.objs.size=some (Ds w):=Heap.get?_push_size _ rfl;have hT:Shared.TypeIs {s with heap:=s.heap.push (Ds w)} (.ref s.heap.objs.size) "set" := ⟨_,gS,rfl⟩;have f4:=PySem.F.called_set.init.lookup;have f5:=PySem.F.called_set.init.bind (.ref s.heap.objs.size)
   repeat (any_goals (first | assumption | wp_step))
   refine codeAny_mono (codeAny_call_builtin (R:=wants (λr s2=>r = .none/\∃h' tk,s2 = {s with heap:=h',toks:=tk}/\SSet P w h' s.heap.objs.size (ddup ss)/\∀b o,s.heap.get? b=some o->h'.get? b=some o) E)
    PySem.F.called_set.init.plain PySem.F.entry_set_init (check_set_init_1 hT ?_)) λr2 s2 hr2=>?_
   ·have src':=src.push (Ds w);have lt:=src.lt;unfold Builtin.«set.__init__» noKeywords;generalize hU:Builtin.Frozenset.updateFrom=U
    wp_walk
    subst hU;refine Xim (s:={s with heap:=s.heap.push (Ds w)}) (by simp[hh]) src' hs hb (Xil gS) (Lr lt) (λQ q=>Src.any (s:={s with heap:=s.heap.push (Ds w)}) src' q) λh' tk S' kk=>?_;exact Pn ⟨rfl,h',tk,rfl,S',λb o q=>kk b o (Lr (Pw q)) (Px _ q)⟩
   ·cases r2 with
    | error e=>exact hr2
    | ok fl2=>
     cases fl2 with
     | ret r=>
      obtain⟨rfl,h',tk,rfl,S',kk⟩:=hr2
      repeat (any_goals (first | assumption | wp_step))
      exact h _ _ S' kk
     | _=>exact hr2.elim
  | _=>exact hr.elim
end
namespace SF
theorem sIter:Slot "set" "__iter__" "set.__iter__" := PySem.F.slot_set_iter
theorem eIter:entryFor table "set.__iter__" = some Builtin.«frozenset.__iter__»:=entryFor_alias (id' := "frozenset.__iter__") (by kernel_rfl) rfl (by decide +kernel) (by kernel_rfl)
theorem sNext:Slot "set_iterator" "__next__" "set_iterator.__next__" := .of (owner := "set_iterator") (n := "__next__") (by rw[typeLookup_type,builtinLookup_eq_fast];kernel_rfl) (by decide +kernel) (by decide +kernel) (by decide +kernel) (by first | exact .inl (by decide +kernel) | exact .inr (by decide +kernel)) (by rw[isSubtype_type];kernel_rfl)
theorem eNext:entryFor table "set_iterator.__next__" = some Builtin.«set_iterator.__next__»:=entryFor_of_tree (by kernel_rfl)
theorem aNext(a:Value):argsOk "set_iterator.__next__" ⟨[a],[]⟩:=by unfold argsOk;kernel_rfl
end SF
theorem J0{α : Type}:∀(xs:List α) (i:Nat) (hi:i<xs.length),(xs[i]::xs.eraseIdx i).Perm xs
 | x::xs,0,_=>M0 _
 | x::xs,i+1,hi=>by
  have ih:=J0 xs i (by simpa using hi);rw[List.eraseIdx_cons_succ,List.getElem_cons_succ];exact(List.Perm.swap x _ _).trans (ih.cons x)
theorem Xio{α : Type}(next:Nat->Nat):∀(n k:Nat) (left:List α) (out:Array α),left.length=n->(pickOrder.go next n k left out).toList.Perm (out.toList++left):=by
 intro n
 induction n with
 | zero=>
  intro k left out e;rw[M6.mp e,Mr];exact M0 _
 | succ n ih=>
  intro k left out e;have hlt:next k % left.length<left.length:=Ph _ (by omega);unfold pickOrder.go;rw[Lm hlt];dsimp only;refine(ih _ _ _ (by rw[Nt hlt,e];rfl)).trans ?_;rw[Array.toList_push,Oc];exact(J0 left _ hlt).append_left _
theorem Xcc{α : Type}(next:Nat->Nat)(xs:Array α):(pickOrder next xs).toList.Perm xs.toList:=by
 have:=Xio next xs.size 0 xs.toList #[] (by simp);simpa [pickOrder] using this
section
variable {P:Program}{w:World}{A:Around}{E:Value->Shared->Prop}{s:Shared}
theorem Xip{src:Source}{n:Nat}{Q:Nat->Shared->Prop}(hn:n≠0)(h:∀i d,i<n->Q i {s with drawn:=d}):wpAny (model P w) A (choose src n) Q E s:=by
 intro Γ p hΓ;exact⟨hn,h _ _ (Ph _ (Nat.pos_of_ne_zero hn))⟩
theorem Xcd{α : Type}:∀(n:Nat) (xs:List α) (s:Shared) (Q:List α->Shared->Prop),xs.length=n->(∀os d,os.Perm xs->Q os {s with drawn:=d})->wpAny (model P w) A (drawOrder n xs) Q E s:=by
 intro n
 induction n with
 | zero=>
  intro xs s Q e h;rw[M6.mp e] at h ⊢;unfold drawOrder;exact Pn (h [] s.drawn (M0 _))
 | succ n ih=>
  intro xs s Q e h;cases xs with
  | nil=>cases e
  | cons y ys=>
   unfold drawOrder;refine Pm (Xip (by simp) λi d hi=>?_);rw[Lm hi];dsimp only;refine Pm (ih _ _ _ (by rw[Nt hi,e];rfl) λos d' hp=>?_);exact Pn (h _ d' ((hp.cons _).trans (J0 _ i hi)))
def SAt (h:Heap) (a:Addr) (es:Array (Int×Value)) (ep:Nat) (t:SetTable):Prop:=∃o,h.get? a=some o/\o.ExactSet/\o.data = .set es ep t/\t.fits es.size=true
theorem Xiq{a:Addr}{es:Array (Int×Value)}{ep:Nat}{t:SetTable}{Q:Bool->Shared->Prop}(hs:SAt s.heap a es ep t)(h:Q (!A5 w&&(!t.plain&&decide (es.size > 1))) s):wpAny (model P w) A (setDrawn a) Q E s:=by
 obtain⟨o,ho,hex,hd,hf⟩:=hs;unfold setDrawn setsByText;refine Pm (wpAny_setState_of ho hd hf ?_);dsimp only;refine Pm (Pm (wpAny_askSetting (Pn ?_)));exact Pn h
abbrev itO (f0:Value) (i:Nat) (a:Addr) (n ep:Nat):Obj:={cls:=.type "set_iterator",data:=.fields #[f0,.int i 0,.ref a,.int n 0,.int ep 0]}
inductive Ord (w:World) (h:Heap) (a:Addr) (es:Array (Int×Value)) (ep:Nat) (t:SetTable) (f0:Value) (i:Nat):List Value->Prop
 | txt:A5 w=true->f0 = .int 0 0->Ord w h a es ep t f0 i ((pickOrder (w.params.setOrder a ep) es).toList.map (·.2))
 | drw (p:Addr) (os:List Nat):A5 w=false->os.Perm (List.range es.size)->f0 = .ref p->(∃n,h.get? p=some ⟨.type "tuple",none,.seq (os.map λj=>Value.int (j:Nat) 0).toArray n, #[]⟩)->Ord w h a es ep t f0 i (os.map λj=>((es[j]?).map (·.2)).getD .none)
 | one (sl:Nat):A5 w=false->t.led=true->es.size<=1->f0 = .int sl 0->(i=0->sl=0)->(∀j,i=1->t.place[0]? = some j->sl=j+1)->Ord w h a es ep t f0 i (es.toList.map (·.2))
theorem Xir{a:Addr}{es:Array (Int×Value)}{ep:Nat}{t:SetTable}{Q:Value->Shared->Prop}(hs:SAt s.heap a es ep t)(hb:es.size<scanBound)(hl:t.led = !A5 w)(hp:t.plain=true->es.size=0)
    (h:∀(f0:Value) (vs:List Value) (h1:Heap) (d:Drawn),(∀b o,s.heap.get? b=some o->h1.get? b=some o)->h1.objs.size<=s.heap.objs.size+1->s.heap.objs.size<=h1.objs.size->(∀p,f0 = .ref p->p<h1.objs.size)->Ord w (h1.push (itO f0 0 a es.size ep)) a es ep t f0 0 vs ->
      vs.Perm (es.toList.map (·.2))->Q (.ref h1.objs.size) {s with heap:=h1.push (itO f0 0 a es.size ep),drawn:=d}):
    wpAny (model P w) A (pyIter (.ref a)) Q E s:=by
  obtain⟨o,ho,hex,hd,hf⟩:=id hs;have hT:s.TypeIs (.ref a) "set" := ⟨o,ho,hex.1⟩;refine wpAny_pyIter_slot hT SF.sIter (wpAny_call_entry SF.sIter hT SF.eIter ?_ (PySem.F.args_set_iter_1 _));unfold Builtin.«frozenset.__iter__» Builtin.Frozenset.slot0 slotArgs;simp only[List.isEmpty_nil,Om,Md, ↓reduceIte,bind_assoc,Nx,bne_self_eq_false];unfold Builtin.Frozenset.addrOf Builtin.Frozenset.sizeOf;refine Pm (Pn ?_);dsimp only;refine Pm (Pn ?_);refine Pm (Pm (wpAny_setEntries_of ho hd hf (Pn ?_)));refine Pm (Xiq hs ?_);have fin:∀(f0:Value) (vs:List Value) (h1:Heap) (d:Drawn),(∀b o,s.heap.get? b=some o->h1.get? b=some o)->h1.objs.size<=s.heap.objs.size+1->s.heap.objs.size<=h1.objs.size->(∀p,f0 = .ref p->p<h1.objs.size)->Ord w (h1.push (itO f0 0 a es.size ep)) a es ep t f0 0 vs->vs.Perm (es.toList.map (·.2)) ->
      wpAny (model P w) A.in1 (do let r <-newFields "set_iterator" [f0,rawInt 0,.ref a,rawInt es.size,rawInt ep]
                                  ret r) (λfin s'=>∃r,fin = .done (.ret r)/\∃T v,s'.TypeIs r T/\typeLookup (.type T) (Str.ofString "__next__")=pure (some v)/\Q r s') E {s with heap:=h1,drawn:=d}:=λf0 vs h1 d k1 k2 k3 k4 k5 k6=>
    Pm (wpAny_newObj_type (Pn ⟨_,rfl, "set_iterator",_,⟨_,Heap.get?_push_size _ rfl,rfl⟩,SF.sNext.lookup,h f0 vs h1 d k1 k2 k3 k4 k5 k6⟩))
  by_cases hc:(!A5 w&&(!t.plain&&decide (es.size > 1)))=true
  . rw[Pq hc];simp only[Lv,Ot,decide_eq_true_eq] at hc;obtain⟨c1,c2,c3⟩:=hc;refine Pm (Xcd _ _ _ _ M4 λos d po=>?_);have hol:os.length=es.size:=by rw[po.length_eq,M4]
    refine Pm (wpAny_newTuple ?_ (by rw[Li,hol];exact fits_of_scanBound hb));refine Pm (wpAny_setEpoch_of (Px _ ho) hd hf ?_);refine fin _ _ _ d (λb o q=>Px _ q) (by rw[size_push'];exact Lk _) (by rw[size_push'];exact Nl _) (λp e=>by cases e;rw[size_push'];exact Nat.lt_succ_self _) (.drw s.heap.objs.size os c1 po rfl ⟨0,Px _ (Heap.get?_push_size _ rfl)⟩) ?_;have e:(os.map λj=>((es[j]?).map (·.2)).getD Value.none).Perm ((List.range es.size).map λj=>((es[j]?).map (·.2)).getD Value.none):=po.map _;refine e.trans ?_;have e2:((List.range es.size).map λj=>((es[j]?).map (·.2)).getD Value.none)=es.toList.map (·.2):=by
      apply List.ext_getElem?;intro i;have q:es.toList[i]? = es[i]?:=O0;rw[Lz,Lz,q];by_cases hi:i<es.size
      . rw[List.getElem?_range hi,Nk,getElem?_pos es i hi];rfl
      . rw[Oa (by simpa using hi),getElem?_neg es i hi];rfl
    rw[e2]
  . rw[Pp hc];refine Pm (Pn ?_);refine Pm (wpAny_setEpoch_of ho hd hf ?_);cases hw:A5 w with
    | true=>exact fin _ _ _ s.drawn (λb o q=>q) (Nl _) (Lk _) (λp e=>by cases e) (.txt hw rfl) ((Xcc _ es).map _)
    | false=>
      have h1:es.size<=1:=by
        cases hpl:t.plain with
        | true=>rw[hp hpl];exact Mt _
        | false=>
          simp only[hw,hpl,Bool.not_false,Mu,decide_eq_true_eq] at hc;omega
      exact fin _ _ _ s.drawn (λb o q=>q) (Nl _) (Lk _) (λp e=>by cases e) (.one 0 hw (by rw[hl,hw];rfl) h1 rfl (λ_=>rfl) (λj e=>by cases e)) (M0 _)
end
end L2
namespace L2
open PySem PySem.Spec PyProof.Rows PySem.Calls
section
variable {P:Program}{w:World}{A:Around}{E:Value->Shared->Prop}{s:Shared}{I a:Addr}{es:Array (Int×Value)}{ep:Nat}{t:SetTable}
def ItS (w:World) (I a:Addr) (es:Array (Int×Value)) (ep:Nat) (t:SetTable) (vs:List Value) (fp:Option Addr) (i:Nat) (h:Heap):Prop:=
 ∃f0,h.get? I=some (itO f0 i a es.size ep)/\Ord w h a es ep t f0 i vs/\SAt h a es ep t/\(∀p,f0 = .ref p->fp=some p)
theorem Xce{i:Nat}{f0:Value}{Q:Fin->Shared->Prop}(hI:s.heap.get? I=some (itO f0 i a es.size ep))(hS:SAt s.heap a es ep t)
  (h1:∀sl,f0 = .int sl 0->wpAny (model P w) A (do
   match <-setNext a sl.toNat i ep with
   | some (x,next)=>setField (.ref I) 0 (rawInt next);setField (.ref I) 1 (rawInt ((i:Int)+1));ret x
   | none=>setField (.ref I) 2 .none;raiseNew (<-newExc (.type "StopIteration") [])) Q E s)
  (h2:∀p,f0 = .ref p->wpAny (model P w) A (do
   let some places <-seqItems? (.ref p) | unsupported "internal:set_iterator"
   match places[i]? with
   | some (.int place _)=>let x <-setNextDrawn a place.toNat ep;setField (.ref I) 1 (rawInt ((i:Int)+1));ret x
   | some _=>unsupported "internal:set_iterator"
   | none=>setField (.ref I) 0 (rawInt 0);setField (.ref I) 2 .none;raiseNew (<-newExc (.type "StopIteration") [])) Q E s)
  (hf:(∃sl,f0 = .int sl 0) \/ ∃p,f0 = .ref p):wpAny (model P w) A (Builtin.«set_iterator.__next__» ⟨[.ref I],[]⟩) Q E s:=by
 obtain⟨o,ho,hex,hd,hft⟩:=id hS;unfold Builtin.«set_iterator.__next__» slotArgs;simp only[List.isEmpty_nil,Om,Md, ↓reduceIte,bind_assoc,Nx,bne_self_eq_false];refine Pm (Pn ?_);dsimp only;refine Pm (wpAny_fieldsOf hI rfl ?_);dsimp only;refine Pm (wpAny_setEntries_of ho hd hft ?_);rw[Pp (by simp)];rcases hf with ⟨sl,rfl⟩ | ⟨p,rfl⟩
 ·exact h1 sl rfl
 ·exact h2 p rfl
theorem G5{h:Heap}{f0 x:Value}{i j n:Nat}(hI:h.get? I=some (itO f0 i a n ep))(k:Nat)(v:Value):
  (h.update I (Obj.mapFields (·.setIfInBounds k v))).get? I=some {cls:=.type "set_iterator",data:=.fields ((#[f0,.int i 0,.ref a,.int n 0,.int ep 0]:Array Value).setIfInBounds k v)}:=
 Heap.get?_update_self _ hI rfl
theorem SAt.at{h h':Heap}(x:SAt h a es ep t)(k:∀o,h.get? a=some o->h'.get? a=some o):SAt h' a es ep t:=by
 obtain⟨o,ho,r⟩:=x;exact⟨o,k o ho,r⟩
theorem Xcf{sl i:Nat}{Q:Option (Value×Nat)->Shared->Prop}(hw:A5 w=true)(hS:SAt s.heap a es ep t)(h:Q (((pickOrder (w.params.setOrder a ep) es)[i]?).map λe=>(e.2,sl)) s):wpAny (model P w) A (setNext a sl i ep) Q E s:=by
 obtain⟨o,ho,hex,hd,hf⟩:=id hS;unfold setNext setsByText;refine Pm (wpAny_setState_of ho hd hf ?_);dsimp only;refine Pm (Pm (wpAny_askSetting (Pn ?_)));rw[Pq (show (model P w).w.params.followText "set-order" = true from hw),Pp (by simp)];unfold setWalk setsByText;refine Pm (Pm (wpAny_setState_of ho hd hf ?_));dsimp only;refine Pm (Pm (wpAny_askSetting (Pn ?_)));rw[Pq (show (model P w).w.params.followText "set-order" = true from hw)];exact Pm (wpAny_askSetting (Pn (Pn h)))
theorem Xcg{sl i:Nat}{Q:Option (Value×Nat)->Shared->Prop}(hw:A5 w=false)(hl:t.led=true)(h1:es.size<=1)(hS:SAt s.heap a es ep t)
  (h:Q (match es[SetTable.below t.place sl]?,t.place[SetTable.below t.place sl]? with | some (_,x),some j=>some (x,j+1) | _,_=>none) s):wpAny (model P w) A (setNext a sl i ep) Q E s:=by
 obtain⟨o,ho,hex,hd,hf⟩:=id hS;unfold setNext setsByText;refine Pm (wpAny_setState_of ho hd hf ?_);dsimp only;refine Pm (Pm (wpAny_askSetting (Pn ?_)));rw[Pp (show ¬(model P w).w.params.followText "set-order" = true from by show ¬A5 w=true;rw[hw];decide)];have d1:(!t.plain&&decide (es.size > 1))=false:=by rw[Ps (by omega),Ow]
 refine wpAny_ite_split (λz=>?_) (λ_=>?_)
 ·have z':(!t.plain&&decide (es.size > 1))=true:=z;rw[d1] at z';cases z'
 refine Pm ?_;have m1:(!t.led && !es.isEmpty)=false:=by rw[hl];rfl
 refine wpAny_ite_split (λz=>?_) (λ_=>Pn (Pn h));have z':(!t.led && !es.isEmpty)=true:=z;rw[m1] at z';cases z'
theorem Xis{t:SetTable}(h:t.place.size<=1):SetTable.below t.place 0=0:=by
 generalize t.place=pl at *;obtain⟨l⟩:=pl
 match l,h with
 | [],_=>rfl
 | [x],_=>simp[SetTable.below,SetTable.below.go]
theorem Xit{t:SetTable}{j:Nat}(h:t.place.size<=1)(hj:t.place[0]? = some j):SetTable.below t.place (j+1)=1:=by
 generalize t.place=pl at *;obtain⟨l⟩:=pl
 match l,h,hj with
 | [x],_,hj=>
  have:x=j:=by simpa using hj
  subst this;simp[SetTable.below,SetTable.below.go]
theorem Xch{n:Nat}(h:t.fits n=true):t.place.size=n:=by
 unfold SetTable.fits at h;simp only[Lv,beq_iff_eq] at h;exact h.1
end
section
variable {P:Program}{w:World}{A:Around}{E:Value->Shared->Prop}{s:Shared}{I a:Addr}{es:Array (Int×Value)}{ep:Nat}{t:SetTable}{vs:List Value}{fp:Option Addr}
theorem Ord.cases0{h:Heap}{f0:Value}{i:Nat}(x:Ord w h a es ep t f0 i vs):(∃sl:Int,f0 = .int sl 0) \/ ∃p,f0 = .ref p:=by
 cases x with
 | txt _ e=>exact .inl ⟨0,e⟩
 | drw p os _ _ e _=>exact .inr ⟨p,e⟩
 | one sl _ _ _ e _ _=>exact .inl ⟨sl,e⟩
theorem Xiu{i:Nat}{Q:Option Value->Shared->Prop}(st:ItS w I a es ep t vs fp i s.heap)(hi:i<vs.length)(hl:vs.length=es.size)(nIa:a≠I)(nIp:∀p,fp=some p->p≠I)
  (hQ:∀h',ItS w I a es ep t vs fp (i+1) h'->Heap.SameBut I s.heap h'->Q (some vs[i]) {s with heap:=h'}):wpAny (model P w) A (pyNext (.ref I)) Q E s:=by
 obtain⟨f0,hI,hO,hS,hp⟩:=st;have hT:s.TypeIs (.ref I) "set_iterator" := ⟨_,hI,rfl⟩;unfold pyNext;refine Pm (wpAny_attempt (wpAny_callSpecial?_slot (name:=Str.ofString "__next__") hT SF.sNext (wpAny_call_entry SF.sNext hT SF.eNext ?_ (SF.aNext _))));have e1:((i:Int)+1)=((i+1:Nat):Int):=by omega
 have fin:∀(E':Value->Shared->Prop) (nx:Nat),Ord w ((s.heap.update I (Obj.mapFields (·.setIfInBounds 0 (rawInt nx)))).update I (Obj.mapFields (·.setIfInBounds 1 (rawInt ((i:Int)+1))))) a es ep t (.int nx 0) (i+1) vs ->
   wpAny (model P w) A.in1 (do
    setField (.ref I) 0 (rawInt nx)
    setField (.ref I) 1 (rawInt ((i:Int)+1))
    ret vs[i]) (λfin s'=>∃r,fin = .done (.ret r)/\wpAny (model P w) A (pure (some r)) Q E s') E' s:=λE' nx O=>by
  refine Pm (wpAny_setField hI rfl (by simp) ?_);refine Pm (wpAny_setField (G5 (x:=.none) (j:=0) hI 0 (rawInt nx)) rfl (by simp) ?_);have g:=Heap.get?_update_self (Obj.mapFields (·.setIfInBounds 1 (rawInt ((i:Int)+1)))) (G5 (x:=.none) (j:=0) hI 0 (rawInt nx)) rfl;refine Pn ⟨_,rfl,Pn (hQ _ ⟨_,g.trans ?_,O,hS.at λo q=>?_,λp z=>by cases z⟩ ((Py ..).trans (Py ..)))⟩
  ·rw[e1];rfl
  ·rw[((Py s.heap I _).trans (Py _ I _)).2 a nIa];exact q
 refine Xce hI hS (λsl e=>?_) (λp e=>?_) hO.cases0
 ·subst e;cases hO with
  | txt hw e=>
   cases e;have hi2:i<(pickOrder (w.params.setOrder a ep) es).size:=by simpa using hi
   refine Pm (Xcf hw hS ?_);rw[getElem?_pos _ i hi2];have ev:((pickOrder (w.params.setOrder a ep) es).toList.map (·.2))[i]=((pickOrder (w.params.setOrder a ep) es)[i]).2:=by simp
   have f:=λE'=>fin E' 0 (.txt hw rfl);rw[ev] at f;exact f _
  | drw p os _ _ e _=>cases e
  | one sl' hw hld h1 e hz ho=>
   cases e;obtain⟨_,_,_,_,hft⟩:=id hS;have hps:=Xch hft;have i0:i=0:=by
    have:i<es.size:=by rw[<-hl];exact hi
    omega
   subst i0;have z0:=hz rfl;subst z0;have he:0<es.size:=by rw[<-hl];exact hi
   have hpl:0<t.place.size:=by rw[hps];exact he
   refine Pm (Xcg hw hld h1 hS ?_);have b0:SetTable.below t.place ((0:Nat):Int).toNat=0:=Xis (by rw[hps];exact h1);rw[b0,getElem?_pos es 0 he,getElem?_pos t.place 0 hpl];have ev:(es.toList.map (·.2))[0]=(es[0]).2:=by simp
   have f:=λE'=>fin E' (t.place[0]+1) (.one (t.place[0]+1) hw hld h1 rfl (λz=>by cases z) (λj _ q=>by rw[getElem?_pos t.place 0 hpl] at q;cases q;rfl));rw[ev] at f;exact f _
 ·subst e;cases hO with
  | txt hw e=>cases e
  | one sl' hw hld h1 e hz ho=>cases e
  | drw p' os hw hp2 e htp=>
   cases e;obtain⟨n,htp⟩:=htp;have hil:i<os.length:=by simpa using hi
   have hos:os[i]<es.size:=Mo.mp (hp2.mem_iff.mp (Me hil));refine Pm (wpAny_seqItems htp rfl ?_);have g:((os.map λj=>Value.int (j:Nat) 0).toArray)[i]? = some (.int ((os[i]:Nat):Int) 0):=by simp[hil]
   dsimp only;rw[g];dsimp only;obtain⟨o,ho,hex,hd,hft⟩:=id hS;unfold setNextDrawn;refine Pm (Pm (wpAny_setState_of ho hd hft ?_));dsimp only;rw[Pp (by simp),show ((os[i]:Nat):Int).toNat=os[i] from Nc _,getElem?_pos es _ hos];refine Pn ?_;refine Pm (wpAny_setField hI rfl (by simp) ?_);have ev:(os.map λj=>((es[j]?).map (·.2)).getD Value.none)[i]=(es[os[i]]).2:=by simp[hos]
   have g2:=G5 (x:=.none) (j:=0) hI 1 (rawInt ((i:Int)+1));have nI2:p≠I:=nIp p (hp p rfl);have q:=hQ (s.heap.update I (Obj.mapFields (·.setIfInBounds 1 (rawInt ((i:Int)+1))))) ⟨_,g2.trans (by rw[e1];rfl),.drw p os hw hp2 rfl ⟨n,?_⟩,hS.at λo q=>?_,λp' z=>hp p' z⟩ (Py ..)
   ·rw[ev] at q;exact Pn ⟨_,rfl,Pn q⟩
   ·rw[(Py s.heap I _).2 p nI2];exact htp
   ·rw[(Py s.heap I _).2 a nIa];exact q
end
section
variable {P:Program}{w:World}{A:Around}{E:Value->Shared->Prop}{s:Shared}{I a:Addr}{es:Array (Int×Value)}{ep:Nat}{t:SetTable}{vs:List Value}{fp:Option Addr}
theorem Xci{α : Type}{h0:Heap}{Q : α->Shared->Prop}{E':Value->Shared->Prop}(hh:A.handled=none)
  (k:∀e h',(∀b o,s.heap.get? b=some o->h'.get? b=some o)->Shared.TypeIs {s with heap:=h'} e "StopIteration" -> E' e {s with heap:=h'}):
  wpAny (model P w) A (do raiseNew (<-newExc (.type "StopIteration") []):Sem α) Q E' s:=by
 refine Pm ?_;simp only[newExc,newTuple];refine Pm (wpAny_newObj_type ?_ (by size_fits));refine Pm (m:=firstArgMember _ _) (wpAny_of_eq (a:=Value.none) (by first | rfl | (simp only[firstArgMember];rfl)) ?_);refine wpAny_newObj_type ?_ (by size_fits);simp only[raiseNew];refine Pm (wpAny_handled ?_);rw[hh];refine Pm (Pn (wpAny_throw ?_));exact k _ _ (λb o q=>Px _ (Px _ q)) ⟨_,Heap.get?_push_size _ rfl,rfl⟩
theorem Xiv{Q:Option Value->Shared->Prop}(hh:A.handled=none)(st:ItS w I a es ep t vs fp vs.length s.heap)(hl:vs.length=es.size)
    (hQ:∀h',(∀b o,b≠I->s.heap.get? b=some o->h'.get? b=some o)->Q none {s with heap:=h'}):wpAny (model P w) A (pyNext (.ref I)) Q E s:=by
  obtain⟨f0,hI,hO,hS,hp⟩:=st;have hT:s.TypeIs (.ref I) "set_iterator" := ⟨_,hI,rfl⟩;unfold pyNext;refine Pm (wpAny_attempt (wpAny_callSpecial?_slot (name:=Str.ofString "__next__") hT SF.sNext (wpAny_call_entry SF.sNext hT SF.eNext ?_ (SF.aNext _))));have hh1:A.in1.handled=none:=hh;have stp:∀(e:Value) (h':Heap),(∀b o,b≠I->s.heap.get? b=some o->h'.get? b=some o)->Shared.TypeIs {s with heap:=h'} e "StopIteration" ->
      wpAny (model P w) A (do if <-isInstance e (.type "StopIteration") then pure none else throw e) Q E {s with heap:=h'}:=λe h' k ty=>
    Pm (wpAny_isInstance (T := "StopIteration") (b:=true) ty isSubtype_stop (Pn (hQ h' k)))
  have keep1:∀(f:Obj->Obj) b o,b≠I->s.heap.get? b=some o->(s.heap.update I f).get? b=some o:=λf b o nb q=>by
    rw[(Py s.heap I f).2 b nb];exact q
  have fin:∀(Q':PySem.Fin->Shared->Prop),wpAny (model P w) A.in1 (do
        setField (.ref I) 2 .none
        raiseNew (<-newExc (.type "StopIteration") [])) Q' (λe s'=>wpAny (model P w) A (do if <-isInstance e (.type "StopIteration") then pure none else throw e) Q E s') s:=λQ'=>by
    refine Pm (wpAny_setField hI rfl (by simp) ?_);refine Xci (h0:=s.heap) (s:={s with heap:=s.heap.update I (Obj.mapFields (·.setIfInBounds 2 Value.none))}) hh1 λe h' k ty=>?_;exact stp e h' (λb o nb q=>k b o (keep1 _ b o nb q)) ty
  refine Xce hI hS (λsl e=>?_) (λp e=>?_) hO.cases0
  . subst e;cases hO with
    | txt hw e=>
      cases e;refine Pm (Xcf hw hS ?_);rw[getElem?_neg _ _ (by simp)];exact fin _
    | drw p os _ _ e _=>cases e
    | one sl' hw hld h1 e hz ho=>
      cases e;obtain⟨_,_,_,_,hft⟩:=id hS;have hps:=Xch hft;refine Pm (Xcg hw hld h1 hS ?_);have hn:es[SetTable.below t.place ((sl':Nat):Int).toNat]? = none:=by
        rw[Nc];by_cases h0:es.size=0
        . exact getElem?_neg _ _ (by omega)
        . have e1:es.size=1:=by omega
          have hpl:0<t.place.size:=by rw[hps,e1];decide
          have:=ho t.place[0] (by rw[hl,e1]) (getElem?_pos t.place 0 hpl);rw[this,Xit (by rw[hps];exact h1) (getElem?_pos t.place 0 hpl)];exact getElem?_neg _ _ (by omega)
      rw[hn];exact fin _
  . subst e;cases hO with
    | txt hw e=>cases e
    | one sl' hw hld h1 e hz ho=>cases e
    | drw p' os hw hp2 e htp=>
      cases e;obtain⟨n,htp⟩:=htp;refine Pm (wpAny_seqItems htp rfl ?_);dsimp only;rw[getElem?_neg _ _ (by simp)];dsimp only;refine Pm (wpAny_setField hI rfl (by simp) ?_);refine Pm (wpAny_setField (G5 (x:=.none) (j:=0) hI 0 (rawInt 0)) rfl (by simp) ?_);refine Xci (h0:=s.heap) (s:={s with heap:=(s.heap.update I (Obj.mapFields (·.setIfInBounds 0 (rawInt 0)))).update I (Obj.mapFields (·.setIfInBounds 2 Value.none))}) hh1 λe h' k ty=>?_;refine stp e h' (λb o nb q=>k b o ?_) ty;show ((s.heap.update I _).update I _).get? b=some o;rw[(Py _ I _).2 b nb];exact keep1 _ b o nb q
end
namespace SF
theorem sSelf:Slot "set_iterator" "__iter__" "set_iterator.__iter__" := .of (owner := "set_iterator") (n := "__iter__") (by rw[typeLookup_type,builtinLookup_eq_fast];kernel_rfl) (by decide +kernel) (by decide +kernel) (by decide +kernel) (by first | exact .inl (by decide +kernel) | exact .inr (by decide +kernel)) (by rw[isSubtype_type];kernel_rfl)
theorem eSelf:entryFor table "set_iterator.__iter__" = some Builtin.«dict_keyiterator.__iter__»:=entryFor_alias (id' := "dict_keyiterator.__iter__") (by kernel_rfl) rfl (by decide +kernel) (by kernel_rfl)
theorem aSelf(a:Value):argsOk "set_iterator.__iter__" ⟨[a],[]⟩:=by unfold argsOk;kernel_rfl
end SF
section
variable {P:Program}{w:World}{A:Around}{E:Value->Shared->Prop}{s:Shared}{I a:Addr}{es:Array (Int×Value)}{ep:Nat}{t:SetTable}{vs:List Value}{fp:Option Addr}{ks:List Str}
theorem ItS.at{i:Nat}{h h':Heap}(x:ItS w I a es ep t vs fp i h)(k:∀b∈I::a::fp.toList,∀o,h.get? b=some o->h'.get? b=some o):ItS w I a es ep t vs fp i h':=by
 obtain⟨f0,h1,h2,h3,h4⟩:=x;refine⟨f0,k I (by simp) _ h1,?_,h3.at λo q=>k a (by simp) o q,h4⟩;cases h2 with
 | txt e1 e2=>exact .txt e1 e2
 | drw p os e1 e2 e3 e4=>
  obtain⟨n,e4⟩:=e4;exact .drw p os e1 e2 e3 ⟨n,k p (by rw[h4 p e3];simp) _ e4⟩
 | one sl e1 e2 e3 e4 e5 e6=>exact .one sl e1 e2 e3 e4 e5 e6
theorem Xiw(hh:A.handled=none)(hl:vs.length=es.size)(nIa:a≠I)(nIp:∀p,fp=some p->p≠I):Walks P w A I (I::a::fp.toList) [I] vs.length (λi v=>vs[i]? = some v) (ItS w I a es ep t vs fp) where
 sub:=λb hb=>by simp at hb;simp[hb]
 frame:=λ_ _ _ st hk=>st.at hk
 item:=λi s Q E hi st hQ=>by
  refine Xiu st hi hl nIa nIp λh' st' sb=>?_;exact hQ vs[i] h' s.toks (by simp[hi]) st' λb o hb e=>by rw[sb.2 b (λz=>hb (by simp[z]))];exact e
 done:=λs Q E st hQ=>Xiv hh st hl λh' k=>hQ h' s.toks λb o hb e=>k b o (λz=>hb (by simp[z])) e
 self:=λi s Q E st hQ=>by
  obtain⟨f0,h1,_⟩:=st;have hT:s.TypeIs (.ref I) "set_iterator" := ⟨_,h1,rfl⟩;refine wpAny_pyIter_slot hT SF.sSelf (wpAny_call_entry SF.sSelf hT SF.eSelf ?_ (SF.aSelf _));show wpAny _ _ (ret (.ref I)) _ _ s;exact Pn ⟨_,rfl, "set_iterator",_,hT,SF.sNext.lookup,hQ⟩
theorem Xix{r:Addr}{Q:Bool->Shared->Prop}(hT:s.TypeIs (.ref r) "set")(h:Q false s):wpAny (model P w) A (Builtin.List.listLengthHint (.ref r)) Q E s:=by
 unfold Builtin.List.listLengthHint;refine Pm (wpAny_specialOf hT PySem.F.slot_set_len.lookup ?_);generalize hid:("set.__len__" : String)=id0
 wp_delta
 rw[show splitId id0=some ("set", "__len__") from by subst hid;decide +kernel];subst hid;refine Pm (wpAny_isInstance (T := "set") (b:=true) hT (by rw[isSubtype_type];kernel_rfl) ?_);refine wpAny_ite_split (λz=>absurd z (by decide)) (λ_=>?_);refine wpAny_ite_split (λ_=>?_) (λz=>absurd (by decide +kernel) z);exact Pm (wpAny_typeOf hT (Pn h))
end
end L2
namespace L2
open PySem PySem.Spec PyProof.Rows PySem.Calls
section
variable {P:Program}{w:World}{A:Around}{E:Value->Shared->Prop}{s:Shared}{a:Addr}{ks:List Str}
theorem Xiy{R:Result->Shared->Prop}{S:Addr}{res:Value}{c0:Nat}(hh:A.handled=none)(hs:SSet P w s.heap a ks)(nS:S≠a)(gS:s.heap.get? S=some {cls:=.type "list",data:=.seq #[] c0})
  (hR:∀s' acc c vs ls,(∀b o,b≠S->s.heap.get? b=some o->s'.heap.get? b=some o)->s'.os=s.os->s'.gens=s.gens->s'.heap.get? S=some {cls:=.type "list",dict:=none,data:=.seq acc c,slots := #[]}->acc.toList=vs->StrsAre vs ls->ls.Perm ks->R (.ok (.ret res)) s'):
  wpAny (model P w) A.in1 (Builtin.List.listExtendWith (.ref S) (.ref a) res)
   (λfin s'=>match fin with | .done f=>R (.ok f) s' | .again c'=>c'.quiet=true/\codeAny (model P w) A c' R s') (λe s'=>R (.error e) s') s:=by
 obtain⟨o,es,ep,t,ls0,ho,hex,hd,hel,hst,hpm,hb,hf,hl,hpl⟩:=id hs;have hT:s.TypeIs (.ref a) "set" := ⟨o,ho,hex.1⟩;have la:=Pw ho;have lS:=Pw gS;unfold Builtin.List.listExtendWith;refine Pm (wpAny_typeOf (T := "set") hT ?_);have n1:Builtin.List.listSameRef (.ref S) (.ref a)=false:=by simp[Builtin.List.listSameRef,nS]
 have n2:(Value.type "set" == Value.type "list")=false:=by decide
 have n3:(Value.type "set" == Value.type "tuple")=false:=by decide
 simp only[n1,n2,n3,Pi,Md,if_false];refine Pm (Xir ⟨o,ho,hex,hd,hf⟩ hb hl hpl λf0 vs h1 d k1 z1 z2 kp O pv=>?_);have hvl:vs.length=es.size:=by rw[pv.length_eq,Li,Lp]
 have nI:∀b,b<h1.objs.size->b≠h1.objs.size:=λb q=>Lr q;have kI:∀b o,s.heap.get? b=some o->(h1.push (itO f0 0 a es.size ep)).get? b=some o:=λb o q=>Px _ (k1 b o q);obtain⟨fp,hfp⟩:∃fp:Option Addr,(∀p,f0 = .ref p->fp=some p)/\∀p,fp=some p->p≠h1.objs.size/\p≠S:=by
  cases f0 with
  | ref p=>
   refine⟨some p,⟨λq e=>(by cases e;rfl),λq e=>?_⟩⟩;cases e;refine⟨Lr (kp p rfl),λz=>?_⟩;subst z;cases O with
   | drw p' os _ _ e ht=>
    cases e;obtain⟨n,ht⟩:=ht;rw[kI _ _ gS] at ht;have hc:=congrArg Obj.cls (Lq ht);exact absurd hc (by simp)
   | txt _ e=>cases e
   | one _ _ _ _ e _ _=>cases e
  | _=>exact⟨none,⟨λq e=>(by cases e),λq e=>(by cases e)⟩⟩
 have st0:ItS w h1.objs.size a es ep t vs fp 0 (h1.push (itO f0 0 a es.size ep)):=⟨f0,Heap.get?_push_size _ rfl,O,⟨o,kI _ _ ho,hex,hd,hf⟩,hfp.1⟩;have W:=Xiw (P:=P) (w:=w) (A:=A.in1) (I:=h1.objs.size) (a:=a) (es:=es) (ep:=ep) (t:=t) (vs:=vs) (fp:=fp) hh hvl (Lr (L5 la z2)) (λp e=>(hfp.2 p e).1);have nSf:S∉h1.objs.size::a::fp.toList:=by
  simp only[Lw,not_or];refine⟨Lr (L5 lS z2),nS,λz=>?_⟩;cases hfq:fp with
  | none=>rw[hfq] at z;simp at z
  | some p=>
   rw[hfq] at z;have:S=p:=by simpa using z
   exact(hfp.2 p hfq).2 this.symm
 have key:∀(h:Heap) (c1:Nat),ItS w h1.objs.size a es ep t vs fp 0 h->(∀b o,b≠S->s.heap.get? b=some o->h.get? b=some o)->h.get? S=some {cls:=.type "list",data:=.seq #[] c1} ->
   codeAny (model P w) A (.builtin "list.extend.loop" ⟨[.ref S,.ref h1.objs.size,res],[]⟩) R {s with heap:=h,drawn:=d}:=by
  intro h c1 hst1 hk gS1;refine codeAny_extend_loopS W.toS (by rw[hvl];exact fits_of_scanBound hb) S nSf res vs.length 0 _ #[] c1 rfl (Mt _) hst1 gS1 (ItemsOf.nil _) λs' acc c hm gS' hacc=>?_;have hav:acc.toList=vs:=by
   apply List.ext_getElem?;intro i;by_cases hi:i<vs.length
   ·have hi2:i<acc.size:=by rw[hacc.1];exact hi
    have:=hacc.2 i acc[i] (getElem?_pos acc i hi2);rw[this];simp[hi2]
   ·rw[Oa (by rw[Lp,hacc.1];omega),Oa (by omega)]
  have hls:StrsAre vs (vs.map strOf):=strsAre_map vs λv hv=>hst.all v (pv.mem_iff.mp hv);refine hR s' acc c vs (vs.map strOf) (λb o nb q=>hm.heap b o (λz=>?_) (hk b o nb q)) hm.os hm.gens gS' hav hls ?_
  ·rcases Lw.mp z with z | z
   ·exact nb z
   ·exact absurd (L5 (Pw q) z2) (by rw[Ly.mp z];exact Mg _)
  ·have:=pv.map strOf;rw[hst.strs] at this;exact this.trans hpm
 have gS1:=kI _ _ gS;have hT1:Shared.TypeIs {s with heap:=h1.push (itO f0 0 a es.size ep),drawn:=d} (.ref a) "set" := ⟨o,kI _ _ ho,hex.1⟩;refine Pm (wpAny_holding (Xix hT1 ?_));refine wpAny_ite_split (λ_=>?_) (λ_=>Pn ⟨plainId_quiet PySem.F.plain_extend_loop _,key _ c0 st0 (λb o _ q=>kI b o q) gS1⟩);refine Pm (wpAny_rule (Pm ?_));show wpAny _ _ (updateSeq S (·.push .none) >>= λ_=>updateSeq S (·.pop)) _ _ _;refine Pm (wpAny_updateSeq gS1 rfl ?_);have gS2:=Heap.get?_update_self (Obj.mapSeq (·.push Value.none)) gS1 rfl;refine wpAny_updateSeq (hz:=by seq_fits) gS2 rfl ?_;have gS3:=Heap.get?_update_self (Obj.mapSeq (·.pop)) gS2 rfl;have other:∀b,b≠S->(((h1.push (itO f0 0 a es.size ep)).update S (Obj.mapSeq (·.push Value.none))).update S (Obj.mapSeq (·.pop))).get? b=(h1.push (itO f0 0 a es.size ep)).get? b:=λb nb=>
  (Heap.get?_update_other _ _ (Ne.symm nb)).trans (Heap.get?_update_other _ _ (Ne.symm nb))
 refine Pn ⟨plainId_quiet PySem.F.plain_extend_loop _,key _ _ (st0.at λb hb2 o q=>?_) (λb o nb q=>?_) gS3⟩
 ·rw[other b (λz=>nSf (z ▸ hb2))];exact q
 ·rw[other b nb];exact kI b o q
theorem Xiz{R:List Value->Shared->Prop}(hh:A.handled=none)(hs:SSet P w s.heap a ks)
    (h:∀s' vs ls,(∀b o,s.heap.get? b=some o->s'.heap.get? b=some o)->s'.os=s.os->s'.gens=s.gens->StrsAre vs ls->ls.Perm ks->R vs s'):wpAny (model P w) A (collect (.ref a)) R E s:=by
  have la:a<s.heap.objs.size:=by obtain⟨o,_,_,_,_,g,_⟩:=hs;exact Pw g
  unfold collect;refine Pm (wpAny_runValue (codeAny_builtin entry_proto_collect' ?_));rw[Around.under_plainId PySem.F.plain_proto_collect _];show wpAny _ A.in1 (newList [] >>= λl=>again (.builtin "list.__iadd__" ⟨[l,Value.ref a],[]⟩)) _ _ s;refine Pm (wpAny_newObj_type ?_);refine Pn ⟨plainId_quiet PySem.F.plain_list_iadd _,codeAny_builtin entry_list_iadd' ?_⟩;rw[Around.under_plainId PySem.F.plain_list_iadd _];have gS:(s.heap.push {cls:=.type "list",data:=.seq ([]:List Value).toArray}).get? s.heap.objs.size=some {cls:=.type "list",data:=.seq #[] 0}:=Heap.get?_push_size _ rfl;show wpAny _ A.in1 (Builtin.List.listExtendWith (.ref s.heap.objs.size) (.ref a) (.ref s.heap.objs.size)) _ _ _;have key:=Xiy (A:=A) (s:={s with heap:=s.heap.push {cls:=.type "list",data:=.seq ([]:List Value).toArray} }) (S:=s.heap.objs.size) (res:=.ref s.heap.objs.size)
    (R:=λq s'=>∃acc c vs ls,q = .ok (.ret (.ref s.heap.objs.size))/\(∀b o,s.heap.get? b=some o->s'.heap.get? b=some o)/\s'.os=s.os/\s'.gens=s.gens/\s'.heap.get? s.heap.objs.size=some {cls:=.type "list",dict:=none,data:=.seq acc c,slots := #[]}/\acc.toList=vs/\StrsAre vs ls/\ls.Perm ks)
    hh (hs.stay λo q=>Px _ q) (Oy la) gS (λs' acc c vs ls k e1 e2 g e3 e4 e5=>⟨acc,c,vs,ls,rfl,λb o q=>k b o (Lr (Pw q)) (Px _ q),e1,e2,g,e3,e4,e5⟩)
  have done:∀(q:Result) (s':Shared),(∃acc c vs ls,q = .ok (.ret (.ref s.heap.objs.size))/\(∀b o,s.heap.get? b=some o->s'.heap.get? b=some o)/\s'.os=s.os/\s'.gens=s.gens/\s'.heap.get? s.heap.objs.size=some {cls:=.type "list",dict:=none,data:=.seq acc c,slots := #[]}/\acc.toList=vs/\StrsAre vs ls/\ls.Perm ks) ->
      wants (λv s2=>wpAny (model P w) A (match v with
        | .ref l=>(do match (<-load l).data with
                        | .seq xs _=>pure xs.toList
                        | _=>unsupported "internal:collect")
        | _=>unsupported "internal:collect") R E s2) E q s':=λq s' ⟨acc,c,vs,ls,e0,k,e1,e2,g,e3,e4,e5⟩=>by
    subst e0;show wpAny _ A (load s.heap.objs.size >>= _) _ _ s';refine Pm (wpAny_load g ?_);refine Pn ?_;rw[e3];exact h s' vs ls k e1 e2 e4 e5
  refine wpAny_mono key (λfin s' x=>?_) λe s' x=>?_
  . cases fin with
    | done f=>exact done _ _ x
    | again c1=>exact⟨x.1,codeAny_mono x.2 λq s2 y=>done q s2 y⟩
  . obtain⟨_,_,_,_,e',_⟩:=x;cases e'
end
section
variable {X:Cx}{pins:List (Addr×Obj)}{σ:St}{H:Hp}{s s':Shared}
theorem Inv.moved(I:Inv X pins σ H s)(k:∀b u,s.heap.get? b=some u->s'.heap.get? b=some u)(ho:s'.os=s.os)(hg:s'.gens=s.gens):Inv X pins σ H s':=by
 have J:=I.kept (h':=s'.heap) (t':=s'.toks) k;exact⟨J.ok,ho.trans I.os,by rw[hg];exact I.bare,J.base,J.loc,J.cell,J.free,J.freeC,J.pin,J.hok,J.len⟩
theorem Inv.laidM{a:Addr}{o:HO}(I:Inv X pins σ H s)(k:∀b u,s.heap.get? b=some u->s'.heap.get? b=some u)(ho:s'.os=s.os)(hg:s'.gens=s.gens)(hp:s.heap.objs.size<=a)(new:Ar X.prog X.w (upd H a o) s'.heap a o):Inv X pins σ (upd H a o) s':=by
 have J:=I.laid (h':=s'.heap) (t':=s'.toks) k hp new;exact⟨J.ok,ho.trans I.os,by rw[hg];exact I.bare,J.base,J.loc,J.cell,J.free,J.freeC,J.pin,J.hok,J.len⟩
end
section
variable {P:Program}{w:World}{A:Around}{E:Value->Shared->Prop}{s:Shared}{ks:List Str}
theorem J1{r:Addr}{Q:Value->Shared->Prop}(h64:ks.length<64)
  (hc:∀(R:List Value->Shared->Prop),(∀s' vs ls,(∀b o,s.heap.get? b=some o->s'.heap.get? b=some o)->s'.os=s.os->s'.gens=s.gens->StrsAre vs ls->ls.Perm ks->R vs s')->wpAny (model P w) A.in1 (collect (.ref r)) R E s)
  (h:∀(s1 s':Shared) (vs:List Value) (ls:List Str) (e:Nat),(∀b o,s.heap.get? b=some o->s1.heap.get? b=some o)->s1.os=s.os->s1.gens=s.gens->(∀b o,s1.heap.get? b=some o->s'.heap.get? b=some o)->s'.os=s1.os->s'.gens=s1.gens->s'.heap.get? s1.heap.objs.size=some (seqObj "list" vs.toArray e)->StrsAre vs ls->ls.Perm ks->sortedS ls=true->Q (.ref s1.heap.objs.size) s'):
  wpAny (model P w) A (call (.builtin "sorted") [.ref r]) Q E s:=by
 refine Calls.call_function_entry kind_sorted plain_sorted entry_sorted (args_sorted1 _) ?_;unfold Builtin.«sorted»;refine Pm (m:=checkCount "sorted" 1 1 _) (Pn ?_);refine Pm (hc _ λs1 vs ls k1 o1 g1 st p=>?_);have hl:vs.length<64:=by rw[st.length,p.length_eq];exact h64
 refine Pm (wpAny_newList ?_ (by rw[Po];omega));have gL:(s1.heap.push (seqObj "list" vs.toArray 0)).get? s1.heap.objs.size=some (seqObj "list" vs.toArray 0):=Heap.get?_push_size _ rfl;refine Pm (wpAny_holding (wpAny_call_entry (s:={s1 with heap:=s1.heap.push (seqObj "list" vs.toArray 0)}) slot_list_sort ⟨_,gL,rfl⟩ entry_list_sort (list_sort_treeK strKind_oneLt gL st.keysOf (λa b rest e=>keyKind_strs (by rw[<-e];exact st)) hl λst' pp so=>⟨_,rfl,?_⟩) (args_list_sort _)));obtain⟨ls',a1,a2,a3⟩:=sorted_out_str st pp so;obtain⟨e,he⟩:=sortedHeap_at (out:=(arrOf st').map (·.2)) gL;refine Pn ⟨_,rfl,h s1 _ ((arrOf st').map (·.2)).toList ls' e k1 o1 g1 (λb o q=>?_) rfl rfl he a1 (a2.trans p) a3⟩;have lt:=Pw q;show (sortedHeap (s1.heap.push (seqObj "list" vs.toArray 0)) s1.heap.objs.size vs ((arrOf st').map (·.2))).get? b=some o;rw[sortedHeap_old (Lr lt) (by rw[size_push'];exact Ny lt)];exact Px _ q
end
def Dt (P:Program) (w:World) (a:Addr) (ks:List Str):HO:=.ext λh=>SSet P w h a ks
theorem Xcj{ss:List Str}{vs:List Value}(h:StrsAre vs ss):Vals (ss.map V.str) vs:=by
 induction h with
 | nil=>exact .nil
 | cons x t _ ih=>exact .cons ⟨t,rfl⟩ ih
theorem F7:∀{ss:List Str} {vs:List Value},Vals (ss.map V.str) vs->StrsAre vs ss
 | [],_,r=>by cases r;exact .nil
 | x::ss,_,r=>by
  cases r with
  | cons r1 r2=>
   obtain⟨t,rfl⟩:=r1;exact .cons x t (F7 r2)
section
variable {X:Cx}
theorem F8:X.calm=true->Bh X (.type "set") (λxs H Q=>∃p ss,xs=[.ref p]/\(SqL X.K H p (ss.map V.str)\/SqT X.K H p (ss.map V.str))/\ss.length+1<scanBound/\∀a,H a=none->Q (.ref a) (upd H a (Dt X.prog X.w a (ddup ss)))):=by
 intro hcalm pins s σ H xs us Q I r h;obtain⟨p,ss,rfl,hq,hb,q⟩:=h;obtain⟨u,rfl,rx⟩:=B4 r;cases rx;obtain⟨its,r',src⟩:∃its:List Value,Vals (ss.map V.str) its/\Src s.heap p its.toArray:=by
  rcases hq with hq | hq
  ·obtain⟨its,r',pl,_⟩:=I.list hq;exact⟨its,r',.lst pl.isList⟩
  ·obtain⟨its,r',pl,_⟩:=I.tuple hq;exact⟨its,r',.tup pl⟩
 refine Xin (I.ok.hd hcalm) src (F7 r') hb λh' tk S k=>?_;refine⟨.ref s.heap.objs.size,_,I.laidM (s':={s with heap:=h',toks:=tk}) k rfl rfl (Lk _) ?_,rfl,q _ (I.hok.fresh (Lk _))⟩;exact⟨S,by obtain⟨o,_,_,_,_,g,_⟩:=S;exact⟨o,g⟩,λh1 h2 S1 kk=>S1.stay kk⟩
theorem J2{pins:List (Addr×Obj)}{σ:St}{H:Hp}{s s1 s':Shared}{Q:VK}{vs:List Value}{ls ks:List Str}{e:Nat}(I:Inv X pins σ H s)(h64:ks.length<64)(k1:∀b o,s.heap.get? b=some o->s1.heap.get? b=some o)(o1:s1.os=s.os)(g1:s1.gens=s.gens)
  (k2:∀b o,s1.heap.get? b=some o->s'.heap.get? b=some o) (o2:s'.os=s1.os) (g2:s'.gens=s1.gens) (he:s'.heap.get? s1.heap.objs.size=some (seqObj "list" vs.toArray e)) (st:StrsAre vs ls) (p:ls.Perm ks)
  (q:∀l,H l=none->Q (.ref l) (upd H l (.lst (ls.map V.str)))):EP X pins σ Q (.ref s1.heap.objs.size) s':=by
 have I1:=I.moved k1 o1 g1;refine⟨.ref s1.heap.objs.size,_,I1.laidM k2 o2 g2 (Lk _) (show Ar X.prog X.w _ s'.heap _ (.lst (ls.map V.str)) from ⟨?_,vs,e,Xcj st,he⟩),rfl,q _ (I1.hok.fresh (Lk _))⟩;rw[Li,p.length_eq,Po];omega
theorem G6:X.calm=true->Bh X (.builtin "sorted") (λxs H Q=>∃a ks,xs=[.ref a]/\H a=some (Dt X.prog X.w a ks)/\ks.length<64/\∀l ls,H l=none->ls.Perm ks->sortedS ls=true->Q (.ref l) (upd H l (.lst (ls.map V.str)))):=by
 intro hcalm pins s σ H xs us Q I r h;obtain⟨a,ks,rfl,ha,h64,q⟩:=h;obtain⟨u,rfl,rx⟩:=B4 r;cases rx;obtain⟨S,_⟩:=(show Ar X.prog X.w H s.heap a (.ext λh=>SSet X.prog X.w h a ks) from I.hok a _ ha);refine J1 h64 (λR k=>Xiz (by show X.A.in1.handled=none;simp[I.ok.hd hcalm]) S k) λs1 s' vs ls e k1 o1 g1 k2 o2 g2 he st p so=>?_;exact J2 I h64 k1 o1 g1 k2 o2 g2 he st p λl hl=>q l ls hl p so
end
theorem Inv.turned2{X:Cx}{pins:List (Addr×Obj)}{σ:St}{H:Hp}{s:Shared}{h':Heap}{t':Nat}{e1 e2:Addr}(I:Inv X pins σ H s)(k:∀b o,b≠e1->b≠e2->s.heap.get? b=some o->h'.get? b=some o)(f1:FpOk X pins H e1)(f2:FpOk X pins H e2):Inv X pins σ H {s with heap:=h',toks:=t'}:=by
 have no:∀b u,H b=some u->b≠e1/\b≠e2:=λb u q=>⟨λz=>(by rw[z,f1.1] at q;cases q),λz=>(by rw[z,f2.1] at q;cases q)⟩;have nn:∀b,b∉[e1,e2]->b≠e1/\b≠e2:=λb hb=>by simpa using hb
 refine I.step (g':=s.gens) (d':=s.drawn) (ch:=[e1,e2]) (λb hb=>?_) (λb o _ _ hc q _=>k b o (nn b hc).1 (nn b hc).2 q) (λb o _ _ hc q _=>⟨o.slots,k b o (nn b hc).1 (nn b hc).2 q⟩) (λ_ _ _ _ n=>n) (λb o hc q=>⟨o,k b o (nn b hc).1 (nn b hc).2 q⟩) (λ_ _ q=>q) (λ_ _ _ q=>q) (λb ps q=>⟨#[],by rw[q];simp⟩) (λm hm=>?_) (λb u q=>?_) I.bare
 ·have hb':b=e1\/b=e2:=by simpa using hb
  rcases hb' with z | z
  ·subst z;exact⟨f1.2.2.2.1,f1.2.1,f1.2.2.2.2.1,f1.2.2.2.2.2⟩
  ·subst z;exact⟨f2.2.2.2.1,f2.2.1,f2.2.2.2.2.1,f2.2.2.2.2.2⟩
 ·obtain⟨o,es,ep,ho,r⟩:=hm;exact⟨o,es,ep,k _ o (Ne.symm f1.2.1) (Ne.symm f2.2.1) ho,r⟩
 ·refine(I.hok b u q).stay (λc v hc z=>k c v ?_ ?_ z) (λ_ z=>z) λ_ _ z=>z
  ·rcases hc with y | y
   ·rw[y];exact(no b u q).1
   ·exact(no c _ y).1
  ·rcases hc with y | y
   ·rw[y];exact(no b u q).2
   ·exact(no c _ y).2
def Ite (K:PySem.W.Frag) (a:Addr):It:=
 ⟨λi H=>∃xs x,SqL K H a xs/\xs[i]? = some x,λi H x H'=>∃tp,x = .ref tp/\H tp=none/\∀xs,SqL K H a xs->∃y,xs[i]? = some y/\H'=upd H tp (.tup [.int i,y]),λi H=>∃xs,SqL K H a xs/\xs.length<=i⟩
theorem Xi0{P:Program}{w:World}{K:PySem.W.Frag}{es:List Expr}{k:Nat}{p:Pos}(a e it:Addr)(ne:e≠it):Turn P w K (.Tuple es k p) (Ite K a) [e,it] e (λi h=>(∃old,IsEnum h e it i old)/\h.IsListIter it a i) where
 mem:=by simp
 obj:=λi h st b hb=>by
  have hb':b=e\/b=it:=by simpa using hb
  rcases hb' with z | z
  ·subst z;obtain⟨⟨old,q⟩,_⟩:=st;exact⟨_,q,λv z=>by
    have z':Data.fields _=Data.cell v:=z;cases z'⟩
  ·subst z;obtain⟨o,q,c,d⟩:=st.2;exact⟨o,q,λv z=>by rw[d] at z;cases z⟩
 keep:=λi h h' st k=>by
  obtain⟨⟨old,q⟩,l⟩:=st;exact⟨⟨old,k e (by simp) _ q⟩,l.at λo z=>k it (by simp) o z⟩
 item:=by
  intro X hP hw hK hc i pins s σ H E I hf st hg;subst hP hw hK;obtain⟨xs,x,hq,hx⟩:=hg;obtain⟨its,rv,pl,hz⟩:=I.list hq;obtain⟨u,hu,ru⟩:=rv.get hx;have f1:=hf e (by simp);have f2:=hf it (by simp);obtain⟨⟨old,q⟩,l⟩:=st;refine wpAny_pyNext_enum_item q l pl.isList (x:=u) (by simpa using hu) ne λh' qo l' tp sz kk=>?_;have I1:Inv X pins σ H {s with heap:=h',toks:=s.toks+1}:=I.turned2 kk f1 f2;refine⟨_,rfl,?_⟩;have le:e<s.heap.objs.size:=Pw q;obtain⟨ol,hol,_⟩:=id l;have lit:it<s.heap.objs.size:=Pw hol;unfold letOwnedTupleGo;refine Pm (wpAny_load qo ?_);dsimp only;rw[Pq (by simp[rawInt])];refine Pm (wpAny_rule ?_);show wpAny _ _ (setField (.ref e) 0 .none) _ _ _;refine wpAny_setField qo rfl (by simp) ?_;have g:=Heap.get?_update_self (Obj.mapFields (·.setIfInBounds 0 Value.none)) qo rfl;have sb:=Py h' e (Obj.mapFields (·.setIfInBounds 0 Value.none));have I2:Inv X pins σ (upd H s.heap.objs.size (.tup [.int i,x])) {s with heap:=h'.update e (Obj.mapFields (·.setIfInBounds 0 Value.none)),toks:=s.toks+1}:=by
   have J:=I.laid (a:=s.heap.objs.size) (o:=.tup [.int i,x]) (h':=s.heap.push {cls:=.type "tuple",data:=.seq #[.int i s.toks,u]}) (t':=s.toks+1) (λb o z=>Px _ z) (Lk _) (show Ar X.prog X.w _ _ _ (.tup [.int i,x]) from ⟨by show 2<=sizeLine;decide,[.int i s.toks,u],.cons ⟨_,rfl⟩ (.cons ru .nil),IsTup.new _ _⟩);have g1:FpOk X pins (upd H s.heap.objs.size (.tup [.int i,x])) e:=⟨by rw[Af (Lr le)];exact f1.1,f1.2⟩;have g2:FpOk X pins (upd H s.heap.objs.size (.tup [.int i,x])) it:=⟨by rw[Af (Lr lit)];exact f2.1,f2.2⟩;refine J.turned2 (λb o n1 n2 z=>?_) g1 g2;show (h'.update e _).get? b=some o;rw[sb.2 b n1];by_cases hb:b=s.heap.objs.size
   ·subst hb;have z':(s.heap.push {cls:=.type "tuple",data:=.seq #[.int i s.toks,u]}).get? s.heap.objs.size=some o:=z;rw[Heap.get?_push_size _ rfl] at z';cases z';exact tp
   ·have z':(s.heap.push {cls:=.type "tuple",data:=.seq #[.int i s.toks,u]}).get? b=some o:=z;rw[Heap.get?_push_ne _ _ _ hb] at z';exact kk b o n1 n2 z'
  refine⟨.ref s.heap.objs.size,_,I2,rfl,⟨_,rfl,I.hok.fresh (Lk _),λys hy=>⟨x,by rw[I.list_inj hy hq];exact hx,rfl⟩⟩,⟨⟨u,g.trans ?_⟩,l'.at λo z=>?_⟩,λb hb=>?_⟩
  ·rfl
  ·rw[sb.2 it (Ne.symm ne)];exact z
  ·have hb':b=e\/b=it:=by simpa using hb
   rcases hb' with z | z
   ·subst z;rw[Af (Lr le)];exact f1.1
   ·subst z;rw[Af (Lr lit)];exact f2.1
 done:=by
  intro X hP hw hK hc i pins s σ H E I hf st hg;subst hP hw hK;obtain⟨xs,hq,hx⟩:=hg;obtain⟨its,rv,pl,hz⟩:=I.list hq;have hl:=rv.length;have f2:=hf it (by simp);obtain⟨⟨old,q⟩,l⟩:=st;exact wpAny_pyNext_enum_end (I.ok.hd hc) q l pl.isList (by simp;omega) λh' eb=>⟨rfl,I.turned (t':=s.toks) (λb o hb z=>eb b o hb z) f2.1 f2.2.1 f2.2.2.2.1 f2.2.2.2.2.1 f2.2.2.2.2.2⟩
 self:=λ_ _ _ _ _ st h=>by
  obtain⟨⟨old,q⟩,_⟩:=st;exact wpAny_pyIter_enum q h
def Xi1 (K:PySem.W.Frag) (ta:TA):TI:=fun σ H R=>ta σ H λvs H1=>∃a,vs=[.ref a]/\(∃xs,SqL K H1 a xs)/\R (Ite K a) H1
theorem Xck{X:Cx}{es:List Expr}{k:Nat}{p2:Pos}{l:Expr}{ta:TA}{p pos:Pos}(hg:Gl X "enumerate")(hm:X.mg "enumerate" = none)(ha:PA X [l] ta)(hs:starEach [l] X.env=[(false,eval l X.env)]:=by rfl):PI X (.Tuple es k p2) (.Call (.Name "enumerate" p) [l] [] pos) (Xi1 X.K ta):=by
 intro pins s σ H R I h;refine Call_ (Fj I hg hm (show bootBuiltins "enumerate" = some (.type "enumerate") by decide +kernel) (PyProof.Rows.callWith_type1 (thn (ha pos pins s σ H _ I h) λus s1 ⟨vs,H1,I1,r1,q1⟩=>?_) hs rfl));obtain⟨a,e,⟨xs,hq⟩,q⟩:=q1;subst e;cases r1 with
 | cons r rr=>
  cases rr;cases r;obtain⟨its,rv,pl,hz⟩:=I1.list hq;refine call_enumerate_list pl.isList λh' qe ql sz kk=>?_;refine wpAny_pyIter_enum qe ?_;have I2:Inv X pins σ H1 {s1 with heap:=h'}:=I1.kept (t':=s1.toks) kk;refine⟨_,[s1.heap.objs.size+1,s1.heap.objs.size],_,_,H1,rfl,I2,Xi0 a _ _ (Nat.succ_ne_self _),⟨⟨_,qe⟩,ql⟩,λb hb=>?_,q⟩;have hb':b=s1.heap.objs.size+1\/b=s1.heap.objs.size:=by simpa using hb
  rcases hb' with z | z
  ·subst z;exact I1.fpOk (Nl _) (I1.hok.fresh (Nl _))
  ·subst z;exact I1.fpOk (Lk _) (I1.hok.fresh (Lk _))
section
variable {X:Cx}{es:List Expr}{t:St->Hp->(Hp->Prop)->Prop}{e:Expr}{te:TE}{pos:Pos}
def Xi2 (te:TE) (t:St->Hp->(Hp->Prop)->Prop):St->Hp->(Hp->Prop)->Prop:=fun σ H Q=>te σ H λx H1=>∃z,x = .str z/\z.length<=400/\(∀c∈z.cps.toList,c<16 ^ 8)/\t σ H1 Q
theorem Xcl{p:Pos}(ha:PE X e te)(h:PJ X es t)(he:evalEach (.FormattedValue e 114 none p::es) X.env=eval (.FormattedValue e 114 none p) X.env::evalEach es X.env:=by rfl):PJ X (.FormattedValue e 114 none p::es) (Xi2 te t):=by
 intro out pins s σ H Q I hw hl;rw[he];rw[L4] at hl;refine joinParts_cons (wpAny_FormattedValue_repr (thn (ha pins s σ H _ I hw) λv s1 ⟨x,H1,I1,r1,q1⟩=>?_));obtain⟨z,ez,h1,h2,q⟩:=q1;subst ez;obtain⟨tk,rfl⟩:=r1;have hz:=StrLaws.reprText_len z h2;have hz2:(reprText z).length<=sizeLine:=by rw[Po];omega
 refine wpAny_pyReprObj_str ?_ hz2;refine formatField_str (λt' k=>⟨by rw[Ee];omega,?_⟩) hz2;exact h _ pins _ σ H1 Q ((I1.tok _).tok _) q (by rw[Ee];omega)
theorem Xcm:∀(ss:List Str) (l:List Value),l.length=ss.length->(∀i (hi:i<ss.length),∃t,l[i]? = some (.str ss[i] t))->StrsAre l ss
 | [],l,e,_=>by rw[M6.mp e];exact .nil
 | y::ys,[],e,_=>by cases e
 | y::ys,v::vs,e,each=>by
  obtain⟨t,q⟩:=each 0 (by simp);have:v = .str y t:=by simpa using q
  subst this;refine .cons y t (Xcm ys vs (by simpa using e) λi hi=>?_);obtain⟨t',e'⟩:=each (i+1) (by simpa using hi);exact⟨t',by simpa using e'⟩
theorem Xcn:X.calm=true->Bh X (.builtin "sorted") (λxs H Q=>∃d kvs ss,xs=[.ref d]/\Rd H d (.dK kvs)/\kvs.map (·.1)=ss.map (λx=>(Sum.inr x:Key))/\ss.length<64/\∀l ls,H l=none->ls.Perm ss->sortedS ls=true->Q (.ref l) (upd H l (.lst (ls.map V.str)))):=by
 intro hcalm pins s σ H xs us Q I r h;obtain⟨d,kvs,ss,rfl,hd,hk,h64,q⟩:=h;obtain⟨u,rfl,rx⟩:=B4 r;cases rx;obtain⟨hz,hm,vs,rv,o,es,ep,ho,hex,hdd,hr⟩:=Eb I.hok hd;have hkl:kvs.length=ss.length:=by have:=congrArg List.length hk;simpa using this
 have hvl:vs.length=ss.length:=by rw[<-hkl];exact(Paired.length rv).symm
 have hvk:vs.map (·.1)=ss.map (λx=>(Sum.inr x:Key)):=by rw[<-hk];exact rv.keys.symm
 have each:∀acc:Array Value,ItemsOf (λi v=>∃k x,vs[i]? = some (k,x)/\(Bc X.prog X.w).is k v=true) acc vs.length->StrsAre acc.toList ss:=λacc hacc=>by
  refine Xcm ss _ (by rw[Lp,hacc.1,hvl]) λi hi=>?_;have hi2:i<acc.size:=by rw[hacc.1,hvl];exact hi
  obtain⟨k',x,hx,his⟩:=hacc.2 i acc[i] (getElem?_pos acc i hi2);have hk':k'=Sum.inr ss[i]:=by
   have:=congrArg (λl=>l[i]?) hvk;simp only[Lz,hx,Nk,Lm hi] at this;exact Lq this
  subst hk';obtain⟨t,e⟩:=Value.isStrOf_shape his;exact⟨t,by rw[O0,getElem?_pos acc i hi2,e]⟩
 refine J1 h64 (λR kR=>PySem.W.kdu_collect (PySem.W.kdl_dict (knd:=Bc X.prog X.w) (kvs:=vs) (ep:=ep) hm) (by show X.A.in1.handled=none;simp[I.ok.hd hcalm]) ⟨o,es,ho,hex,hdd,hr⟩ (by rw[hvl,Po];omega) (λh' tk acc kk hacc=>kR {s with heap:=h',toks:=tk} acc.toList ss kk rfl rfl (each acc hacc) (M0 _)))
  λs1 s' vs ls e k1 o1 g1 k2 o2 g2 he st p so=>J2 I h64 k1 o1 g1 k2 o2 g2 he st p λl hl=>q l ls hl p so
def rSlS:V->Option Int->Option Int->Hp->VK->Prop:=λx lo hi H Q=>∃z,x = .str z/\lo=none/\(∃j,hi=some j)/\z.length<=1000/\Q (.str (Txt.slice z lo hi)) H
theorem Xi3:SlR X rSlS:=by
 intro pins s σ H x v vl vu lo hi sl Q I rx hs pl pu h;obtain⟨z,rfl,rfl,⟨j,rfl⟩,hz,q⟩:=h;obtain⟨tz,rfl⟩:=rx;cases pl;cases pu;rename_i tu;refine⟨"str",_,PySem.F.slot_str_getitem.lookup,typeIs_str _ _ _,wpAny_getItem_str_slice (l:=none) (u:=some (j,tu)) (st:=none) hs rfl (post_val_or_str ⟨?_,λt' k=>?_⟩)⟩
 ·exact Mj (Txt.slice_le z none (some j)) (by rw[Po];omega)
 ·exact⟨.str (Txt.slice z none (some j)),H,I.tok _,⟨t',rfl⟩,q⟩
end
end L2
set_option maxHeartbeats 4000000
namespace L2
open PySem PySem.Spec PyProof.Rows
def leS (x y:Str):Prop:=x.cps.toList<=y.cps.toList
theorem Xi4{x y:Str}(h:x.cps.toList=y.cps.toList):x=y:=by
 obtain⟨⟨a⟩⟩:=x;obtain⟨⟨b⟩⟩:=y;have:a=b:=h;rw[this]
theorem Xco{x y:Str}(h:leS x y)(g:leS y x):x=y:=Xi4 (List.le_antisymm h g)
theorem Xcp{x y z:Str}(h:leS x y)(g:leS y z):leS x z:=List.le_trans h g
theorem Xcq(x y:Str):leS x y\/leS y x:=List.le_total _ _
def ltS (x y:Str):Prop:=x.cps.toList<y.cps.toList
instance (x y:Str):Decidable (ltS x y):=inferInstanceAs (Decidable (x.cps.toList<y.cps.toList))
instance (x y:Str):Decidable (leS x y):=inferInstanceAs (Decidable (x.cps.toList<=y.cps.toList))
theorem J3(x:Str):¬ltS x x:=List.lt_irrefl _
theorem Xcr{x y z:Str}(h:ltS x y)(g:ltS y z):ltS x z:=List.lt_trans h g
theorem J4{x y:Str}:¬ltS x y↔leS y x:=List.not_lt
theorem Ey{x y:Str}(h:leS x y)(n:x≠y):ltS x y:=by
 by_cases q:ltS x y
 ·exact q
 ·exact absurd (Xco h (J4.mp q)) n
theorem Xi5{x y:Str}(h:ltS x y):leS x y:=List.le_of_lt h
theorem Xi6{x y:Str}(h:ltS x y):x≠y:=λe=>J3 y (e ▸ h)
theorem Xcs:∀(l:List Str) (p:Str),risingS p l=true->(p::l).Pairwise leS
 | [],p,_=>by simp
 | x::r,p,h=>by
  have h':(!ltCps x.cps.toList p.cps.toList&&risingS x r)=true:=h;rw[Lv,ltCps_eq] at h';have ih:=Xcs r x h'.2;have hpx:leS p x:=by
   have:=h'.1;simp only[Ot,decide_eq_false_iff_not] at this;exact this
  refine Nv.mpr ⟨λy hy=>?_,ih⟩;rcases Lw.mp hy with e | e
  ·rw[e];exact hpx
  ·exact Xcp hpx ((Nv.mp ih).1 y e)
theorem Xct:∀(l:List Str),sortedS l=true->l.Pairwise leS
 | [],_=>by simp
 | x::r,h=>Xcs r x h
theorem Ef:∀{a b:List Str},a.Perm b->a.Pairwise leS->b.Pairwise leS->a=b
 | [],b,p,_,_=>by rw[List.nil_perm.mp p]
 | x::a,[],p,_,_=>by have:=p.length_eq;simp at this
 | x::a,y::b,p,ha,hb=>by
  obtain⟨a1,a2⟩:=Nv.mp ha;obtain⟨b1,b2⟩:=Nv.mp hb;have e:x=y:=by
   have hx:x∈y::b:=p.mem_iff.mp Lo;have hy:y∈x::a:=p.mem_iff.mpr Lo;rcases Lw.mp hx with e | hx
   ·exact e
   ·rcases Lw.mp hy with e | hy
    ·exact e.symm
    ·exact Xco (a1 y hy) (b1 x hx)
  subst e;rw[Ef (List.Perm.cons_inv p) a2 b2]
def srt (l:List Str):List Str:=l.mergeSort λx y=>decide (leS x y)
theorem Ce(l:List Str):(srt l).Perm l:=List.mergeSort_perm ..
theorem Db(l:List Str):(srt l).Pairwise leS:=by
 have h:=List.pairwise_mergeSort (le:=λx y=>decide (leS x y)) (λa b c h1 h2=>Pr (Xcp (Pt h1) (Pt h2)))
  (λa b=>by rcases Xcq a b with h | h<;>simp[h]) l
 exact h.imp λh=>Pt h
theorem Ez{ls ks:List Str}(p:ls.Perm ks)(h:sortedS ls=true):ls=srt ks:=Ef (p.trans (Ce ks).symm) (Xct _ h) (Db _)
theorem Xcu{a b:List Str}(p:a.Perm b):srt a=srt b:=Ef ((Ce a).trans (p.trans (Ce b).symm)) (Db _) (Db _)
theorem E1{l:List Str}{x:Str}:x∈srt l↔x∈l:=(Ce l).mem_iff
def dit (row:List Str):List Str:=srt (ddup row)
theorem Ax{row:List Str}{x:Str}:x∈dit row↔x∈row:=E1.trans (Jz row x)
theorem G7(row:List Str):(dit row).Nodup:=(Ce _).nodup_iff.mpr (F5 row)
theorem G8(row:List Str):(dit row).Pairwise ltS:=by
 have h1:=Db (ddup row);have h2:(dit row).Pairwise (· ≠ ·):=G7 row;exact(h1.and h2).imp λh=>Ey h.1 h.2
theorem F9(row:List Str):(dit row).length<=row.length:=by
 have:=(Ce (ddup row)).length_eq;have h:=F6 row;unfold dit;omega
theorem Ga{a b:List Str}(ha:a.Nodup)(hb:b.Nodup)(h:∀x,x∈a↔x∈b):a.Perm b:=(List.perm_ext_iff_of_nodup ha hb).mpr h
theorem Xcv{ls row ks:List Str}(p:ls.Perm ks)(h:sortedS ls=true)(nd:ks.Nodup)(m:∀x,x∈ks↔x∈row):ls=dit row:=
 Ef (p.trans ((Ga nd (F5 row) λx=>(m x).trans (Jz row x).symm).trans (Ce _).symm)) (Xct _ h) (Db _)
structure Fn (P:Program) (w:World) (K:PySem.W.Frag) (mg:Str->Option Value) (base:Heap) (CX:CXT) (k:Nat) (x:Str) (ps:List Str) (sp:Sp):Prop where
 ex:∃f fd,mg x=some (.ref f)/\PySem.W.keepIn K (.ref f)=true/\Binds K fd ps []/\FnOk P w K mg base CX k f fd ps sp
section
variable {X:Cx}{CX:CXT}{k:Nat}{ps:List Str}{sp:Sp}{E:XK}{x:Str}{p pos:Pos}{e:Expr}{es:List Expr}{t:TA}
theorem Ai(F:Fn X.prog X.w X.K X.mg X.base CX k x ps sp)(hr:Room k X.A)(hg:Gl X x)(hx:Passes CX X E)
  (ha:PA X (e::es) t) (hdb:(x==("__debug__" : Str))=false:=by decide) (he:starEach (e::es) X.env=(false,eval e X.env)::starEach es X.env:=by rfl) (hpl:(backTo pos (starEach es X.env)).any (·.1)=false:=by rfl):
  PE X (.Call (.Name x p) (e::es) [] pos) (Ja sp [] E t):=by
 obtain⟨f,fd,hm,hk,hb,hF⟩:=F.ex;exact Xgm hF hr hg hm hk hb .nil hx ha hdb he hpl
theorem Xi7{st:Stmt}{rest:List Stmt}{D:Ends}{σ:St}{H:Hp}(P:St->Hp->Prop)(h2:∃u,PSs X rest u/\∀σ' H',P σ' H'->u D σ' H')
  (h1:∀nx,(∀σ' H',P σ' H'->nx σ' H')->∃t,PS X st t/\t {D with nx:=nx} σ H):∃t,PSs X (st::rest) t/\t D σ H:=by
 obtain⟨u,hu,ru⟩:=h2;obtain⟨t,ht,rt⟩:=h1 (u D) ru;exact⟨Fm t u,Ad ht hu,rt⟩
end
theorem Ao{c:Bool}{A B:Prop}(h1:c=true->A)(h2:c=false->B):if c=true then A else B:=by
 cases c with
 | true=>exact iteT (h1 rfl)
 | false=>exact Bg (h2 rfl)
theorem Same.upd{H H':Hp}{a:Addr}{o:HO}(s:Same H H')(h:H a=none):Same H (upd H' a o):=λb u e=>by
 rw[Af (Aq e h)];exact s b u e
theorem ku{H:Hp}{b p:Addr}{o u:HO}(h:H b=some o)(hp:H p=none):upd H p u b=some o:=by
 rw[Af (Aq h hp)];exact h
theorem Same.step{H H1:Hp}{p:Addr}{o:HO}(s:Same H H1)(hp:H1 p=none):Same H (L2.upd H1 p o):=s.upd (s.free hp)
theorem Same.go{H H1:Hp}{p q:Addr}{o:HO}(s:Same H H1)(hp:H1 p=none)(hq:L2.upd H1 p o q=none):Same H (L2.upd H1 p o):=s.step hp
theorem E2{α : Type}(f : α->V)(xs:List α)(b:Nat)(hb:b<=xs.length):Bj (xs.map f) none (some (b:Int))=(xs.take b).map f:=by
 unfold Bj;rw[HT.sIx_none,Pg,HT.sIx_nat,Li,Pj,Nat.sub_zero,N0 hb]
theorem E3{α : Type}(f : α->V)(xs:List α)(a:Nat)(ha:a<=xs.length):Bj (xs.map f) (some (a:Int)) none=(xs.drop a).map f:=by
 unfold Bj;rw[HT.sIx_none,HT.sIx_nat,Li,N0 ha,Pk];exact Nb (by rw[Na,Li];omega)
theorem Xi8{α : Type}(f : α->V)(xs:List α)(a b:Nat)(hab:a<=b)(hb:b<=xs.length):Bj (xs.map f) (some (a:Int)) (some (b:Int))=((xs.drop a).take (b - a)).map f:=by
 unfold Bj;rw[HT.sIx_nat,HT.sIx_nat,Li,N0 hb,N0 (Mj hab hb),Pj,Pk]
def Xcw (fsc:Scope) (fN N:List Str) (cap:List (Option Nat)) (scope:Scope):Bool:=
 (scope.names.all λy=>decide (scope.names.lookup y.1=some y.2)) &&
 (scope.names.all λy=>decide (y.2 ≠ .free)||decide (fsc.names.lookup y.1=some .cell)||decide (fsc.names.lookup y.1=some .free))&&decide (cap.length=N.length) &&
 ((List.range N.length).all λi=>match cap[i]?,N[i]? with
  | some (some j),some x=>decide (fN[j]? = some x)&&decide (scope.names.lookup x=some .free)
  | _,_=>true)
theorem CompScope.of{X:Cx}{N:List Str}{cap:List (Option Nat)}{scope:Scope}(fsc:Scope)(fN:List Str)(h1:X.env.scope=fsc)(h2:X.N=fN)(hk:scope.kind = .function)(h:Xcw fsc fN N cap scope=true):CompScope X N cap scope:=by
 unfold Xcw at h;simp only[Lv,L9,Bool.or_eq_true,decide_eq_true_eq] at h;obtain⟨⟨⟨a1,a3⟩,a4⟩,a5⟩:=h;refine⟨hk,a1,λy hy e=>?_,a4,λi x j hN hc=>?_⟩
 ·show X.env.scope.names.lookup y.1=some .cell\/X.env.scope.names.lookup y.1=some .free;rw[h1];rcases a3 y hy with (z | z) | z
  ·exact absurd e z
  ·exact .inl z
  ·exact .inr z
 ·have hi:i<N.length:=(L3.mp hN).1;have q:=a5 i (Mo.mpr hi);rw[hc,hN] at q;simp only[Lv,decide_eq_true_eq] at q;rw[h2];exact q
section
variable {X:Cx}
theorem Xi9(K:PySem.W.Frag)(h:X.K=K):Bh X (.builtin "isinstance") (λxs H Q=>∃x c t cv b,xs=[x,c]/\TyOf K H x t/\G0 c=some cv/\PySem.W.kitOne K t cv=some b/\Q (.bl b) H):=by subst h;exact Xb4
theorem Xja{cap:List (Option Nat)}{te:TE}{J:It}{σ:St}{H1:Hp}{F:Addr->Hp->Prop}{j:Nat}(n:Nat)(vs:Nat->V)(Pv:Addr->Nat->St->Hp->Prop)
  (h0:∀D,H1 D=none->Pv D 0 (Bo cap σ) (upd H1 D (.lst [])))
  (hgo:∀D i σ2 H2,H1 D=none->i<n->Pv D i σ2 H2->J.go i H2/\∀x H3,J.yld i H2 x H3->H3=H2/\x=vs i)
  (hst:∀D σ2 H2,H1 D=none->Pv D n σ2 H2->J.stop n H2)
  (step:∀D i σ1 H2,H1 D=none->i<n->Pv D i σ1 H2->te (σ1.set j (some (vs i))) H2 λy H6=>∃ys,H6 D=some (.lst ys)/\ys.length<sizeLine/\∃m',m'<n - i/\wN n (Pv D) (i+1) m' (σ1.set j (some (vs i))) (upd H6 D (.lst (ys++[y]))))
  (hd:∀D σ2 H2,H1 D=none->Pv D n σ2 H2->F D H2):Ed cap (Az j) Ev te J σ H1 F:=
 G1 n vs Pv h0 hgo hst (λD i σ1 H2 a b c=>by
  show if true=true then te (σ1.set j (some (vs i))) H2 (λy H6=>∃ys,H6 D=some (.lst ys)/\ys.length<sizeLine/\∃m',m'<n - i/\wN n (Pv D) (i+1) m' (σ1.set j (some (vs i))) (upd H6 D (.lst (ys++[y])))) else ∃m',m'<n - i/\wN n (Pv D) (i+1) m' (σ1.set j (some (vs i))) H2
  rw[Pq rfl];exact step D i σ1 H2 a b c) hd
theorem Dc(K:PySem.W.Frag)(h:X.K=K):IxR X (Jf K):=by subst h;exact Fs
theorem Xcx(K:PySem.W.Frag)(h:X.K=K):OpR X (compareOp .In) (rIn K false):=by subst h;exact Jg
end
theorem J5{cap:List (Option Nat)}{tt:TT}{te:TE}{J:It}{σ:St}{H1:Hp}{F:Addr->Hp->Prop}{j:Nat}(n:Nat)(hn:n<sizeLine)(vs:Nat->V)(ok:Nat->Bool)(ys:Nat->V)
  (hgo:∀i H2,i<n->Same H1 H2->J.go i H2/\∀x H3,J.yld i H2 x H3->H3=H2/\x=vs i)
  (hst:∀H2,Same H1 H2->J.stop n H2)
  (tst:∀i H2 Q,i<n->Same H1 H2->(∀H',Same H2 H'->Q (ok i) H')->tt ((Bo cap σ).set j (some (vs i))) H2 Q)
  (step:∀i H2 Q,i<n->ok i=true->Same H1 H2->(∀H',Same H2 H'->Q (ys i) H')->te ((Bo cap σ).set j (some (vs i))) H2 Q)
  (hd:∀D H2,H1 D=none->Same H1 H2->H2 D=some (.lst (((List.range n).filter ok).map ys))->F D H2):Ed cap (Az j) tt te J σ H1 F:=by
 refine G1 n vs (λD i σ2 H2=>(∀v, σ2.set j v=(Bo cap σ).set j v)/\Same H1 H2/\H2 D=some (.lst (((List.range i).filter ok).map ys))) ?_ ?_ ?_ ?_ ?_
 ·intro D hD;exact⟨λ_=>rfl,(Same.refl H1).step hD,Ac⟩
 ·rintro D i σ2 H2 hD hi ⟨_,s2,_⟩;exact hgo i H2 hi s2
 ·rintro D σ2 H2 hD ⟨_,s2,_⟩;exact hst H2 s2
 ·rintro D i σ2 H2 hD hi ⟨e,s2,hb⟩;show tt (σ2.set j (some (vs i))) H2 _;rw[e];refine tst i H2 _ hi s2 λH3 s3=>?_;have s13:=s2.trans s3;have hb3:=s3 _ _ hb;have hss:∀v,((Bo cap σ).set j (some (vs i))).set j v=(Bo cap σ).set j v:=λv=>by rw[Pl]
  have hl:(((List.range i).filter ok).map ys).length<=i:=by
   rw[Li];exact Mj (M5 ..) (by rw[M4];omega)
  refine Ao (λhk=>?_) (λhk=>?_)
  ·refine step i H3 _ hi hk s13 λH4 s4=>?_;refine wput hi (s4 _ _ hb3) (by omega) ⟨hss,λb u e'=>?_,?_⟩
   ·rw[Af (Aq e' hD)];exact s4 _ _ (s13 b u e')
   ·rw[Ac,Mw,L6,Lx];simp[hk]
  ·refine wskip hi ⟨hss,s13,?_⟩;rw[hb3,Mw,L6,Lx];simp[hk]
 ·rintro D σ2 H2 hD ⟨_,s2,hb⟩;exact hd D H2 hD s2 hb
theorem Xcy{cap:List (Option Nat)}{te:TE}{J:It}{σ:St}{H1:Hp}{F:Addr->Hp->Prop}{j:Nat}(n:Nat)(hn:n<sizeLine)(vs:Nat->V)(ys:Nat->V)
  (hgo:∀i H2,i<n->Same H1 H2->J.go i H2/\∀x H3,J.yld i H2 x H3->H3=H2/\x=vs i)
  (hst:∀H2,Same H1 H2->J.stop n H2)
  (step:∀i H2 Q,i<n->Same H1 H2->(∀H',Same H2 H'->Q (ys i) H')->te ((Bo cap σ).set j (some (vs i))) H2 Q)
  (hd:∀D H2,H1 D=none->Same H1 H2->H2 D=some (.lst ((List.range n).map ys))->F D H2):Ed cap (Az j) Ev te J σ H1 F:=
 J5 n hn vs (λ_=>true) ys hgo hst (λi H2 Q _ _ k=>k H2 (Same.refl _)) (λi H2 Q hi _ s k=>step i H2 Q hi s k) λD H2 hD s e=>hd D H2 hD s (by rw[e,Mx.mpr (λ_ _=>rfl)])
theorem Xjb{X:Cx}:Passes (CX1 X.prog X.w) X E0:=λ_ _ _ _ _ _ _ h=>by
 obtain⟨_,_,_,_,_,_,_,_,_,h⟩:=h;exact h.elim
structure DefAt (K:PySem.W.Frag) (x:Str) (st:Stmt):Prop where
 ex:∃f fd,PySem.W.nsIn K mainGlobals x=some (some (.ref f))/\PySem.W.keepIn K (.ref f)=true/\Fun K x x st f fd
theorem DefAt.of{K:PySem.W.Frag}{x:Str}{st:Stmt}{f:Addr}{oc:Value}{od an:Option Addr}{osl:Array (Option Value)}{kV doc pm cdv ct:Value}(a:PySem.W.nsIn K mainGlobals x=some (some (.ref f)))
  (l:K.lookup f=some ⟨oc,od,.func (PySem.W.fnOf x x (Ec st) (Cu st) (defScope st) .none kV doc pm an cdv ct),osl⟩) (c:PySem.W.codeIn K cdv x=true) (k:PySem.W.keepIn K (.ref f)=true):DefAt K x st:=
 ⟨⟨f,_,a,k,Xbm l c k⟩⟩
theorem Fn.of{P:Program}{w:World}{K:PySem.W.Frag}{h:Heap}{mg:Str->Option Value}{base:Heap}{CX:CXT}{k:Nat}{x:Str}{st:Stmt}{ps:List Str}{sp:Sp}(X:K.In h)(G:h.Ns mainGlobals mg)(D:DefAt K x st)
  (hb:∀(kV doc pm:Value) (an:Option Addr) (cdv ct:Value) (us:List Value),us.length=ps.length->bindArgs (PySem.W.fnOf x x (Ec st) (Cu st) (defScope st) .none kV doc pm an cdv ct) ⟨us,[]⟩=pure (ps.zip us))
  (ok:∀f fd,Fun K x x st f fd->FnOk P w K mg base CX k f fd ps sp):Fn P w K mg base CX k x ps sp:=by
 obtain⟨f,fd,a,hk,F⟩:=D.ex;exact⟨⟨f,fd,PySem.W.mg_of X G a,hk,F.binds hb,ok f fd F⟩⟩
structure ExcAt (K:PySem.W.Frag) (x:Str) (C:Addr):Prop where
 a:PySem.W.nsIn K mainGlobals x=some (some (.ref C))
 e:PySem.W.excIn K C bmV "ValueError.__new__" = true
 ga:PySem.W.findIn K (.ref C) "__getattribute__" = some (some (.builtin "BaseException.__getattribute__"))
 gn:PySem.W.findIn K (.ref C) "__getattr__" = some none
 cl:PySem.W.findIn K (.ref C) "__class__" = some (some (.builtin "object.__class__"))
 sb:PySem.W.subIn K (.ref C) (.type "BaseException")=some true
 so:PySem.W.subIn K (.ref C) (.type "object")=some true
 sv:PySem.W.subIn K (.ref C) (.type "ValueError")=some true
 ss:PySem.W.subIn K (.ref C) (.ref C)=some true
 ic:PySem.W.isClsIn K C=true
 ty:PySem.W.typeIn K (.ref C)=some (.type "type")
section
variable {K:PySem.W.Frag}{x:Str}{C:Addr}
theorem J6{t:Value}{S:Addr}{b:Bool}(ic:PySem.W.isClsIn K S=true)(ty:PySem.W.typeIn K (.ref S)=some (.type "type"))(h:PySem.W.subIn K t (.ref S)=some b):PySem.W.kitCls K t (.ref S)=some b:=by
 unfold PySem.W.kitCls;have ic':(PySem.W.clsIn K S).isSome=true:=ic;simp only[ic',ty];exact h
theorem J7{S:Addr}{b:Bool}(ne:C≠S)(ic:PySem.W.isClsIn K S=true)(ty:PySem.W.typeIn K (.ref S)=some (.type "type"))(h:PySem.W.subIn K (.ref C) (.ref S)=some b):PySem.W.kitOne K (.ref C) (.ref S)=some b:=by
 unfold PySem.W.kitOne;rw[Pp (λz=>ne (Value.ref.inj (beq_iff_eq.mp z)))];exact J6 ic ty h
theorem ExcAt.self(E:ExcAt K x C):PySem.W.exmOne K (.ref C) (.ref C)=some true:=by
 unfold PySem.W.exmOne;rw[E.sb,Pq (by decide)];exact J6 E.ic E.ty E.ss
end
structure ClsAt (K:PySem.W.Frag) (x:Str) (C:Addr):Prop where
 a:PySem.W.nsIn K mainGlobals x=some (some (.ref C))
 ic:PySem.W.isClsIn K C=true
 ty:PySem.W.typeIn K (.ref C)=some (.type "type")
theorem Dd(x:Str)(row:List Str):inV (.str x) (row.map V.str)=decide (x∈row):=by
 unfold inV;rw[Mz,N4,decide_eq_true_eq];constructor
 ·rintro ⟨y,hy,e⟩;obtain⟨z,hz,rfl⟩:=Mf.mp hy;have:z=x:=by simpa [eqV] using e
  rw[<-this];exact hz
 ·intro hx;exact⟨.str x,Mf.mpr ⟨x,hx,rfl⟩,by simp[eqV]⟩
theorem De(row:List Str):(row.map V.str).all B1=true:=by
 rw[L9];intro v h;obtain⟨x,_,rfl⟩:=Mf.mp h;rfl
theorem Xjc{K:PySem.W.Frag}{cap:List (Option Nat)}{tt:TT}{te:TE}{a:Addr}{xs:List V}{σ:St}{H1:Hp}{F:Addr->Hp->Prop}{p q:Nat}(hpq:p≠q)(hS:SqL K H1 a xs)(hn:xs.length<sizeLine)(ok:Nat->Bool)(ys:Nat->V)
  (tst:∀(i:Nat) x H2 Q,xs[i]? = some x->Same H1 H2->(∀H',Same H2 H'->Q (ok i) H')->tt (((Bo cap σ).set p (some (.int i))).set q (some x)) H2 Q)
  (step:∀(i:Nat) x H2 Q,xs[i]? = some x->ok i=true->Same H1 H2->(∀H',Same H2 H'->Q (ys i) H')->te (((Bo cap σ).set p (some (.int i))).set q (some x)) H2 Q)
  (hd:∀D H2,H1 D=none->Same H1 H2->H2 D=some (.lst (((List.range xs.length).filter ok).map ys))->F D H2):Ed cap (Ip K 2 (Io (Az p) (Io (Az q) Xaf))) tt te (Ite K a) σ H1 F:=by
 intro D hD;refine⟨wN xs.length λi σ2 H2=>(∀u v,(σ2.set p u).set q v=((Bo cap σ).set p u).set q v)/\Same H1 H2/\H2 D=some (.lst (((List.range i).filter ok).map ys)),⟨xs.length,by simp,Mt _,λ_ _=>rfl,(Same.refl H1).step hD,Ac⟩,?_⟩;rintro i m σ1 H2 ⟨rfl,hi,e,s2,hb⟩;have hS2:SqL K H2 a xs:=s2.seq hS;by_cases hlt:i<xs.length
 ·have hx:xs[i]? = some xs[i]:=Lm hlt;refine .inr ⟨⟨xs,xs[i],hS2,hx⟩,?_⟩;rintro x H3 ⟨tp,rfl,ht,hy⟩;obtain⟨y,hy1,rfl⟩:=hy xs hS2;rw[hx] at hy1;cases hy1;refine⟨tp,_,rfl,SqT.of Ac,rfl,_,_,rfl,_,_,rfl,rfl,?_⟩;have s3:Same H1 (upd H2 tp (.tup [.int i,xs[i]])):=s2.step ht;have hb3:upd H2 tp (.tup [.int i,xs[i]]) D=some (.lst (((List.range i).filter ok).map ys)):=ku hb ht;rw[e];refine tst i _ _ _ hx s3 λH4 s4=>?_;have s14:=s3.trans s4;have hb4:=s4 _ _ hb3;have hss:∀u v,(((((Bo cap σ).set p (some (.int i))).set q (some xs[i])).set p u).set q v)=((Bo cap σ).set p u).set q v:=λu v=>by
   rw[List.set_comm _ _ (Ne.symm hpq),Pl,Pl]
  have hl:(((List.range i).filter ok).map ys).length<=i:=by
   rw[Li];exact Mj (M5 ..) (by rw[M4];omega)
  refine Ao (λhk=>?_) (λhk=>?_)
  ·refine step i _ H4 _ hx hk s14 λH5 s5=>?_;refine wput hlt (s5 _ _ hb4) (by omega) ⟨hss,λb u e'=>?_,?_⟩
   ·rw[Af (Aq e' hD)];exact s5 _ _ (s14 b u e')
   ·rw[Ac,Mw,L6,Lx];simp[hk]
  ·refine wskip hlt ⟨hss,s14,?_⟩;rw[hb4,Mw,L6,Lx];simp[hk]
 ·have ei:i=xs.length:=by omega
  subst ei;exact .inl ⟨⟨xs,hS2,Lk _⟩,hd D H2 hD s2 hb⟩
theorem J8{X:Cx}{pos:Pos}{es:List Expr}{k:Nat}{t:TGs}(K:PySem.W.Frag)(n:Nat)(hK:X.K=K)(hc:X.calm=true)(h:PGs X es t)
  (hn:(assignEach es X.env).length=n:=by rfl) (hst:(assignEach es X.env).findIdx? (·.1)=none:=by rfl):PG X (.Tuple es k pos) (Ip K n t):=by
 subst hK;exact Xag hc h hn hst
theorem Gb{α : Type}(d : α)(p : α->Bool):∀(xs:List α),((List.range xs.length).filter λi=>p (xs.getD i d)).map (λi=>xs.getD i d)=xs.filter p:=by
 intro xs;have go:∀n,n<=xs.length->((List.range n).filter λi=>p (xs.getD i d)).map (λi=>xs.getD i d)=(xs.take n).filter p:=by
  intro n
  induction n with
  | zero=>intro _;rfl
  | succ n ih=>
   intro h;have hn:n<xs.length:=by omega
   have e:xs.getD n d=xs[n]:=by simp[List.getD,hn]
   rw[Mw,L6,Lx,ih (by omega),L7 hn,L6,Mi,Mi,e];split
   ·simp[hn]
   ·simp
 rw[go _ (Lk _),Mp]
abbrev TM:=St->Hp->(St->Hp->Prop)->Prop
def PM (X:Cx) (m:Sem Unit) (t:TM):Prop:=∀(pins:List (Addr×Obj)) (s:Shared) (σ:St) (H:Hp) (Q:St->Hp->Prop),Inv X pins σ H s->t σ H Q ->
 wpAny (model X.prog X.w) X.A m (λ_ s'=>∃σ' H',Inv X pins σ' H' s'/\Q σ' H') X.xe s
def Df (e:Expr) (d:Nat) (tg iter:Expr) (ifs:List Expr) (act:Sem Unit) (it acc:Value) (env:Env):Sem Fin:=do
 standAt iter.pos
 match <-pyNext it with
 | none=>pure (.done .next)
 | some v=>
  letOwnedTupleGo tg it v
  assign tg env v
  let mut ok:=true
  for c in ifs do
   if ok then ok <-isTrue c env (eval c env)
  if ok then act
  again (.compLoop e d it acc env)
structure Cm (e:Expr):Prop where
 den1 : ∀ (P : Program) (w : World) (d : Nat) (it acc : Value) (env : Env), (model P w).den (.compLoop e d it acc env) = (compTurn e d it acc env).onRaise (fun x => do noteFrame x env; theTreesLotGoes x)
 den2 : ∀ (P : Program) (w : World) (d : Nat) (it acc : Value) (env : Env), (model P w).den (.compStart e d it acc env) = (compStart e d it acc env).onRaise (fun x => do noteFrame x env; standAt theWindowsPlace)
 und1:∀(A:Around) (d:Nat) (it acc:Value) (env:Env),A.under (.compLoop e d it acc env)=A
 und2:∀(A:Around) (d:Nat) (it acc:Value) (env:Env),A.under (.compStart e d it acc env)=A
theorem G9{elt:Expr}{gs:List Comprehension}{sc:Scope}{p:Pos}:Cm (.ListComp elt gs sc p):=⟨λ_ _ _ _ _ _=>rfl,λ_ _ _ _ _ _=>rfl,λ_ _ _ _ _=>rfl,λ_ _ _ _ _=>rfl⟩
theorem Xjd{k v:Expr}{gs:List Comprehension}{sc:Scope}{p:Pos}:Cm (.DictComp k v gs sc p):=⟨λ_ _ _ _ _ _=>rfl,λ_ _ _ _ _ _=>rfl,λ_ _ _ _ _=>rfl,λ_ _ _ _ _=>rfl⟩
def tLp (g:TG) (tt:TT) (tm:TM) (J:It) (σ:St) (H1:Hp) (F:St->Hp->Prop):Prop:=
 ∃W:Nat->Nat->St->Hp->Prop,(∃m,W 0 m σ H1)/\∀i m σ1 H2,W i m σ1 H2 ->
  (J.stop i H2/\F σ1 H2)\/(J.go i H2/\∀x H3,J.yld i H2 x H3->g x σ1 H3 fun σ2 H4=>tt σ2 H4 λb H5=>
   if b=true then tm σ2 H5 fun σ3 H6=>∃m',m'<m/\W (i+1) m' σ3 H6 else ∃m',m'<m/\W (i+1) m' σ2 H5)
section
variable {Y:Cx}{e tg iter:Expr}{d:Nat}{ifs:List Expr}{act:Sem Unit}{acc:Value}{g:TG}{tt:TT}{tm:TM}{pins:List (Addr×Obj)}{σ:St}{H:Hp}{s:Shared}{J:It}{fp:List Addr}{it:Addr}{tn:Nat->Heap->Prop}{F:St->Hp->Prop}{R:Result->Shared->Prop}
theorem Xcz(cm:Cm e)(hx:Y.xe=λ_ _=>False)(hc:Y.calm=true)(eq:compTurn e d (.ref it) acc Y.env=Df e d tg iter ifs act (.ref it) acc Y.env)(hg:PG Y tg g)(ht:PIfs Y ifs tt)(hm:PM Y act tm)
  (I:Inv Y pins σ H s) (T:Turn Y.prog Y.w Y.K tg J fp it tn) (h0:tn 0 s.heap) (hf:∀b∈fp,FpOk Y pins H b) (hb:tLp g tt tm J σ H F) (fin:∀σ' H' s',Inv Y pins σ' H' s'->F σ' H'->R (.ok .next) s'):
  codeAny (model Y.prog Y.w) Y.A (.compLoop e d (.ref it) acc Y.env) R s:=by
 obtain⟨W,⟨m0,w0⟩,turn⟩:=hb;have stat:∀{H':Hp},(∀b∈fp,H' b=none)->∀b∈fp,FpOk Y pins H' b:=λhn b hb=>⟨hn b hb,(hf b hb).2⟩;refine codeAny_loop rfl (λn s'=>∃i σ1 H2,Inv Y pins σ1 H2 s'/\tn i s'.heap/\(∀b∈fp,H2 b=none)/\W i n σ1 H2) (λn s' hI=>?_) m0 ⟨0, σ,H,I,h0,λb hb=>(hf b hb).1,w0⟩;obtain⟨i, σ1,H2,I',st',fr',w'⟩:=hI;rw[cm.den1,cm.und1];refine wpAny_noted ?_;rw[eq];have no:∀{α : Type} {t:Sem α} {Q : α->Shared->Prop} {E':Value->Shared->Prop} {s₁ : Shared},wpAny (model Y.prog Y.w) Y.A t Q Y.xe s₁->wpAny (model Y.prog Y.w) Y.A t Q E' s₁:=λh=>wpAny_mono h (λ_ _ q=>q) λ_ _ z=>by rw[hx] at z;exact z.elim
 unfold Df;rcases turn i n σ1 H2 w' with ⟨stop,q⟩ | ⟨go,step⟩
 ·refine Pm (wpAny_standAt (Pm (thn (T.done Y rfl rfl rfl hc i pins s' σ1 H2 _ I' (stat fr') st' stop) λr s1 ⟨hr,I1⟩=>?_)));subst hr;exact Pn (fin σ1 H2 s1 I1 q)
 ·refine Pm (wpAny_standAt (Pm (thn (T.item Y rfl rfl rfl hc i pins s' σ1 H2 _ I' (stat fr') st' go) λr s1 ⟨u,hr,h4⟩=>?_)));subst hr;refine Pm (thn h4 λ_ s5 ⟨x,H5,I5,r5,y5,st5,fr5⟩=>?_);have I5':=I5.pinned (stat fr5) (T.obj _ _ st5);refine Pm (thn (no (hg _ s5 σ1 H5 x u _ I5' r5 (step x H5 y5))) λ_ s6 ⟨σ6,H6,I6,q6⟩=>?_);refine Pm (thn (no (ht _ s6 σ6 H6 _ I6 q6)) λb s7 ⟨H7,I7,q7⟩=>?_);have again:∀{s8:Shared} {σ8:St} {H8:Hp},Inv Y (pins++Fq fp s5.heap) σ8 H8 s8->(∃m',m'<n/\W (i+1) m' σ8 H8)->∃m,m<n/\∃i σ1 H2,Inv Y pins σ1 H2 s8/\tn i s8.heap/\(∀b∈fp,H2 b=none)/\W i m σ1 H2:=λ{s8 σ8 H8} I8 ⟨m',hm,w8⟩=>by
   refine⟨m',hm,i+1, σ8,H8,I8.unpinned,T.keep _ _ _ st5 λb hb o e=>(I8.pin (b,o) (Mm _ (Mm _ (Gu hb e)))).1,λb hb=>?_,w8⟩;obtain⟨o,e,d⟩:=T.obj _ _ st5 b hb;exact(I8.pin (b,o) (Mm _ (Mm _ (Gu hb e)))).2.1
  cases b with
  | false=>
   rw[Pp Lu] at q7;exact Pn ⟨rfl,again I7 q7⟩
  | true=>
   rw[Pq rfl] at q7;exact Pm (thn (no (hm _ s7 σ6 H7 _ I7 q7)) λ_ s8 ⟨σ8,H8,I8,q8⟩=>Pn ⟨rfl,again I8 q8⟩)
theorem Xc0{prog:Program}{w:World}{A:Around}{env:Env}{itv:Value}{cl:Comprehension}(cm:Cm e)(hcl:(clausesOf e)[d]? = some cl)(has:cl.is_async=0)
  (h0:codeAny (model prog w) A (.compLoop e d itv acc env) R s)
  (h:wpAny (model prog w) A (pyIter itv) (λit' s'=>codeAny (model prog w) A (.compLoop e d it' acc env) R s') (notedBy (model prog w) A env λx s'=>R (.error x) s') s):
  codeAny (model prog w) A (.compStart e d itv acc env) R s:=by
 refine codeAny_of_tree ?_;rw[cm.den2,cm.und2];refine wpAny_notedAt ?_;unfold compStart;rw[hcl];have e1:(Option.elim (some cl) false λx=>x.is_async != 0)=false:=by
  show (cl.is_async != 0)=false;rw[has];rfl
 rw[e1,Pp Lu];show wpAny _ A (ask >>= _) _ _ s;refine Pm (wpAny_askSetting (wpAny_ite ?_));split
 ·first
   | exact Pm (Pn (Pn (And.intro rfl h0)))
   | exact Pn (And.intro rfl h0)
 ·first
   | exact Pm (wpAny_rule (Pm (wpAny_standAt (Pm (wpAny_mono h (λit' s' h'=>Pn (And.intro rfl h')) λ_ _ x=>x)))))
   | (refine Pm (wpAny_rule ?_);show wpAny _ _ (standAt cl.iter.pos >>= _) _ _ s;exact Pm (wpAny_standAt (Pm (wpAny_mono h (λit' s' h'=>Pn (And.intro rfl h')) λ_ _ x=>x))))
end
def Ha (te:TE) (D:Addr):TM:=fun σ H Q=>te σ H λy H6=>∃ys,H6 D=some (.lst ys)/\ys.length<sizeLine/\Q σ (upd H6 D (.lst (ys++[y])))
theorem J9{Y:Cx}{elt:Expr}{te:TE}{D:Addr}(he:PE Y elt te):PM Y (do let _ <-call (.builtin "list.append") [.ref D,<-eval elt Y.env]) (Ha te D):=by
 intro pins s σ H Q I h;refine Pm (thn (he pins s σ H _ I h) λyv s8 ⟨y,H8,I8,r8,ys,hD,hlt,q8⟩=>?_);exact Pm (thn (Fx (X:=Y) _ s8 σ H8 (.ref D) [y] (.ref D) [yv] (λ_ H9=>Q σ H9) I8 rfl (.cons r8 .nil) ⟨_,ys,y,rfl,rfl,hD,hlt,q8⟩) λ_ s9 ⟨_,H9,I9,_,q9⟩=>Pn ⟨σ,H9,I9,q9⟩)
def Xc1 (tk tv:TE) (D:Addr):TM:=fun σ H Q=>tk σ H λk H1=>tv σ H1 λv H2=>∃kvs ky,k=kV ky/\H2 D=some (.dK kvs)/\kvs.length<sizeLine/\Q σ (upd H2 D (.dK (Bd kvs ky v)))
theorem Xje{Y:Cx}{kx vx:Expr}{tk tv:TE}{D:Addr}(hk:PE Y kx tk)(hv:PE Y vx tv):PM Y (do
  let kv <-eval kx Y.env
  let vv <-holding [kv] (eval vx Y.env)
  standAt {kx.pos with endLine:=vx.pos.endLine,endCol:=vx.pos.endCol}
  holding [kv,vv] (dictSet D kv vv)) (Xc1 tk tv D):=by
 intro pins s σ H Q I h;refine Pm (thn (hk pins s σ H _ I h) λkv s1 ⟨k,H1,I1,rk,q1⟩=>Pm (wpAny_holding (thn (hv pins s1 σ H1 _ I1 q1) λvv s2 ⟨v,H2,I2,rv,kvs,ky,ek,hD,hl,q⟩=>Pm (wpAny_standAt (wpAny_holding ?_)))));subst ek;obtain⟨z,hd,vs,rel,dd⟩:=Xbg I2.hok hD;have hz:vs.length<=sizeLine:=by rw[<-rel.length];exact z
 have hl':(Bd kvs ky v).length<=sizeLine:=by have:=Gx kvs ky v;omega
 refine wpAny_dictSet_pairs (knd:=Bc Y.prog Y.w) (hsz:=hz) (Es rk) dd λh' dd' hs=>⟨σ,_,?_,q⟩;have he:∃q,h'.get? D=some q:=let ⟨q,_,_,hq,_⟩:=dd'; ⟨q,hq⟩;exact Jk I2 (by rw[hD];exact True.intro) hs he (Xbh hl' hd (rel.put ky rv) dd')
def Xc2 (wi:TI) (g:TG) (tt:TT) (tm:TM):TM:=fun σ H Q=>wi σ H λJ H1=>tLp g tt tm J σ H1 Q
theorem Xjf{Y:Cx}{e tg iter:Expr}{ifs:List Expr}{d:Nat}{D:Addr}{wi:TI}{g:TG}{tt:TT}{tm:TM}{act:Sem Unit}(cm:Cm e)(hx:Y.xe=λ_ _=>False)(hc:Y.calm=true)(hcl:(clausesOf e)[d]? = some ⟨tg,iter,ifs,0⟩)
  (eq:∀it,compTurn e d it (.ref D) Y.env=Df e d tg iter ifs act it (.ref D) Y.env) (hi:PI Y tg iter wi) (hg:PG Y tg g) (ht:PIfs Y ifs tt) (hm:PM Y act tm)
  (hs:∀x,foldedSetIterable iter Y.env x=pure x:=by intro _;rfl):PM Y (do
   let x <-eval iter Y.env
   standAt iter.pos
   let x <-foldedSetIterable iter Y.env x
   let _ <-runOwn (.compStart e d (<-holding [x] (pyIter x)) (.ref D) Y.env) Y.env) (Xc2 wi g tt tm):=by
 intro pins s σ H Q I h;refine Pm (thn (hi pins s σ H _ I h) λv s1 h1=>Pm (wpAny_standAt (Pm (wpAny_of_eq (hs v) (Pm (wpAny_holding (thn h1 λitv s2 h2=>?_)))))));obtain⟨it,fp,tn,J,H2,ei,I2,T,st2,f2,lp⟩:=h2;subst ei;refine Pm (wpAny_runOwn ?_);have go:∀s3,s3=s2->codeAny (model Y.prog Y.w) Y.A (.compLoop e d (.ref it) (.ref D) Y.env) (λr s'=>match r with | .ok _=>∃σ' H',Inv Y pins σ' H' s'/\Q σ' H' | .error e=>False) s3:=by
  rintro s3 rfl;exact Xcz cm hx hc (eq _) hg ht hm I2 T st2 f2 lp fun σ' H' s' I' q=>⟨σ',H',I',q⟩
 have st:=Xc0 (s:=s2) (R:=λr s'=>match r with | .ok _=>∃σ' H',Inv Y pins σ' H' s'/\Q σ' H' | .error e=>False) cm hcl rfl (go s2 rfl) (T.self Y.A 0 s2 _ _ st2 (go s2 rfl));refine codeAny_mono st λr s' hr=>?_;cases r with
 | ok f=>exact Pn hr
 | error e=>exact hr.elim
def Xc3 (cap:List (Option Nat)) (o0:Addr->HO) (g:TG) (tt:TT) (tm:Addr->TM) (J:It) (σ:St) (H1:Hp) (F:Addr->Hp->Prop):Prop:=
 ∀D,H1 D=none->tLp g tt (tm D) J (Bo cap σ) (upd H1 D (o0 D)) λ_ H2=>F D H2
def Xc4 (cap:List (Option Nat)) (o0:HO) (g:TG) (tt:TT) (tm:Addr->TM) (J:It) (σ:St) (H1:Hp) (F:Addr->Hp->Prop):Prop:=
 ∀D,H1 D=none->tLp g tt (tm D) J (Bo cap σ) (upd H1 D o0) λ_ H2=>F D H2
section
variable {X:Cx}{N:List Str}{cap:List (Option Nat)}{scope:Scope}{e tg iter:Expr}{ifs:List Expr}{g:TG}{tt:TT}{tm:Addr->TM}{E:Value->Shared->Prop}{newAcc:Sem Value}{ob:Obj}{o0:HO}{o1:Addr->HO}{act:Addr->Env->Sem Unit}
theorem Xc5(C:CompScope X N cap scope)(hcalm:X.calm=true)(cm:Cm e)(hcl:(clausesOf e)[0]? = some ⟨tg,iter,ifs,0⟩)
  (hnew:∀(s:Shared) (Q:Value->Shared->Prop) (E':Value->Shared->Prop),Q (.ref s.heap.objs.size) {s with heap:=s.heap.push ob}->wpAny (model X.prog X.w) X.A newAcc Q E' s)
  (hlay:∀pins σ H s,Inv X pins σ H s->Inv X pins σ (upd H s.heap.objs.size (o1 s.heap.objs.size)) {s with heap:=s.heap.push ob})
  (heq:∀it D env,compTurn e 0 it (.ref D) env=Df e 0 tg iter ifs (act D env) it (.ref D) env)
  (hg:∀s0 H0 ex,PG (X.comp N scope s0 H0 ex) tg g) (ht:∀s0 H0 ex,PIfs (X.comp N scope s0 H0 ex) ifs tt) (hm:∀D s0 H0 ex,PM (X.comp N scope s0 H0 ex) (act D (X.comp N scope s0 H0 ex).env) (tm D))
  {pins:List (Addr×Obj)} {σ:St} {H:Hp} {s:Shared} {J:It} {fp:List Addr} {it:Addr} {tn:Nat->Heap->Prop} {F:Addr->Hp->Prop} {RR:Value->Addr->Result->Shared->Prop}
  (I:Inv X pins σ H s) (T:Turn X.prog X.w X.K tg J fp it tn) (h0:tn 0 s.heap) (hf:∀b∈fp,FpOk X pins H b) (hb:Xc3 cap o1 g tt tm J σ H F)
  (fin:∀D L H' s' m,Inv X pins σ H' s'->FpOk X pins H' L->s'.heap.Ns L m->F D H'->RR (.ref D) L (.ok .next) s'):
  wpAny (model X.prog X.w) X.A newAcc (λacc s₃=>wpAny (model X.prog X.w) X.A (newFunctionEnv scope X.env.globals (Bv X.env scope.names []) [] X.env.qual none .none (some X.env)) (λcenv s₄=>
   codeAny (model X.prog X.w) X.A (.compStart e 0 (.ref it) acc {cenv with scope:=relabel scope X.env}) (RR acc cenv.locals) s₄) E s₃) E s:=by
 have hDn:H s.heap.objs.size=none:=I.hok.fresh (Lk _);have lp:=hb s.heap.objs.size hDn;have flt:∀b∈fp,b<s.heap.objs.size:=λb hb=>by
  obtain⟨o,e,_⟩:=T.obj _ _ h0 b hb;exact Pw e
 refine hnew s _ _ (Xht ?_);have I3:Inv X pins σ (upd H s.heap.objs.size (o1 s.heap.objs.size)) {s with heap:=s.heap.push ob}:=hlay pins σ H s I;generalize e3:({s with heap:=s.heap.push ob}:Shared)=s3 at I3;have es3:s3.heap=s.heap.push ob:=by rw[<-e3]
 have hsz:s3.heap.objs.size=s.heap.objs.size+1:=by rw[es3,Heap.size_push]
 have hf3:∀b∈fp,FpOk X pins (upd H s.heap.objs.size (o1 s.heap.objs.size)) b:=λb hb=>by
  obtain⟨f0,f⟩:=hf b hb;exact⟨by rw[Af (Lr (flt b hb))];exact f0,f⟩
 have flt3:∀b∈fp,b<s3.heap.objs.size:=λb hb=>by rw[hsz];exact Ny (flt b hb)
 have hk:∀b o,s3.heap.get? b=some o->(pushCells (s3.heap.push {cls:=.type "dict",data:=.dict #[]}) scope.names).get? b=some o:=λb o e=>pushCells_keeps _ _ b o (Px _ e);have IY:=Xhu (tk:=s3.toks) C I3 hf3 flt3;generalize eY:X.comp N scope s3 (upd H s.heap.objs.size (o1 s.heap.objs.size)) fp=Y at IY;have hz3:(s3.heap.push {cls:=.type "dict",data:=.dict #[]}).objs.size=s3.heap.objs.size+1:=Heap.size_push ..;have hst1:tn 0 (pushCells (s3.heap.push {cls:=.type "dict",data:=.dict #[]}) scope.names):=T.keep _ _ _ h0 λb hb o e=>hk b o (by rw[es3];exact Px _ e);have fY:∀{H':Hp},(∀b∈fp,H' b=none)->∀b∈fp,FpOk Y [] H' b:=λ{H'} hn b hb=>by
  subst eY;obtain⟨_,f1,f2,_,f4,_⟩:=hf3 b hb;refine⟨hn b hb,Lr (flt3 b hb),λz=>?_,.inl hb,λx c h=>?_,λp hp=>absurd (show p∈([]:List (Addr×Obj)) from hp) (by simp)⟩
  ·rcases Lw.mp (I3.stkSub b z) with e | e
   ·exact f1 e
   ·exact f2 e
  ·rcases Xbs (s:=s3) C I3.ok hz3 h with ⟨a,_⟩ | ⟨_,a⟩
   ·exact λz=>Mg _ (Oz a (by rw[z];exact flt3 b hb))
   ·exact f4 x c a
 have loop:∀s4:Shared,s4 = {s3 with heap:=pushCells (s3.heap.push {cls:=.type "dict",data:=.dict #[]}) scope.names} ->
   codeAny (model X.prog X.w) X.A (.compLoop e 0 (.ref it) (.ref s.heap.objs.size) (compEnvC scope (Fz X scope s3) s3.heap.objs.size X.env))
    (RR (.ref s.heap.objs.size) s3.heap.objs.size) s4:=by
  rintro s4 rfl;have pP:Y.prog=X.prog:=by subst eY;rfl
  have pW:Y.w=X.w:=by subst eY;rfl
  have pK:Y.K=X.K:=by subst eY;rfl
  have pC:Y.calm=true:=by subst eY;exact hcalm
  have pA:Y.A=X.A:=by subst eY;rfl
  have pE:Y.env=compEnvC scope (Fz X scope s3) s3.heap.objs.size X.env:=by subst eY;rfl
  have pX:Y.xe=λ_ _=>False:=by subst eY;rfl
  have T':Turn Y.prog Y.w Y.K tg J fp it tn:=by rw[pP,pW,pK];exact T
  have go:=Xcz (Y:=Y) (acc:=.ref s.heap.objs.size) (pins:=[]) (R:=RR (.ref s.heap.objs.size) s3.heap.objs.size) cm pX pC (heq _ _ _) (by subst eY;exact hg _ _ _) (by subst eY;exact ht _ _ _) (show PM Y (act s.heap.objs.size Y.env) (tm s.heap.objs.size) by subst eY;exact hm _ _ _ _)
   IY T' hst1 (fY λb hb=>(hf3 b hb).1) lp ?_
  ·rw[pP,pW,pA,pE] at go;exact go
  ·intro σ' H2 s1 I1 q;have IX:Inv X pins σ H2 s1:=by
    subst eY;refine I3.call' (ch:=fp) I1.os I1.base I1.hok I1.bare λb hb=>?_;obtain⟨_,f1,_,f3,f4,f5⟩:=hf3 b hb;exact⟨f3,f1,f4,f5⟩
   have hL:H2 s3.heap.objs.size=none:=by
    have z:=I1.free;rw[pE] at z;exact z
   obtain⟨m,hm,_⟩:=I1.loc;rw[pE] at hm;exact fin s.heap.objs.size s3.heap.objs.size H2 s1 m IX (I3.fpOk (Lk _) hL) hm q
 have lp:=loop _ rfl;have T1:=T.self;subst e3;exact Xc0 cm hcl rfl lp (T1 X.A 0 _ _ _ hst1 lp)
structure AccA (X:Cx) (newAcc:Sem Value) (ob:Obj) (o1:Addr->HO):Prop where
 new:∀(s:Shared) (Q:Value->Shared->Prop) (E':Value->Shared->Prop),Q (.ref s.heap.objs.size) {s with heap:=s.heap.push ob}->wpAny (model X.prog X.w) X.A newAcc Q E' s
 lay:∀pins σ H s,Inv X pins σ H s->Inv X pins σ (upd H s.heap.objs.size (o1 s.heap.objs.size)) {s with heap:=s.heap.push ob}
structure Acc (X:Cx) (newAcc:Sem Value) (ob:Obj) (o0:HO):Prop where
 new:∀(s:Shared) (Q:Value->Shared->Prop) (E':Value->Shared->Prop),Q (.ref s.heap.objs.size) {s with heap:=s.heap.push ob}->wpAny (model X.prog X.w) X.A newAcc Q E' s
 lay:∀pins σ H s,Inv X pins σ H s->Inv X pins σ (upd H s.heap.objs.size o0) {s with heap:=s.heap.push ob}
theorem Ka:Acc X (newList []) {cls:=.type "list",data:=.seq ([]:List Value).toArray} (.lst []):=⟨λs Q E' h=>wpAny_newObj_type h,λpins σ H s I=>I.lnew (t':=s.toks) .nil (Mt _)⟩
theorem Xjg:Acc X newDict {cls:=.type "dict",data:=.dict #[]} (.dK []):=⟨λs Q E' h=>wpAny_newObj_type h,λpins σ H s I=>I.laid (a:=s.heap.objs.size) (o:=.dK []) (t':=s.toks) (λ_ _ q=>Px _ q) (Lk _) (Xbj s.heap I.big)⟩
def Xjh (cap:List (Option Nat)) (o0:Addr->HO) (wi:TI) (g:TG) (tt:TT) (tm:Addr->TM):TE:=fun σ H Q=>wi σ H λJ H1=>Xc3 cap o0 g tt tm J σ H1 λD H2=>Q (.ref D) H2
theorem Xji{wi:TI}{pos:Pos}{gens:List Comprehension}(ac:AccA X newAcc ob o1)(he:eval e X.env=comprehension e scope X.env pos newAcc false (eval iter X.env))(hcls:clausesOf e=⟨tg,iter,ifs,0⟩::gens)
  (C:CompScope X N cap scope) (hcalm:X.calm=true) (cm:Cm e) (hi:PI X tg iter wi)
  (heq:∀it D env,compTurn e 0 it (.ref D) env=Df e 0 tg iter ifs (act D env) it (.ref D) env)
  (hg:∀s0 H0 ex,PG (X.comp N scope s0 H0 ex) tg g) (ht:∀s0 H0 ex,PIfs (X.comp N scope s0 H0 ex) ifs tt) (hm:∀D s0 H0 ex,PM (X.comp N scope s0 H0 ex) (act D (X.comp N scope s0 H0 ex).env) (tm D))
  (hs:∀x,foldedSetIterable iter X.env x=pure x):PE X e (Xjh cap o1 wi g tt tm):=by
 intro pins s σ H Q I h;rw[he];refine wpAny_comprehension_free (use:=none) hcls hs (Xbo (Jr C I.ok)) C.kind (λx hx hl=>by rw[C.uniq x hx,hl]) (thn (hi pins s σ H _ I h) λv s1 h1=>thn h1 λitv s2 h2=>?_);obtain⟨it,fp,tn,J,H2,ei,I2,T,st2,f2,R⟩:=h2;subst ei;refine Xc5 (RR:=λacc L=>compPost (model X.prog X.w) X.A X.xe none (EP X pins σ Q) acc L) C hcalm cm (by rw[hcls];rfl) ac.new ac.lay heq hg ht hm I2 T st2 f2 R ?_;intro D L H' s' m I' fL hm q;refine⟨m,hm,λh' hs'=>?_⟩;obtain⟨f0,f1,_,f3,f4,f5⟩:=fL;exact⟨.ref D,H',I'.turned (t':=s'.toks) (λb o hb e=>(hs'.2 b hb).trans e) f0 f1 f3 f4 f5,rfl,q⟩
def Kb (cap:List (Option Nat)) (o0:HO) (wi:TI) (g:TG) (tt:TT) (tm:Addr->TM):TE:=fun σ H Q=>wi σ H λJ H1=>Xc4 cap o0 g tt tm J σ H1 λD H2=>Q (.ref D) H2
theorem Kc{wi:TI}{pos:Pos}{gens:List Comprehension}(ac:Acc X newAcc ob o0)(he:eval e X.env=comprehension e scope X.env pos newAcc false (eval iter X.env))(hcls:clausesOf e=⟨tg,iter,ifs,0⟩::gens)
  (C:CompScope X N cap scope) (hcalm:X.calm=true) (cm:Cm e) (hi:PI X tg iter wi)
  (heq:∀it D env,compTurn e 0 it (.ref D) env=Df e 0 tg iter ifs (act D env) it (.ref D) env)
  (hg:∀s0 H0 ex,PG (X.comp N scope s0 H0 ex) tg g) (ht:∀s0 H0 ex,PIfs (X.comp N scope s0 H0 ex) ifs tt) (hm:∀D s0 H0 ex,PM (X.comp N scope s0 H0 ex) (act D (X.comp N scope s0 H0 ex).env) (tm D))
  (hs:∀x,foldedSetIterable iter X.env x=pure x):PE X e (Kb cap o0 wi g tt tm):=
 Xji (o1:=λ_=>o0) ⟨ac.new,ac.lay⟩ he hcls C hcalm cm hi heq hg ht hm hs
def Xjj (i:Nat) (cap:List (Option Nat)) (o0:HO) (wi:TI) (g:TG) (tt:TT) (tm:Addr->TM):TS:=λD σ H=>wi σ H λJ H1=>Xc4 cap o0 g tt tm J σ H1 λl H2=>D.nx (σ.set i (some (.ref l))) H2
theorem Xjk{wi:TI}{i:Nat}{y:Str}{py spos cpos:Pos}{gens:List Comprehension}(ac:Acc X newAcc ob o0)(he:∀use,evalThenUse e X.env use=(do let _ <-comprehension e scope X.env cpos newAcc false (eval iter X.env) (some use)))(hcls:clausesOf e=⟨tg,iter,ifs,0⟩::gens)
  (C:CompScope X N cap scope) (hcalm:X.calm=true) (cm:Cm e) (hN:X.N.Nodup) (hiN:X.N[i]? = some y) (hy:X.env.scope.names.lookup y=some .local) (hi:PI X tg iter wi)
  (heq:∀it D env,compTurn e 0 it (.ref D) env=Df e 0 tg iter ifs (act D env) it (.ref D) env)
  (hg:∀s0 H0 ex,PG (X.comp N scope s0 H0 ex) tg g) (ht:∀s0 H0 ex,PIfs (X.comp N scope s0 H0 ex) ifs tt) (hm:∀D s0 H0 ex,PM (X.comp N scope s0 H0 ex) (act D (X.comp N scope s0 H0 ex).env) (tm D))
  (hsw:swapsWith e (some (.Name y py)) spos.line X.env=pure true) (hs:∀x,foldedSetIterable iter X.env x=pure x):PS X (.Assign [.Name y py] e spos) (Xjj i cap o0 wi g tt tm):=by
 intro pins s σ H D I h;rw[exec_Assign_Name_used _ _ _ _ hsw];refine Pm (wpAny_standAt (Pm ?_));rw[he];refine Pm (thn (wpAny_comprehension_free (use:=some (assign (.Name y py) X.env)) (Q:=λ_ s'=>SP X pins D .next s') hcls hs (Xbo (Jr C I.ok)) C.kind (λx hx hl=>by rw[C.uniq x hx,hl])
  (thn (hi pins s σ H _ I h) λv s1 h1=>thn h1 λitv s2 h2=>?_)) (λ_ s' hq=>Pn (Pn hq)))
 obtain⟨it,fp,tn,J,H2,ei,I2,T,st2,f2,R⟩:=h2;subst ei;refine Xc5 (o1:=λ_=>o0) (RR:=λacc L=>compPost (model X.prog X.w) X.A X.xe (some (assign (.Name y py) X.env)) (λ_ s'=>SP X pins D .next s') acc L) C hcalm cm (by rw[hcls];rfl) ac.new ac.lay heq hg ht hm I2 T st2 f2 R ?_;intro l L H' s' m I' fL hm q;obtain⟨f0,f1,_,f3,f4,f5⟩:=fL;show wpAny _ X.A (assign (.Name y py) X.env (.ref l)) _ _ s';refine wpAny_assign_Name (Ii I' hN hiN (.inl hy) (show Ah (.ref l) (.ref l) from rfl) (λs3 I3 ⟨a,sb,ha⟩=>?_) (.inr hy));have hLa:L≠a:=by
  rcases ha with rfl | ha
  ·exact f1
  ·exact λz=>f4 y a ha z.symm
 refine⟨m,hm.sameBut sb hLa,λh' hs'=>?_⟩;exact⟨_,H',I3.turned (t':=s3.toks) (λb o hb e=>(hs'.2 b hb).trans e) f0 f1 f3 f4 f5,q⟩
end
def act2 (elt tg iter tg2 iter2:Expr) (ifs ifs2:List Expr) (scope:Scope) (pos:Pos) (D:Addr) (env:Env):Sem Unit:=do
      let x <-eval iter2 env
      standAt iter2.pos
      let x <-foldedSetIterable iter2 env x
      let _ <-runOwn (.compStart (.ListComp elt [⟨tg,iter,ifs,0⟩,⟨tg2,iter2,ifs2,0⟩] scope pos) 1 (<-holding [x] (pyIter x)) (.ref D) env) env
theorem Xjl(elt tg iter tg2 iter2:Expr)(ifs ifs2:List Expr)(scope:Scope)(pos:Pos)(it:Value)(D:Addr)(env:Env):
  compTurn (.ListComp elt [⟨tg,iter,ifs,0⟩,⟨tg2,iter2,ifs2,0⟩] scope pos) 0 it (.ref D) env=Df (.ListComp elt [⟨tg,iter,ifs,0⟩,⟨tg2,iter2,ifs2,0⟩] scope pos) 0 tg iter ifs (act2 elt tg iter tg2 iter2 ifs ifs2 scope pos D env) it (.ref D) env:=by
 unfold compTurn Df act2;dsimp only;simp only[List.getElem?_cons_zero,List.getElem?_cons_succ,bind_assoc,pure_bind];simp;rfl
section
variable {X:Cx}{N:List Str}{cap:List (Option Nat)}{scope:Scope}{tg iter tg2 iter2 elt kx vx:Expr}{ifs ifs2:List Expr}{g g2:TG}{tt tt2:TT}{te tk tv:TE}{wi wi2:TI}{pos:Pos}
theorem Gc(C:CompScope X N cap scope)(hcalm:X.calm=true)(hi:PI X tg iter wi)
  (hg:∀s0 H0 ex,PG (X.comp N scope s0 H0 ex) tg g) (ht:∀s0 H0 ex,PIfs (X.comp N scope s0 H0 ex) ifs tt) (he:∀s0 H0 ex,PE (X.comp N scope s0 H0 ex) elt te)
  (hs:∀x,foldedSetIterable iter X.env x=pure x:=by intro _;rfl):PE X (.ListComp elt [⟨tg,iter,ifs,0⟩] scope pos) (Xhv cap wi g tt te):=
 Kc (act := fun D env => do let _ <- call (.builtin "list.append") [.ref D, <- eval elt env]) Ka rfl rfl C hcalm G9 hi (fun it D env => rfl) hg ht (fun D s0 H0 ex => J9 (he s0 H0 ex)) hs
theorem Kd{i:Nat}{y:Str}{py spos:Pos}(C:CompScope X N cap scope)(hcalm:X.calm=true)(hN:X.N.Nodup)(hiN:X.N[i]? = some y)(hy:X.env.scope.names.lookup y=some .local)(hi:PI X tg iter wi)
  (hg:∀s0 H0 ex,PG (X.comp N scope s0 H0 ex) tg g) (ht:∀s0 H0 ex,PIfs (X.comp N scope s0 H0 ex) ifs tt) (he:∀s0 H0 ex,PE (X.comp N scope s0 H0 ex) elt te)
  (hsw:swapsWith (.ListComp elt [⟨tg,iter,ifs,0⟩] scope pos) (some (.Name y py)) spos.line X.env=pure true:=by rfl)
  (hs:∀x,foldedSetIterable iter X.env x=pure x:=by intro _;rfl):PS X (.Assign [.Name y py] (.ListComp elt [⟨tg,iter,ifs,0⟩] scope pos) spos) (Xhw i cap wi g tt te):=
 Xjk (act := fun D env => do let _ <- call (.builtin "list.append") [.ref D, <- eval elt env]) Ka (fun use => rfl) rfl C hcalm G9 hN hiN hy hi (fun it D env => rfl) hg ht (fun D s0 H0 ex => J9 (he s0 H0 ex)) hsw hs
theorem Xjm(C:CompScope X N cap scope)(hcalm:X.calm=true)(hi:PI X tg iter wi)
  (hg:∀s0 H0 ex,PG (X.comp N scope s0 H0 ex) tg g) (ht:∀s0 H0 ex,PIfs (X.comp N scope s0 H0 ex) ifs tt) (hk:∀s0 H0 ex,PE (X.comp N scope s0 H0 ex) kx tk) (hv:∀s0 H0 ex,PE (X.comp N scope s0 H0 ex) vx tv)
  (hs:∀x,foldedSetIterable iter X.env x=pure x:=by intro _;rfl):PE X (.DictComp kx vx [⟨tg,iter,ifs,0⟩] scope pos) (Kb cap (.dK []) wi g tt (Xc1 tk tv)):=
 Kc Xjg rfl rfl C hcalm Xjd hi (λit D env=>compTurn_dict kx vx tg iter ifs scope pos it D env) hg ht (λD s0 H0 ex=>Xje (hk s0 H0 ex) (hv s0 H0 ex)) hs
theorem Xjn(C:CompScope X N cap scope)(hcalm:X.calm=true)(hi:PI X tg iter wi)
  (hg:∀s0 H0 ex,PG (X.comp N scope s0 H0 ex) tg g) (ht:∀s0 H0 ex,PIfs (X.comp N scope s0 H0 ex) ifs tt)
  (hi2:∀s0 H0 ex,PI (X.comp N scope s0 H0 ex) tg2 iter2 wi2) (hg2:∀s0 H0 ex,PG (X.comp N scope s0 H0 ex) tg2 g2) (ht2:∀s0 H0 ex,PIfs (X.comp N scope s0 H0 ex) ifs2 tt2) (he:∀s0 H0 ex,PE (X.comp N scope s0 H0 ex) elt te)
  (hs:∀x,foldedSetIterable iter X.env x=pure x:=by intro _;rfl) (hs2:∀s0 H0 ex x,foldedSetIterable iter2 (X.comp N scope s0 H0 ex).env x=pure x:=by intro _ _ _ _;rfl):
  PE X (.ListComp elt [⟨tg,iter,ifs,0⟩,⟨tg2,iter2,ifs2,0⟩] scope pos) (Kb cap (.lst []) wi g tt λD=>Xc2 wi2 g2 tt2 (Ha te D)):=
 Kc (act:=λD env=>act2 elt tg iter tg2 iter2 ifs ifs2 scope pos D env) Ka rfl rfl C hcalm G9 hi (λit D env=>Xjl ..) hg ht (λD s0 H0 ex=>Xjf (Y:=X.comp N scope s0 H0 ex) (e:=.ListComp elt [⟨tg,iter,ifs,0⟩,⟨tg2,iter2,ifs2,0⟩] scope pos) (d:=1) G9 rfl hcalm rfl (λit=>rfl) (hi2 s0 H0 ex) (hg2 s0 H0 ex) (ht2 s0 H0 ex) (J9 (he s0 H0 ex)) (hs2 s0 H0 ex)) hs
end
mutual
def DAt (H:Hp):PyData->V->Prop
 | .none,v=>v = .non
 | .bool b,v=>v = .bl b
 | .int i,v=>v = .int i
 | .str x,v=>v = .str x
 | .list ds,v=>∃p xs,v = .ref p/\H p=some (.lst xs)/\DAll H ds xs
 | .tuple ds,v=>∃p xs,v = .ref p/\H p=some (.tup xs)/\DAll H ds xs
 | .dict _,_=>False
def DAll (H:Hp):List PyData->List V->Prop
 | [],vs=>vs=[]
 | d::ds,vs=>∃v r,vs=v::r/\DAt H d v/\DAll H ds r
end
mutual
theorem DAt.same{H H':Hp}(s:Same H H'):∀(d:PyData) (v:V),DAt H d v->DAt H' d v
 | .none,v,h=>by unfold DAt at h ⊢; exact h
 | .bool b,v,h=>by unfold DAt at h ⊢; exact h
 | .int i,v,h=>by unfold DAt at h ⊢; exact h
 | .str x,v,h=>by unfold DAt at h ⊢; exact h
 | .list ds,v,h=>by
  unfold DAt at h ⊢;obtain⟨p,xs,h1,h2,h3⟩:=h;exact⟨p,xs,h1,s _ _ h2,DAll.same s ds xs h3⟩
 | .tuple ds,v,h=>by
  unfold DAt at h ⊢;obtain⟨p,xs,h1,h2,h3⟩:=h;exact⟨p,xs,h1,s _ _ h2,DAll.same s ds xs h3⟩
 | .dict _,v,h=>by unfold DAt at h;exact h.elim
theorem DAll.same{H H':Hp}(s:Same H H'):∀(ds:List PyData) (vs:List V),DAll H ds vs->DAll H' ds vs
 | [],vs,h=>by unfold DAll at h ⊢; exact h
 | d::ds,vs,h=>by
  unfold DAll at h ⊢;obtain⟨v,r,h1,h2,h3⟩:=h;exact⟨v,r,h1,DAt.same s d v h2,DAll.same s ds r h3⟩
end
theorem Cv{H:Hp}:DAll H [] []:=by unfold DAll;rfl
theorem Cw{H:Hp}{d:PyData}{ds:List PyData}{v:V}{vs:List V}(h:DAt H d v)(hs:DAll H ds vs):DAll H (d::ds) (v::vs):=by unfold DAll;exact⟨v,vs,rfl,h,hs⟩
theorem Hb{H:Hp}{d:PyData}{v:V}:∀{ds:List PyData} {vs:List V},DAll H ds vs->DAt H d v->DAll H (ds++[d]) (vs++[v])
 | [],vs,h,hd=>by
  unfold DAll at h;subst h;exact Cw hd Cv
 | e::ds,vs,h,hd=>by
  unfold DAll at h;obtain⟨u,r,rfl,h2,h3⟩:=h;exact Cw h2 (Hb h3 hd)
theorem Ge{H:Hp}:∀{ds:List PyData} {vs:List V},DAll H ds vs->vs.length=ds.length
 | [],vs,h=>by unfold DAll at h;subst h;rfl
 | e::ds,vs,h=>by
  unfold DAll at h;obtain⟨u,r,rfl,h2,h3⟩:=h;rw[L4,L4,Ge h3]
theorem Xc6{H:Hp}:∀{ds:List PyData} {vs:List V} {i:Nat} {d:PyData},DAll H ds vs->ds[i]? = some d->∃v,vs[i]? = some v/\DAt H d v
 | [],vs,i,d,h,e=>by simp at e
 | c::ds,vs,0,d,h,e=>by
  unfold DAll at h;obtain⟨u,r,rfl,h2,h3⟩:=h;simp at e;subst e;exact⟨u,rfl,h2⟩
 | c::ds,vs,i+1,d,h,e=>by
  unfold DAll at h;obtain⟨u,r,rfl,h2,h3⟩:=h;simpa using Xc6 h3 (by simpa using e)
theorem Xc7{H:Hp}(row:List Str):DAll H (row.map PyData.str) (row.map V.str):=by
 induction row with
 | nil=>exact Cv
 | cons x r ih=>exact Cw (by unfold DAt;rfl) ih
theorem Xjo{H:Hp}(row:List Int):DAll H (row.map PyData.int) (row.map V.int):=by
 induction row with
 | nil=>exact Cv
 | cons x r ih=>exact Cw (by unfold DAt;rfl) ih
theorem Hd{H:Hp}{ds:List PyData}{p:Addr}{xs:List V}(h:H p=some (.tup xs))(hs:DAll H ds xs):DAt H (.tuple ds) (.ref p):=by unfold DAt;exact⟨p,xs,rfl,h,hs⟩
theorem Ke{H:Hp}{ds:List PyData}{p:Addr}{xs:List V}(h:H p=some (.lst xs))(hs:DAll H ds xs):DAt H (.list ds) (.ref p):=by unfold DAt;exact⟨p,xs,rfl,h,hs⟩
theorem He{H:Hp}{ds:List PyData}{v:V}(h:DAt H (.tuple ds) v):∃p xs,v = .ref p/\H p=some (.tup xs)/\DAll H ds xs:=by unfold DAt at h;exact h
section
variable {X:Cx}{pins:List (Addr×Obj)}{σ:St}{H:Hp}{s:Shared}
mutual
theorem Eg(I:Inv X pins σ H s):∀(d:PyData) (v:V) (u:Value),DAt H d v->Ah v u->∃as,Reads s.heap u d as
 | .none,v,u,h,r=>by unfold DAt at h;subst h;cases r;exact⟨_,.none⟩
 | .bool b,v,u,h,r=>by unfold DAt at h;subst h;cases r;exact⟨_,.bool b⟩
 | .int i,v,u,h,r=>by unfold DAt at h;subst h;obtain⟨t,rfl⟩:=r;exact⟨_,.int i t⟩
 | .str x,v,u,h,r=>by unfold DAt at h;subst h;obtain⟨t,rfl⟩:=r;exact⟨_,.str x t⟩
 | .list ds,v,u,h,r=>by
  unfold DAt at h;obtain⟨p,xs,rfl,hp,hs⟩:=h;cases r;obtain⟨its,rv,pl,hz⟩:=I.list (SqL.of (K:=X.K) hp);obtain⟨as,ra⟩:=Kf I ds xs its hs rv;obtain⟨o,ho,hc,n,hd⟩:=pl.isList;exact⟨_,.list ho hc hd (by simpa using ra)⟩
 | .tuple ds,v,u,h,r=>by
  unfold DAt at h;obtain⟨p,xs,rfl,hp,hs⟩:=h;cases r;obtain⟨its,rv,pl,hz⟩:=I.tuple (SqT.of (K:=X.K) hp);obtain⟨as,ra⟩:=Kf I ds xs its hs rv;obtain⟨o,ho,hc,n,hd⟩:=pl;exact⟨_,.tuple ho hc hd (by simpa using ra)⟩
 | .dict _,v,u,h,r=>by unfold DAt at h;exact h.elim
theorem Kf(I:Inv X pins σ H s):∀(ds:List PyData) (vs:List V) (us:List Value),DAll H ds vs->Vals vs us->∃as,ReadsAll s.heap us ds as
 | [],vs,us,h,r=>by unfold DAll at h;subst h;cases r;exact⟨_,.nil⟩
 | d::ds,vs,us,h,r=>by
  unfold DAll at h;obtain⟨v,vr,rfl,h1,h2⟩:=h;cases r with
  | cons r1 r2=>
   obtain⟨a1,q1⟩:=Eg I d v _ h1 r1;obtain⟨a2,q2⟩:=Kf I ds vr _ h2 r2;exact⟨_,.cons q1 q2⟩
end
theorem Xc8(hu:X.A.units+3<cLine):OpR X (compareOp .Eq) (λx y H Q=>∃d d',DAt H d x/\DAt H d' y/\d.canLay0=true/\d'.canLay0=true/\min d.depth d'.depth<=3/\Q (.bl (PyData.eqv d d')) H):=by
 intro pins s σ H x y v u Q I rx ry h;obtain⟨d,d',h1,h2,c1,c2,hd,q⟩:=h;obtain⟨as,ra⟩:=Eg I d x v h1 rx;obtain⟨bs,rb⟩:=Eg I d' y u h2 ry;exact SeqAt.compareEq_reads ra rb c1 c2 (by omega) ⟨.bl _,H,I,rfl,q⟩
theorem Xc9(hu:X.A.units+3<cLine):OpR X (compareOp .NotEq) (λx y H Q=>∃d d',DAt H d x/\DAt H d' y/\d.canLay0=true/\d'.canLay0=true/\min d.depth d'.depth<=3/\Q (.bl (!PyData.eqv d d')) H):=by
 intro pins s σ H x y v u Q I rx ry h;obtain⟨d,d',h1,h2,c1,c2,hd,q⟩:=h;obtain⟨as,ra⟩:=Eg I d x v h1 rx;obtain⟨bs,rb⟩:=Eg I d' y u h2 ry;exact SeqAt.compareNe_reads ra rb c1 c2 (by omega) ⟨.bl _,H,I,rfl,q⟩
end
mutual
def A9:PyData->Bool
 | .none | .int _=>true
 | .str x=>PyData.strOk x
 | .list xs | .tuple xs=>Cn xs
 | .bool _ | .dict _=>false
def Cn:List PyData->Bool
 | []=>true
 | x::xs=>A9 x&&Cn xs
end
mutual
theorem Du:∀d:PyData,A9 d=true->d.canLay0=true
 | .none,_=>rfl
 | .int _,_=>rfl
 | .str x,h=>h
 | .list xs,h=>Hf xs h
 | .tuple xs,h=>Hf xs h
 | .bool _,h=>nomatch h
 | .dict _,h=>nomatch h
theorem Hf:∀ds:List PyData,Cn ds=true->PyData.canLayAll0 ds=true
 | [],_=>rfl
 | d::ds,h=>by
  have h':(A9 d&&Cn ds)=true:=h;rw[Lv] at h';show (d.canLay0&&PyData.canLayAll0 ds)=true;rw[Du d h'.1,Hf ds h'.2];rfl
end
mutual
theorem E4:∀(d d':PyData),A9 d=true->A9 d'=true->(PyData.eqv d d'=true↔d=d')
 | .none,d',_,h=>by cases d'<;>simp[PyData.eqv]
 | .int i,d',_,h=>by cases d'<;>simp_all [PyData.eqv,A9]
 | .str x,d',_,h=>by cases d'<;>simp_all [PyData.eqv,A9]
 | .list xs,d',g,h=>by
  cases d' with
  | list ys=>
   have:=Kg xs ys g h;simp only[PyData.eqv,this,PyData.list.injEq]
  | _=>simp[PyData.eqv]
 | .tuple xs,d',g,h=>by
  cases d' with
  | tuple ys=>
   have:=Kg xs ys g h;simp only[PyData.eqv,this,PyData.tuple.injEq]
  | _=>simp[PyData.eqv]
 | .bool _,_,g,_=>nomatch g
 | .dict _,_,g,_=>nomatch g
theorem Kg:∀(xs ys:List PyData),Cn xs=true->Cn ys=true->(PyData.eqvAll xs ys=true↔xs=ys)
 | [],[],_,_=>by simp[PyData.eqvAll]
 | [],_::_,_,_=>by simp[PyData.eqvAll]
 | _::_,[],_,_=>by simp[PyData.eqvAll]
 | x::xs,y::ys,g,h=>by
  have g':(A9 x&&Cn xs)=true:=g;have h':(A9 y&&Cn ys)=true:=h;rw[Lv] at g' h';have e1:=E4 x y g'.1 h'.1;have e2:=Kg xs ys g'.2 h'.2;simp only[PyData.eqvAll,Lv,e1,e2,List.cons.injEq]
end
theorem Xjp{α : Type}[DecidableEq α](f : α->PyData)(inj:∀a b,f a=f b->a=b)(a b : α)(ha:A9 (f a)=true)(hb:A9 (f b)=true):PyData.eqv (f a) (f b)=decide (a=b):=by
 rw[Mz,E4 _ _ ha hb,decide_eq_true_eq];exact⟨inj a b,λe=>by rw[e]⟩
theorem plainAll_map{α : Type}(f : α->PyData):∀(xs:List α),(∀x∈xs,A9 (f x)=true)->Cn (xs.map f)=true
 | [],_=>rfl
 | x::xs,h=>by
  show (A9 (f x)&&Cn (xs.map f))=true;rw[h x Lo,plainAll_map f xs λy hy=>h y (Ll _ hy)];rfl
section
variable {X:Cx}{tg:Expr}
def Xjq (tl:TE):TI:=fun σ H R=>tl σ H λx H1=>∃d kvs,x = .ref d/\((H1 d=some (.dK kvs)/\∀o,R (Itd d o kvs) (upd H1 d (.frz o (.dK kvs)))) \/ ∃o,H1 d=some (.frz o (.dK kvs))/\R (Itd d o kvs) H1)
theorem Xjr{l:Expr}{tl:TE}(hl:PE X l tl):PI X tg l (Xjq tl):=by
 intro pins s σ H R I h;refine thn (hl pins s σ H _ I h) λv s1 ⟨x,H1,I1,r1,q1⟩=>?_;obtain⟨d,kvs,e,q⟩:=q1;subst e;cases r1;rcases q with ⟨hH,q⟩ | ⟨o,hH,q⟩
 ·obtain⟨hz,hm,vs,rv,o,es,ep,ho,hex,hd,r⟩:=I1.hok d _ hH;have hlen:kvs.length=vs.length:=Paired.length rv;refine wpAny_pyIter_dict (knd:=Bc X.prog X.w) hm ⟨o,es,ho,hex,hd,r⟩ ?_;have I2:=I1.freeze hH ho;refine⟨s1.heap.objs.size,[s1.heap.objs.size],_,_,_,rfl,I2.kept (t':=s1.toks) λb o e=>Px _ e,Jt d _ o es ep hd kvs (Lr (Pw ho)),⟨_,Heap.get?_push_size _ rfl,rfl,by rw[hlen];rfl⟩,λb hb=>?_,q o⟩;have e:b=s1.heap.objs.size:=by simpa using hb
  subst e;exact I2.fpOk (Lk _) (I2.hok.fresh (Lk _))
 ·obtain⟨ho',hok⟩:=(show Ar X.prog X.w H1 s1.heap d (.frz o (.dK kvs)) from I1.hok d _ hH);obtain⟨hz,hm,vs,rv,o',es,ep,ho,hex,hd,r⟩:=hok;have eo:o'=o:=by rw[ho'] at ho;exact(Lq ho).symm
  subst eo;have hlen:kvs.length=vs.length:=Paired.length rv;refine wpAny_pyIter_dict (knd:=Bc X.prog X.w) hm ⟨o',es,ho,hex,hd,r⟩ ?_;refine⟨s1.heap.objs.size,[s1.heap.objs.size],_,_,_,rfl,I1.kept (t':=s1.toks) λb o e=>Px _ e,Jt d _ o' es ep hd kvs (Lr (Pw ho)),⟨_,Heap.get?_push_size _ rfl,rfl,by rw[hlen];rfl⟩,λb hb=>?_,q⟩;have e:b=s1.heap.objs.size:=by simpa using hb
  subst e;exact I1.fpOk (Lk _) (I1.hok.fresh (Lk _))
end
def hid (D:Addr) (H:Hp):Hp:=λb=>if b=D then none else H b
theorem E5(D:Addr)(H:Hp):Same (hid D H) H:=λb o e=>by
 unfold hid at e;split at e
 ·cases e
 ·exact e
theorem Xda(D:Addr)(H:Hp)(o:HO):hid D (upd H D o)=hid D H:=by
 funext b;unfold hid;split
 ·rfl
 ·rename_i h;rw[Af h]
theorem Gf{D:Addr}{H H':Hp}(s:Same H H'):Same (hid D H) (hid D H'):=λb o e=>by
 unfold hid at e ⊢;split at e
 ·cases e
 ·rename_i h;rw[Pp h];exact s b o e
theorem hid_ne{D b:Addr}{H:Hp}{o:HO}(h:H b=some o)(n:b≠D):hid D H b=some o:=by
 unfold hid;rw[Pp n];exact h
theorem Xjs{D p:Addr}{H:Hp}{o:HO}{ds:List PyData}{xs:List V}(hD:H D=some o)(np:H p=none)(h:DAll (hid D (upd H p (.tup xs))) ds xs):DAt (hid D (upd H p (.tup xs))) (.tuple ds) (.ref p):=
 Hd (hid_ne Ac (Aq hD np).symm) h
section
variable {tt:TT}{te:TE}{J:It}{σ:St}{H0 H1:Hp}{D:Addr}{F:St->Hp->Prop}{j:Nat}{xs0:List V}
theorem Xjt(n:Nat)(vs:Nat->V)(ok:Nat->Bool)(dat:Nat->PyData)(acc:List PyData)(hH:H0 D=none)(s0:Same H0 H1)(hxs:H1 D=some (.lst xs0))(hall:DAll (hid D H1) acc xs0)(hbd:acc.length+n<sizeLine)
  (hgo:∀i H2,i<n->Same H0 H2->J.go i H2/\∀x H3,J.yld i H2 x H3->H3=H2/\x=vs i)
  (hst:∀H2,Same H0 H2->J.stop n H2)
  (tst:∀(i:Nat) H2 Q,i<n->Same H0 H2->(∀H',Same H2 H'->Q (ok i) H')->tt (σ.set j (some (vs i))) H2 Q)
  (step:∀(i:Nat) xs H2 Q,i<n->ok i=true->Same H0 H2->H2 D=some (.lst xs)->(∀v H',Same H2 H'->DAt (hid D H') (dat i) v->Q v H')->te (σ.set j (some (vs i))) H2 Q)
  (fin:∀σ' H2 xs,(∀v, σ'.set j v = σ.set j v)->Same H0 H2->H2 D=some (.lst xs)->DAll (hid D H2) (acc++((List.range n).filter ok).map dat) xs->F σ' H2):
  tLp (Az j) tt (Ha te D) J σ H1 F:=by
 refine⟨wN n λi σ2 H2=>(∀v, σ2.set j v = σ.set j v)/\Same H0 H2/\∃xs,H2 D=some (.lst xs)/\DAll (hid D H2) (acc++((List.range i).filter ok).map dat) xs,⟨n,by simp,Mt _,λ_=>rfl,s0,xs0,hxs,by simpa using hall⟩,?_⟩;rintro i m σ1 H2 ⟨rfl,hi,e,s2,xs,hD,hal⟩;by_cases hlt:i<n
 ·obtain⟨h1,h2⟩:=hgo i H2 hlt s2;refine .inr ⟨h1,λx H3 y=>?_⟩;obtain⟨e1,e2⟩:=h2 x H3 y;subst e1 e2;show tt (σ1.set j (some (vs i))) H3 _;rw[e];refine tst i H3 _ hlt s2 λH4 s4=>?_;have s04:=s2.trans s4;have hD4:=s4 _ _ hD;have hal4:=DAll.same (Gf (D:=D) s4) _ _ hal;have hss:∀v,(σ.set j (some (vs i))).set j v = σ.set j v:=λv=>by rw[Pl]
  have hl:xs.length<=acc.length+i:=by
   rw[Ge hal,Ln,Li];have:((List.range i).filter ok).length<=i:=Mj (M5 ..) (by rw[M4];omega);omega
  refine Ao (λhk=>?_) (λhk=>?_)
  ·show te (σ.set j (some (vs i))) H4 _;refine step i xs H4 _ hlt hk s04 hD4 λv H5 s5 hv=>?_;refine⟨xs,s5 _ _ hD4,by omega,?_⟩;refine wskip hlt ⟨hss,λb u e'=>?_,xs++[v],Ac,?_⟩
   ·rw[Af (Aq e' hH)];exact s5 _ _ (s04 b u e')
   ·rw[Xda,Mw,L6,Lx,<-Oc];simp only[Mi,hk,if_true,List.filter_nil,L8,List.map_nil];exact Hb (DAll.same (Gf (D:=D) s5) _ _ hal4) hv
  ·refine wskip hlt ⟨hss,s04,xs,hD4,?_⟩;rw[Mw,L6];simpa [hk] using hal4
 ·have ei:i=n:=by omega
  subst ei;exact .inl ⟨hst H2 s2,fin σ1 H2 xs e s2 hD hal⟩
theorem Xju{tm:TM}(n:Nat)(vs:Nat->V)(acc:Nat->List PyData)(G:Hp->Prop)(hH:H0 D=none)(s0:Same H0 H1)(g0:G H1)(hxs:H1 D=some (.lst xs0))(hall:DAll (hid D H1) (acc 0) xs0)(Eσ:St->Prop)(hE:Eσ σ)
  (hgo:∀i H2,i<n->Same H0 H2->J.go i H2/\∀x H3,J.yld i H2 x H3->H3=H2/\x=vs i)
  (hst:∀H2,Same H0 H2->J.stop n H2)
  (step:∀(i:Nat) σ1 xs H2 (Q:St->Hp->Prop),i<n->Eσ σ1->Same H0 H2->G H2->H2 D=some (.lst xs)->DAll (hid D H2) (acc i) xs->(∀σ' H' xs',Eσ σ'->Same H0 H'->G H'->H' D=some (.lst xs')->DAll (hid D H') (acc (i+1)) xs'->Q σ' H')->tm (σ1.set j (some (vs i))) H2 Q)
  (fin:∀σ' H2 xs,Same H0 H2->G H2->H2 D=some (.lst xs)->DAll (hid D H2) (acc n) xs->F σ' H2):
  tLp (Az j) Ev tm J σ H1 F:=by
 refine⟨wN n λi σ2 H2=>Eσ σ2/\Same H0 H2/\G H2/\∃xs,H2 D=some (.lst xs)/\DAll (hid D H2) (acc i) xs,⟨n,by simp,Mt _,hE,s0,g0,xs0,hxs,hall⟩,?_⟩;rintro i m σ1 H2 ⟨rfl,hi,e,s2,g2,xs,hD,hal⟩;by_cases hlt:i<n
 ·obtain⟨h1,h2⟩:=hgo i H2 hlt s2;refine .inr ⟨h1,λx H3 y=>?_⟩;obtain⟨e1,e2⟩:=h2 x H3 y;subst e1 e2;unfold Az Ev;dsimp only;rw[Pq rfl];exact step i σ1 xs H3 _ hlt e s2 g2 hD hal fun σ' H' xs' e' s' g' hD' hal'=>wskip hlt ⟨e',s',g',xs',hD',hal'⟩
 ·have ei:i=n:=by omega
  subst ei;exact .inl ⟨hst H2 s2,fin σ1 H2 xs s2 g2 hD hal⟩
end
section
variable {X:Cx}{pos np hpos:Pos}{body:List Stmt}{b0:Stmt}{suite:List Stmt}{x:Str}{Cc:Addr}{tb:(Addr->St->Hp->Prop)->TS}{th:TS}
end
section
variable {X:Cx}
theorem Xjv:X.calm=true->Bh X (.builtin "any") (λxs H Q=>∃(a:Addr) (bs:List Bool),xs=[.ref a]/\H a=some (.lst (bs.map V.bl))/\Q (.bl (bs.any id)) H):=by
 intro hc pins s σ H xs us Q I r h;obtain⟨a,bs,rfl,ha,q⟩:=h;obtain⟨u,rfl,ru⟩:=B4 r;cases ru;obtain⟨its,rv,p,hz⟩:=I.list (SqL.of ha);have hl:=rv.length;rw[Li] at hl;refine call_any_walk (wpAny_pyIter_list p.isList ?_);have hlt:a≠s.heap.objs.size:=by
  obtain⟨o,ho,_⟩:=p.isList;exact Lr (Pw ho)
 refine⟨s.heap.objs.size,_,_,_,_,_,λj=>bs.getD j false,rfl,Walks.list (A:=X.A.in1) (show X.A.in1.handled=none from I.ok.hd hc) s.heap.objs.size a hlt its.toArray,⟨⟨_,Heap.get?_push_size _ rfl,rfl,rfl⟩,p.isList.push _⟩,λi v s' Q' E' hP hQ=>?_,λh' tk k=>?_⟩
 ·have hv:its[i]? = some v:=by simpa using hP
  have hi:i<its.length:=(L3.mp hv).1;have g:(bs.map V.bl)[i]? = some (.bl (bs[i]'(by omega))):=by
   rw[Lz,Lm (by omega)];rfl
  obtain⟨u,hu,ru⟩:=rv.get g;rw[hv] at hu;cases hu;cases ru;have e:bs.getD i false=bs[i]'(by omega):=by simp[List.getD,(by omega:i<bs.length)]
  have hQ':Q' (bs.getD i false) s':=hQ;rw[e] at hQ';exact wpAny_truthy_bool hQ'
 ·refine⟨.bl (bs.any id),H,I.kept (t':=tk) λb o e=>k b o (λz=>?_) (Px _ e),?_,q⟩
  ·have z':b=s.heap.objs.size:=by simpa using z
   exact absurd (Pw e) (by rw[z'];exact Mg _)
  ·show Value.bool _=Value.bool _;congr 1;rw[Lj,<-hl];rw[Mz,N4,N4];constructor
   ·rintro ⟨j,hj,e⟩;have hj':=Mo.mp hj;refine⟨_,Me hj',?_⟩;simpa [List.getD,hj'] using e
   ·rintro ⟨b,hb,e⟩;obtain⟨j,hj,rfl⟩:=Ni.mp hb;exact⟨j,Mo.mpr hj,by simpa [List.getD,hj] using e⟩
theorem Xjw:Bh X (.builtin "sorted") (λxs H Q=>∃a ks,xs=[.ref a]/\H a=some (.lst (ks.map V.str))/\ks.length<64/\∀l,H l=none->Q (.ref l) (upd H l (.lst ((srt ks).map V.str)))):=by
 intro pins s σ H xs us Q I r h;obtain⟨a,ks,rfl,ha,h64,q⟩:=h;obtain⟨u,rfl,rx⟩:=B4 r;cases rx;obtain⟨its,rv,pl,hz⟩:=I.list (SqL.of ha);have hl:=rv.length;rw[Li] at hl;refine sorted_strs pl.isList (F7 rv) (by omega) λout ss' h1 h2 h3=>?_;obtain⟨e,he⟩:=sortedAll_at s.heap its out;have es:ss'=srt ks:=Ez h2 h3;subst es;have hf:H (s.heap.objs.size+1)=none:=I.hok.fresh (Nl _);refine⟨.ref (s.heap.objs.size+1),_,I.laid (t':=s.toks) (h':=sortedAll s.heap its out) (o:=.lst ((srt ks).map V.str)) (λb ob q=>sortedAll_old q) (Nl _) ?_,rfl,q _ hf⟩;refine⟨by rw[Li,h2.length_eq,Po];omega,out.toList,e,Xcj h1,?_⟩;rw[he]
def Kh:R2:=λx y H Q=>∃a b xs ys,x = .ref a/\y = .ref b/\H a=some (.tup xs)/\H b=some (.tup ys)/\xs.length+ys.length<=sizeLine/\∀p H',Same H H'->H' p=some (.tup (xs++ys))->Q (.ref p) H'
theorem Gg:OpR X (binaryOp .Add) Kh:=by
 intro pins s σ H x y v u Q I rx ry h;obtain⟨a,b,xs,ys,rfl,rfl,ha,hb,hz,q⟩:=h;by_cases hx:xs=[]
 ·subst hx;cases rx;cases ry;obtain⟨its,r1,p1,_⟩:=I.tuple (SqT.of (K:=X.K) ha);obtain⟨its2,r2,p2,_⟩:=I.tuple (SqT.of (K:=X.K) hb);cases r1;obtain⟨⟨cls,dd,data,sl⟩,ho,hc,n,hd⟩:=id p1;obtain⟨⟨cls2,dd2,data2,sl2⟩,ho2,hc2,n2,hd2⟩:=id p2;simp only at hc hd hc2 hd2;subst hc hd hc2 hd2;exact concat_meets ⟨_,ho,rfl⟩ ⟨_,ho2,rfl⟩ noFill_tuple_add seq_tuple_add PySem.F.slot_tuple_add PySem.F.entry_tuple_add (PySem.F.args_tuple_add_2 _ _)
   (tuple_addW0 a b _ _ n n2 dd dd2 sl sl2 (by simp)) ⟨ho,ho2,⟨.ref b,H,I,rfl,q b H (Same.refl H) hb⟩⟩
 ·refine Xgv pins s σ H (.ref a) (.ref b) v u Q I rx ry ⟨a,b,xs,ys,rfl,rfl,SqT.of ha,SqT.of hb,hx,hz,λhy=>?_,λhy p np=>?_⟩
  ·subst hy;exact q a H (Same.refl H) (by rw[Mr];exact ha)
  ·exact q p _ ((Same.refl H).step np) Ac
end
end L2
namespace HT
open PySem PySem.Spec PyProof.Rows PySem.Calls L2
section
variable {prog:Program}{w:World}{A:Around}{E:Value->Shared->Prop}{s:Shared}
theorem getItem_tuple_whole{t sl:Addr}{items:Array Value}{vl vu:Value}{lo hi:Option Int}{Q:Value->Shared->Prop}(ht:IsTup s.heap t items)(hs:s.heap.IsSliceOf sl vl vu .none)(pl:IsPart vl lo)(pu:IsPart vu hi)
  (hw:sIx items.size 0 lo=0/\sIx items.size items.size hi=items.size) (h:Q (.ref t) s):wpAny (model prog w) A (getItem (.ref t) (.ref sl)) Q E s:=by
 obtain⟨os,hos,hcs,hds⟩:=id hs;have hTs:s.TypeIs (.ref sl) "slice" := ⟨os,hos,hcs⟩;unfold getItem
 try with_reducible refine wpAny_holding ?_
 first | refine Pm (Pn ?_) | skip
 refine Pm (wpAny_sequenceKey ht.typeIs (by decide) ?_);refine Pm (wpAny_callSpecial?_slot (name:=Str.ofString "__getitem__") ht.typeIs PyProof.Rows.slot_tuple_getitem
  (wpAny_call_entry PyProof.Rows.slot_tuple_getitem ht.typeIs entry_tuple_getitem ?_ (args_tuple_getitem _ _)))
 show wpAny _ _ (Builtin.Tuple.tupleItemsOf (.ref t) >>= _) _ _ s;refine Pm (tupleItemsOf_ ht ?_);refine Pm (wpAny_typeOf hTs ?_);rw[Pq (by decide)];refine Pm (Xa1 hs pl pu ?_);have hyes:((((sIx items.size 0 lo:Nat):Int)==0&&(1:Int)==1&&(sIx items.size items.size hi - sIx items.size 0 lo)==items.size)=true):=by
  rw[hw.1,hw.2];simp
 show wpAny _ _ (if (((sIx items.size 0 lo:Nat):Int)==0&&(1:Int)==1&&(sIx items.size items.size hi - sIx items.size 0 lo)==items.size)=true then _ else _) _ _ s;rw[Pq hyes];have hx:∀{Q':Bool->Shared->Prop},Q' true s->wpAny (model prog w) A.in1 (Builtin.Tuple.tupleIsExact (.ref t)) Q' E s:=λ{Q'} q=>by
  unfold Builtin.Tuple.tupleIsExact;obtain⟨o,ho,hc,n,hd⟩:=ht
  repeat (first | exact Pn q | refine Pm (wpAny_typeOf ⟨o,ho,hc⟩ ?_) | refine wpAny_typeOf ⟨o,ho,hc⟩ ?_ | wp_step)
 refine Pm (hx ?_);rw[Pq rfl];exact Pm (wpAny_rule (Pm (Pn (Pn ⟨_,rfl,Pn h⟩))))
theorem Xjx(n:Nat):Builtin.Slice.sliceAdjust none none (-1) (n:Int)=((n:Int) - 1, -1):=by
 unfold Builtin.Slice.sliceAdjust;simp
theorem Xjy(n:Nat):Builtin.Slice.slicePlaces ((n:Int) - 1) (-1) (-1)=n:=by
 unfold Builtin.Slice.slicePlaces;rw[Pp (by decide)];by_cases h:(n:Int) - 1 > -1
 ·rw[Pq h,show (- -1:Int)=1 from rfl,Int.ediv_one];omega
 ·rw[Pp h];omega
theorem Xjz{sl:Addr}{n:Nat}{tk:Tok}{Q:Int×Int×Nat->Shared->Prop}(hs:s.heap.IsSliceOf sl .none .none (.int (-1) tk))
  (h:Q ((n:Int) - 1, -1,n) s):wpAny (model prog w) A (Builtin.Slice.sliceApplied (.ref sl) (pure (n:Int))) Q E s:=by
 obtain⟨os,hos,hcs,hds⟩:=id hs;unfold Builtin.Slice.sliceApplied Builtin.Slice.sliceFields;refine Pm (Pm (wpAny_field hos hds (x:=.none) rfl (Pm (wpAny_field hos hds (x:=.none) rfl (Pm (wpAny_field hos hds (x:=.int (-1) tk) rfl (Pn ?_)))))));refine Pm (slicePart_int ?_);show wpAny _ _ (if ((-1:Int)==0)=true then _ else _) _ _ s;rw[Pp (by decide)];refine Pm (slicePart_none (Pm (slicePart_none (Pm (Pn ?_)))));show wpAny _ _ (match Builtin.Slice.sliceAdjust none none (-1) (n:Int) with | (lo,hi)=>pure (lo,(-1:Int),Builtin.Slice.slicePlaces lo hi (-1))) _ _ s;rw[Xjx];show wpAny _ _ (pure ((n:Int) - 1,(-1:Int),Builtin.Slice.slicePlaces ((n:Int) - 1) (-1) (-1))) _ _ s;rw[Xjy];exact Pn h
theorem Xj0(xs:Array Value):((List.range xs.size).filterMap λ(m:Nat)=>xs[((xs.size:Int) - 1+(m:Int) * -1).toNat]?).toArray=xs.toList.reverse.toArray:=by
 have e:(List.range xs.size).filterMap (λ(m:Nat)=>xs[((xs.size:Int) - 1+(m:Int) * -1).toNat]?)=((List.range xs.size).map λk=>xs.size - 1 - k).filterMap (xs[·]?):=by
  rw[Pa];have key:∀(l:List Nat),(∀m∈l,m<xs.size)->l.filterMap (λ(m:Nat)=>xs[((xs.size:Int) - 1+(m:Int) * -1).toNat]?)=l.filterMap ((λx=>xs[x]?) ∘ λk=>xs.size - 1 - k):=by
   intro l
   induction l with
   | nil=>intro _;rfl
   | cons m l ih=>
    intro hm;have h1:=hm m Lo;have e1:((xs.size:Int) - 1+(m:Int) * -1).toNat=xs.size - 1 - m:=by omega
    rw[Mh,Mh,ih λx hx=>hm x (Ll _ hx),e1];rfl
  exact key _ λm hm=>Mo.mp hm
 rw[e,PySem.W.krv_range,List.filterMap_reverse,PySem.W.krv_all]
theorem getItem_tuple_rev{t sl:Addr}{items:Array Value}{tk:Tok}{Q:Value->Shared->Prop}(ht:IsTup s.heap t items)(hs:s.heap.IsSliceOf sl .none .none (.int (-1) tk))
  (h:Q (.ref s.heap.objs.size) {s with heap:=s.heap.push {cls:=.type "tuple",data:=.seq items.toList.reverse.toArray} })
  (hsz:items.size<=sizeLine):wpAny (model prog w) A (getItem (.ref t) (.ref sl)) Q E s:=by
 have htake:sizeOk (.seq items.toList.reverse.toArray):=by
  show items.toList.reverse.toArray.size<=sizeLine;rw[Lj,Oh,Lp];exact hsz
 obtain⟨os,hos,hcs,hds⟩:=id hs;have hTs:s.TypeIs (.ref sl) "slice" := ⟨os,hos,hcs⟩;unfold getItem
 try with_reducible refine wpAny_holding ?_
 first | refine Pm (Pn ?_) | skip
 refine Pm (wpAny_sequenceKey ht.typeIs (by decide) ?_);refine Pm (wpAny_callSpecial?_slot (name:=Str.ofString "__getitem__") ht.typeIs PyProof.Rows.slot_tuple_getitem
  (wpAny_call_entry PyProof.Rows.slot_tuple_getitem ht.typeIs entry_tuple_getitem ?_ (args_tuple_getitem _ _)))
 show wpAny _ _ (Builtin.Tuple.tupleItemsOf (.ref t) >>= _) _ _ s;refine Pm (tupleItemsOf_ ht ?_);refine Pm (wpAny_typeOf hTs ?_);rw[Pq (by decide)];refine Pm (Xjz hs ?_);have hno:¬((((items.size:Int) - 1)==0&&(-1:Int)==1&&items.size==items.size)=true):=by
  intro q;rw[Lv,Lv] at q;exact absurd (eq_of_beq q.1.2) (by decide)
 show wpAny _ _ (if (((items.size:Int) - 1)==0&&(-1:Int)==1&&items.size==items.size)=true then _ else _) _ _ s;rw[Pp hno,Xj0]
 first
  | exact Pm (m:=Builtin.Tuple.tupleExact _) (wpAny_newObj_type (Pn ⟨_,rfl,Pn h⟩) htake)
  | exact Pm (m:=Builtin.Tuple.tupleExact _) (wpAny_newObj_type (Pm (Pn (Pn ⟨_,rfl,Pn h⟩))) htake)
  | exact Pm (Pm (m:=Builtin.Tuple.tupleExact _) (wpAny_newObj_type (Pn (Pn ⟨_,rfl,Pn h⟩)) htake))
  | exact Pm (Pm (m:=Builtin.Tuple.tupleExact _) (wpAny_newObj_type (Pn ⟨_,rfl,Pn h⟩) htake))
end
end HT
namespace L2
open PySem PySem.Spec PyProof.Rows
section
variable {X:Cx}{pos p2:Pos}{e:Expr}{te:TE}
def Ki:V->Option Int->Option Int->Hp->VK->Prop:=λx lo hi H Q=>∃a xs,x = .ref a/\H a=some (.tup xs)/\∀p H',Same H H'->H' p=some (.tup (Bj xs lo hi))->Q (.ref p) H'
theorem Gh:SlR X Ki:=by
 intro pins s σ H x v vl vu lo hi sl Q I rx hs pl pu h;obtain⟨a,xs,rfl,hx,q⟩:=h;by_cases hw:HT.sIx xs.length 0 lo=0/\HT.sIx xs.length xs.length hi=xs.length
 ·cases rx;obtain⟨its,r,ht,hz⟩:=I.tuple (SqT.of (K:=X.K) hx);have hlen:its.toArray.size=xs.length:=by rw[Lj];exact r.length.symm
  refine⟨"tuple",_,PyProof.Rows.slot_tuple_getitem.lookup,ht.typeIs,?_⟩;refine HT.getItem_tuple_whole ht hs pl pu (by rw[hlen];exact hw) ⟨.ref a,H,I,rfl,q a H (Same.refl H) ?_⟩;unfold Bj;rw[hw.1,hw.2,Pg,Nat.sub_zero,Mp];exact hx
 ·exact Xgt pins s σ H (.ref a) v vl vu lo hi sl Q I rx hs pl pu ⟨a,xs,rfl,SqT.of hx,hw,λp np=>q p _ ((Same.refl H).step np) Ac⟩
def Xj1 (te:TE):TE:=fun σ H Q=>te σ H λx H1=>∃a xs,x = .ref a/\H1 a=some (.tup xs)/\∀p,H1 p=none->Q (.ref p) (upd H1 p (.tup xs.reverse))
theorem Xj2{k:Nat}{p3 p4:Pos}(he:PE X e te):PE X (.Subscript e (.Slice none none (some (.UnaryOp .USub (.Constant (.int 1) k p3) p4)) p2) pos) (Xj1 te):=by
 intro pins s σ H Q I h;refine Subscript_ (thn (he pins s σ H _ I h) λv s1 ⟨x,H1,I1,r1,q1⟩=>?_);have hstep:PE X (.UnaryOp .USub (.Constant (.int 1) k p3) p4) (tUn (rU λi=>.int (-i)) (tC (.int 1))):=Xah Xam Ag;refine wpAny_Slice ?_;rw[evalPart_none];refine Pn (Pn ?_);rw[evalPart_some];refine thn (hstep pins s1 σ H1 (λy H2=>y = .int (-1)/\H2=H1) I1 ⟨1,rfl,rfl,rfl⟩) λu s2 ⟨y,H2,I2,r2,ey,eH⟩=>?_;subst ey eH;obtain⟨t,rfl⟩:=r2;obtain⟨a,xs,ex,hx,q⟩:=q1;subst ex;cases r1;have I4:Inv X pins σ H2 {s2 with heap:=s2.heap.push {cls:=.type "slice",data:=.fields #[.none,.none,.int (-1) t]} }:=I2.kept (t':=s2.toks) λb ob q=>Px _ q;obtain⟨its4,r4,ht4,hz4⟩:=I4.tuple (SqT.of (K:=X.K) hx);have hlen:=r4.length;refine tail_any (ops:=[.ref a,.ref s2.heap.objs.size]) ht4.typeIs PyProof.Rows.slot_tuple_getitem.lookup (HT.getItem_tuple_rev ht4 (Heap.IsSliceOf.new ..) ?_ (by rw[Lj];omega)) (by with_unfolding_all rfl);refine⟨.ref _,_,I4.laid (t':=s2.toks) (o:=.tup xs.reverse) (λb ob q=>Px _ q) (Lk _) ?_,rfl,q _ (I4.hok.fresh (Lk _))⟩;exact⟨by rw[Oh];exact hz4,_,Vals.reverse r4,IsTup.new _ _⟩
end
section
variable {X:Cx}{es:List Expr}{t:L2.St->Hp->(Hp->Prop)->Prop}{e:Expr}{te:TE}{pos:Pos}
def Xj3 (te:TE) (t:L2.St->Hp->(Hp->Prop)->Prop):L2.St->Hp->(Hp->Prop)->Prop:=fun σ H Q=>te σ H λx H1=>∃(a:Addr) (ss:List Str),x = .ref a/\H1 a=some (.tup (ss.map V.str))/\ss.length<=24/\(∀z∈ss,z.length<=20/\∀c∈z.cps.toList,c<16 ^ 8)/\t σ H1 Q
theorem Xdb:∀(ss:List Str),(∀z∈ss,z.length<=20/\∀c∈z.cps.toList,c<16 ^ 8)->piled (ss.map reprText)<=204 * ss.length
 | [],_=>by simp[piled]
 | z::ss,h=>by
  obtain⟨h1,h2⟩:=h z Lo;have:=StrLaws.reprText_len z h2;have ih:=Xdb ss λy hy=>h y (Ll _ hy);rw[L8,piled_cons,L4];omega
theorem Xj4(ts:List Str):(tupleText ts).length<=piled ts+3:=by
 unfold tupleText;rw[strLen_append,strLen_append];have e1:((("(" : String):Str)).length=1:=rfl;have e3:(((if ts.length==1 then ",)" else ")" : String):Str)).length<=2:=by split<;>decide
 rw[e1];by_cases h:ts=[]
 ·subst h;have:(Str.join ", " []).length=0:=rfl;omega
 ·have:=join_length_add ts h;omega
theorem Xdc{P:Program}{w:World}:∀{ss:List Str} {us:List Value},(∀z∈ss,z.length<=20/\∀c∈z.cps.toList,c<16 ^ 8)->Vals (ss.map V.str) us->ReprAll P w us (ss.map reprText)
 | [],_,_,r=>by cases r;exact .nil
 | z::ss,_,h,r=>by
  cases r with
  | cons r1 r2=>
   obtain⟨tk,rfl⟩:=r1;obtain⟨h1,h2⟩:=h z Lo;have:=StrLaws.reprText_len z h2;exact .cons (ReprIs.str z tk (by rw[Po];omega)) (Xdc (λy hy=>h y (Ll _ hy)) r2)
theorem Xj5{k:Nat}{p:Pos}(hr:Room k X.A)(ha:PE X e te)(h:PJ X es t)(he:evalEach (.FormattedValue e 114 none p::es) X.env=eval (.FormattedValue e 114 none p) X.env::evalEach es X.env:=by rfl):PJ X (.FormattedValue e 114 none p::es) (Xj3 te t):=by
 intro out pins s σ H Q I hw hl;rw[he];rw[L4] at hl;refine joinParts_cons (wpAny_FormattedValue_repr (thn (ha pins s σ H _ I hw) λv s1 ⟨x,H1,I1,r1,q1⟩=>?_));obtain⟨a,ss,ez,hp,h1,h2,q⟩:=q1;subst ez;cases r1;obtain⟨its,rv,pl,hz⟩:=I1.tuple (SqT.of (K:=X.K) hp);obtain⟨o,ho,hc,n,hd⟩:=pl;have hz1:=Xj4 (ss.map reprText);have hz2:=Xdb ss h2;have hz3:(tupleText (ss.map reprText)).length<=5000:=by omega
 have hz4:(tupleText (ss.map reprText)).length<=sizeLine:=by rw[Po];omega
 refine wpAny_pyReprObj_tuple (g:=[]) ⟨o,ho,hc⟩ hr.gd (by simp) hr.units0 ho hd (Xdc h2 (by simpa using rv)) (λu tk=>?_) hz4;refine formatField_str (λt' k=>⟨by rw[Ee];omega,?_⟩) hz4;exact h _ pins _ σ H1 Q ((I1.tok _).tok _) q (by rw[Ee];omega)
end
theorem Hg{K:PySem.W.Frag}{C S:Addr}(sb:PySem.W.subIn K (.ref C) (.type "BaseException")=some true)(sbS:PySem.W.subIn K (.ref S) (.type "BaseException")=some true)(ic:PySem.W.isClsIn K S=true)(ty:PySem.W.typeIn K (.ref S)=some (.type "type"))
  {b:Bool} (h:PySem.W.subIn K (.ref C) (.ref S)=some b):PySem.W.exmOne K (.ref C) (.ref S)=some b:=by
 unfold PySem.W.exmOne;rw[sbS,Pq (by decide)];exact J6 ic ty h
end L2
namespace SH
open PySem PySem.Spec PyProof.Rows L2
structure Bl (mg:Str->Option Value):Prop where
 len:mg "len" = none
 range:mg "range" = none
 list:mg "list" = none
 min:mg "min" = none
 isi:mg "isinstance" = none
 all:mg "all" = none
 str:mg "str" = none
 val:mg "ValueError" = none
 sorted:mg "sorted" = none
 set:mg "set" = none
 enum:mg "enumerate" = none
 int:mg "int" = none
 bool:mg "bool" = none
 tuple:mg "tuple" = none
 any:mg "any" = none
 dict:mg "dict" = none
 sum:mg "sum" = none
 max:mg "max" = none
structure DrawOk (H:Hp) (dr sc:Addr):Prop where
 ex:∃(ns:List Int) (p:Nat) (c m k:Int),H dr=some (.lst [.ref sc,.int p,.int c,.int m,.int k])/\H sc=some (.lst (ns.map V.int))/\p<=ns.length/\ns.length<=63/\0<=m/\m<1000000007
def Kj (K:PySem.W.Frag):Sp:=λvs H Q _=>∃(a:Addr) (ns:List Int),vs=[.ref a]/\SqL K H a (ns.map V.int)/\ns.length<=63/\∀dr sc H',H dr=none->H sc=none->DrawOk H' dr sc->Same H H'->Q (.ref dr) H'
def Xdd:Sp:=λvs H Q _=>∃(dr sc:Addr) (n:Int),vs=[.ref dr,.int n]/\0<n/\n<=1000/\DrawOk H dr sc /\
 ∀r H',0<=r->r<n->DrawOk H' dr sc->(∀b o,H b=some o->b≠dr->H' b=some o)->Q (.int r) H'
abbrev NP:List Str:=["_law_draw", "_law_many", "_law_cell", "_law_got"]
def D5 (H:Hp) (dr sc:Addr) (ns:List Int) (p:Nat) (c m k:Int):Prop:=H dr=some (.lst [.ref sc,.int p,.int c,.int m,.int k])/\H sc=some (.lst (ns.map V.int))
theorem cpow3{m:Int}(h0:0<=m)(h1:m<1000000007):CPow m 3:=⟨by decide,by decide,by omega⟩
def Cy (row:List Str) (x:Str) (a b:Nat):List Str:=row.take a++[x]++(row.drop a).take (b - a)++[x]++row.drop b
theorem Xde(row:List Str)(x:Str)(a b:Nat)(hab:a<=b):(Cy row x a b).Perm (x::x::row):=by
 unfold Cy;have e:row=row.take a++((row.drop a).take (b - a)++row.drop b):=by
  have e1:row.drop b=(row.drop a).drop (b - a):=by rw[List.drop_drop];congr 1;omega
  rw[e1,Mn,Mn]
 generalize hA:row.take a=A at *;generalize hB:(row.drop a).take (b - a)=B at *;generalize hC:row.drop b=C at *;rw[e];have p1:(A++[x]++B++[x]++C).Perm (x::(A++B++[x]++C)):=by
  have:A++[x]++B++[x]++C=A++x::(B++[x]++C):=by simp
  rw[this];refine N5.trans ?_;simp
 refine p1.trans (List.Perm.cons x ?_);have:A++B++[x]++C=(A++B)++x::C:=by simp
 rw[this];refine N5.trans ?_;simp
def Kk:Sp:=λvs H Q _=>∃(r:Addr) (row:List Str) (x:Str) (a b:Nat),vs=[.ref r,.str x,.int a,.int b]/\H r=some (.lst (row.map V.str))/\row.length<=1000/\a<=b/\b<=row.length /\
 ∀l H',H l=none->H' l=some (.lst ((Cy row x a b).map V.str))->Same H H'->Q (.ref l) H'
abbrev NPut:List Str:=["_law_row_here", "_law_name", "_law_at", "_law_to", "_law_told"]
def A1 (x:Str):Nat->List Str->List Int
 | _,[]=>[]
 | n,y::r=>if y=x then (n:Int)::A1 x (n+1) r else A1 x (n+1) r
def plc (row:List Str) (x:Str):List Int:=A1 x 0 row
theorem Xdf(x y:Str):∀(n:Nat) (r:List Str),A1 x n (r++[y])=A1 x n r++(if y=x then [((n+r.length:Nat):Int)] else [])
 | n,[]=>by
  show (if y=x then ((n:Nat):Int)::A1 x (n+1) [] else A1 x (n+1) [])=_;split<;>simp[A1]
 | n,z::r=>by
  have ih:=Xdf x y (n+1) r;show (if z=x then (n:Int)::A1 x (n+1) (r++[y]) else A1 x (n+1) (r++[y]))=(if z=x then (n:Int)::A1 x (n+1) r else A1 x (n+1) r)++_;rw[ih,L4,show n+1+r.length=n+(r.length+1) by omega];split<;>simp
theorem Hh(x:Str):∀(n:Nat) (r:List Str),(A1 x n r).length=r.count x
 | _,[]=>rfl
 | n,z::r=>by
  show (if z=x then (n:Int)::A1 x (n+1) r else A1 x (n+1) r).length=_;rw[List.count_cons];split
  ·rename_i e;rw[L4,Hh,Pq (by simpa using e)]
  ·rename_i e;rw[Hh,Pp (by simpa using e)];rfl
theorem Kl(row:List Str)(x:Str):(plc row x).length=row.count x:=Hh x 0 row
theorem Km(r:List Str)(x y:Str):plc (r++[y]) x=plc r x++(if y=x then [(r.length:Int)] else []):=by
 have e:=Xdf x y 0 r;rw[O1] at e;exact e
structure Wh (H:Hp) (kvs:List (Key×V)) (row:List Str):Prop where
 keys:∀k∈kvs.map (·.1),∃x,k=Sum.inr x/\x∈row
 val:∀x∈row,∃l,Aw kvs (Sum.inr x:Key)=some (.ref l)/\H l=some (.lst ((plc row x).map V.int))
 none:∀x,x∉row->Aw kvs (Sum.inr x:Key)=none
 nd:(kvs.map (·.1)).Nodup
 len:kvs.length<=row.length
theorem Xdg{kvs:List (Key×V)}{k:Key}{v:V}{l:V}(h:Aw kvs k=some l):(Bd kvs k v).map (·.1)=kvs.map (·.1):=by
 unfold Bd;rw[Dr,h,Pq Pb,Nw];refine M3 λp _=>?_;show (if p.1=k then (p.1,v) else p).1=p.1;split<;>rfl
theorem Wh.snoc{H H':Hp}{kvs:List (Key×V)}{row:List Str}(w:Wh H kvs row)(y:Str)(l:Addr)(hl:H' l=some (.lst ((plc (row++[y]) y).map V.int)))
  (s:∀b xs,H b=some (.lst xs)->H' b=some (.lst xs)):Wh H' (Bd kvs (Sum.inr y) (.ref l)) (row++[y]):=by
 refine⟨λk hk=>?_,λx hx=>?_,λx hx=>?_,?_,?_⟩
 ·by_cases hy:y∈row
  ·obtain⟨l0,e,_⟩:=w.val y hy;rw[Xdg e] at hk;obtain⟨x,e1,e2⟩:=w.keys k hk;exact⟨x,e1,M7 _ e2⟩
  ·rw[Jj _ (w.none y hy),Lx] at hk;rcases Ls.mp hk with hk | hk
   ·obtain⟨x,e1,e2⟩:=w.keys k hk;exact⟨x,e1,M7 _ e2⟩
   ·exact⟨y,by simpa using hk,by simp⟩
 ·rw[Ji];by_cases e:x=y
  ·subst e;exact⟨l,Pq rfl,hl⟩
  ·have hx':x∈row:=by
    rcases Ls.mp hx with z | z
    ·exact z
    ·exact absurd (Ly.mp z) e
   obtain⟨l0,e1,e2⟩:=w.val x hx';refine⟨l0,by rw[Pp (λz=>e (Og z))];exact e1,?_⟩;rw[Km,Pp (λz=>e z.symm),Mr];exact s _ _ e2
 ·rw[Ji];have h1:x∉row:=λz=>hx (M7 _ z);have h2:x≠y:=λz=>hx (by rw[z];simp);rw[Pp (λz=>h2 (Og z))];exact w.none x h1
 ·by_cases hy:y∈row
  ·obtain⟨l0,e,_⟩:=w.val y hy;rw[Xdg e];exact w.nd
  ·exact Xhs _ w.nd (w.none y hy)
 ·have:=Gx kvs (Sum.inr y:Key) (.ref l);have:=w.len;rw[Ln,Mq];omega
def Hi:Sp:=λvs H Q _=>∃(r:Addr) (row:List Str),vs=[.ref r]/\H r=some (.lst (row.map V.str))/\row.length<=1000 /\
 ∀d kvs H',H d=none->H' d=some (.dK kvs)->Wh H' kvs row->Same H H'->Q (.ref d) H'
abbrev NWh:List Str:=["_law_row_here", "_law_told", "_law_at"]
def inn (a b:Int) (ys:List Int):List Int:=ys.filter λt=>decide (a<t)&&decide (t<b)
theorem Kn(a b:Int)(ys:List Int):(inn a b ys).length<=ys.length:=M5 ..
def words3:List Str:=["same", "cross", "around"]
def Cz (a b c e:Int) (same:Bool):Str:=
 if (same||decide (0<(inn a b [c,e]).length))=true then words3.getD (inn a b [c,e]).length "apart" else if c<a/\b<e then "within" else "apart"
def spWord:Sp:=λvs H Q _=>∃(d l1 l2:Addr) (kvs:List (Key×V)) (x y:Str) (a b c e:Int),vs=[.ref d,.str x,.str y]/\Rd H d (.dK kvs)/\Aw kvs (Sum.inr x:Key)=some (.ref l1)/\Aw kvs (Sum.inr y:Key)=some (.ref l2) /\
 H l1=some (.lst [.int a,.int b])/\H l2=some (.lst [.int c,.int e])/\∀H',Same H H'->Q (.str (Cz a b c e (decide (x=y)))) H'
abbrev NWo:List Str:=["_law_where_here", "_law_one", "_law_other", "_law_low", "_law_high", "_law_inner"]
theorem Rd.same{H H':Hp}{d:Addr}{o:HO}(r:Rd H d o)(s:Same H H'):Rd H' d o:=by
 rcases r with r | ⟨u,r⟩
 ·exact .inl (s _ _ r)
 ·exact .inr ⟨u,s _ _ r⟩
theorem DGet.rd{H:Hp}{a:Addr}{kvs:List (Key×V)}{x:Str}{v:V}(e:Rd H a (.dK kvs))(h:Aw kvs (Sum.inr x:Key)=some v):DGet H a (.str x) (some v):=.inl ⟨kvs,Sum.inr x,e,rfl,h.symm⟩
theorem Xj6{row:List Str}{x:Str}(h:row.count x=2):∃a b,plc row x=[a,b]:=by
 have e:=Kl row x;rw[h] at e
 match q:plc row x,e with
 | [a,b],_=>exact⟨a,b,rfl⟩
abbrev NBa:List Str:=["_law_row_here", "_law_name", "_law_where_here", "_law_met", "_law_at", "_law_other"]
abbrev NBc:List Str:=["_law_one", "_law_name", "_law_where_here"]
abbrev Eh:Str := "kqvzbdgmprtxhnjfwlycsaeiou"
def signOf (i:Nat):Str:=⟨#[(Eh.cps.toList).getD i 0]⟩
def Gi (st:Nat) (late:Bool) (k:Nat):Str:=
 if late=true then (repS "m" ((st+k * k) % 7)++signOf ((st+k) % 26)) ++ "y" else signOf ((st+k) % 26)++repS "m" ((st+k * k) % 7)
def Ba (st:Nat) (late:Bool) (n:Nat):List Str:=(List.range n).map (Gi st late)
theorem Xj7:∀st<26,∀late:Bool,(Ba st late 14).Nodup:=by decide +kernel
theorem Ko{st:Nat}{late:Bool}{n:Nat}(hs:st<26)(hn:n<=14):(Ba st late n).Nodup:=by
 refine(Xj7 st hs late).sublist ?_;unfold Ba;refine List.Sublist.map _ ?_;have e:List.range 14=List.range n++(List.range (14 - n)).map (n + ·):=by
  rw[<-List.range_add];congr 1;omega
 rw[e];exact List.sublist_append_left ..
def But (dr:Addr) (H H':Hp):Prop:=∀b o,H b=some o->b≠dr->H' b=some o
theorem But.refl(dr:Addr)(H:Hp):But dr H H:=λ_ _ e _=>e
theorem But.trans{dr:Addr}{H H1 H2:Hp}(a:But dr H H1)(b:But dr H1 H2):But dr H H2:=λc o e h=>b c o (a c o e h) h
theorem But.same{dr:Addr}{H H1 H2:Hp}(a:But dr H H1)(b:Same H1 H2):But dr H H2:=λc o e h=>b c o (a c o e h)
theorem But.free{dr b:Addr}{H H':Hp}{o:HO}(a:But dr H H')(hd:H' dr=some o)(h:H' b=none):H b=none:=by
 cases q:H b with
 | none=>rfl
 | some u=>
  by_cases e:b=dr
  ·rw[e,hd] at h;cases h
  ·rw[a b u q e] at h;cases h
theorem But.upd{dr a:Addr}{H H':Hp}{o:HO}(x:But dr H H')(h:H a=none):But dr H (L2.upd H' a o):=λb u e hb=>by
 rw[Af (Aq e h)];exact x b u e hb
theorem DrawOk.at{H:Hp}{dr sc:Addr}(d:DrawOk H dr sc):∃xs,H dr=some (.lst xs):=let ⟨_,_,_,_,_,h,_⟩:=d.ex; ⟨_,h⟩
theorem DrawOk.same{H H':Hp}{dr sc:Addr}(d:DrawOk H dr sc)(s:Same H H'):DrawOk H' dr sc:=
 let ⟨ns,p,c,m,k,h1,h2,r⟩:=d.ex; ⟨ns,p,c,m,k,s _ _ h1,s _ _ h2,r⟩
theorem DrawOk.upd{H:Hp}{dr sc a:Addr}{o:HO}(d:DrawOk H dr sc)(h1:a≠dr)(h2:a≠sc):DrawOk (L2.upd H a o) dr sc:=
 let ⟨ns,p,c,m,k,e1,e2,r⟩:=d.ex; ⟨ns,p,c,m,k,by rw[Af h1.symm];exact e1,by rw[Af h2.symm];exact e2,r⟩
theorem DrawOk.ne{H:Hp}{dr sc a:Addr}(d:DrawOk H dr sc)(h:H a=none):a≠dr/\a≠sc:=by
 obtain⟨ns,p,c,m,k,e1,e2,r⟩:=d.ex;exact⟨(Aq e1 h).symm,(Aq e2 h).symm⟩
def Kp:Sp:=λvs H Q _=>∃(dr sc:Addr) (n:Nat),vs=[.ref dr,.int n]/\n<=14/\DrawOk H dr sc /\
 ∀l st late H',H l=none->st<26->H' l=some (.lst ((Ba st late n).map V.str))->l≠sc->DrawOk H' dr sc->But dr H H'->Q (.ref l) H'
abbrev FnPick (P:Program) (w:World) (K:PySem.W.Frag) (mg:Str->Option Value) (base:Heap):Prop:=Fn P w K mg base CX0 1 "_law_pick" ["_law_draw", "_law_many"] Xdd
abbrev NNa:List Str:=["_law_draw", "_law_many", "_law_base", "_law_start", "_law_late", "_law_told", "_law_k", "_law_sign", "_law_hum"]
theorem Xj8{i:Nat}(h:i<26):atI Eh.cps.toList (i:Int)=some ((Eh.cps.toList).getD i 0):=by
 have hl:i<Eh.cps.toList.length:=h;refine B0 ?_;rw[Lm hl];simp[List.getD,Lm hl]
theorem E6{l:List Str}(h:l.Nodup){row:List Str}(p:row.Perm (l++l)):∀y∈row,row.count y=2:=λy hy=>by
 rw[p.count_eq,N1];have hy':y∈l:=by
  rcases Ls.mp (p.mem_iff.mp hy) with z | z
  ·exact z
  ·exact z
 have e1:l.count y<=1:=List.nodup_iff_count.mp h y;have e2:0<l.count y:=Pc.mpr hy';omega
theorem Xdh{A row more:List Str}{x:Str}(p:row.Perm (A++A))(q:more.Perm (x::x::row)):more.Perm ((A++[x])++(A++[x])):=by
 refine q.trans (((p.cons x).cons x).trans ?_);have e:(A++[x])++(A++[x])=A++x::(A++x::[]):=by simp
 rw[e];refine List.Perm.trans ?_ N5.symm;refine List.Perm.cons x ?_;have e2:A++(A++x::[])=(A++A)++x::[]:=by simp
 rw[e2];refine List.Perm.trans ?_ N5.symm;simp
abbrev NRo:List Str:=["_law_draw", "_law_names_here", "_law_cut", "_law_row_here", "_law_name", "_law_at", "_law_to", "_law_more"]
def Xpg:Sp:=λvs H Q _=>∃(dr sc:Addr) (m:Nat),vs=[.ref dr,.int m]/\m<=14/\DrawOk H dr sc /\
 ∀(l:Addr) (row:List Str) (n st:Nat) (late:Bool) (H':Hp),H l=none->n<=m->st<26->H' l=some (.lst (row.map V.str))->row.Perm (Ba st late n++Ba st late n)->DrawOk H' dr sc->But dr H H'->Q (.ref l) H'
abbrev NIs:List Str:=["_law_draw", "_law_most", "_law_few", "_law_many"]
theorem Xdi(K:PySem.W.Frag)(T:String):PySem.W.kitOne K (.type T) (.type T)=some true:=by
 unfold PySem.W.kitOne;rw[Pq (beq_self_eq_true _)]
theorem Kq(row:List Str)(x:Str):((List.range row.length).filter λi=>decide (row.getD i Str.empty=x)).map (λi:Nat=>(i:Int))=plc row x:=by
 have go:∀n,n<=row.length->((List.range n).filter λi=>decide (row.getD i Str.empty=x)).map (λi:Nat=>(i:Int))=plc (row.take n) x:=by
  intro n
  induction n with
  | zero=>intro _;rfl
  | succ n ih=>
   intro h;have hn:n<row.length:=by omega
   have e:row.getD n Str.empty=row[n]:=by simp[List.getD,hn]
   rw[Mw,L6,Lx,ih (by omega),L7 hn,Km,Mi,e,Mb,N0 (by omega)];by_cases q:row[n]=x
   ·rw[Pq q,Pq (Pr q)];rfl
   ·rw[Pp q,Pp (by simpa using q)];rfl
 rw[go _ (Lk _),Mp]
def okN (x:Str):Prop:=x.length<=20/\∀c∈x.cps.toList,c<0x110000
def spAsk (C:Addr):Sp:=λvs H Q E=>∃(r:Addr) (row:List Str) (x:Str),vs=[.ref r,.str x]/\H r=some (.lst (row.map V.str))/\okN x /\
 (x∈row->∀H',Same H H'->Q .non H')/\(x∉row->∀H',Same H H'->E (.ref C) none H')
def spDitches:Sp:=λvs H Q _=>∃(r:Addr) (row:List Str),vs=[.ref r]/\H r=some (.lst (row.map V.str))/\row.length<=60 /\
 ∀l H',H l=none->H' l=some (.lst ((dit row).map V.str))->Same H H'->Q (.ref l) H'
def Kr (C:Addr):Sp:=λvs H Q E=>∃(r:Addr) (row:List Str) (x:Str),vs=[.ref r,.str x]/\H r=some (.lst (row.map V.str))/\okN x/\row.length<=1000 /\
 (x∈row->∃a b,plc row x=[a,b]/\∀l H',H l=none->H' l=some (.tup [.int a,.int b])->Same H H'->Q (.ref l) H')/\(x∉row->∀H',Same H H'->E (.ref C) none H')
abbrev NEn:List Str:=["row", "name", "found"]
abbrev NEc:List Str:=["at", "end", "name"]
end SH
namespace L2
open PySem PySem.Spec PyProof.Rows
theorem Dg(x y:Str):decide (V.str x=V.str y)=decide (x=y):=by
 by_cases z:x=y
 ·rw[z];simp
 ·rw[Ps z,Ps (λq=>z (by injection q))]
theorem Dv(row:List Str):∀v∈row.map V.str,B1 v=true:=λv h=>by
 obtain⟨x,_,rfl⟩:=Mf.mp h;rfl
theorem Cf{α : Type}(f : α->V)(d : α)(xs:List α){i:Nat}(hi:i<xs.length):(xs.map f).getD i .non=f (xs.getD i d):=by simp[List.getD,hi]
theorem Xj9{α : Type}(f : α->V)(d : α)(xs:List α){i:Nat}(hi:i<xs.length):atI (xs.map f) (i:Int)=some (f (xs.getD i d)):=by
 refine B0 ?_;rw[Lz,Lm hi];simp[List.getD,hi]
end L2
namespace SH
open PySem PySem.Spec PyProof.Rows L2
theorem Wh.names{H:Hp}{kvs:List (Key×V)}{row:List Str}(w:Wh H kvs row):∃ss:List Str,kvs.map (·.1)=ss.map (λx=>(Sum.inr x:Key))/\ss.Nodup/\∀x,x∈ss↔x∈row:=by
 have e:∀ks:List Key,(∀k∈ks,∃x,k=Sum.inr x)->∃ss:List Str,ks=ss.map (λx=>(Sum.inr x:Key)):=by
  intro ks
  induction ks with
  | nil=>intro _;exact⟨[],rfl⟩
  | cons k r ih=>
   intro h;obtain⟨x,rfl⟩:=h k Lo;obtain⟨ss,rfl⟩:=ih λk hk=>h k (Ll _ hk);exact⟨x::ss,rfl⟩
 obtain⟨ss,hs⟩:=e (kvs.map (·.1)) λk hk=>let ⟨x,h,_⟩:=w.keys k hk; ⟨x,h⟩;have inj:∀x,x∈ss↔(Sum.inr x:Key)∈kvs.map (·.1):=λx=>by
  rw[hs,Mf];constructor
  ·exact λh=>⟨x,h,rfl⟩
  ·rintro ⟨y,hy,e⟩;rw[<-Og e];exact hy
 refine⟨ss,hs,?_,λx=>?_⟩
 ·have:=w.nd;rw[hs] at this;exact List.Pairwise.of_map _ (λa b hab e=>hab (congrArg _ e)) this
 ·rw[inj];constructor
  ·intro h;obtain⟨y,e,hy⟩:=w.keys _ h;rw[Og e];exact hy
  ·intro h;obtain⟨l,e,_⟩:=w.val x h;exact Gy e
structure Isl (row:List Str):Prop where
 ex:∃n st late,n<=14/\st<26/\row.Perm (Ba st late n++Ba st late n)
theorem Xdj{st n:Nat}{late:Bool}(hn:n<=14){x:Str}(h:x∈Ba st late n):x∈Ba st late 14:=by
 unfold Ba at h ⊢;obtain⟨i,hi,rfl⟩:=Mf.mp h;exact Mf.mpr ⟨i,Mo.mpr (by have:=Mo.mp hi;omega),rfl⟩
instance (x:Str):Decidable (okN x):=inferInstanceAs (Decidable (_/\_))
theorem Xka:∀st<26,∀late:Bool,∀x∈Ba st late 14,okN x:=by decide +kernel
theorem Isl.two{row:List Str}(h:Isl row):∀y∈row,row.count y=2:=by
 obtain⟨n,st,late,hn,hs,p⟩:=h.ex;exact E6 (Ko hs hn) p
theorem Isl.len{row:List Str}(h:Isl row):row.length<=28:=by
 obtain⟨n,st,late,hn,hs,p⟩:=h.ex;have:=p.length_eq;unfold Ba at this;simp at this;omega
theorem Isl.ok{row:List Str}(h:Isl row):∀y∈row,okN y:=λy hy=>by
 obtain⟨n,st,late,hn,hs,p⟩:=h.ex;refine Xka st hs late y (Xdj hn ?_);rcases Ls.mp (p.mem_iff.mp hy) with z | z<;>exact z
def C0:List Str->Str
 | [] => "noneatal"
 | y::_=>Txt.slice y none (some 7)++Str.ofString "q"
theorem stranger14:∀st<26,∀late:Bool,∀y∈Ba st late 14,okN (Txt.slice y none (some 7)++Str.ofString "q")/\Txt.slice y none (some 7)++Str.ofString "q" ∉ Ba st late 14:=by decide +kernel
theorem Isl.stranger{row:List Str}(h:Isl row):okN (C0 row)/\C0 row∉row:=by
 cases row with
 | nil=>exact⟨by decide +kernel,by simp⟩
 | cons y r=>
  obtain⟨n,st,late,hn,hs,p⟩:=h.ex;have sub:∀z∈y::r,z∈Ba st late 14:=λz hz=>Xdj hn (by rcases Ls.mp (p.mem_iff.mp hz) with q | q<;>exact q);obtain⟨h1,h2⟩:=stranger14 st hs late y (sub y Lo);exact⟨h1,λz=>h2 (sub _ z)⟩
theorem Xkb{x:Str}(h:okN x):A9 (.str x)=true:=by
 show PyData.strOk x=true;unfold PyData.strOk;rw[<-Array.all_toList,L9];intro c hc;exact Pr (h.2 c hc)
theorem Xdk{row:List Str}{x:Str}{i:Int}:i∈plc row x ↔ ∃k:Nat,i=k/\row[k]? = some x:=by
 rw[<-Kq,Mf];constructor
 ·rintro ⟨k,hk,rfl⟩;obtain⟨h1,h2⟩:=Mc.mp hk;have hk':=Mo.mp h1;refine⟨k,rfl,?_⟩;have:=Pt h2;rw[Lm hk'];simpa [List.getD,hk'] using this
 ·rintro ⟨k,rfl,hk⟩;have hk':k<row.length:=(L3.mp hk).1;refine⟨k,Mc.mpr ⟨Mo.mpr hk',Pr ?_⟩,rfl⟩;simp[List.getD,hk]
theorem Xkc(row:List Str)(x:Str):(plc row x).Pairwise (· < ·):=by
 rw[<-Kq,List.pairwise_map];refine List.Pairwise.imp ?_ (List.Pairwise.filter _ (List.pairwise_lt_range (n:=row.length)));intro a b h;omega
def pl (row:List Str) (x:Str):Int×Int:=((plc row x).getD 0 0,(plc row x).getD 1 0)
theorem Xdl{row:List Str}{x:Str}{a b:Int}(h:plc row x=[a,b]):pl row x=(a,b):=by
 unfold pl;rw[h];rfl
theorem Ei{row:List Str}{x:Str}(h:row.count x=2):plc row x=[(pl row x).1,(pl row x).2]:=by
 obtain⟨a,b,e⟩:=Xj6 h;rw[Xdl e,e]
theorem Dh{row:List Str}{x:Str}(h:row.count x=2):(pl row x).1<(pl row x).2:=by
 have h1:=Xkc row x;rw[Ei h] at h1;simpa using h1
theorem E7{row:List Str}{x y:Str}(hx:row.count x=2)(hy:row.count y=2)(n:x≠y):(pl row x).1≠(pl row y).1/\(pl row x).1≠(pl row y).2/\(pl row x).2≠(pl row y).1/\(pl row x).2≠(pl row y).2:=by
 have key:∀i,i∈plc row x->i∈plc row y->False:=λi h1 h2=>by
  obtain⟨k,e1,g1⟩:=Xdk.mp h1;obtain⟨m,e2,g2⟩:=Xdk.mp h2;have:k=m:=by omega
  subst this;rw[g1] at g2;exact n (Lq g2)
 rw[Ei hx,Ei hy] at key;refine⟨λe=>key (pl row x).1 (by simp) (by rw[e];simp),λe=>key (pl row x).1 (by simp) (by rw[e];simp),λe=>key (pl row x).2 (by simp) (by rw[e];simp),λe=>key (pl row x).2 (by simp) (by rw[e];simp)⟩
def nIn (a b:Int) (ys:List Int):Nat:=(inn a b ys).length
theorem Cg(a b c e:Int):nIn a b [c,e]=(if a<c/\c<b then 1 else 0)+(if a<e/\e<b then 1 else 0):=by
 unfold nIn inn;simp only[Mi,List.filter_nil,Lv,decide_eq_true_eq];split<;>split<;>rfl
def lieT (a b c e:Int):Str:=if a=c/\b=e then "same" else if nIn c e [a,b]=1 then "cross" else if nIn c e [a,b]=2 then "within" else if nIn a b [c,e]=2 then "around" else "apart"
theorem Xkd{a b c e:Int}(h1:a<b)(h2:c<e)(n1:a≠c)(n2:a≠e)(n3:b≠c)(n4:b≠e):lieT a b c e=Cz a b c e false:=by
  unfold lieT Cz;rw[Pp (λz=>n1 z.1)];have e1:=Cg a b c e;have e2:=Cg c e a b;have e3:(inn a b [c,e]).length=nIn a b [c,e]:=rfl;rw[e3];generalize nIn a b [c,e]=p at *;generalize nIn c e [a,b]=q at *;by_cases p1:a<c/\c<b<;>by_cases p2:a<e/\e<b<;>by_cases q1:c<a/\a<e<;>by_cases q2:c<b/\b<e <;>
    (first | rw[Pq p1] at e1 | rw[Pp p1] at e1)<;>(first | rw[Pq p2] at e1 | rw[Pp p2] at e1) <;>
    (first | rw[Pq q1] at e2 | rw[Pp q1] at e2)<;>(first | rw[Pq q2] at e2 | rw[Pp q2] at e2)<;>subst e1 e2<;>first
    | (exfalso;omega)
    | rfl
    | (have hw:(c<a/\b<e):=by omega
       rw[Pq hw];rfl)
    | (have hw:¬(c<a/\b<e):=by omega
       rw[Pp hw];rfl)
theorem Xke{a b:Int}:lieT a b a b=Cz a b a b true:=by
 unfold lieT Cz;rw[Pq ⟨rfl,rfl⟩,Bool.true_or,Pq rfl];have e1:=Cg a b a b;have e3:(inn a b [a,b]).length=nIn a b [a,b]:=rfl;rw[e3,e1,Pp (by omega),Pp (by omega)];rfl
def lieR (row:List Str) (x y:Str):Str:=lieT (pl row x).1 (pl row x).2 (pl row y).1 (pl row y).2
theorem E8{row:List Str}{x y:Str}(hx:row.count x=2)(hy:row.count y=2):lieR row x y=Cz (pl row x).1 (pl row x).2 (pl row y).1 (pl row y).2 (decide (x=y)):=by
 unfold lieR;by_cases n:x=y
 ·subst n;rw[Pr rfl];exact Xke
 ·rw[Ps n];obtain⟨n1,n2,n3,n4⟩:=E7 hx hy n;exact Xkd (Dh hx) (Dh hy) n1 n2 n3 n4
def crs (row:List Str):List (Str×Str):=(dit row).flatMap λx=>((dit row).filter λy=>decide (ltS x y)&&decide (lieR row x y = "cross")).map λy=>(x,y)
structure Spn (H:Hp) (kvs:List (Key×V)) (row:List Str) (ns:List Str):Prop where
 keys:kvs.map (·.1)=ns.map (λx=>(Sum.inr x:Key))
 val:∀x∈ns,∃l,Aw kvs (Sum.inr x:Key)=some (.ref l)/\H l=some (.tup [.int (pl row x).1,.int (pl row x).2])
theorem Spn.mono{H H':Hp}{kvs:List (Key×V)}{row ns:List Str}(s:Spn H kvs row ns)(h:Same H H'):Spn H' kvs row ns:=⟨s.keys,λx hx=>let ⟨l,h1,h2⟩:=s.val x hx; ⟨l,h1,h _ _ h2⟩⟩
end SH
namespace L2
open PySem
theorem hu3{A:Around}{k:Nat}(hr:Room k A):A.units+3<cLine:=by have:=hr.units;omega
end L2
namespace SH
open PySem PySem.Spec PyProof.Rows L2
structure Row2 (row:List Str):Prop where
 two:∀y∈row,row.count y=2
 ok:∀y∈row,okN y
 len:row.length<=60
theorem Isl.row2{row:List Str}(h:Isl row):Row2 row:=⟨h.two,h.ok,by have:=h.len;omega⟩
def spSpans:Sp:=λvs H Q _=>∃(r:Addr) (row:List Str),vs=[.ref r]/\H r=some (.lst (row.map V.str))/\Row2 row /\
 ∀d kvs H',H d=none->H' d=some (.dK kvs)->Spn H' kvs row (dit row)->Same H H'->Q (.ref d) H'
def Lie4 (a b c e:Int):Prop:=c<=e/\(b=e->a=c)
theorem lie4{row:List Str}{x y:Str}(hx:row.count x=2)(hy:row.count y=2):Lie4 (pl row x).1 (pl row x).2 (pl row y).1 (pl row y).2:=
 ⟨Int.le_of_lt (Dh hy),λe=>by
  by_cases n:x=y
  ·rw[n]
  ·exact absurd e (E7 hx hy n).2.2.2⟩
theorem Xkf{a b c e:Int}(n:¬(a=c/\b=e))(h:((decide (c<a)&&decide (a<e))==(decide (c<b)&&decide (b<e)))=false):lieT a b c e = "cross" := by
 unfold lieT;rw[Pp n,Pq];rw[Cg];rw[<-Bool.decide_and,<-Bool.decide_and] at h;by_cases q1:c<a/\a<e<;>by_cases q2:c<b/\b<e<;>simp[q1,q2] at h ⊢
theorem Xkg{a b c e:Int}(n:¬(a=c/\b=e))(h:((decide (c<a)&&decide (a<e))==(decide (c<b)&&decide (b<e)))=true)(h2:(decide (c<a)&&decide (a<e))=true):lieT a b c e = "within" := by
 unfold lieT;rw[h2,beq_iff_eq] at h;simp only[Lv,decide_eq_true_eq] at h2;have h3:c<b/\b<e:=by simpa using h.symm
 rw[Pp n,Cg,Pq h2,Pq h3,Pp (by decide),Pq rfl]
theorem Xkh{a b c e:Int}(l:Lie4 a b c e)(n:¬(a=c/\b=e))(h:((decide (c<a)&&decide (a<e))==(decide (c<b)&&decide (b<e)))=true)(h2:(decide (c<a)&&decide (a<e))=false):lieT a b c e=if (decide (a<c)&&decide (c<b))=true then "around" else "apart" := by
 unfold lieT;rw[h2,beq_iff_eq] at h;have h2:¬(c<a/\a<e):=λz=>by rw[Pr z.1,Pr z.2] at h2;cases h2
 have h3:¬(c<b/\b<e):=λz=>by rw[Pr z.1,Pr z.2] at h;cases h
 rw[Pp n,Cg,Pp h2,Pp h3,Pp (by decide),Pp (by decide),Cg];obtain⟨l1,l2⟩:=l;have key:a<c/\c<b->a<e/\e<b:=λz=>by
  have:b≠e:=λq=>n ⟨l2 q,q⟩;omega
 by_cases q:a<c/\c<b
 ·rw[Pq q,Pq (key q),Pq rfl,Pq (by simp[q])]
 ·rw[Pp q,Pp (by split<;>decide),Pp (by simpa using q)]
def Ks:Sp:=λvs H Q _=>∃(p q:Addr) (a b c e:Int),vs=[.ref p,.ref q]/\H p=some (.tup [.int a,.int b])/\H q=some (.tup [.int c,.int e])/\Lie4 a b c e/\∀H',Same H H'->Q (.str (lieT a b c e)) H'
theorem Kt{ta tb tc:TE}{σ:L2.St}{H:Hp}{Q:VK}{x y z:Int}(ha:∀Q':VK,Q' (.int x) H->ta σ H Q')(hb:∀Q':VK,Q' (.int y) H->tb σ H Q')(hc:∀Q':VK,Q' (.int z) H->tc σ H Q')(h:Q (.bl (decide (x<y)&&decide (y<z))) H):
  Iw (rI0 λi j=>.bl (decide (i<j))) (rI0 λi j=>.bl (decide (i<j))) ta tb tc σ H Q:=by
 refine ha _ (hb _ ⟨x,y,rfl,rfl,_,rfl,?_⟩);refine Ao (λq=>hc _ ⟨y,z,rfl,rfl,?_⟩) (λq=>?_)
 ·rw[q,Mu] at h;exact h
 ·rw[q,Ms] at h;exact h
abbrev NSp:List Str:=["name", "row"]
abbrev NLo:List Str:=["here", "there", "first", "last"]
theorem Spn.snoc{H H':Hp}{kvs:List (Key×V)}{row ns:List Str}{x:Str}{l:Addr}(s:Spn H kvs row ns)(nx:x∉ns)(h:H' l=some (.tup [.int (pl row x).1,.int (pl row x).2]))(k:∀b xs,H b=some (.tup xs)->H' b=some (.tup xs)):
  Spn H' (Bd kvs (Sum.inr x) (.ref l)) row (ns++[x]):=by
 have hn:Aw kvs (Sum.inr x:Key)=none:=by
  cases e:Aw kvs (Sum.inr x:Key) with
  | none=>rfl
  | some v=>
   exfalso;have:=Gy e;rw[s.keys] at this;obtain⟨y,hy,e2⟩:=Mf.mp this;rw[Og e2] at hy;exact nx hy
 refine⟨by rw[Jj _ hn,Lx,Lx,s.keys];rfl,λy hy=>?_⟩;rw[Ji];by_cases e:y=x
 ·subst e;exact⟨l,Pq rfl,h⟩
 ·have hy':y∈ns:=by
   rcases Ls.mp hy with z | z
   ·exact z
   ·exact absurd (Ly.mp z) e
  obtain⟨l0,h1,h2⟩:=s.val y hy';exact⟨l0,by rw[Pp (λz=>e (Og z))];exact h1,k _ _ h2⟩
theorem Spn.get{H:Hp}{kvs:List (Key×V)}{row ns:List Str}{d:Addr}{x:Str}(s:Spn H kvs row ns)(hd:Rd H d (.dK kvs))(hx:x∈ns):∃l,DGet H d (.str x) (some (.ref l))/\H l=some (.tup [.int (pl row x).1,.int (pl row x).2]):=by
 obtain⟨l,h1,h2⟩:=s.val x hx;exact⟨l,DGet.rd hd h1,h2⟩
theorem Spn.at{H:Hp}{kvs:List (Key×V)}{row ns:List Str}(s:Spn H kvs row ns)(i:Nat)(hi:i<ns.length):(kvs.map λp=>kV p.1).getD i .non = .str (ns.getD i Str.empty):=by
 have e:(kvs.map λp=>kV p.1)=ns.map V.str:=by
  have:(kvs.map λp=>kV p.1)=(kvs.map (·.1)).map kV:=by rw[Nw];rfl
  rw[this,s.keys,Nw];rfl
 rw[e];exact Cf V.str Str.empty ns hi
theorem Spn.len{H:Hp}{kvs:List (Key×V)}{row ns:List Str}(s:Spn H kvs row ns):kvs.length=ns.length:=by
 have:=congrArg List.length s.keys;simpa using this
theorem Co{ns:List Str}{i:Nat}(hi:i<ns.length):ns.getD i Str.empty∈ns:=by
 have:ns.getD i Str.empty=ns[i]:=by simp[List.getD,hi]
 rw[this];exact Me hi
theorem Wh.two'{H:Hp}{kvs:List (Key×V)}{row:List Str}{x:Str}(w:Wh H kvs row)(hx:x∈row)(h:row.count x=2):∃l,Aw kvs (Sum.inr x:Key)=some (.ref l)/\H l=some (.lst [.int (pl row x).1,.int (pl row x).2]):=by
 obtain⟨l,h1,h2⟩:=w.val x hx;rw[Ei h] at h2;exact⟨l,h1,h2⟩
theorem Hj{H:Hp}:∀{ss:List Str} {xs:List V},DAll H (ss.map PyData.str) xs->xs=ss.map V.str
 | [],xs,h=>by unfold List.map DAll at h;exact h
 | s::ss,xs,h=>by
  rw[L8] at h;unfold DAll at h;obtain⟨v,r,rfl,h1,h2⟩:=h;unfold DAt at h1;rw[h1,Hj h2];rfl
def spStranger:Sp:=λvs H Q _=>∃(r:Addr) (row:List Str),vs=[.ref r]/\H r=some (.lst (row.map V.str))/\(∀y∈row,y.length<=20)/\∀H',Same H H'->Q (.str (C0 row)) H'
def spTuple:Sp:=λvs H Q _=>∃(v:V) (ss:List Str),vs=[v]/\DAt H (.tuple (ss.map PyData.str)) v/\ss.length<=1000/\∀H',Same H H'->Q (.bl true) H'
def Bw (how:Str) (off:Bool):Bool:=if how = "within" then off else (!decide (how = "apart") || !off)
def told (ss:List Str):List Str:=srt (ddup ss)
def Al (row plot:List Str):Bool:=decide (plot=told plot)&&plot.all (λx=>decide (x∈row))&&plot.all λx=>(dit row).all λy=>Bw (lieR row x y) (decide (y∈plot))
def trD (t:Str×Str×Str):PyData:=.tuple [.str t.1,.str t.2.1,.str t.2.2]
def B2 (row:List Str) (x y:Str):Bool:=decide (lieR row x y = "within")||(decide (lieR row x y = "apart")&&decide (ltS x y))
def bars (row:List Str):List (Str×Str×Str):=(dit row).flatMap λx=>((dit row).filter (B2 row x)).map λy=>(x,y,lieR row x y)
def B6 (bs:List (Str×Str×Str)) (plot:List Str):Bool:=bs.all λt => !(decide (t.1∈plot) && !decide (decide (t.2.1∈plot)=decide (t.2.2 = "within")))
def Dw (row plot:List Str):Bool:=decide (plot=(dit row).filter λy=>decide (y∈plot))&&B6 (bars row) plot
theorem Xki{a b c e:Int}(h1:a<b)(h2:c<e)(n1:a≠c)(n2:a≠e)(n3:b≠c)(n4:b≠e)(h:lieT a b c e = "apart"):lieT c e a b = "apart" := by
 unfold lieT at h ⊢;rw[Pp (λz=>n1 z.1)] at h;rw[Pp (λz=>n1 z.1.symm)];have e1:=Cg a b c e;have e2:=Cg c e a b;generalize nIn a b [c,e]=p at *;generalize nIn c e [a,b]=q at *;by_cases p1:a<c/\c<b<;>by_cases p2:a<e/\e<b<;>by_cases q1:c<a/\a<e<;>by_cases q2:c<b/\b<e <;>
  (first | rw[Pq p1] at e1 | rw[Pp p1] at e1)<;>(first | rw[Pq p2] at e1 | rw[Pp p2] at e1) <;>
  (first | rw[Pq q1] at e2 | rw[Pp q1] at e2)<;>(first | rw[Pq q2] at e2 | rw[Pp q2] at e2)<;>subst e1 e2<;>first
  | (exfalso;omega)
  | rfl
  | (exfalso;revert h;decide +kernel)
theorem Xkj{row:List Str}{x y:Str}(hx:row.count x=2)(hy:row.count y=2)(h:lieR row x y = "apart"):lieR row y x = "apart" := by
 by_cases n:x=y
 ·subst n;exact h
 ·obtain⟨n1,n2,n3,n4⟩:=E7 hx hy n;exact Xki (Dh hx) (Dh hy) n1 n2 n3 n4 h
theorem Xkk(row:List Str)(x:Str):lieR row x x = "same" := by
 unfold lieR lieT;rw[Pq ⟨rfl,rfl⟩]
theorem Ku{l:List Str}(h:l.Pairwise ltS):l.Pairwise leS:=h.imp λh=>Xi5 h
theorem E9{l:List Str}(h:l.Pairwise ltS):l.Nodup:=h.imp λh=>Xi6 h
theorem Hk{l:List Str}(h:l.Nodup):(ddup l).Perm l:=Ga (F5 l) h (Jz l)
theorem Xdm{l:List Str}(h:l.Pairwise ltS):told l=l:=Ef ((Ce _).trans (Hk (E9 h))) (Db _) (Ku h)
theorem Xdn(l:List Str):(told l).Pairwise ltS:=G8 l
theorem Xkl{l:List Str}{x:Str}:x∈told l↔x∈l:=Ax
theorem Kv{row plot:List Str}:(plot=(dit row).filter λy=>decide (y∈plot))↔(plot=told plot/\∀x∈plot,x∈row):=by
 constructor
 ·intro h;have hp:plot.Pairwise ltS:=by
   rw[h];exact(G8 row).filter _
  refine⟨(Xdm hp).symm,λx hx=>?_⟩;rw[h] at hx;exact Ax.mp (Mc.mp hx).1
 ·rintro ⟨h1,h2⟩;have hp:plot.Pairwise ltS:=by rw[h1];exact Xdn plot
  have hq:((dit row).filter λy=>decide (y∈plot)).Pairwise ltS:=(G8 row).filter _;refine Ef (Ga (E9 hp) (E9 hq) λx=>?_) (Ku hp) (Ku hq);rw[Mc,decide_eq_true_eq,Ax];exact⟨λh=>⟨h2 x h,h⟩,λh=>h.2⟩
theorem Hl{row:List Str}{t:Str×Str×Str}:t∈bars row↔t.1∈row/\t.2.1∈row/\B2 row t.1 t.2.1=true/\t.2.2=lieR row t.1 t.2.1:=by
 unfold bars;rw[List.mem_flatMap];constructor
 ·rintro ⟨x,hx,h⟩;obtain⟨y,hy,rfl⟩:=Mf.mp h;obtain⟨h1,h2⟩:=Mc.mp hy;exact⟨Ax.mp hx,Ax.mp h1,h2,rfl⟩
 ·rintro ⟨h1,h2,h3,h4⟩;refine⟨t.1,Ax.mpr h1,Mf.mpr ⟨t.2.1,Mc.mpr ⟨Ax.mpr h2,h3⟩,?_⟩⟩;rw[<-h4]
theorem Hm{row plot:List Str}(h:∀y∈row,row.count y=2):Dw row plot=Al row plot:=by
 unfold Dw Al;by_cases hp:plot=(dit row).filter λy=>decide (y∈plot)
 ·obtain⟨p1,p2⟩:=Kv.mp hp;have e1:plot.all (λx=>decide (x∈row))=true:=L9.mpr λx hx=>Pr (p2 x hx);rw[Pr hp,Pr p1,e1,Mu,Mu];show B6 (bars row) plot=(true&&_);rw[Mu,Mz];unfold B6;rw[L9,L9];constructor
  ·intro hf x hx;rw[L9];intro y hy;have hyr:=Ax.mp hy;unfold Bw;by_cases hw:lieR row x y = "within"
   ·rw[Pq hw];have:=hf (x,y,lieR row x y) (Hl.mpr ⟨p2 x hx,hyr,by unfold B2;rw[Pr hw];rfl,rfl⟩);simpa [hx,hw] using this
   ·rw[Pp hw];by_cases ha:lieR row x y = "apart"
    ·have hne:x≠y:=λz=>by
      rw[z,Xkk] at ha
      revert ha
      decide
     have ha2:=Xkj (h x (p2 x hx)) (h y hyr) ha;have key:y∉plot:=λhy2=>by
      rcases Xcq x y with hle | hle
      ·have hlt:=Ey hle hne;have:=hf (x,y,lieR row x y) (Hl.mpr ⟨p2 x hx,hyr,by unfold B2;rw[Pr ha,Pr hlt,Oo,Pd],rfl⟩);rw[ha] at this;simp[hx,hy2] at this
       revert this
       decide
      ·have hlt:=Ey hle (λz=>hne z.symm);have:=hf (y,x,lieR row y x) (Hl.mpr ⟨hyr,p2 x hx,by unfold B2;rw[Pr ha2,Pr hlt,Oo,Pd],rfl⟩);rw[ha2] at this;simp[hx,hy2] at this
       revert this
       decide
     rw[Ps key];simp
    ·rw[Ps ha];rfl
  ·intro hf t ht;obtain⟨h1,h2,h3,h4⟩:=Hl.mp ht;by_cases hx:t.1∈plot
   ·have:=hf t.1 hx;rw[L9] at this;have:=this t.2.1 (Ax.mpr h2);rw[h4];unfold Bw at this;by_cases hw:lieR row t.1 t.2.1 = "within"
    ·rw[Pq hw] at this;simp[hw,Pt this]
    ·rw[Pp hw] at this;have ha:lieR row t.1 t.2.1 = "apart" := by
      unfold B2 at h3;rw[Ps hw,Bool.false_or,Lv] at h3;exact Pt h3.1
     rw[ha] at this;have hn:t.2.1∉plot:=by simpa using this
     have hne:¬(("apart" : Str) = "within"):=by decide
     simp[hn,ha,hne]
   ·simp[hx]
 ·rw[Ps hp,Ms];by_cases p1:plot=told plot
  ·have:¬ ∀x∈plot,x∈row:=λp2=>hp (Kv.mpr ⟨p1,p2⟩);have e1:plot.all (λx=>decide (x∈row))=false:=by
    rw[Nz];intro z;rw[L9] at z;exact this λx hx=>Pt (z x hx)
   rw[e1,Ow,Ms]
  ·rw[Ps p1,Ms,Ms]
theorem Kw{H:Hp}:∀{bs:List Bool} {xs:List V},DAll H (bs.map PyData.bool) xs->xs=bs.map V.bl
 | [],xs,h=>by unfold List.map DAll at h;exact h
 | s::ss,xs,h=>by
  rw[L8] at h;unfold DAll at h;obtain⟨v,r,rfl,h1,h2⟩:=h;unfold DAt at h1;rw[h1,Kw h2];rfl
theorem Xkm(a b:List Str)(h:PyData.tuple (a.map PyData.str)=PyData.tuple (b.map PyData.str)):a=b:=by
 injection h with h
 exact(List.map_inj_right (λx y e=>by injection e)).mp h
theorem Xdo{ss:List Str}(h:∀y∈ss,okN y):Cn (ss.map PyData.str)=true:=plainAll_map PyData.str ss λx hx=>Xkb (h x hx)
theorem Dx{ss:List Str}(h:∀y∈ss,okN y):A9 (.tuple (ss.map PyData.str))=true:=Xdo h
theorem Xdp{ss:List Str}(h:∀y∈ss,okN y):A9 (.list (ss.map PyData.str))=true:=Xdo h
theorem Kx:∀(ss:List Str),PyData.depthAll (ss.map PyData.str)=0
 | []=>rfl
 | s::ss=>by
  rw[L8];unfold PyData.depthAll;rw[Kx ss];rfl
theorem Xdq(a b:List Str):min (PyData.depth (.tuple (a.map PyData.str))) (PyData.depth (.tuple (b.map PyData.str)))<=3:=by
 have e:PyData.depth (.tuple (a.map PyData.str))=PyData.depthAll (a.map PyData.str)+1:=rfl;rw[e,Kx];omega
theorem Xdr{a b:List Str}(ha:∀y∈a,okN y)(hb:∀y∈b,okN y):PyData.eqv (.tuple (a.map PyData.str)) (.tuple (b.map PyData.str))=decide (a=b):=
 Xjp (λl:List Str=>PyData.tuple (l.map PyData.str)) Xkm a b (Dx ha) (Dx hb)
theorem Ej{H:Hp}{p:Addr}{ss:List Str}(h:H p=some (.tup (ss.map V.str))):DAt H (.tuple (ss.map PyData.str)) (.ref p):=Hd h (Xc7 ss)
def spTold (K:PySem.W.Frag):Sp:=λvs H Q _=>∃(p:Addr) (ss:List Str),vs=[.ref p]/\(SqL K H p (ss.map V.str)\/SqT K H p (ss.map V.str))/\ss.length<=60 /\
 ∀l H',H l=none->H' l=some (.tup ((told ss).map V.str))->Same H H'->Q (.ref l) H'
def spAllows:Sp:=λvs H Q _=>∃(how:Str) (off:Bool),vs=[.str how,.bl off]/\Q (.bl (Bw how off)) H
def spIsPlot:Sp:=λvs H Q _=>∃(r p:Addr) (row ss:List Str),vs=[.ref r,.ref p]/\H r=some (.lst (row.map V.str))/\Row2 row/\H p=some (.tup (ss.map V.str))/\(∀y∈ss,okN y)/\ss.length<=60 /\
 ∀H',Same H H'->Q (.bl (Al row ss)) H'
abbrev NIp:List Str:=["row", "plot", "span"]
abbrev NI1:List Str:=["name", "span"]
abbrev NI2:List Str:=["name", "other", "plot", "span"]
theorem Spn.has{H:Hp}{kvs:List (Key×V)}{row:List Str}{x:Str}(s:Spn H kvs row (dit row)):(Aw kvs (Sum.inr x:Key)).isSome=decide (x∈row):=by
 by_cases hx:x∈row
 ·obtain⟨l,h1,_⟩:=s.val x (Ax.mpr hx);rw[h1,Pr hx];rfl
 ·rw[Ps hx];cases e:Aw kvs (Sum.inr x:Key) with
  | none=>rfl
  | some v=>
   exfalso;have:=Gy e;rw[s.keys] at this;obtain⟨y,hy,e2⟩:=Mf.mp this;rw[Og e2] at hy;exact hx (Ax.mp hy)
theorem Xds{ss:List Str}(h:∀y∈ss,okN y):∀y∈told ss,okN y:=λy hy=>h y (Xkl.mp hy)
theorem Xkn{α : Type}(d : α)(p : α->Bool)(xs:List α):((List.range xs.length).map λi=>p (xs.getD i d)).any id=xs.any p:=by
 have e:(List.range xs.length).map (λi=>p (xs.getD i d))=xs.map p:=by
  have:=Gb d (λ_=>true) xs;rw[Mx.mpr (λ_ _=>rfl),Mx.mpr (λ_ _=>rfl)] at this
  conv=>rhs;rw[<-this]
  rw[Nw];rfl
 rw[e,List.any_map];rfl
theorem Xdt{α : Type}(f : α->List Bool):∀(xs:List α),(xs.flatMap f).all id=xs.all λx=>(f x).all id
 | []=>rfl
 | x::xs=>by
  rw[Ou,List.all_append,List.all_cons,Xdt f xs]
theorem Xko{α β : Type}(d : α)(f : α->List β)(xs:List α):(List.range xs.length).flatMap (λi=>f (xs.getD i d))=xs.flatMap f:=by
 have this:=Gb d (λ_=>true) xs;rw[Mx.mpr (λ_ _=>rfl),Mx.mpr (λ_ _=>rfl)] at this
 conv=>rhs;rw[<-this]
 rw[List.flatMap_map]
end SH
namespace L2
open PySem PySem.Spec PyProof.Rows
def Xkp (K:PySem.W.Frag) (i:Nat):TE:=fun σ H Q=>∃v, σ[i]? = some (some v)/\∃p ss,v = .ref p/\(SqL K H p (ss.map V.str)\/SqT K H p (ss.map V.str))/\ss.length<=60/\∀l H',H l=none->H' l=some (.lst ((dit ss).map V.str))->Same H H'->Q (.ref l) H'
theorem Hn{X:Cx}{i:Nat}{x:Str}{pos p1 p2 q1 q2:Pos}(hc:X.calm=true)(hg1:Gl X "sorted")(hm1:X.mg "sorted" = none)(hg2:Gl X "set")(hm2:X.mg "set" = none)(hv:PE X (.Name x pos) (Ca i))
  (h1:starEach [.Call (.Name "set" p2) [.Name x pos] [] q2] X.env=[(false,eval (.Call (.Name "set" p2) [.Name x pos] [] q2) X.env)]:=by rfl) (h2:starEach [.Name x pos] X.env=[(false,eval (.Name x pos) X.env)]:=by rfl):
  PE X (.Call (.Name "sorted" p1) [.Call (.Name "set" p2) [.Name x pos] [] q2] [] q1) (Xkp X.K i):=by
 intro pins s σ H Q I h;obtain⟨v,hv1,p,ss,ev,hq,hl,k⟩:=h;refine(A4 (G6 hc) hg1 hm1 (by rfl) (Aa (Bn (F8 hc) hg2 hm2 (by rfl) (Aa hv Ab) (by decide) (by decide) h2) Ab) (by decide) (by decide) h1) pins s σ H Q I ?_;refine⟨v,hv1,p,ss,by rw[ev],hq,by unfold scanBound;omega,λa na=>?_⟩;have hdl:=F6 ss;refine⟨a,ddup ss,rfl,Ac,by omega,λl ls nl hp hs=>?_⟩;rw[Ez hp hs];have s1:Same H (upd H a (Dt X.prog X.w a (ddup ss))):=(Same.refl H).step na;exact k l _ (s1.free nl) Ac (s1.step nl)
end L2
namespace SH
open PySem PySem.Spec PyProof.Rows L2
theorem Isl.dlen{row:List Str}(h:Isl row):(dit row).length<=14:=by
 obtain⟨n,st,late,hn,hs,p⟩:=h.ex;have hp:(dit row).Perm (Ba st late n):=Ga (G7 row) (Ko hs hn) λx=>by
  rw[Ax,p.mem_iff,Ls,or_self]
 rw[hp.length_eq];unfold Ba;rw[Li,M4];exact hn
def Ay (ss:List Str) (x:Str):List Str:=srt (ss.filter (λy=>decide (y≠x))++(if x∈ss then [] else [x]))
def spFlip:Sp:=λvs H Q _=>∃(p:Addr) (ss:List Str) (x:Str),vs=[.ref p,.str x]/\H p=some (.tup (ss.map V.str))/\ss.length<=60 /\
 ∀q H',H q=none->H' q=some (.tup ((Ay ss x).map V.str))->Same H H'->Q (.ref q) H'
theorem Xkq{ss:List Str}{x y:Str}(h:y∈Ay ss x):y∈ss\/y=x:=by
 unfold Ay at h;rw[E1,Ls] at h;rcases h with h | h
 ·exact .inl (Mc.mp h).1
 ·split at h
  ·simp at h
  ·exact .inr (Ly.mp h)
theorem Xdu(ss:List Str)(x:Str):(Ay ss x).length<=ss.length+1:=by
 unfold Ay;rw[(Ce _).length_eq,Ln];have:=M5 (λy=>decide (y≠x)) ss;generalize (ss.filter λy=>decide (y≠x)).length=n at *;split
 ·rw[Nx];omega
 ·rw[Mq];omega
def spOdd:Sp:=λvs H Q _=>∃(dr sc r p:Addr) (row ss:List Str),vs=[.ref dr,.ref r,.ref p]/\DrawOk H dr sc/\H r=some (.lst (row.map V.str))/\r≠dr/\Isl row/\H p=some (.tup (ss.map V.str))/\(∀y∈ss,okN y)/\ss.length<=50 /\
 ∀(q:Addr) (ss':List Str) (H':Hp),H' q=some (.tup (ss'.map V.str))->(∀y∈ss',okN y)->ss'.length<=ss.length+1->DrawOk H' dr sc->But dr H H'->Q (.ref q) H'
def spFits:Sp:=λvs H Q _=>∃(b p:Addr) (xs:List V) (bs:List (Str×Str×Str)) (ss:List Str),vs=[.ref b,.ref p]/\H b=some (.lst xs)/\DAll H (bs.map trD) xs/\H p=some (.tup (ss.map V.str)) /\
 ∀H',Same H H'->Q (.bl (B6 bs ss)) H'
def spBars:Sp:=λvs H Q _=>∃(r:Addr) (row:List Str),vs=[.ref r]/\H r=some (.lst (row.map V.str))/\Row2 row /\
 ∀l xs H',H l=none->H' l=some (.lst xs)->DAll H' ((bars row).map trD) xs->Same H H'->Q (.ref l) H'
def Ky:Sp:=λvs H Q _=>∃(r p:Addr) (row ss:List Str),vs=[.ref r,.ref p]/\H r=some (.lst (row.map V.str))/\Row2 row/\H p=some (.tup (ss.map V.str))/\(∀y∈ss,okN y)/\ss.length<=60 /\
 ∀H',Same H H'->Q (.bl (Dw row ss)) H'
theorem Xkr{H:Hp}{t:Str×Str×Str}{v:V}(h:DAt H (trD t) v):∃p,v = .ref p/\H p=some (.tup [.str t.1,.str t.2.1,.str t.2.2]):=by
 obtain⟨p,xs,rfl,hp,hs⟩:=He h;have:=Hj (ss:=[t.1,t.2.1,t.2.2]) hs;rw[this] at hp;exact⟨p,rfl,hp⟩
theorem But.of{dr:Addr}{H H':Hp}(s:Same H H'):But dr H H':=λb o e _=>s b o e
def B7 (row:List Str) (x:Str) (ys:List Str):List (Str×Str×Str):=(ys.filter (B2 row x)).map λy=>(x,y,lieR row x y)
def Ch (row:List Str) (i:Nat):List (Str×Str×Str):=((dit row).take i).flatMap λx=>B7 row x (dit row)
theorem Xks(row:List Str):Ch row (dit row).length=bars row:=by
 unfold Ch;rw[Mp];rfl
theorem Xkt(row:List Str){i:Nat}(hi:i<(dit row).length):Ch row (i+1)=Ch row i++B7 row ((dit row).getD i Str.empty) (dit row):=by
 unfold Ch;rw[L7 hi,O7,Ou,List.flatMap_nil,Mr];simp[List.getD,hi]
theorem Xku(row:List Str)(x:Str){j:Nat}(hj:j<(dit row).length):B7 row x ((dit row).take (j+1))=B7 row x ((dit row).take j)++(if B2 row x ((dit row).getD j Str.empty)=true then [(x,(dit row).getD j Str.empty,lieR row x ((dit row).getD j Str.empty))] else []):=by
 unfold B7;have e:(dit row).getD j Str.empty=(dit row)[j]:=by simp[List.getD,hj]
 rw[L7 hj,L6,Lx,e,Mi];split<;>rfl
theorem Xdv(row:List Str)(x:Str)(ys:List Str):(B7 row x ys).length<=ys.length:=by
 unfold B7;rw[Li];exact M5 ..
theorem Xkv(row:List Str)(i:Nat):(Ch row i).length<=i * (dit row).length:=by
 unfold Ch;rw[List.length_flatMap];have h:∀l:List Str,(l.map λx=>(B7 row x (dit row)).length).sum<=l.length * (dit row).length:=by
  intro l
  induction l with
  | nil=>simp
  | cons x l ih=>
   rw[L8,N3,L4,Nat.succ_mul];have:=Xdv row x (dit row);omega
 refine Mj (h _) (Nat.mul_le_mul_right _ ?_);rw[Mb];omega
abbrev NFl:List Str:=["_law_plot", "_law_name"]
abbrev NFl1:List Str:=["_law_one", "_law_name"]
abbrev NOd:List Str:=["_law_draw", "_law_row_here", "_law_plot", "_law_way", "_law_at", "_law_name"]
abbrev NFi:List Str:=["_law_bars_here", "_law_plot", "_law_one", "_law_other", "_law_word_here"]
abbrev NBr:List Str:=["_law_row_here", "_law_where_here", "_law_told", "_law_one", "_law_other", "_law_word_here"]
abbrev NGo:List Str:=["_law_row_here", "_law_plot"]
abbrev NGo1:List Str:=["_law_name", "_law_plot"]
theorem Xkw{α : Type}(f : α->V)(xs:List α)(b:Nat):Bj (xs.map f) none (some (b:Int))=(xs.take b).map f:=by
 by_cases hb:b<=xs.length
 ·exact E2 f xs b hb
 ·unfold Bj;rw[HT.sIx_none,Pg,HT.sIx_nat,Li,Nat.min_eq_right (by omega),Nat.sub_zero,Nb (by rw[Li];omega),Nb (by omega)]
def spAskPlot (C:Addr):Sp:=λvs H Q E=>∃(r p:Addr) (row ss:List Str),vs=[.ref r,.ref p]/\H r=some (.lst (row.map V.str))/\Row2 row/\H p=some (.tup (ss.map V.str))/\(∀y∈ss,okN y)/\ss.length<=24 /\
 (Al row ss=true->∀H',Same H H'->Q .non H')/\(Al row ss=false->∀H',Same H H'->E (.ref C) none H')
theorem Xkx{ss:List Str}(h:∀y∈ss,okN y):∀z∈ss,z.length<=20/\∀c∈z.cps.toList,c<16 ^ 8:=λz hz=>⟨(h z hz).1,λc hc=>Oz ((h z hz).2 c hc) (by decide)⟩
theorem DrawOk.ntup{H:Hp}{dr sc:Addr}(d:DrawOk H dr sc):∀q ys,H q=some (.tup ys)->q≠dr:=λq ys e z=>by
 obtain⟨xs,h⟩:=d.at;rw[z,h] at e;cases e
def mid (row:List Str) (x:Str):List Str:=((row.dropWhile λy=>decide (y≠x)).tail).takeWhile λy=>decide (y≠x)
theorem Xdw{x y:Str}{r:List Str}(h:x∉y::r):decide (y≠x)=true:=by
 have:y≠x:=λe=>h (by rw[e];exact Lo);simpa using this
theorem Xky{A R:List Str}{x:Str}(h:x∉A):(A++x::R).dropWhile (λy=>decide (y≠x))=x::R:=by
 induction A with
 | nil=>rw[Oj,Nm,Pp (by simp)]
 | cons y r ih=>
  rw[O2,Nm,Pq (Xdw h)];exact ih λz=>h (Ll _ z)
theorem Xkz{A R:List Str}{x:Str}(h:x∉A):(A++x::R).takeWhile (λy=>decide (y≠x))=A:=by
 induction A with
 | nil=>rw[Oj,Nn,Pp (by simp)]
 | cons y r ih=>
  rw[O2,Nn,Pq (Xdw h)];rw[ih λz=>h (Ll _ z)]
theorem Kz{A B C:List Str}{x:Str}(hA:x∉A)(hB:x∉B):mid (A++x::(B++x::C)) x=B:=by
 unfold mid;rw[Xky hA,List.tail_cons,Xkz hB]
theorem split1{x:Str}:∀{row:List Str},x∈row->∃A R,row=A++x::R/\x∉A:=by
 intro row
 induction row with
 | nil=>intro h;cases h
 | cons y r ih=>
  intro h;by_cases e:x=y
  ·exact⟨[],r,by rw[e];rfl,by simp⟩
  ·obtain⟨A,R,h1,h2⟩:=ih ((Lw.mp h).resolve_left e);exact⟨y::A,R,by rw[h1];rfl,λz=>(Lw.mp z).elim e h2⟩
theorem split2{row:List Str}{x:Str}(h:row.count x=2):∃A B C,row=A++x::(B++x::C)/\x∉A/\x∉B/\x∉C:=by
 obtain⟨A,R,h1,h2⟩:=split1 (Pc.mp (by omega:0<row.count x));rw[h1,N1,N7.mpr h2,Od] at h;have hR:R.count x=1:=by omega
 obtain⟨B,C,h3,h4⟩:=split1 (Pc.mp (by omega:0<R.count x));rw[h3,N1,N7.mpr h4,Od] at hR;exact⟨A,B,C,by rw[h1,h3],h2,h4,N7.mp (by omega)⟩
theorem Gj(x:Str):∀(n:Nat) (l r:List Str),A1 x n (l++r)=A1 x n l++A1 x (n+l.length) r
 | n,[],r=>rfl
 | n,y::l,r=>by
  have ih:=Gj x (n+1) l r;have e:n+(y::l).length=n+1+l.length:=by rw[L4];omega
  rw[e];show (if y=x then (n:Int)::A1 x (n+1) (l++r) else A1 x (n+1) (l++r))=(if y=x then (n:Int)::A1 x (n+1) l else A1 x (n+1) l)++_;rw[ih];split<;>rfl
theorem Ho(x:Str):∀(n:Nat) (l:List Str),∀i∈A1 x n l,(n:Int)<=i/\i<n+l.length
 | n,[]=>λi h=>by cases h
 | n,y::l=>λi h=>by
  have ih:=Ho x (n+1) l;have h':i=n\/i∈A1 x (n+1) l:=by
   change i∈(if y=x then (n:Int)::A1 x (n+1) l else A1 x (n+1) l) at h;split at h
   ·exact Lw.mp h
   ·exact .inr h
  rw[L4];rcases h' with rfl | h'
  ·omega
  ·have:=ih i h';omega
theorem Hq{x:Str}:∀(n:Nat) (l:List Str),x∉l->A1 x n l=[]
 | _,[],_=>rfl
 | n,y::l,h=>by
  show (if y=x then (n:Int)::A1 x (n+1) l else A1 x (n+1) l)=[];rw[Pp (λe=>h (by rw[e];exact Lo))];exact Hq _ _ λz=>h (Ll _ z)
theorem Xk0{row:List Str}{x y:Str}(hx:row.count x=2)(n:x≠y):nIn (pl row x).1 (pl row x).2 (plc row y)=(mid row x).count y:=by
 obtain⟨A,B,C,e,hA,hB,hC⟩:=split2 hx;have ex:plc row x=[(A.length:Int),((A.length+1+B.length:Nat):Int)]:=by
  unfold plc;rw[e,Gj,Hq _ _ hA];show []++(if x=x then _ else _)=_;rw[Pq rfl,Gj,Hq _ _ hB];show []++(_::([]++(if x=x then _ else _)))=_;rw[Pq rfl,Hq _ _ hC];simp
 have ey:plc row y=A1 y 0 A++(A1 y (A.length+1) B++A1 y (A.length+1+B.length+1) C):=by
  unfold plc;rw[e,Gj];show _++(if x=y then _ else _)=_;rw[Pp n,Gj];show _++(_++(if x=y then _ else _))=_;rw[Pp n];simp
 rw[Xdl ex,ey];unfold nIn inn;rw[L6,L6];have e1:(A1 y 0 A).filter (λt=>decide ((A.length:Int)<t)&&decide (t<((A.length+1+B.length:Nat):Int)))=[]:=by
  rw[Nq];intro i hi;have:=Ho y 0 A i hi;simp;intro;omega
 have e2:(A1 y (A.length+1) B).filter (λt=>decide ((A.length:Int)<t)&&decide (t<((A.length+1+B.length:Nat):Int)))=A1 y (A.length+1) B:=by
  rw[Mx];intro i hi;have:=Ho y (A.length+1) B i hi;simp;omega
 have e3:(A1 y (A.length+1+B.length+1) C).filter (λt=>decide ((A.length:Int)<t)&&decide (t<((A.length+1+B.length:Nat):Int)))=[]:=by
  rw[Nq];intro i hi;have:=Ho y _ C i hi;simp;intro;omega
 rw[e1,e2,e3,Oj,Mr,Hh];rw[e,Kz hA hB]
def A0 (row:List Str) (x y:Str):Prop:=lieR row x y = "cross"
instance (row:List Str) (x y:Str):Decidable (A0 row x y):=inferInstanceAs (Decidable (_=_))
theorem K0{a b c e:Int}:Cz a b c e false = "cross" ↔ nIn a b [c,e]=1:=by
 unfold Cz;have e3:(inn a b [c,e]).length=nIn a b [c,e]:=rfl;have h2:(inn a b [c,e]).length<=2:=Kn a b [c,e];rw[e3] at *;generalize nIn a b [c,e]=q at *
 match q,h2 with
 | 0,_=>
  rw[Pp (by decide)];split<;>decide
 | 1,_=>rw[Pq (by decide)];decide
 | 2,_=>rw[Pq (by decide)];decide
theorem Hr{row:List Str}{x y:Str}(hx:row.count x=2)(hy:row.count y=2)(n:x≠y):A0 row x y↔(mid row x).count y=1:=by
 unfold A0;rw[E8 hx hy,Ps n,K0,<-Ei hy,Xk0 hx n]
theorem Dy{row:List Str}{x:Str}(hx:row.count x=2):¬A0 row x x:=by
 unfold A0 lieR lieT;rw[Pq ⟨rfl,rfl⟩];decide
theorem Di{row:List Str}{x y:Str}(hx:row.count x=2)(hy:row.count y=2)(h:A0 row x y):A0 row y x:=by
 by_cases n:x=y
 ·subst n;exact h
 ·obtain⟨n1,n2,n3,n4⟩:=E7 hx hy n;unfold A0 at *;rw[E8 hx hy,Ps n,K0,Cg] at h;rw[E8 hy hx,Ps (λe=>n e.symm),K0,Cg];have l1:=Dh hx;have l2:=Dh hy;generalize (pl row x).1=a at *;generalize (pl row x).2=b at *;generalize (pl row y).1=c at *;generalize (pl row y).2=e at *;by_cases p1:a<c/\c<b<;>by_cases p2:a<e/\e<b<;>by_cases q1:c<a/\a<e<;>by_cases q2:c<b/\b<e <;>
  (first | rw[Pq p1] at h | rw[Pp p1] at h)<;>(first | rw[Pq p2] at h | rw[Pp p2] at h) <;>
  (first | rw[Pq q1] | rw[Pp q1])<;>(first | rw[Pq q2] | rw[Pp q2])<;>omega
theorem Xdx{x:Str}{p:Str->Bool}(h:p x=true):∀row:List Str,mid (row.filter p) x=(mid row x).filter p:=by
 have tk:∀l:List Str,(l.filter p).takeWhile (λy=>decide (y≠x))=(l.takeWhile λy=>decide (y≠x)).filter p:=by
  intro l
  induction l with
  | nil=>rfl
  | cons y r ih=>
   by_cases e:y=x
   ·subst e;rw[Mi,Pq h,Nn,Pp (by simp),Nn,Pp (by simp)];rfl
   ·rw[Nn,Pq (Pr e),Mi,Mi];by_cases q:p y=true
    ·rw[Pq q,Pq q,Nn,Pq (Pr e),ih]
    ·rw[Pp q,Pp q,ih]
 intro row;unfold mid;rw[<-tk];congr 1
 induction row with
 | nil=>rfl
 | cons y r ih=>
  by_cases e:y=x
  ·subst e;rw[Mi,Pq h,Nm,Pp (by simp),Nm,Pp (by simp)];rfl
  ·rw[Nm,Pq (Pr e),<-ih,Mi];by_cases q:p y=true
   ·rw[Pq q,Nm,Pq (Pr e)]
   ·rw[Pp q]
theorem Xk1{row row':List Str}{x y:Str}(hx:row.count x=2)(hy:row.count y=2)(hx':row'.count x=2)(hy':row'.count y=2)
  (e:row.filter (λz=>decide (z=x\/z=y))=row'.filter (λz=>decide (z=x\/z=y))):A0 row x y↔A0 row' x y:=by
 by_cases n:x=y
 ·subst n;exact⟨λh=>absurd h (Dy hx),λh=>absurd h (Dy hx')⟩
 ·rw[Hr hx hy n,Hr hx' hy' n];have h1:∀r:List Str,(mid r x).count y=(mid (r.filter λz=>decide (z=x\/z=y)) x).count y:=λr=>by
   rw[Xdx (by simp),List.count_filter (by simp)]
  rw[h1 row,h1 row',e]
def Cp (row:List Str):Prop:=∀x∈row,∀y∈row,∀z∈row,A0 row x y->A0 row x z->¬A0 row y z
theorem Xk2:Cp []:=λx h=>by cases h
theorem Xdy{row more:List Str}{x:Str}(h:Cp row)(h2:∀y∈row,row.count y=2)(h2':∀y∈more,more.count y=2)(hin:∀y∈more,y=x\/y∈row)
  (hf:∀p:Str->Bool,p x=false->more.filter p=row.filter p) (hb:∀y∈more,∀z∈more,A0 more x y->A0 more x z->¬A0 more y z):Cp more:=by
 intro a ha b hb' c hc k1 k2 k3;have s12:=Di (h2' a ha) (h2' b hb') k1;have s13:=Di (h2' a ha) (h2' c hc) k2;have s23:=Di (h2' b hb') (h2' c hc) k3;by_cases ea:a=x
 ·subst ea;exact hb b hb' c hc k1 k2 k3
 by_cases eb:b=x
 ·subst eb;exact hb a ha c hc s12 k3 k2
 by_cases ec:c=x
 ·subst ec;exact hb a ha b hb' s13 s23 k1
 have ra:=(hin a ha).resolve_left ea;have rb:=(hin b hb').resolve_left eb;have rc:=(hin c hc).resolve_left ec;have go:∀u v:Str,u≠x->v≠x->u∈row->v∈row->u∈more->v∈more->A0 more u v->A0 row u v:=λu v nu nv hu hv mu mv k=>
  (Xk1 (h2' u mu) (h2' v mv) (h2 u hu) (h2 v hv) (hf _ (by
   rw[decide_eq_false_iff_not];rintro (e | e)
   ·exact nu e.symm
   ·exact nv e.symm))).mp k
 exact h a ra b rb c rc (go a b ea eb ra rb ha hb' k1) (go a c ea ec ra rc ha hc k2) (go b c eb ec rb rc hb' hc k3)
theorem Xk3{row:List Str}{x:Str}{a b:Nat}(hab:a<=b){p:Str->Bool}(h:p x=false):(Cy row x a b).filter p=row.filter p:=by
 unfold Cy;have e:row=row.take a++((row.drop a).take (b - a)++row.drop b):=by
  have e1:row.drop b=(row.drop a).drop (b - a):=by rw[List.drop_drop];congr 1;omega
  rw[e1,Mn,Mn]
 conv=>rhs;rw[e]
 simp[L6,Mi,h]
theorem Xk4{A C:List Str}{x y:Str}(hx:(A++[x,x]++C).count x=2)(hy:(A++[x,x]++C).count y=2):¬A0 (A++[x,x]++C) x y:=by
 by_cases n:x=y
 ·subst n;exact Dy hx
 ·rw[Hr hx hy n];have hA:x∉A:=by
   rw[<-N7];rw[N1,N1,Od,Od] at hx;omega
  have e:A++[x,x]++C=A++x::([]++x::C):=by simp
  rw[e,Kz hA (by simp)];simp
theorem Xk5{row:List Str}{x:Str}{a:Nat}{p:Str->Bool}(h:p x=false):(row.take a++[x,x]++row.drop a).filter p=row.filter p:=by
 simp[L6,Mi,h];rw[<-L6,Mn]
theorem Xdz{F:List Str}{x y:Str}(hF:F.Nodup)(hx:x∈F)(n:x≠y):(mid (F++F.reverse) x).count y≠1:=by
 obtain⟨A,B,rfl,hA⟩:=split1 hx;have hB:x∉B:=by
  have h1:=(Nf.mp hF).2.1;exact(Mv.mp h1).1
 have e:(A++x::B)++(A++x::B).reverse=A++x::((B++B.reverse)++x::A.reverse):=by simp
 rw[e,Kz hA (by simp[hB]),N1,List.count_reverse];omega
theorem Dz{ns:List Str}(hn:ns.Nodup)(c:Nat){x y:Str}(h2:∀z∈ns,(ns++(ns.take c).reverse++(ns.drop c).reverse).count z=2)
  (h:(x∈ns.take c/\y∈ns.take c)\/(x∈ns.drop c/\y∈ns.drop c)):¬A0 (ns++(ns.take c).reverse++(ns.drop c).reverse) x y:=by
 have sub:(∀z,z∈ns.take c->z∈ns)/\∀z,z∈ns.drop c->z∈ns:=⟨λz=>M9,λz=>Nj⟩;have hx:x∈ns:=h.elim (λz=>sub.1 _ z.1) λz=>sub.2 _ z.1;have hy:y∈ns:=h.elim (λz=>sub.1 _ z.2) λz=>sub.2 _ z.2;by_cases n:x=y
 ·subst n;exact Dy (h2 x hx)
 rw[Hr (h2 x hx) (h2 y hy) n];have key:(mid (ns++(ns.take c).reverse++(ns.drop c).reverse) x).count y=(mid ((ns++(ns.take c).reverse++(ns.drop c).reverse).filter λz=>decide (z=x\/z=y)) x).count y:=by
  rw[Xdx (by simp),List.count_filter (by simp)]
 rw[key];have dj:∀z,z∈ns.take c->z∈ns.drop c->False:=by
  have:=hn;rw[<-Mn c ns] at this;intro z h1 h2;exact(Nf.mp this).2.2 z h1 z h2 rfl
 have e0:ns.filter (λz=>decide (z=x\/z=y))=(ns.take c).filter (λz=>decide (z=x\/z=y))++(ns.drop c).filter (λz=>decide (z=x\/z=y)):=by
  rw[<-L6,Mn]
 rw[L6,L6,e0,List.filter_reverse,List.filter_reverse];rcases h with ⟨h1,h2⟩ | ⟨h1,h2⟩
 ·have e:(ns.drop c).filter (λz=>decide (z=x\/z=y))=[]:=by
   rw[Nq];intro z hz q;rcases Pt q with q | q
   ·exact dj x h1 (q ▸ hz)
   ·exact dj y h2 (q ▸ hz)
  rw[e,Mr,List.reverse_nil,Mr];exact Xdz ((hn.sublist (Ob ..)).filter _) (Mc.mpr ⟨h1,by simp⟩) n
 ·have e:(ns.take c).filter (λz=>decide (z=x\/z=y))=[]:=by
   rw[Nq];intro z hz q;rcases Pt q with q | q
   ·exact dj x (q ▸ hz) h1
   ·exact dj y (q ▸ hz) h2
  rw[e,Oj,List.reverse_nil,Mr];exact Xdz ((hn.sublist (List.drop_sublist ..)).filter _) (Mc.mpr ⟨h1,by simp⟩) n
theorem noThree_grid{ns:List Str}(hn:ns.Nodup)(c:Nat)(h2:∀z∈ns,(ns++(ns.take c).reverse++(ns.drop c).reverse).count z=2):Cp (ns++(ns.take c).reverse++(ns.drop c).reverse):=by
 have mem:∀z,z∈ns++(ns.take c).reverse++(ns.drop c).reverse->z∈ns.take c\/z∈ns.drop c:=by
  intro z hz;rw[<-Ls,Mn];simp only[Ls,List.mem_reverse] at hz;rcases hz with (h | h) | h
  ·exact h
  ·exact M9 h
  ·exact Nj h
 intro x hx y hy z hz k1 k2 k3;rcases mem x hx with a | a<;>rcases mem y hy with b | b<;>rcases mem z hz with d | d
 ·exact Dz hn c h2 (.inl ⟨a,b⟩) k1
 ·exact Dz hn c h2 (.inl ⟨a,b⟩) k1
 ·exact Dz hn c h2 (.inl ⟨a,d⟩) k2
 ·exact Dz hn c h2 (.inr ⟨b,d⟩) k3
 ·exact Dz hn c h2 (.inl ⟨b,d⟩) k3
 ·exact Dz hn c h2 (.inr ⟨a,d⟩) k2
 ·exact Dz hn c h2 (.inr ⟨a,b⟩) k1
 ·exact Dz hn c h2 (.inr ⟨a,b⟩) k1
def spBarredN:Sp:=λvs H Q _=>∃(r:Addr) (row:List Str) (x:Str),vs=[.ref r,.str x]/\H r=some (.lst (row.map V.str))/\row.length<=1000/\(∀y∈row,row.count y=2)/\x∈row /\
 ∀b H',(b=false->∀y∈row,∀z∈row,A0 row x y->A0 row x z->¬A0 row y z)->Same H H'->Q (.bl b) H'
def spRowN:Sp:=λvs H Q _=>∃(dr sc nl:Addr) (ns:List Str),vs=[.ref dr,.ref nl]/\DrawOk H dr sc/\H nl=some (.lst (ns.map V.str))/\nl≠dr/\ns.Nodup/\ns.length<=14 /\
 ∀(l:Addr) (row:List Str) (H':Hp),H l=none->H' l=some (.lst (row.map V.str))->row.Perm (ns++ns)->Cp row->DrawOk H' dr sc->But dr H H'->Q (.ref l) H'
def spIslandN:Sp:=λvs H Q _=>∃(dr sc:Addr) (m:Nat),vs=[.ref dr,.int m]/\m<=14/\DrawOk H dr sc /\
 ∀(l:Addr) (row:List Str) (n st:Nat) (late:Bool) (H':Hp),H l=none->n<=m->st<26->H' l=some (.lst (row.map V.str))->row.Perm (Ba st late n++Ba st late n)->Cp row->DrawOk H' dr sc->But dr H H'->Q (.ref l) H'
theorem Xd0{p:Prop}{_:Decidable p}(h:decide p=false):¬p:=Pu h
theorem Wh.pl{H:Hp}{kvs:List (Key×V)}{row:List Str}{x:Str}(w:Wh H kvs row)(hx:x∈row)(h:row.count x=2):∃l,Aw kvs (Sum.inr x:Key)=some (.ref l)/\H l=some (.lst [.int (pl row x).1,.int (pl row x).2]):=by
 obtain⟨l,h1,h2⟩:=w.val x hx;rw[Ei h] at h2;exact⟨l,h1,h2⟩
def deg2 {α : Type} (R : α -> α->Bool) (l:List α):Nat:=(l.map λx=>l.countP (R x)).sum
theorem Xk6{a b:List Nat}(p:a.Perm b):a.sum=b.sum:=by
 induction p with
 | nil=>rfl
 | cons x _ ih=>simp[ih]
 | swap x y l=>simp;omega
 | trans _ _ h1 h2=>exact h1.trans h2
theorem Xk7{α : Type}{R : α -> α->Bool}{a b:List α}(p:a.Perm b):deg2 R a=deg2 R b:=by
 unfold deg2;have e:(a.map λx=>a.countP (R x))=a.map λx=>b.countP (R x):=M3 λx _=>p.countP_eq _;rw[e];exact Xk6 (p.map _)
theorem Ek{α : Type}(f g : α->Nat):∀l:List α,(l.map λx=>f x+g x).sum=(l.map f).sum+(l.map g).sum
 | []=>rfl
 | x::r=>by simp[Ek f g r];omega
theorem Dj{α : Type}(p : α->Bool):∀l:List α,(l.map λx=>if p x=true then 1 else 0).sum=l.countP p
 | []=>rfl
 | x::r=>by
  rw[L8,N3,Dj p r,Nh];omega
theorem Xd1{α : Type}:∀l:List α,(l.map λ_=>0).sum=0
 | []=>rfl
 | _::r=>by rw[L8,N3,Xd1 r]
theorem mantel{α : Type}[DecidableEq α]{R : α -> α->Bool}:∀(n:Nat) (l:List α),l.length=n->l.Nodup->(∀x∈l,R x x=false)->(∀x∈l,∀y∈l,R x y=R y x) ->
  (∀x∈l,∀y∈l,∀z∈l,R x y=true->R x z=true->R y z=false)->2 * deg2 R l<=n * n:=by
 intro n
 induction n using Nat.strongRecOn with
 | ind n ih=>
  intro l hl nd irr sy tri;by_cases h:∃u∈l,∃v∈l,R u v=true
  ·obtain⟨u,hu,v,hv,huv⟩:=h;have nuv:u≠v:=λe=>by subst e;rw[irr u hu] at huv;cases huv
   have p1:l.Perm (u::l.erase u):=List.perm_cons_erase hu;have hv':v∈l.erase u:=(List.mem_erase_of_ne nuv.symm).mpr hv;have p2:l.Perm (u::v::(l.erase u).erase v):=p1.trans (List.Perm.cons u (List.perm_cons_erase hv'));generalize (l.erase u).erase v=r at p2;have hlen:=p2.length_eq;simp only[L4] at hlen;have nd':=p2.nodup_iff.mp nd;have mr:∀x∈r,x∈l:=λx hx=>p2.mem_iff.mpr (Ll _ (Ll _ hx));have ndr:r.Nodup:=(Mv.mp (Mv.mp nd').2).2;have ihr:=ih r.length (by omega) r rfl ndr (λx hx=>irr x (mr x hx)) (λx hx y hy=>sy x (mr x hx) y (mr y hy)) (λx hx y hy z hz=>tri x (mr x hx) y (mr y hy) z (mr z hz));have e:deg2 R l=2+2 * (r.countP (R u)+r.countP (R v))+deg2 R r:=by
    rw[Xk7 p2];unfold deg2;rw[L8,L8,N3,N3];have ef:(r.map λx=>(u::v::r).countP (R x))=r.map λx=>((if R u x=true then 1 else 0)+(if R v x=true then 1 else 0))+r.countP (R x):=by
     refine M3 λx hx=>?_;rw[Nh,Nh,sy x (mr x hx) u hu,sy x (mr x hx) v hv];omega
    rw[ef,Ek,Ek,Dj,Dj,Nh,Nh,Nh,Nh,irr u hu,irr v hv,huv,sy v hv u hu,huv];simp;omega
   have le:r.countP (R u)+r.countP (R v)<=r.length:=by
    rw[<-Dj (R u),<-Dj (R v),<-Ek];have:∀m:List α,(∀x∈m,x∈l)->(m.map λx=>(if R u x=true then 1 else 0)+(if R v x=true then 1 else 0)).sum<=m.length:=by
     intro m
     induction m with
     | nil=>intro _;exact Lk _
     | cons x t iht=>
      intro hm;have h1:=iht λy hy=>hm y (Ll _ hy);have hx:=hm x Lo;have h2:(if R u x=true then 1 else 0)+(if R v x=true then 1 else 0)<=1:=by
       by_cases a:R u x=true
       ·have:=tri u hu v hv x hx huv a;rw[this,Pq a];decide
       ·rw[Pp a];split<;>decide
      rw[L8,N3,L4];omega
    exact this r mr
   have hn:n=r.length+2:=by omega
   rw[e,hn];have:(r.length+2) * (r.length+2)=r.length * r.length+4 * r.length+4:=by
    rw[Nat.add_mul,Nat.mul_add];omega
   rw[this];omega
  ·have z:deg2 R l=0:=by
    unfold deg2;have:(l.map λx=>l.countP (R x))=l.map λ_=>0:=by
     refine M3 λx hx=>?_;rw[List.countP_eq_zero];intro y hy q;exact h ⟨x,hx,y,hy,q⟩
    rw[this];exact Xd1 l
   rw[z];exact Mt _
theorem Xd2{α β : Type}(p : α -> β->Bool)(m:List β):∀l:List α,(l.map λx=>m.countP (p x)).sum=(m.map λy=>l.countP λx=>p x y).sum
 | []=>by
  show 0=_
  induction m with
  | nil=>rfl
  | cons y r ih=>rw[L8,N3,<-ih];rfl
 | x::l=>by
  rw[L8,N3,Xd2 p m l];have e:(m.map λy=>(x::l).countP λx=>p x y)=m.map λy=>(if p x y=true then 1 else 0)+l.countP λx=>p x y:=by
   refine M3 λy _=>?_;rw[Nh];omega
  rw[e,Ek,Dj]
theorem Xk8{row:List Str}(h2:∀y∈row,row.count y=2):2 * (crs row).length=deg2 (λx y=>decide (A0 row x y)) (dit row):=by
 have e:(crs row).length=((dit row).map λx=>(dit row).countP λy=>decide (ltS x y)&&decide (A0 row x y)).sum:=by
  unfold crs;rw[List.length_flatMap];congr 1;refine M3 λx _=>?_;rw[Li,List.countP_eq_length_filter];rfl
 have e2:=Xd2 (λx y=>decide (ltS x y)&&decide (A0 row x y)) (dit row) (dit row);have e3:2 * (crs row).length=((dit row).map λx=>(dit row).countP λy=>decide (ltS x y)&&decide (A0 row x y)).sum+((dit row).map λy=>(dit row).countP λx=>decide (ltS x y)&&decide (A0 row x y)).sum:=by
  rw[<-e2,e];omega
 rw[e3,<-Ek];unfold deg2;congr 1;refine M3 λx hx=>?_;rw[<-Dj,<-Dj,<-Dj,<-Ek];congr 1;refine M3 λy hy=>?_;have hx':=Ax.mp hx;have hy':=Ax.mp hy;by_cases c:A0 row x y
 ·have c':=Di (h2 x hx') (h2 y hy') c;have n:x≠y:=λe=>by subst e;exact Dy (h2 x hx') c
  by_cases l:ltS x y
  ·have l':¬ltS y x:=λq=>J3 x (Xcr l q);simp[c,c',l,l']
  ·have l':ltS y x:=Ey (J4.mp l) n.symm;simp[c,c',l,l']
 ·have c':¬A0 row y x:=λq=>c (Di (h2 y hy') (h2 x hx') q);simp[c,c']
theorem Xk9{row:List Str}(h2:∀y∈row,row.count y=2)(h3:Cp row)(hl:(dit row).length<=14):(crs row).length<=49:=by
 have m:=mantel (R:=λx y=>decide (A0 row x y)) (dit row).length (dit row) rfl (G7 row) (λx hx=>Ps (Dy (h2 x (Ax.mp hx))))
  (λx hx y hy=>by
   by_cases c:A0 row x y
   ·rw[Pr c,Pr (Di (h2 x (Ax.mp hx)) (h2 y (Ax.mp hy)) c)]
   ·rw[Ps c,Ps λq=>c (Di (h2 y (Ax.mp hy)) (h2 x (Ax.mp hx)) q)])
  (λx hx y hy z hz a b=>Ps (h3 x (Ax.mp hx) y (Ax.mp hy) z (Ax.mp hz) (Pt a) (Pt b)))
 rw[<-Xk8 h2] at m;have:(dit row).length * (dit row).length<=14 * 14:=Nat.mul_le_mul hl hl;omega
def upB (row:List Str) (x y:Str):Bool:=decide (y=x)||decide (lieR row x y = "within")
def span (row:List Str) (x:Str):Nat:=((pl row x).2 - (pl row x).1).toNat
theorem Xla(a b c e:Int):lieT a b c e = "same" \/ lieT a b c e = "cross" \/ lieT a b c e = "within" \/ lieT a b c e = "around" \/ lieT a b c e = "apart" := by
 unfold lieT;split
 ·exact .inl rfl
 ·split
  ·exact .inr (.inl rfl)
  ·split
   ·exact .inr (.inr (.inl rfl))
   ·split
    ·exact .inr (.inr (.inr (.inl rfl)))
    ·exact .inr (.inr (.inr (.inr rfl)))
theorem Xlb{row:List Str}{x y:Str}(hx:row.count x=2)(hy:row.count y=2)(n:x≠y)(h:lieR row x y = "around"):span row y<span row x:=by
 obtain⟨n1,n2,n3,n4⟩:=E7 hx hy n;have l1:=Dh hx;have l2:=Dh hy;unfold span;unfold lieR lieT at h;rw[Pp (λz=>n1 z.1)] at h;split at h
 ·exact absurd h (by decide)
 ·split at h
  ·exact absurd h (by decide)
  ·split at h
   ·rename_i q;rw[Cg] at q;generalize (pl row x).1=a at *;generalize (pl row x).2=b at *;generalize (pl row y).1=c at *;generalize (pl row y).2=e at *;by_cases p1:a<c/\c<b
    ·by_cases p2:a<e/\e<b
     ·omega
     ·rw[Pq p1,Pp p2] at q;omega
    ·rw[Pp p1] at q;split at q<;>omega
   ·exact absurd h (by decide)
theorem Xlc{row:List Str}{x y:Str}(hx:row.count x=2)(hy:row.count y=2)(h:lieR row x y = "same"):x=y:=by
 refine Classical.byContradiction λn=>?_;obtain⟨n1,n2,n3,n4⟩:=E7 hx hy n;unfold lieR lieT at h;rw[Pp (λz=>n1 z.1)] at h;split at h
 ·exact absurd h (by decide)
 ·split at h
  ·exact absurd h (by decide)
  ·split at h
   ·exact absurd h (by decide)
   ·exact absurd h (by decide)
theorem least{α : Type}(f : α->Nat):∀l:List α,l≠[]->∃a∈l,∀b∈l,f a<=f b
 | [],h=>absurd rfl h
 | [a],_=>⟨a,Lo,λb hb=>by rw[Ly.mp hb];exact Lk _⟩
 | a::c::r,_=>by
  obtain⟨m,hm,hl⟩:=least f (c::r) (by simp);by_cases q:f a<=f m
  ·exact⟨a,Lo,λb hb=>by
    rcases Lw.mp hb with e | e
    ·rw[e];exact Lk _
    ·exact Mj q (hl b e)⟩
  ·exact⟨m,Ll _ hm,λb hb=>by
    rcases Lw.mp hb with e | e
    ·rw[e];omega
    ·exact hl b e⟩
def cands (row:List Str):List (List Str):=(dit row).map (λa=>(dit row).filter (upB row a))++(crs row).map λp=>(dit row).filter λy=>upB row p.1 y||upB row p.2 y
theorem Xld{row S:List Str}(h2:∀y∈row,row.count y=2)(h3:Cp row)(hne:S≠[])(hg:Al row S=true):S∈cands row:=by
 have hg':=hg;rw[<-Hm h2] at hg';unfold Dw at hg';rw[Lv] at hg';have hS:=Pt hg'.1;unfold Al at hg;rw[Lv,Lv] at hg;obtain⟨⟨_,hrow⟩,hal⟩:=hg;have inr:∀x∈S,x∈row:=λx hx=>Pt (L9.mp hrow x hx);have al:∀x∈S,∀y∈row,Bw (lieR row x y) (decide (y∈S))=true:=λx hx y hy=>L9.mp (L9.mp hal x hx) y (Ax.mpr hy);have within:∀x∈S,∀y∈row,lieR row x y = "within" -> y∈S:=λx hx y hy e=>by
  have:=al x hx y hy;unfold Bw at this;rw[Pq e] at this;exact Pt this
 have apart:∀x∈S,∀y∈S,lieR row x y ≠ "apart" := λx hx y hy e=>by
  have:=al x hx y (inr y hy);unfold Bw at this;rw[Pp (by rw[e];decide),e,Pr hy] at this;exact absurd this (by decide)
 have how:∀a∈S,∀c∈S,upB row a c=false->¬span row c<span row a->A0 row a c:=λa ha c hc hu hs=>by
  have hu':=Bool.or_eq_false_iff.mp hu;have n1:c≠a:=Pu hu'.1;have n2:=Pu hu'.2;rcases Xla (pl row a).1 (pl row a).2 (pl row c).1 (pl row c).2 with q | q | q | q | q
  ·exact absurd (Xlc (h2 a (inr a ha)) (h2 c (inr c hc)) q).symm n1
  ·exact q
  ·exact absurd q n2
  ·exact absurd (Xlb (h2 a (inr a ha)) (h2 c (inr c hc)) (λe=>n1 e.symm) q) hs
  ·exact absurd q (apart a ha c hc)
 have upin:∀a∈S,∀y∈row,upB row a y=true->y∈S:=λa ha y hy q=>by
  rcases O6.mp q with q | q
  ·rw[Pt q];exact ha
  ·exact within a ha y hy (Pt q)
 obtain⟨a,ha,la⟩:=least (span row) S hne;unfold cands;rw[Ls];by_cases hall:∀c∈S,upB row a c=true
 ·left;rw[Mf];refine⟨a,Ax.mpr (inr a ha),?_⟩;rw[hS];refine List.filter_congr λy hy=>?_;by_cases q:y∈S
  ·rw[hall y q,Pr q]
  ·rw[Ps q,Nz];exact λz=>q (upin a ha y (Ax.mp hy) z)
 ·right;have hne2:S.filter (λc => !upB row a c)≠[]:=λe=>hall λc hc=>by
   rw[Nq] at e;have:=e c hc;simpa using this
  obtain⟨b,hb,lb⟩:=least (span row) _ hne2;obtain⟨hbS,hbu⟩:=Mc.mp hb;have hbu:upB row a b=false:=by simpa using hbu
  have cab:=how a ha b hbS hbu (by have:=la b hbS;omega);have all2:∀c∈S,upB row a c=true\/upB row b c=true:=λc hc=>by
   refine Classical.byContradiction λz=>?_;have z1:upB row a c=false:=by
    cases q:upB row a c with
    | false=>rfl
    | true=>exact absurd (.inl q) z
   have z2:upB row b c=false:=by
    cases q:upB row b c with
    | false=>rfl
    | true=>exact absurd (.inr q) z
   have k1:=how a ha c hc z1 (by have:=la c hc;omega);have k2:=how b hbS c hc z2 (by have:=lb c (Mc.mpr ⟨hc,by simp[z1]⟩);omega);exact h3 a (inr a ha) b (inr b hbS) c (inr c hc) cab k1 k2
  have key:∀p q:Str,p∈S->q∈S->(∀c∈S,upB row p c=true\/upB row q c=true)->(dit row).filter (λy=>upB row p y||upB row q y)=S:=λp q hp hq h=>by
   conv=>rhs;rw[hS]
   refine List.filter_congr λy hy=>?_;by_cases m:y∈S
   ·rw[Pr m,O6];exact h y m
   ·rw[Ps m,Bool.or_eq_false_iff];exact⟨Nz.mpr λz=>m (upin p hp y (Ax.mp hy) z),Nz.mpr λz=>m (upin q hq y (Ax.mp hy) z)⟩
  have nab:a≠b:=λe=>by subst e;exact Dy (h2 a (inr a ha)) cab
  have mk:∀p q:Str,p∈S->q∈S->ltS p q->A0 row p q->(p,q)∈crs row:=λp q hp hq l c=>by
   unfold crs;rw[List.mem_flatMap];refine⟨p,Ax.mpr (inr p hp),Mf.mpr ⟨q,Mc.mpr ⟨Ax.mpr (inr q hq),?_⟩,rfl⟩⟩;rw[Lv];exact⟨Pr l,Pr c⟩
  rw[Mf];by_cases l:ltS a b
  ·exact⟨(a,b),mk a b ha hbS l cab,key a b ha hbS all2⟩
  ·have l':=Ey (J4.mp l) nab.symm;exact⟨(b,a),mk b a hbS ha l' (Di (h2 a (inr a ha)) (h2 b (inr b hbS)) cab),key b a hbS ha λc hc=>(all2 c hc).symm⟩
theorem K1{α : Type}[DecidableEq α]:∀{a b:List α},a.Nodup->(∀x∈a,x∈b)->a.length<=b.length
 | [],_,_,_=>Mt _
 | x::r,b,h,s=>by
  obtain⟨h1,h2⟩:=Mv.mp h;have hx:=s x Lo;have:=K1 (a:=r) (b:=b.erase x) h2 λy hy=>(List.mem_erase_of_ne (show y≠x from λe=>h1 (e ▸ hy))).mpr (s y (Ll _ hy));rw[List.length_erase_of_mem hx] at this;have:0<b.length:=List.length_pos_of_mem hx;rw[L4];omega
theorem Xd3{row:List Str}{L:List (List Str)}(h2:∀y∈row,row.count y=2)(h3:Cp row)(hl:(dit row).length<=14)(nd:L.Nodup)(h:∀S∈L,S≠[]/\Al row S=true):L.length<64:=by
 have l1:=K1 nd λS hS=>Xld h2 h3 (h S hS).1 (h S hS).2;have l2:=Xk9 h2 h3 hl;unfold cands at l1;rw[Ln,Li,Li] at l1;omega
end SH
namespace L2
open PySem PySem.Spec PyProof.Rows
open PySem.W (KasT kas_asc kas_desc kas_rev kas_tail3 kas_descPart kas_count kas_place kas_bin kas_sort kas_ask kas_item kat_run kat_snds kat_kind kat_lt KatLex kat_cons kat_go kat_yes kat_no kat_one kat_nil KatTups)
def KAll {α : Type} (n:Nat) (P : α->Prop):KasT α->Prop
 | .ret a=>P a
 | .ask i j k=>i<n/\j<n/\∀b,KAll n P (k b)
theorem KAll.bind{α β : Type}{n:Nat}{P : α->Prop}{Q : β->Prop}{f : α->KasT β}(hf:∀a,P a->KAll n Q (f a)):∀{t:KasT α},KAll n P t->KAll n Q (t.bind f)
 | .ret a,h=>hf a h
 | .ask i j k,h=>⟨h.1,h.2.1,λb=>KAll.bind hf (h.2.2 b)⟩
theorem KAll.wp{α : Type}{n:Nat}{G : α->Shared->Prop}{s:Shared}{cmp:Nat->Nat->(Bool->Shared->Prop)->Shared->Prop}(hc:∀i j C,i<n->j<n->(∀b,C b s)->cmp i j C s):
  ∀{t:KasT α},KAll n (λa=>G a s) t->t.kasWp cmp G s
 | .ret a,h=>h
 | .ask i j k,h=>hc i j _ h.1 h.2.1 λb=>KAll.wp hc (h.2.2 b)
def Gd (n:Nat) (p:Array Nat):Prop:=p.Perm (List.toArray (List.range n))
theorem Gd.lt{n:Nat}{p:Array Nat}(h:Gd n p)(hn:0<n)(i:Nat):p.getD i 0<n:=by
 by_cases hi:i<p.size
 ·have e:p.getD i 0=p[i]:=by simp[Array.getD,hi]
  rw[e];have:p[i]∈p:=Array.getElem_mem hi;have:=h.mem_iff.mp this;simpa using this
 ·have e:p.getD i 0=0:=by simp[Array.getD,hi]
  rw[e];exact hn
theorem Gd.rev{n:Nat}{p:Array Nat}(h:Gd n p)(i j:Nat):Gd n (kas_rev p i j):=(mirror_perm p i j _).trans h
theorem K2{n:Nat}(hn:0<n){p:Array Nat}(h:Gd n p):∀f m,KAll n (λ_=>True) (kas_asc p f m)
 | 0,_=>trivial
 | f+1,m=>⟨h.lt hn _,h.lt hn _,λb=>by
  cases b with
  | true=>exact trivial
  | false=>exact K2 hn h f (m+1)⟩
theorem Hs{n:Nat}(hn:0<n):∀f (p:Array Nat) m q,Gd n p->KAll n (λr=>Gd n r.1) (kas_desc f p m q)
 | 0,p,m,q,h=>h
 | f+1,p,m,q,h=>⟨h.lt hn _,h.lt hn _,λb=>by
  cases b with
  | true=>
   show KAll n _ (if q > 0 then kas_desc f (kas_rev p (m - (q+1)) m) (m+1) 0 else kas_desc f p (m+1) 0);split
   ·exact Hs hn f _ _ _ (h.rev _ _)
   ·exact Hs hn f _ _ _ h
  | false=>
   refine⟨h.lt hn _,h.lt hn _,λd=>?_⟩;cases d with
   | true=>exact h
   | false=>exact Hs hn f _ _ _ h⟩
theorem Xd4{n:Nat}(hn:0<n){p:Array Nat}(h:Gd n p)(m r:Nat):KAll n (λr=>Gd n r.2) (kas_tail3 m r p):=by
 unfold kas_tail3;refine KAll.bind (P:=λ_=>True) (Q:=λ(r:Nat×Array Nat)=>Gd n r.2) (λa _=>?_) (K2 hn (h.rev 0 m) _ _);exact h.rev 0 m
theorem Xd5{n:Nat}(hn:0<n){p:Array Nat}(h:Gd n p)(m r:Nat):KAll n (λr=>Gd n r.2) (kas_descPart m r p):=by
 refine KAll.bind (P:=λr=>Gd n r.1) (λa ha=>?_) (Hs hn _ _ _ _ h);split
 ·exact Xd4 hn (ha.rev _ _) _ _
 ·exact Xd4 hn ha _ _
theorem Xle{n:Nat}(hn:0<n){p:Array Nat}(h:Gd n p)(r:Nat):KAll n (λr=>Gd n r.2) (kas_count r p):=by
 refine KAll.bind (P:=λ_=>True) (λa _=>?_) (K2 hn h _ _);split
 ·exact h
 ·split
  ·refine⟨h.lt hn _,h.lt hn _,λb=>?_⟩;cases b with
   | true=>exact h
   | false=>exact Xd5 hn (h.rev _ _) _ _
  ·exact Xd5 hn h _ _
theorem K3{n:Nat}(hn:0<n){p:Array Nat}(h:Gd n p)(k:Nat):∀f l r,KAll n (λ_=>True) (kas_place p k f l r)
 | 0,_,_=>trivial
 | f+1,l,r=>by
  show KAll n _ (if l ≥ r then _ else _);split
  ·exact trivial
  ·refine⟨h.lt hn _,h.lt hn _,λb=>?_⟩;cases b with
   | true=>exact K3 hn h k f _ _
   | false=>exact K3 hn h k f _ _
theorem Xd6{n:Nat}(hn:0<n):∀f (p:Array Nat) k,Gd n p->KAll n (Gd n) (kas_bin f p k)
 | 0,p,_,h=>h
 | f+1,p,k,h=>KAll.bind (P:=λ_=>True) (λl _=>Xd6 hn f _ _ ((bubble_perm p k _).trans h)) (K3 hn h k _ _ _)
theorem Xlf{n:Nat}(hn:0<n):KAll n (Gd n) (kas_sort n):=by
 refine KAll.bind (P:=λr=>Gd n r.2) (λa ha=>?_) (Xle hn (Array.Perm.refl _) n);split
 ·exact Xd6 hn _ _ _ ha
 ·exact ha
section
variable {prog:Program}{w:World}{A:Around}{E:Value->Shared->Prop}{s:Shared}
def Fa (h:Heap) (v:Value):Prop:=∃a o xs n ss,v = .ref a/\h.get? a=some o/\o.cls = .type "tuple" /\ o.data = .seq xs n/\StrsAre xs.toList ss/\ss≠[]
theorem Xd7{b fin:Bool}{C:Bool->Shared->Prop}(h:∀c,C c s):∀{us vs:List Value} {as bs:List Str} (i:Nat),StrsAre us as->StrsAre vs bs->KatLex prog w A b fin C (us.zip vs) i s
 | _,_,_,_,_,.nil,_=>kat_nil (h _)
 | _,_,_,_,_,.cons _ _ _,.nil=>kat_nil (h _)
 | _,_,_,_,i,.cons x t r,.cons y u r'=>by
  refine kat_cons (eqBool_str ?_);refine kat_go (λ_=>kat_yes (Xd7 h (i+1) r r')) (λ_=>kat_no ?_);cases (b&&i==0) with
  | true=>exact oneLt_str (h _)
  | false=>exact kat_one _ _ (PyProof.Rows.lt_str (h _))
theorem Xlg{x y:Value}{C:Bool->Shared->Prop}(hx:Fa s.heap x)(hy:Fa s.heap y)(h:∀c,C c s):wpAny (model prog w) A (keyLt' (tuples' true) x y) C E s:=by
 obtain⟨a,o,xs,n,ss,rfl,h1,_,h2,h3,_⟩:=hx;obtain⟨b,o',ys,n',ss',rfl,g1,_,g2,g3,_⟩:=hy;exact kat_lt h1 h2 g1 g2 (Xd7 h 0 h3 g3)
theorem Xd8:∀{vs:List Value},(∀v∈vs,Fa s.heap v)->∃fs,KatTups s.heap vs fs/\fs.length=vs.length/\∀f∈fs,∃x t,f = .str x t
 | [],_=>⟨[],KatTups.nil,rfl,λ_ h=>by cases h⟩
 | v::vs,h=>by
  obtain⟨fs,h1,h2,h3⟩:=Xd8 (vs:=vs) λu hu=>h u (Ll _ hu);obtain⟨a,o,xs,n,ss,rfl,g1,g2,g3,g4,g5⟩:=h v Lo;obtain⟨f,x,t,hf,rfl⟩:∃f x t,xs[0]? = some f/\f = .str x t:=by
   have e:xs[0]? = xs.toList[0]?:=by simp
   rw[e];generalize xs.toList=l at g4;cases g4 with
   | nil=>exact absurd rfl g5
   | cons x t r=>exact⟨_,x,t,rfl,rfl⟩
  exact⟨_::fs,KatTups.cons g1 g2 g3 hf h1,by simp[h2],λf hf=>by
   rcases Lw.mp hf with e | e
   ·exact⟨x,t,e⟩
   ·exact h3 f e⟩
theorem Xlh{n:Nat}{vs:List Value}(hn:vs.length=n){p:Array Nat}(h:Gd n p):(p.toList.map λi=>vs.getD i Value.none).Perm vs:=by
 have e:((List.range n).map λi=>vs.getD i Value.none)=vs:=by
  refine List.ext_getElem (by simp[hn]) λi h1 h2=>?_;simp[List.getElem_map,List.getElem_range,List.getD,h2]
 have q:p.toList.Perm (List.range n):=by
  have:=h.toList;simpa using this
 have:=q.map λi=>vs.getD i Value.none;rw[e] at this;exact this
theorem Xli{a:Addr}{vs:List Value}{n:Nat}{P:PySem.Fin->Shared->Prop}(ho:s.heap.get? a=some (seqObj "list" vs.toArray n))(hv:∀v∈vs,Fa s.heap v)(h64:vs.length<64)
  (h:∀out:Array Value,out.toList.Perm vs->P (.done (.ret .none)) {s with heap:=sortedHeap s.heap a vs out}):wpAny (model prog w) A (Builtin.«list.sort» ⟨[.ref a],[]⟩) P E s:=by
 rw[list_sort_plain];have ha:a<s.heap.objs.size:=Pw ho;refine Pm (listItems_at ho rfl ?_);refine Pm (listUpdate_at ho rfl ?_);obtain⟨e1,ho1⟩:∃e1,(s.heap.update a (Obj.mapSeq λ_ => #[])).get? a=some (seqObj "list" #[] e1):=⟨_,get?_update_seq ho (λ_ => #[])⟩;refine Pm (seqEpoch_at ho1 rfl ?_);refine Pm (wpAny_newTuple ?_);refine Pm (wpAny_newList ?_);refine wpAny_holding ?_;have ho6:(((s.heap.update a (Obj.mapSeq λ_ => #[])).push (seqObj "tuple" vs.toArray 0)).push (seqObj "list" #[] 0)).get? a=some (seqObj "list" #[] e1):=by
  rw[Heap.get?_push_ne _ _ _ (by rw[size_push',Heap.size_update];exact Lr (Ny ha)),Heap.get?_push_ne _ _ _ (by rw[Heap.size_update];exact Lr ha)];exact ho1
 have hv6:∀v∈vs,Fa (((s.heap.update a (Obj.mapSeq λ_ => #[])).push (seqObj "tuple" vs.toArray 0)).push (seqObj "list" #[] 0)) v:=λv hm=>by
  obtain⟨b,o,xs,k,ss,rfl,g1,g2,g3,g4,g5⟩:=hv v hm;refine⟨b,o,xs,k,ss,rfl,?_,g2,g3,g4,g5⟩;have hne:b≠a:=λe=>by
   rw[e,ho] at g1;have e1:=Lq g1;rw[<-e1] at g2;exact absurd (show Value.type "list" = Value.type "tuple" from g2) (by decide)
  exact Px _ (Px _ (by rw[Heap.get?_update_ne _ _ _ _ hne];exact g1))
 show wpAny (model prog w) A _ P E {s with heap:=((s.heap.update a (Obj.mapSeq λ_ => #[])).push (seqObj "tuple" vs.toArray 0)).push (seqObj "list" #[] 0)};dsimp only;have hsz:vs.toArray.size=vs.length:=by simp
 by_cases h2:vs.toArray.size<2
 ·rw[Pq h2,Pq h2];refine Pm (Pn ?_);rw[StateT.run_pure];refine Pm (Pn ?_);dsimp only;refine Pm (seqEpoch_at ho6 rfl ?_);refine Pm (listUpdate_at ho6 rfl ?_ (hsz2:=by rw[Array.size_map];show (pairsOf vs).size<=_;rw[pairsOf_size,Po];omega));simp only[bne_self_eq_false,Md,if_false];refine Pn (h _ ?_);have e:((arrOf (SortSt.mk' general' (vs.toArray.zip vs.toArray) #[] 7 none)).map (·.2)).toList=vs:=by
   show ((vs.toArray.zip vs.toArray).map (·.2)).toList=vs;simp only[Array.toList_map,List.zip_toArray];exact List.map_snd_zip (Lk _)
  rw[e]
 ·rw[Pp h2,Pp h2];obtain⟨fs,t1,t2,t3⟩:=Xd8 (s:={s with heap:=((s.heap.update a (Obj.mapSeq λ_ => #[])).push (seqObj "tuple" vs.toArray 0)).push (seqObj "list" #[] 0)}) hv6;refine Pm (kat_kind (T:=.type "str") t1 (by omega) (λv hm=>?_) (by decide) ?_)
  ·obtain⟨x,t,rfl⟩:=t3 v hm;exact .now
  have eb:((Value.type "str") != Value.type "tuple")=true:=by decide
  rw[eb];refine Pm (wpAny_mono (kat_run (κ:=tuples' true) (ks:=vs) (vs:=vs) (Q:=λst' s'=>s' = {s with heap:=((s.heap.update a (Obj.mapSeq λ_ => #[])).push (seqObj "tuple" vs.toArray 0)).push (seqObj "list" #[] 0)}/\failedOf st'=none/\((arrOf st').map (·.2)).toList.Perm vs)
   (G:=λp s'=>s' = {s with heap:=((s.heap.update a (Obj.mapSeq λ_ => #[])).push (seqObj "tuple" vs.toArray 0)).push (seqObj "list" #[] 0)}/\Gd vs.length p) rfl (by omega) h64 (λp st' s' a1 a2 a3 a4=>⟨a4.1,a3,?_⟩) ?_) ?_ λ_ _ e=>e)
  ·rw[kat_snds rfl a2];exact Xlh rfl a4.2
  ·refine KAll.wp (n:=vs.length) (λi j C hi hj hC=>?_) ?_
   ·show wpAny _ _ (keyLt' (tuples' true) (vs.getD i Value.none) (vs.getD j Value.none)) C _ _;have m:∀i,i<vs.length->vs.getD i Value.none∈vs:=λi hi=>by
     have:vs.getD i Value.none=vs[i]:=by simp[List.getD,hi]
     rw[this];exact Me hi
    exact Xlg (hv6 _ (m i hi)) (hv6 _ (m j hj)) hC
   ·have q:=Xlf (n:=vs.length) (by omega);have imp:∀{t:KasT (Array Nat)},KAll vs.length (Gd vs.length) t->KAll vs.length (λp=>({s with heap:=((s.heap.update a (Obj.mapSeq λ_ => #[])).push (seqObj "tuple" vs.toArray 0)).push (seqObj "list" #[] 0)}:Shared) = {s with heap:=((s.heap.update a (Obj.mapSeq λ_ => #[])).push (seqObj "tuple" vs.toArray 0)).push (seqObj "list" #[] 0)}/\Gd vs.length p) t:=by
     intro t
     induction t with
     | ret a=>exact λh=>⟨rfl,h⟩
     | ask i j k ih=>exact λh=>⟨h.1,h.2.1,λb=>ih b (h.2.2 b)⟩
    exact imp q
  rintro ⟨⟨⟩,st'⟩ s' ⟨rfl,hf,hp⟩;dsimp only;refine Pm (seqEpoch_at ho6 rfl ?_);refine Pm (listUpdate_at ho6 rfl ?_ (hsz2:=by
   have:=hp.length_eq;rw[Lp] at this;rw[this,Po];omega))
  rw[hf];simp only[bne_self_eq_false,Md,if_false];exact Pn (h _ hp)
theorem Xlj{l:Addr}{vs:List Value}{Q:Value->Shared->Prop}(hl:s.heap.IsList l vs.toArray)(hv:∀v∈vs,Fa s.heap v)(h64:vs.length<64)
  (h:∀out:Array Value,out.toList.Perm vs->Q (.ref (s.heap.objs.size+1)) {s with heap:=sortedAll s.heap vs out}):
  wpAny (model prog w) A (call (.builtin "sorted") [.ref l]) Q E s:=by
 refine Calls.call_function_entry kind_sorted plain_sorted entry_sorted (args_sorted1 _) ?_;unfold Builtin.«sorted»;refine Pm (m:=checkCount "sorted" 1 1 _) (Pn ?_);refine Pm (collect_list hl ?_);refine Pm (wpAny_newList ?_);have hsz:((s.heap.push (seqObj "list" #[] 0)).update s.heap.objs.size (Obj.mapSeq (· ++ vs.toArray))).objs.size=s.heap.objs.size+1:=by
  rw[Heap.size_update,size_push']
 have hoL:(((s.heap.push (seqObj "list" #[] 0)).update s.heap.objs.size (Obj.mapSeq (· ++ vs.toArray))).push (seqObj "list" vs.toArray 0)).get? (s.heap.objs.size+1)=some (seqObj "list" vs.toArray 0):=by
  rw[<-hsz];exact Heap.get?_push_size _ rfl
 have keep:∀b o,s.heap.get? b=some o->(((s.heap.push (seqObj "list" #[] 0)).update s.heap.objs.size (Obj.mapSeq (· ++ vs.toArray))).push (seqObj "list" vs.toArray 0)).get? b=some o:=λb o q=>by
  have hlt:b<s.heap.objs.size:=Pw q;rw[Heap.get?_push_ne _ _ _ (by rw[hsz];exact Lr (Ny hlt)),Heap.get?_update_ne _ _ _ _ (Lr hlt),Heap.get?_push_ne _ _ _ (Lr hlt)];exact q
 show wpAny _ _ _ _ _ {s with heap:=((s.heap.push (seqObj "list" #[] 0)).update s.heap.objs.size (Obj.mapSeq (· ++ vs.toArray))).push (seqObj "list" vs.toArray 0)};rw[hsz];refine Pm (wpAny_holding (wpAny_call_entry slot_list_sort ⟨_,hoL,rfl⟩ entry_list_sort (Xli hoL (λv hm=>?_) h64 λout a1=>⟨_,rfl,?_⟩) (args_list_sort _)))
 ·obtain⟨b,o,xs,k,ss,rfl,g1,g⟩:=hv v hm;exact⟨b,o,xs,k,ss,rfl,keep _ _ g1,g⟩
 ·exact Pn ⟨_,rfl,h out a1⟩
end
section
variable {X:Cx}
theorem Xlk:Bh X (.builtin "sorted") (λxs H Q=>∃(a:Addr) (ps:List Addr),xs=[.ref a]/\H a=some (.lst (ps.map V.ref))/\(∀p∈ps,∃ss:List Str,H p=some (.tup (ss.map V.str))/\ss≠[])/\ps.length<64/\∀(l:Addr) (ps':List Addr),H l=none->ps'.Perm ps->Q (.ref l) (upd H l (.lst (ps'.map V.ref)))):=by
 intro pins s σ H xs us Q I r h;obtain⟨a,ps,rfl,ha,ht,h64,q⟩:=h;obtain⟨u,rfl,rx⟩:=B4 r;cases rx;obtain⟨its,rv,pl,hz⟩:=I.list (SqL.of ha);have hits:its=ps.map Value.ref:=by
  clear ht h64 q hz pl ha
  induction ps generalizing its with
  | nil=>cases rv;rfl
  | cons p t ih=>
   cases rv with
   | cons r t'=>cases r;rw[ih _ t'];rfl
 subst hits;refine Xlj pl.isList (λv hm=>?_) (by rw[Li];exact h64) λout h1=>?_
 ·obtain⟨p,hp,rfl⟩:=Mf.mp hm;obtain⟨ss,g1,g2⟩:=ht p hp;obtain⟨its2,r2,p2,_⟩:=I.tuple (SqT.of (K:=X.K) g1);obtain⟨o,ho,hc,n,hd⟩:=id p2;exact⟨p,o,its2.toArray,n,ss,rfl,ho,hc,hd,by simpa using F7 r2,g2⟩
 ·obtain⟨e,he⟩:=sortedAll_at s.heap (ps.map Value.ref) out;have hf:H (s.heap.objs.size+1)=none:=I.hok.fresh (Nl _);obtain⟨ps',e1,e2⟩:∃ps':List Addr,out.toList=ps'.map Value.ref/\ps'.Perm ps:=by
   have inj:∀{a b:List Value},a.Perm b->∀q:List Addr,b=q.map Value.ref->∃q':List Addr,a=q'.map Value.ref/\q'.Perm q:=by
    intro a b p
    induction p with
    | nil=>intro q e;exact⟨[],rfl,by cases q with | nil=>exact .nil | cons _ _=>cases e⟩
    | cons x _ ih=>
     intro q e;cases q with
     | nil=>cases e
     | cons y t=>
      injection e with e1 e2
      obtain⟨q',h1,h2⟩:=ih t e2;exact⟨y::q',by rw[h1,e1];rfl,.cons y h2⟩
    | swap x y l=>
     intro q e
     match q,e with
     | u::v::t,e=>
      injection e with e1 e2
      injection e2 with e2 e3
      exact⟨v::u::t,by rw[e1,e2,e3];rfl,.swap u v t⟩
     | [_],e=>injection e with _ e2;cases e2
     | [],e=>cases e
    | trans _ _ i1 i2=>
     intro q e;obtain⟨q1,g1,g2⟩:=i2 q e;obtain⟨q2,g3,g4⟩:=i1 q1 g1;exact⟨q2,g3,g4.trans g2⟩
   exact inj h1 ps rfl
  refine⟨.ref (s.heap.objs.size+1),_,I.laid (t':=s.toks) (h':=sortedAll s.heap (ps.map Value.ref) out) (o:=.lst (ps'.map V.ref)) (λb ob q=>sortedAll_old q) (Nl _) ?_,rfl,q _ ps' hf e2⟩;refine⟨by rw[Li,e2.length_eq,Po];omega,out.toList,e,?_,?_⟩
  ·rw[e1];clear e1 e2 he h1
   induction ps' with
   | nil=>exact .nil
   | cons p t ih=>exact .cons rfl ih
  ·rw[he]
end
section
variable {X:Cx}
theorem Xll:Bh X (.builtin "sorted") (λxs H Q=>∃(a:Addr) (ks:List Str),xs=[.ref a]/\H a=some (.tup (ks.map V.str))/\ks.length<64/\∀l,H l=none->Q (.ref l) (upd H l (.lst ((srt ks).map V.str)))):=by
 intro pins s σ H xs us Q I r h;obtain⟨a,ks,rfl,ha,h64,q⟩:=h;obtain⟨u,rfl,rx⟩:=B4 r;cases rx;obtain⟨its,r2,p2,_⟩:=I.tuple (SqT.of (K:=X.K) ha);obtain⟨o,ho,hc,n,hd⟩:=id p2;have hl:its.length=ks.length:=by
  have:=r2.length;rw[Li] at this;exact this.symm
 refine J1 h64 (λR k=>wpAny_collect_seq a (.inr rfl) ho hc hd (λh' kk=>k _ _ ks kk rfl rfl (by simpa using F7 r2) (M0 _)) (by rw[Lj,hl,Po];omega)) λs1 s' vs ls e k1 o1 g1 k2 o2 g2 he st p so=>?_;refine J2 I h64 k1 o1 g1 k2 o2 g2 he st p λl hl=>?_;rw[Ez p so];exact q l hl
theorem Xlm(hu:X.A.units+4<cLine):OpR X (compareOp .NotIn) (λx y H Q=>∃d ds,DAt H d x/\DAt H (.list ds) y/\d.canLay0=true/\PyData.canLayAll0 ds=true/\d.depth<=3/\Q (.bl (!ds.any λe=>PyData.eqv e d)) H):=by
 intro pins s σ H x y v u Q I rx ry h;obtain⟨d,ds,h1,h2,c1,c2,hd,q⟩:=h;obtain⟨as,ra⟩:=Eg I d x v h1 rx;obtain⟨bs,rb⟩:=Eg I (.list ds) y u h2 ry;exact SeqAt.notIn_list_reads rb ra c2 c1 (by omega) ⟨.bl _,H,I,rfl,q⟩
end
end L2
namespace SH
open PySem PySem.Spec PyProof.Rows L2
def tupD (ss:List Str):PyData:=.tuple (ss.map PyData.str)
def Plts (row:List Str) (H:Hp) (ps:List Addr):Prop:=∀p∈ps,∃ss:List Str,H p=some (.tup (ss.map V.str))/\Al row ss=true
theorem Plts.same{row:List Str}{H H':Hp}{ps:List Addr}(h:Plts row H ps)(s:Same H H'):Plts row H' ps:=λp hp=>let ⟨ss,h1,h2⟩:=h p hp; ⟨ss,s _ _ h1,h2⟩
theorem Xd9{H:Hp}:∀{Ts:List (List Str)} {xs:List V},DAll H (Ts.map tupD) xs->∃ps:List Addr,xs=ps.map V.ref/\ps.length=Ts.length/\∀p∈ps,∃T∈Ts,H p=some (.tup (T.map V.str))
 | [],xs,h=>by unfold List.map DAll at h;exact⟨[],h,rfl,λ_ q=>by cases q⟩
 | T::Ts,xs,h=>by
  rw[L8] at h;unfold DAll at h;obtain⟨v,vr,rfl,h1,h2⟩:=h;obtain⟨p,ys,rfl,hp,hy⟩:=He h1;rw[Hj hy] at hp;obtain⟨ps,rfl,hl,hq⟩:=Xd9 h2;exact⟨p::ps,rfl,by simp[hl],λq hq'=>by
   rcases Lw.mp hq' with e | e
   ·exact⟨T,Lo,e ▸ hp⟩
   ·obtain⟨T',h1,h2⟩:=hq q e;exact⟨T',Ll _ h1,h2⟩⟩
theorem C2{row ss:List Str}(h:Al row ss=true):(∀x∈ss,x∈row)/\ss.Pairwise ltS:=by
 unfold Al at h;rw[Lv,Lv] at h;refine⟨λx hx=>Pt (L9.mp h.1.2 x hx),?_⟩;rw[Pt h.1.1];exact Xdn ss
theorem Fb{row ss:List Str}(h:Al row ss=true):ss.length<=(dit row).length:=
 K1 (E9 (C2 h).2) λx hx=>Ax.mpr ((C2 h).1 x hx)
theorem Xea(row:List Str):Al row []=true:=by
 unfold Al;rw[Xdm .nil];rfl
theorem Xln{row ss:List Str}{x:Str}(h2:∀y∈row,row.count y=2)(h:Al row ss=true)(hx:x∈row)(n:x∉ss)(hf:B6 (bars row) (srt (ss++[x]))=true):Al row (srt (ss++[x]))=true:=by
 rw[<-Hm h2];unfold Dw;rw[hf,Bool.and_true];obtain⟨hr,hl⟩:=C2 h;have nd:(ss++[x]).Nodup:=by
  rw[Nf];exact⟨E9 hl,by simp,λa ha b hb e=>n (by rw[Ly.mp hb] at e;exact e ▸ ha)⟩
 refine Pr (Kv.mpr ⟨?_,λy hy=>?_⟩)
 ·unfold told;have e1:srt (ddup (srt (ss++[x])))=srt (srt (ss++[x])):=Xcu (Hk ((Ce _).nodup_iff.mpr nd));have e2:srt (srt (ss++[x]))=srt (ss++[x]):=Ef (Ce _) (Db _) (Db _);exact(e1.trans e2).symm
 ·rcases Ls.mp (E1.mp hy) with q | q
  ·exact hr y q
  ·rw[Ly.mp q];exact hx
theorem Xlo{ss:List Str}{x:Str}:srt (ss++[x])≠[]:=λe=>by
 have:x∈srt (ss++[x]):=E1.mpr (by simp);rw[e] at this;cases this
structure Fresh (row:List Str) (H:Hp) (f:Addr) (xs:List V) (Ts:List (List Str)):Prop where
 at':H f=some (.lst xs)
 all:DAll H (Ts.map tupD) xs
 nd:Ts.Nodup
 ok:∀T∈Ts,T≠[]/\Al row T=true
theorem Fresh.same{row:List Str}{H H':Hp}{f:Addr}{xs:List V}{Ts:List (List Str)}(h:Fresh row H f xs Ts)(s:Same H H'):Fresh row H' f xs Ts:=⟨s _ _ h.at',DAll.same s _ _ h.all,h.nd,h.ok⟩
def spPlots:Sp:=λvs H Q _=>∃(r:Addr) (row:List Str),vs=[.ref r]/\H r=some (.lst (row.map V.str))/\Row2 row/\Cp row/\(dit row).length<=14 /\
 ∀(l:Addr) (ps:List Addr) (H':Hp),H l=none->H' l=some (.lst (ps.map V.ref))->ps≠[]->ps.length<=1000->Plts row H' ps->Same H H'->Q (.ref l) H'
abbrev NPl:List Str:=["_law_row_here", "_law_bars_here", "_law_names_here", "_law_told", "_law_layer", "_law_k", "_law_fresh", "_law_plot", "_law_name", "_law_over"]
end SH
namespace L2
open PySem PySem.Spec PyProof.Rows
section
variable {prog:Program}{w:World}{A:Around}{E:Value->Shared->Prop}{h:Heap}{g:Array GenState}{d:Drawn}{t:Nat}{os:OsState}
variable {nm q:Str}{C N:Addr}{bs bm bmB:List Value}{hdct:Bool}{sn:List Str}{sub:List Value}{ab:Bool}{col:Option Bool}{dd:Option Addr}{k0 k1 k2 k3 k5:Option Value}{B newId initId:String}
theorem Xlp(F:ExcBaseFacts B newId initId bmB)(T:OwnTail h bmB bm){mN:Str->Option Value}{rest:List Value}{fI:Addr}{oI:Obj}{Q:PySem.Fin->Shared->Prop}
  (hC:h.get? C=some (excClassObj nm q C N bs bm hdct sn sub ab col dd k0 k1 k2 k3 k5 newId)) (hn:h.Ns N mN) (hi:mN "__init__" = some (.ref fI))
  (hfI:h.get? fI=some oI) (hfc:oI.cls = .type "function")
  (hq:∀h' e,Heap.MadeExcOf h h' e (.ref C) rest ->
   wpAny (model prog w) A (call (.ref fI) (.ref e::rest)) (λr s'=>r = .none/\Q (.done (.ret (.ref e))) s') E ⟨h',g,d,t,os⟩) (hrest:rest.length<=sizeLine:=by size_fits):
  wpAny (model prog w) A (Builtin.«type.__call__» ⟨.ref C::rest,[]⟩) Q E ⟨h,g,d,t,os⟩:=by
 repeat (first | with_reducible refine wpAny_loadPart_at hC ?_ | with_reducible refine wpAny_madeBy_exc hC ?_ | wp_step)
 refine codeAny_call_builtin_code (Code.quiet_builtin _ F.quiet) (wpAny_check_new_subT F T hC ?_);refine codeAny_exc_new_subT F T hC ?_ hrest;show wpAny _ _ _ _ _ _;have hC₁:=Px {cls:=.ref C,data:=.fields #[.ref h.objs.size,.none,.none,.none,.bool false,.none]}
  (Px {cls:=.type "tuple",data:=.seq rest.toArray} hC)
 have hfI₁:=Px {cls:=.ref C,data:=.fields #[.ref h.objs.size,.none,.none,.none,.bool false,.none]}
  (Px {cls:=.type "tuple",data:=.seq rest.toArray} hfI)
 have hn₁ : ((h.push {cls:=.type "tuple",data:=.seq rest.toArray}).push {cls:=.ref C,data:=.fields #[.ref h.objs.size,.none,.none,.none,.bool false,.none]}).Ns N mN:=
  let ⟨o,es,ep,e,r⟩:=hn; ⟨o,es,ep,Px _ (Px _ e),r⟩
 have hget:((h.push {cls:=.type "tuple",data:=.seq rest.toArray}).push
   {cls:=.ref C,data:=.fields #[.ref h.objs.size,.none,.none,.none,.bool false,.none]}).get? (h.objs.size+1)=some
   {cls:=.ref C,data:=.fields #[.ref h.objs.size,.none,.none,.none,.bool false,.none]}:=by heap_get
 have hcC:(Value.ref C::bm).contains (.ref C)=true:=by simp
 have T₁:=T.keeps (h':=(h.push {cls:=.type "tuple",data:=.seq rest.toArray}).push {cls:=.ref C,data:=.fields #[.ref h.objs.size,.none,.none,.none,.bool false,.none]})
  λb o e=>Px _ (Px _ e)
 unfold isInstance
 repeat (first | with_reducible refine wpAny_loadPart_at hget ?_ | (with_reducible refine wpAny_isSubtype_exc hC₁ ?_;rw[hcC]) | wp_step)
 show wpAny _ _ (typeLookup (.ref C) _) _ _ _;refine wpAny_typeLookup_tail hC₁ hn₁ T₁ F.mroIs F.init.lookup ?_;rw[hi];refine wpAny_holding (Pm ?_);unfold bindSpecial;refine Pm (wpAny_typeOf (T := "function") ⟨_,hfI₁,hfc⟩ ?_);rw[Pq (by decide)];refine Pn (Pm (wpAny_mono (hq _ (h.objs.size+1) ⟨λb o hb=>Px _ (Px _ hb),Heap.get?_none_of_le (Nl _),h.objs.size,hget,Heap.get?_none_of_le (Lk _),?_⟩) (λr s' hr=>?_) λ_ _ x=>x))
 ·exact Px _ (Heap.get?_push_at rfl rfl)
 ·obtain⟨rfl,hQ⟩:=hr
  wp_walk
  exact hQ
theorem Xlq(F:ExcBaseFacts B newId initId bmB)(T:OwnTail h bmB bm){mN:Str->Option Value}{rest:List Value}{fI:Addr}{oI:Obj}{Q:Value->Shared->Prop}
  (hC:h.get? C=some (excClassObj nm q C N bs bm hdct sn sub ab col dd k0 k1 k2 k3 k5 newId)) (hn:h.Ns N mN) (hi:mN "__init__" = some (.ref fI))
  (hfI:h.get? fI=some oI) (hfc:oI.cls = .type "function")
  (hq:∀h' e,Heap.MadeExcOf h h' e (.ref C) rest ->
   wpAny (model prog w) (A.under (.builtin "type.__call__" ⟨.ref C::rest,[]⟩)) (call (.ref fI) (.ref e::rest)) (λr s'=>r = .none/\Q (.ref e) s') E ⟨h',g,d,t,os⟩) (hrest:rest.length<=sizeLine:=by size_fits):
  wpAny (model prog w) A (call (.ref C) rest) Q E ⟨h,g,d,t,os⟩:=by
 have f1:=tc_lookup;have f2:=tc_bind (.ref C);have hT:(⟨h,g,d,t,os⟩:Shared).TypeIs (.ref C) "type" := ⟨_,hC,rfl⟩;refine wpAny_call (codeAny_of_tree ?_);show wpAny _ _ (callAny (.ref C) _) _ _ _
 repeat (any_goals (first | assumption | with_reducible refine wpAny_loadPart_at hC ?_ | wp_step))
 refine⟨rfl,?_⟩;refine codeAny_call_builtin_at (Code.quiet_builtin _ (by decide +kernel)) entry_typeCall (wpAny_check_type_call_sub hC (Xlp (hrest:=hrest) F T hC hn hi hfI hfc λh' e hm=>?_));exact hq h' e hm
end
end L2
namespace L2
open PySem PySem.Spec PyProof.Rows PySem.W
open Builtin Builtin.ObjectAttr
def El:List Value:=[.type "ValueError",.type "Exception",.type "BaseException",.type "object"]
theorem Xeb(self:Value):∀(rs:List Addr),refuseLoop self "__setattr__" (rs.map Value.ref++El)=pure ()
 | []=>PySem.F.store_ValueError.passes self
 | c::r=>by rw[L8,O2,refuseLoop_ref];exact Xeb self r
section
variable {prog:Program}{w:World}{A:Around}{E:Value->Shared->Prop}{K:Frag}{s:Shared}{x C:Addr}{o:Obj}{name:Str}{v:Value}{cd:ClassData}{rs:List Addr}
theorem Xlr{R:Result->Shared->Prop}{tk:Tok}(X:K.In s.heap)(hx:s.heap.get? x=some o)(hc:o.cls = .ref C)(hno:notCls o=true)(hdn:o.dict=none)(hcd:clsIn K C=some cd)(hm:cd.mro=rs.map Value.ref++El)(hdict:cd.hasDict=true)
  (ha:findIn K (.ref C) name=some none)
  (hq:∀h' tk' dx,h'.get? x=some {o with dict:=some dx}->s.heap.get? dx=none->h'.Ns1 dx (λy=>if y=name then some v else none)->(∀b ob,b≠x->s.heap.get? b=some ob->h'.get? b=some ob)->R (.ok (.ret .none)) {s with heap:=h',toks:=tk'}):
  codeAny (model prog w) A (.call (.builtin "object.__setattr__") ⟨[.ref x,.str name tk,v],[]⟩) R s:=by
 have SF:=PySem.F.store_object;have I:InstAt s.heap x o C none:=⟨hx,hc,hno,by rw[hdn];trivial⟩;have ne:cd.mro.isEmpty=false:=by rw[hm];cases rs<;>rfl
 have ho:cd.mro.contains (.type "object")=true:=by
  rw[hm,List.contains_iff_mem,Ls];exact .inr (by simp[El])
 have sub:Looks (model prog w) s.heap (isInstance (.ref x) (.type "object")) true:=I.type.andThen (looks_mroIn X (by unfold mroIn;rw[hcd,Option.bind_some,Pp (by rw[ne];decide),ho]));refine codeAny_call_builtin SF.slot.plain SF.entry (@check_slot (model prog w) _ _ s "object.__setattr__" "object" "__setattr__" (.ref x) [.str name tk,v] [] _ SF.kind SF.split sub (SF.args (.ref x) (.str name tk) v) ?_);have hmr:Looks (model prog w) s.heap (mroOf (.ref C)) cd.mro:=(looks_clsIn X hcd).andThen .now;rw[osa_eq,refuse_eq];refine Pm (Pm (I.type.here (Pm (hmr.here ?_))));rw[hm,Xeb];refine Pn (Pm (I.type.here (Pm ((looks_findIn X ha).here (Pm (Pn ?_))))));dsimp only;show wpAny _ _ (storeInOwnDict (.ref x) (.ref C) (.str name tk) name v false) _ _ _;obtain⟨h,g,d,t,os⟩:=s;have hxs:x≠h.objs.size:=Lr (Pw hx);obtain⟨oc,odi,oda,osl⟩:=o;dsimp only at hc hdn;subst hc hdn;have hx₁ : (h.push {cls:=.type "dict",data:=.dict #[]}).get? x=some ⟨.ref C,none,oda,osl⟩:=Px _ hx;refine Pm (Pn (Pm (Pm (wpAny_loadPart hx (Pm ((looks_clsIn X hcd).here ?_))))));rw[hdict];rw[Pp (by decide)];dsimp only;rw[Pp (by simp[typeHasDict])]
 have fin:wpAny (model prog w) A.in1 (do
   let d <-alloc {cls:=Value.type "dict",data:=Data.dict #[]}
   update x λo=>{cls:=o.cls,dict:=some d,data:=o.data,slots:=o.slots}
   dictMade (Value.ref C) x d)
  (λa s'=>wpAny (model prog w) A.in1 (match a with
    | some d=>storeInDict d (Value.str name tk) name v
    | none=>noDictFor (Value.ref x) (Value.ref C) name false)
    (λfin s'=>match fin with
     | Fin.done f=>R (Except.ok f) s'
     | Fin.again c'=>c'.quiet=true/\codeAny (model prog w) A c' R s')
    (λe s'=>R (Except.error e) s') s')
  (λe s'=>R (Except.error e) s') {heap:=h,gens:=g,drawn:=d,toks:=t,os:=os}:=by
  refine Pm (wpAny_alloc' ?_);refine Pm (wpAny_update' hx₁ ?_);refine Pn ?_;have hgd:((h.push {cls:=.type "dict",data:=.dict #[]}).update x λo=>{cls:=o.cls,dict:=some h.objs.size,data:=o.data,slots:=o.slots}).get? h.objs.size
    = some {cls:=.type "dict",data:=.dict #[]}:=
   (Heap.get?_update_ne _ _ _ _ hxs.symm).trans (Heap.get?_push_at rfl rfl)
  have hnd:((h.push {cls:=.type "dict",data:=.dict #[]}).update x λo=>{cls:=o.cls,dict:=some h.objs.size,data:=o.data,slots:=o.slots}).Ns h.objs.size (λ_=>none):=
   ⟨_, #[],_,hgd,rfl,λe he=>absurd he (by simp),λ_=>rfl⟩
  show wpAny _ _ (storeInDict h.objs.size (.str name tk) name v) _ _ _;unfold storeInDict newKeyGuard;refine Pm (Pn (Pm (wpAny_nsSet1 (Heap.Ns1.of_empty hnd) λh' hn' hs=>?_)));obtain⟨oD,esD,epD,hoD,hdD,hcD⟩:=hn'.count (Within.cons name v Within.nil);refine Pm (wpAny_lookBehind hoD (by rw[hdD];exact pastItsLine_dict (Mj hcD (by rw[L4,Nx,Po];omega))) ?_)
  wp_walk
  refine hq h' _ h.objs.size ?_ (Heap.get?_none_of_le (Lk _)) hn' (λb ob hb e=>?_)
  ·refine(hs.2 x hxs).trans (Heap.get?_update_self _ hx₁ ?_);have hfr:=(Heap.get?_some_iff.mp hx).2;cases oda<;>first | rfl | exact hfr
  ·exact(hs.2 b (Lr (Pw e))).trans ((Heap.get?_update_ne _ _ _ _ hb).trans (Px _ e))
 cases oda<;>first | exact fin | exact absurd hno (by simp[notCls])
theorem Xls{Q:Unit->Shared->Prop}(X:K.In s.heap)(hx:s.heap.get? x=some o)(hc:o.cls = .ref C)(hno:notCls o=true)(hdn:o.dict=none)(hcd:clsIn K C=some cd)(hm:cd.mro=rs.map Value.ref++El)(hdict:cd.hasDict=true)
  (hs:findIn K (.ref C) "__setattr__" = some (some (.builtin "object.__setattr__"))) (ha:findIn K (.ref C) name=some none)
  (hq:∀h' tk' dx,h'.get? x=some {o with dict:=some dx}->s.heap.get? dx=none->h'.Ns1 dx (λy=>if y=name then some v else none)->(∀b ob,b≠x->s.heap.get? b=some ob->h'.get? b=some ob)->Q () {s with heap:=h',toks:=tk'}):
  wpAny (model prog w) A (setAttr (.ref x) name v) Q E s:=
 set_plain X (⟨hx,hc,hno,by rw[hdn];trivial⟩:InstAt s.heap x o C none) hs (Xlr (s:={s with toks:=s.toks+1}) X hx hc hno hdn hcd hm hdict ha λh' tk' dx a1 a2 a3 a4=>hq h' tk' dx a1 a2 a3 a4)
end
end L2
namespace L2
open PySem PySem.Spec PyProof.Rows
theorem Xec(o:Obj)(f):(o.mapFields f).dict=o.dict:=by
 obtain⟨c,d,dt,sl⟩:=o;cases dt<;>rfl
def Dk (h:Heap) (e:Addr) (dd:Option Addr):Prop:=∃oe,h.get? e=some oe/\oe.dict=dd
section
variable {M:Model}{A:Around}{E:Value->Shared->Prop}{s:Shared}
theorem Xed{base:Heap}{env:Env}{outer:List Env}{L e:Addr}{oe:Obj}{vs:Array Value}{head a0:Value}{hadNext:Bool}{Q:Unit->Shared->Prop}
  (hfr:A.frames=some (env::outer)) (hl:s.heap.FunFrames base (env::outer)) (hf:env.frame=some L)
  (he:s.heap.get? e=some oe) (hkb:base.StaysIn s.heap) (hen:base.get? e=none) (hd:oe.data = .fields vs) (hsz:1<vs.size) (h0:vs[0]? = some a0)
  (h:∀h',Heap.LeftW base (env::outer) e oe.cls a0 s.heap h'->Dk h' e oe.dict->Q () {s with heap:=h'}):
  wpAny M A (do let a <-frameOf env;let pl <-entryPlaceOf L hadNext;let b <-EntryCells.newEntry head a .none (rawInt L) .none pl;setField (.ref e) 1 b) (λ_ s'=>wpAny M A (setFlight (.ref e) none) Q E s') E s:=by
 have hene:e∉(env::outer).filterMap (·.frame):=λhm=>by
  obtain⟨_,o,ho,hnf⟩:=hl.mem hm;rw[he] at ho;injection ho with ho;subst ho;exact hnf vs hd
 refine Pm (wpAny_frameOf_fun hfr hl hf λh₁ hs₁=>?_);refine Pm (wpAny_entryPlaceOf λpl hpl=>?_);unfold EntryCells.newEntry newFields;refine Pm (wpAny_newObj_type ?_ (hpl.sizeOk5 _ _ _ _ _));have he₁ : h₁.get? e=some oe:=(hs₁.2.1 e hene).trans he;have kb₁ : base.StaysIn h₁:=λb o hbo=>(hs₁.2.1 b λhm=>by rw[(hl.mem hm).1] at hbo;cases hbo).trans (hkb b o hbo);have he₂:=Px (h:=h₁) {cls:=.type "traceback",dict:=none,data:=.fields ([head,.ref L,.none,rawInt L,.none]++(if pl.isEmpty then List.replicate 6 Value.none else pl)).toArray} he₁;refine wpAny_setField he₂ hd hsz ?_;have hTe:h₁.objs.size≠e:=Oy (Pw he₁);have hd₃:=Obj.data_mapFields hd (·.setIfInBounds 1 (Value.ref h₁.objs.size));have he₃:=Heap.get?_update_self (Obj.mapFields (·.setIfInBounds 1 (Value.ref h₁.objs.size))) he₂ (Obj.isFreed_of_fields hd₃);have hT₃:=(Heap.get?_update_other (h₁.push {cls:=.type "traceback",dict:=none,data:=.fields ([head,.ref L,.none,rawInt L,.none]++(if pl.isEmpty then List.replicate 6 Value.none else pl)).toArray})
  (Obj.mapFields (·.setIfInBounds 1 (Value.ref h₁.objs.size))) (Ne.symm hTe)).trans (Heap.get?_push_size h₁ rfl)
 unfold setFlight;refine Pm (wpAny_field he₃ hd₃ (x:=.ref h₁.objs.size) (by simp[hsz]) ?_);rw[Pq (show (Value.ref h₁.objs.size != Value.none)=true from by simp)];refine wpAny_setField hT₃ rfl (by simp only[Lj,Ln,L4,Nx]<;>omega) (h _ ?_ ⟨_,by rw[Heap.get?_update_other _ _ hTe];exact he₃,Xec _ _⟩);have keep:∀b o,b≠e->h₁.get? b=some o ->
   (((h₁.push {cls:=.type "traceback",dict:=none,data:=.fields ([head,.ref L,.none,rawInt L,.none]++(if pl.isEmpty then List.replicate 6 Value.none else pl)).toArray}).update e (Obj.mapFields (·.setIfInBounds 1 (Value.ref h₁.objs.size)))).update h₁.objs.size
    (Obj.mapFields (·.setIfInBounds 3 ((none:Option Addr).elim Value.none λf=>rawInt f)))).get? b=some o:=λb o hbe hb=>by
  have hbT:h₁.objs.size≠b:=Oy (Pw hb);rw[Heap.get?_update_other _ _ hbT,Heap.get?_update_other _ _ (Ne.symm hbe)];exact Px _ hb
 have noRecord:∀b o,s.heap.get? b=some o->(∀vs,o.data ≠ .fields vs)->b≠e:=λb o hb hnf q=>by
  rw[q,he] at hb;injection hb with hb;subst hb;exact hnf vs hd
 refine⟨λb o hbo=>keep b o (λq=>by rw[q,hen] at hbo;cases hbo) (kb₁ b o hbo),hl.of_keeps λb o hb hnf=>?_,?_,λb o hb hnf=>?_⟩
 ·obtain⟨sl,hs⟩:=hs₁.2.2 b o hb;exact⟨_,keep b _ (noRecord b o hb hnf) hs,rfl⟩
 ·refine⟨_,_,h₁.objs.size,_,_,?_,⟨Obj.cls_mapFields _ _,by rw[Ov (by decide)];exact h0⟩,hd₃,by simp[hsz],kb₁.fresh,hTe,Heap.get?_update_self _ hT₃ (Obj.isFreed_of_fields (Obj.data_mapFields rfl _)),Obj.data_mapFields rfl _,by first | (simp;done) | (rcases hpl with rfl | ⟨_,_,_,_,_,_,_,rfl⟩<;>simp)⟩;rw[Heap.get?_update_other _ _ hTe];exact he₃
 ·obtain⟨sl,hs⟩:=hs₁.2.2 b o hb;exact⟨sl,keep b _ (noRecord b o hb hnf) hs⟩
theorem Xee{base:Heap}{env:Env}{outer:List Env}{L e:Addr}{oe:Obj}{vs:Array Value}{a0:Value}{Q:Unit->Shared->Prop}
  (hfr:A.frames=some (env::outer)) (hl:s.heap.FunFrames base (env::outer)) (hf:env.frame=some L)
  (he:s.heap.get? e=some oe) (hkb:base.StaysIn s.heap) (hen:base.get? e=none) (hd:oe.data = .fields vs) (h1:vs[1]? = some .none) (h0:vs[0]? = some a0)
  (h:∀h',Heap.LeftW base (env::outer) e oe.cls a0 s.heap h'->Dk h' e oe.dict->Q () {s with heap:=h'}):wpAny M A (leaving env (.ref e)) Q E s:=by
 unfold leaving noteFrame;simp only[hf];refine Pm (Pm (wpAny_field he hd h1 ?_));rw[Pp (by decide)];exact Xed hfr hl hf he hkb hen hd (My.mp h1).1 h0 h
theorem Xlt{base:Heap}{env:Env}{outer:List Env}{L e:Addr}{cls a0:Value}{dd:Option Addr}{Q:Unit->Shared->Prop}
  (hfr:A.frames=some (env::outer)) (hl:s.heap.FunFrames base (env::outer)) (hf:env.frame=some L) (ht:s.heap.TracedW base e cls a0) (hdt:Dk s.heap e dd) (hkb:base.StaysIn s.heap) (hen:base.get? e=none)
  (h:∀h',Heap.LeftW base (env::outer) e cls a0 s.heap h'->Dk h' e dd->Q () {s with heap:=h'}):wpAny M A (leaving env (.ref e)) Q E s:=by
 obtain⟨oe,vs,T,oT,ts,he,⟨hcls,h0⟩,hd,h1,hnT,hTe,hT,hdT,h3⟩:=ht;subst hcls;obtain⟨oe',he',hdd⟩:=hdt;rw[he] at he';have e0:=Lq he';subst e0 hdd;unfold leaving noteFrame;simp only[hf];refine Pm (Pm (wpAny_field he hd h1 ?_));rw[Pq (show (Value.ref T != Value.none)=true from by simp)];refine Pm (wpAny_field hT hdT h3 ?_);rw[Pp (show ¬((Value.none==rawInt L)=true) from by simp[rawInt])];refine Pm (wpAny_setField hT hdT (My.mp h3).1 ?_);have other:∀b,b≠T->(s.heap.update T (Obj.mapFields (·.setIfInBounds 3 Value.none))).get? b=s.heap.get? b:=λb hb=>Heap.get?_update_other _ _ (Ne.symm hb);have noRecord:∀b o,s.heap.get? b=some o->(∀vs,o.data ≠ .fields vs)->b≠T:=λb o hb hnf q=>by
  rw[q,hT] at hb;injection hb with hb;subst hb;exact hnf ts hdT
 refine Xed hfr (hl.of_keeps λb o hb hnf=>⟨o,(other b (noRecord b o hb hnf)).trans hb,rfl⟩) hf ((other e (Ne.symm hTe)).trans he)
  (λb o hbo=>(other b λq=>by rw[q,hnT] at hbo;cases hbo).trans (hkb b o hbo)) hen hd (My.mp h1).1 h0
  λh' ⟨x1,x2,x3,x4⟩ hD=>h h' ⟨x1,x2,x3,λb o hb hnf=>x4 b o ((other b (noRecord b o hb hnf)).trans hb) hnf⟩ hD
def Cq (base:Heap) (l:List Env) (e:Addr) (cls a0:Value) (dd:Option Addr) (h:Heap):Prop:=Heap.FlyingW base l e cls a0 h/\Dk h e dd
theorem Xlu{base:Heap}{env:Env}{outer:List Env}{L e:Addr}{cls a0:Value}{dd:Option Addr}{Q:Unit->Shared->Prop}
  (hfr:A.frames=some (env::outer)) (hf:env.frame=some L) (hfl:Cq base (env::outer) e cls a0 dd s.heap)
  (hQ:∀h',Cq base outer e cls a0 dd h'->s.heap.UpToSlots h'->Q () {s with heap:=h'}):wpAny M A (leaving env (.ref e)) Q E s:=by
 obtain⟨⟨f1,f2,f3,f4⟩,hD⟩:=hfl;refine Xlt hfr f3 hf f4 hD f1 f2 λh' hL hD'=>?_;obtain⟨k1,⟨_,_,k2⟩,k3,k4⟩:=hL;exact hQ h' ⟨⟨k1,f2,k2,k3⟩,hD'⟩ k4
structure MadeD (h h':Heap) (e:Addr) (cls:Value) (args:List Value) (dx:Addr):Prop where
 keeps:∀b o,h.get? b=some o->h'.get? b=some o
 new:h.get? e=none
 newD:h.get? dx=none
 there:∃t,h'.get? e=some {cls:=cls,dict:=some dx,data:=.fields #[.ref t,.none,.none,.none,.bool false,.none]}/\h.get? t=none/\h'.get? t=some {cls:=.type "tuple",data:=.seq args.toArray}
end
section
variable {M:Model}{A:Around}{E:Value->Shared->Prop}{s:Shared}
theorem Xlv{base h:Heap}{env:Env}{outer:List Env}{L e:Addr}{cls:Value}{args:List Value}{Q:Unit->Shared->Prop}
  (hfr:A.frames=some (env::outer)) (hf:env.frame=some L) (hkb:base.StaysIn h) (hl:h.FunFrames base (env::outer)) (hx:Heap.MadeExcOf h s.heap e cls args)
  (hQ:∀h' t,Cq base outer e cls (.ref t) none h'->s.heap.UpToSlots h'->Q () {s with heap:=h'}):wpAny M A (leaving env (.ref e)) Q E s:=by
 obtain⟨t,he,htn,ht⟩:=hx.there;have fresh:∀b,h.get? b=none->base.get? b=none:=λb hb=>by
  cases hq:base.get? b with
  | none=>rfl
  | some o'=>have:=hkb b o' hq;rw[hb] at this;cases this
 refine Xee (a0:=.ref t) hfr (hl.of_keeps λb o hb _=>⟨o,hx.keeps b o hb,rfl⟩) hf he (λb o hb=>hx.keeps b o (hkb b o hb)) (fresh e hx.new) rfl rfl rfl λh' hL hD=>?_;obtain⟨k1,⟨_,_,k2⟩,k3,k4⟩:=hL;exact hQ h' t ⟨⟨k1,fresh e hx.new,k2,k3⟩,hD⟩ k4
end
structure FlownD (P:Program) (w:World) (outer:List Env) (H:Hp) (hc:Heap) (H':Hp) (ex C:Addr) (dd:Option Addr) (B:Heap) (a0:Value) (h:Heap):Prop where
 un:Un (frs outer) [] H H' hc h
 hok:HOk P w H' h
 fly:Cq B outer ex (.ref C) a0 dd h
 inB:∀b o,h.get? b=some o->b∉frs outer->((∃o',hc.get? b=some o')\/H' b≠none)->B.get? b=some o
 frf:∀b∈frs outer,H' b=none
theorem FlownD.move{P:Program}{w:World}{outer:List Env}{H H':Hp}{hc B h h':Heap}{ex C:Addr}{dd:Option Addr}{a0:Value}(F:FlownD P w outer H hc H' ex C dd B a0 h)(st:B.StaysIn h')(up:h.UpToSlots h'):
  Un (frs outer) [] H H' hc h'/\HOk P w H' h'/\∀b o,h'.get? b=some o->b∉frs outer->((∃o',hc.get? b=some o')\/H' b≠none)->B.get? b=some o:=by
 have nf:∀b∈frs outer,∀o,h.get? b=some o->∀vs,o.data ≠ .fields vs:=λb hb o e=>by
  obtain⟨_,o',e',d⟩:=F.fly.1.2.2.1.mem hb;rw[e] at e';cases e';exact d
 have tr:∀b o,H' b=some o->b∉frs outer:=λb o e hb=>by rw[F.frf b hb] at e;cases e
 have old:∀b,(∃o',hc.get? b=some o')\/H' b≠none->∃o,h.get? b=some o:=λb hb=>by
  rcases hb with ⟨o',e⟩ | hb
  ·obtain⟨o,e'⟩:=F.un.there b o' e (by simp);exact⟨o,e'⟩
  ·cases q:H' b with
   | none=>exact absurd q hb
   | some u=>exact(F.hok b u q).there
 refine⟨⟨λb o e n hb hx=>?_,λb o e n hb hx=>?_,F.un.free,λb o e hx=>?_,F.un.tups,F.un.frzs,F.un.tbls⟩,λa o e=>?_,λb o e hb hw=>?_⟩
 ·exact st b o (F.inB b o (F.un.keep b o e n hb hx) hb (.inl ⟨o,e⟩))
 ·obtain⟨sl,e1⟩:=F.un.slot b o e n hb hx;obtain⟨sl',e2⟩:=up b _ e1 (nf b hb _ e1);exact⟨sl',e2⟩
 ·obtain⟨o1,e1⟩:=F.un.there b o e hx;by_cases hb:b∈frs outer
  ·obtain⟨sl',e2⟩:=up b _ e1 (nf b hb _ e1);exact⟨_,e2⟩
  ·exact⟨o1,st b o1 (F.inB b o1 e1 hb (.inl ⟨o,e⟩))⟩
 ·refine(F.hok a o e).stay (λb u hb q=>?_) (λ_ q=>q) λ_ _ q=>q;have hn:H' b≠none:=by
   rcases hb with z | z
   ·rw[z,e];simp
   ·rw[z];simp
  have hb':b∉frs outer:=λz=>hn (F.frf b z);exact st b u (F.inB b u q hb' (.inr hn))
 ·obtain⟨o1,e1⟩:=old b hw;have e2:=F.inB b o1 e1 hb hw;have e3:=st b o1 e2;rw[e] at e3;cases e3;exact e2
def CX2 (P:Program) (w:World):CXT:=λouter H s E e s'=>
 ∃ex C dd H' B a0,e = .ref ex/\s'.os=s.os/\AllBare s'.gens/\FlownD P w outer H s.heap H' ex C dd B a0 s'.heap/\E (.ref C) dd H'
section
variable {P:Program}{w:World}{K:PySem.W.Frag}{mg:Str->Option Value}{base:Heap}{N:List Str}{qual:Str}{scope:Scope}{f:Addr}{cd:Value}{A:Around}{outer:List Env}{s:Shared}{H:Hp}{E:XK}
def Xef (X:Cx) (E:XK):Prop:=∀(pins:List (Addr×Obj)) (σ:St) (H:Hp) (s:Shared) (h':Heap) (ex C:Addr) (args:List Value),
 Inv X pins σ H s->Heap.MadeExcOf s.heap h' ex (.ref C) args->E (.ref C) none H->X.xe (.ref ex) {s with heap:=h'}
theorem leaves2:Xef (Br (CX2 P w) P w K mg base N qual scope f cd A outer s H E) E:=by
 intro pins σ H1 s1 h' ex C args I hm hE;show wpAny (model P w) (A.deeper (envOfC qual scope s.heap.objs.size f cd)) (leaving (envOfC qual scope s.heap.objs.size f cd) (.ref ex)) _ _ {s1 with heap:=h'};have hst:(Br (CX2 P w) P w K mg base N qual scope f cd A outer s H E).stack=envOfC qual scope s.heap.objs.size f cd::outer:=rfl;have hin:∀env∈(envOfC qual scope s.heap.objs.size f cd::outer),∀b,env.frame=some b->b∈frs (envOfC qual scope s.heap.objs.size f cd::outer):=λenv he b hb=>N6.mpr ⟨env,he,hb⟩;have hFun:s1.heap.FunFrames base (envOfC qual scope s.heap.objs.size f cd::outer):=I.stack;have hB:(PySem.W.hideAll s1.heap (frs (envOfC qual scope s.heap.objs.size f cd::outer))).StaysIn s1.heap:=λb o q=>PySem.W.of_hideAll _ q;have getB:∀b o,s1.heap.get? b=some o->b∉frs (envOfC qual scope s.heap.objs.size f cd::outer)->(PySem.W.hideAll s1.heap (frs (envOfC qual scope s.heap.objs.size f cd::outer))).get? b=some o:=λb o e n=>PySem.W.hideAll_get _ e n;have sub:∀b,b∈frs (envOfC qual scope s.heap.objs.size f cd::outer)->b=s.heap.objs.size\/b∈frs outer:=λb hb=>Lw.mp (I.stkSub b hb);have sup:∀b,b∈frs outer->b∈frs (envOfC qual scope s.heap.objs.size f cd::outer):=λb hb=>by
  unfold frs at hb ⊢;rw[Mh];split
  ·exact hb
  ·exact Ll _ hb
 have frFree:∀b,b∈frs (envOfC qual scope s.heap.objs.size f cd::outer)->H1 b=none:=λb hb=>I.stkFree b hb;refine Xlv (A:=A.deeper (envOfC qual scope s.heap.objs.size f cd)) (L:=s.heap.objs.size) I.ok.frames rfl hB (PySem.W.funFrames_hide hFun hin) hm λh'' t f1 up=>?_;have old:∀b o,s.heap.get? b=some o->b∉frs outer->b∉frs (envOfC qual scope s.heap.objs.size f cd::outer):=λb o e nb hb=>by
  rcases sub b hb with z | z
  ·exact absurd (Pw e) (by rw[z];exact Mg _)
  ·exact nb z
 have nf:∀b∈frs (envOfC qual scope s.heap.objs.size f cd::outer),∀o,s1.heap.get? b=some o->∀vs,o.data ≠ .fields vs:=λb hb o e=>by
  obtain⟨_,o',e',d⟩:=hFun.mem hb;rw[e] at e';cases e';exact d
 refine⟨ex,C,none,H1,_,_,rfl,I.os,I.bare,⟨⟨λb o e n hb hx=>?_,λb o e n hb hx=>?_,I.base.free,λb o e hx=>?_,I.base.tups,I.base.frzs,I.base.tbls⟩,λa o e=>?_,f1,λb o e hb hw=>?_,λb hb=>frFree b (sup b hb)⟩,hE⟩
 ·exact f1.1.1 b o (getB b o (I.base.keep b o e n hb hx) (old b o e hb))
 ·obtain⟨sl,e1⟩:=I.base.slot b o e n hb hx;obtain⟨sl',e2⟩:=up b _ (hm.keeps _ _ e1) (nf b (sup b hb) _ e1);exact⟨sl',e2⟩
 ·obtain⟨o1,e1⟩:=I.base.there b o e hx;by_cases hb:b∈frs (envOfC qual scope s.heap.objs.size f cd::outer)
  ·obtain⟨sl',e2⟩:=up b _ (hm.keeps _ _ e1) (nf b hb _ e1);exact⟨_,e2⟩
  ·exact⟨o1,f1.1.1 b o1 (getB b o1 e1 hb)⟩
 ·refine(I.hok a o e).stay (λb u hb q=>?_) (λ_ q=>q) λ_ _ q=>q;have hn:H1 b≠none:=by
   rcases hb with z | z
   ·rw[z,e];simp
   ·rw[z];simp
  exact f1.1.1 b u (getB b u q λz=>hn (frFree b z))
 ·have:∃o1,s1.heap.get? b=some o1/\b∉frs (envOfC qual scope s.heap.objs.size f cd::outer):=by
   rcases hw with ⟨o',e'⟩ | hw
   ·obtain⟨o1,e1⟩:=I.base.there b o' e' (λz=>absurd (show b∈([]:List Addr) from z) (by simp));exact⟨o1,e1,old b o' e' hb⟩
   ·cases q:H1 b with
    | none=>exact absurd q hw
    | some u=>
     obtain⟨o1,e1⟩:=(I.hok b u q).there;exact⟨o1,e1,λz=>hw (frFree b z)⟩
  obtain⟨o1,e1,nb⟩:=this;have e2:=getB b o1 e1 nb;have e3:=f1.1.1 b o1 e2;rw[e] at e3;cases e3;exact e2
theorem pass2:Passes (CX2 P w) (Br (CX2 P w) P w K mg base N qual scope f cd A outer s H E) E:=by
 intro pins σ H1 s1 e s' I h;obtain⟨ex,C,dd,H',B,a0,rfl,hos,hbare,F,hE⟩:=h;show wpAny (model P w) (A.deeper (envOfC qual scope s.heap.objs.size f cd)) (leaving (envOfC qual scope s.heap.objs.size f cd) (.ref ex)) _ _ s';have sub:∀b,b∈frs (envOfC qual scope s.heap.objs.size f cd::outer)->b=s.heap.objs.size\/b∈frs outer:=λb hb=>Lw.mp (I.stkSub b hb);have sup:∀b,b∈frs outer->b∈frs (envOfC qual scope s.heap.objs.size f cd::outer):=λb hb=>by
  unfold frs at hb ⊢;rw[Mh];split
  ·exact hb
  ·exact Ll _ hb
 have old:∀b o,s.heap.get? b=some o->b∉frs outer->b∉frs (envOfC qual scope s.heap.objs.size f cd::outer):=λb o e nb hb=>by
  rcases sub b hb with z | z
  ·exact absurd (Pw e) (by rw[z];exact Mg _)
  ·exact nb z
 have F':FlownD P w (envOfC qual scope s.heap.objs.size f cd::outer) H1 s1.heap H' ex C dd B a0 s'.heap:=F;refine Xlu (A:=A.deeper (envOfC qual scope s.heap.objs.size f cd)) (L:=s.heap.objs.size) I.ok.frames rfl F'.fly λh'' f1 up=>?_;obtain⟨un,hok,inB⟩:=F'.move f1.1.1 up;refine⟨ex,C,dd,H',B,a0,rfl,hos.trans I.os,hbare,⟨?_,hok,f1,λb o e hb hw=>?_,λb hb=>F'.frf b (sup b hb)⟩,hE⟩
 ·have un0:Un (frs outer) [] H H1 s.heap s1.heap:=I.base;refine⟨λb o e n hb hx=>?_,λb o e n hb hx=>?_,λb o e n hx=>?_,λb o e hx=>?_,λb xs e=>un.tups b xs (un0.tups b xs e),λb ob u e=>un.frzs b ob u (un0.frzs b ob u e),λb ps e=>?_⟩
  ·exact un.keep b o (un0.keep b o e n hb hx) (un0.free b o e n hx) (old b o e hb) hx
  ·obtain⟨sl,e1⟩:=un0.slot b o e n hb hx;obtain⟨sl',e2⟩:=un.slot b _ e1 (un0.free b o e n hx) (sup b hb) hx;exact⟨sl',e2⟩
  ·obtain⟨o1,e1⟩:=un0.there b o e hx;exact un.free b o1 e1 (un0.free b o e n hx) hx
  ·obtain⟨o1,e1⟩:=un0.there b o e hx;exact un.there b o1 e1 hx
  ·obtain⟨m1,e1⟩:=un0.tbls b ps e;obtain⟨m2,e2⟩:=un.tbls b _ e1;exact⟨m1++m2,by rw[e2,O9]⟩
 ·refine inB b o e ?_ ?_
  ·rcases hw with ⟨o',e'⟩ | hw
   ·exact old b o' e' hb
   ·intro z;exact hw (F'.frf b z)
  ·rcases hw with ⟨o',e'⟩ | hw
   ·obtain⟨o1,e1⟩:=(show Un (frs outer) [] H H1 s.heap s1.heap from I.base).there b o' e' (by simp);exact .inl ⟨o1,e1⟩
   ·exact .inr hw
end
def made (t:Addr):Array Value := #[.ref t,.none,.none,.none,.bool false,.none]
def Dl (a C:Addr) (h:Heap):Prop:=∃t sl,h.get? a=some ⟨.ref C,none,.fields (made t),sl⟩
def B8 (a C dx:Addr) (h:Heap):Prop:=∃t sl,h.get? a=some ⟨.ref C,some dx,.fields (made t),sl⟩
def xdP (dx:Addr) (fs:List (Str×V)) (h:Heap):Prop:=∃mA,h.Ns1 dx mA/\∀f,Bp (fs.lookup f) (mA f)
structure ExK (K:PySem.W.Frag) (C:Addr) (f:Str):Prop where
 cls:∃(cd:ClassData) (rs:List Addr),PySem.W.clsIn K C=some cd/\cd.mro=rs.map Value.ref++El/\cd.hasDict=true
 sa:PySem.W.findIn K (.ref C) "__setattr__" = some (some (.builtin "object.__setattr__"))
 no:PySem.W.findIn K (.ref C) f=some none
section
variable {X:Cx}{pins:List (Addr×Obj)}{σ:St}{H:Hp}{s:Shared}{A:Around}{E:Value->Shared->Prop}
theorem Xlw{a C:Addr}{f:Str}{y:V}{u:Value}{Q:Unit->Shared->Prop}(hex:X.ex=[])(I:Inv X pins σ H s)(e:H a=some (.ext (Dl a C)))(c:ExK X.K C f)(ry:Ah y u)
  (h:∀s' dx,H dx=none->dx≠a->Inv X pins σ (upd (upd H a (.ext (B8 a C dx))) dx (.ext (xdP dx [(f,y)]))) s'->Q () s'):wpAny (model X.prog X.w) A (setAttr (.ref a) f u) Q E s:=by
 obtain⟨⟨vs,sl,ho⟩,_,_⟩:=(show Ar X.prog X.w H s.heap a (.ext (Dl a C)) from I.hok a _ e);obtain⟨cd,rs,h1,h2,h3⟩:=c.cls;refine Xls I.kIn ho rfl rfl rfl h1 h2 h3 c.sa c.no λh' tk' dx hx nd ns keep=>?_;have nda:dx≠a:=λz=>by rw[z,ho] at nd;cases nd
 have hdn:H dx=none:=by
  cases q:H dx with
  | none=>rfl
  | some o=>
   obtain⟨u,hu⟩:=(I.hok dx o q).there;rw[nd] at hu;cases hu
 refine h _ dx hdn nda ?_;have I1:Inv X pins σ (upd H a (.ext (B8 a C dx))) {s with heap:=h',toks:=tk'}:=by
  refine I.write (x:=a) (e:=a) (by rw[e];exact True.intro) (.inl rfl) (λb q hb z=>keep b q hb z) ⟨_,hx⟩ ?_;exact⟨⟨vs,sl,hx⟩,⟨_,hx⟩,λh1 h2 ⟨vs,sl,z⟩ k=>⟨vs,sl,k _ z⟩⟩
 have hndd:upd H a (.ext (B8 a C dx)) dx=none:=by rw[Af nda];exact hdn
 have there:∀b o,s.heap.get? b=some o->b≠dx:=λb o z q=>by rw[q,nd] at z;cases z
 refine I1.track hndd ?_ ?_ ?_ ?_ ?_ ?_ ?_
 ·cases q:X.s₀.heap.get? dx with
  | none=>rfl
  | some o=>
   exfalso;obtain⟨o1,z⟩:=I.base.there dx o q (by rw[hex];simp);exact there dx o1 z rfl
 ·obtain⟨m,⟨o,es,ep,z,_⟩,_⟩:=I.loc;exact λq=>there _ _ z q.symm
 ·intro x c' hc q;obtain⟨v,o,z,_⟩:=I.cell x c' hc;exact there _ _ z q
 ·intro p hp q;exact there _ _ (I.pin p hp).1 q
 ·refine⟨_,ns,λg=>?_⟩;show Bp (([(f,y)]:List (Str×V)).lookup g) (if g=f then some u else none);by_cases q:g=f
  ·subst q;simp[List.lookup];exact ry
  ·rw[Pp q];have:(g==f)=false:=by simpa using q
   simp[List.lookup,this];trivial
 ·obtain⟨o,es,ep,z,_⟩:=ns;exact⟨o,z⟩
 ·exact λh1 h2 ⟨mA,n1,n2⟩ k=>⟨mA,n1.at k,n2⟩
def Xlx (K:PySem.W.Frag) (ta tv:TE) (f:Str):TS:=λD σ H=>tv σ H λy H1=>ta σ H1 λx H2=>∃a C,x = .ref a/\H2 a=some (.ext (Dl a C))/\ExK K C f /\
 ∀dx,H2 dx=none->dx≠a->D.nx σ (upd (upd H2 a (.ext (B8 a C dx))) dx (.ext (xdP dx [(f,y)])))
theorem Xly{o value:Expr}{f:Str}{pos pos':Pos}{ta tv:TE}(hex:X.ex=[])(ha:PE X o ta)(hv:PE X value tv)(hs:swapsWith value (some (.Attribute o f pos')) pos.line X.env=pure false):PS X (.Assign [.Attribute o f pos'] value pos) (Xlx X.K ta tv f):=by
 intro pins s σ H D I h;refine plainObj_wpAny_Assign_Attribute (thn (hv pins s σ H _ I h) λu s1 ⟨y,H1,I1,ry,q⟩=>thn (ha pins s1 σ H1 _ I1 q) λov s2 ⟨x,H2,I2,rx,a,C,ex,ea,c,q2⟩=>?_) hs;subst ex;obtain rfl:ov=Value.ref a:=rx;exact Xlw hex I2 ea c ry λs3 dx n1 n2 I3=>⟨σ,_,I3,q2 dx n1 n2⟩
end
section
variable {M:Model}{A:Around}{E:Value->Shared->Prop}{s:Shared}{env:Env}
variable {nm q:Str}{C N:Addr}{bs bm:List Value}{hdct:Bool}{sn:List Str}{sub:List Value}{ab:Bool}{col:Option Bool}{dd:Option Addr}{k0 k1 k2 k3 k5:Option Value}{newId:String}
theorem Xlz{x:Sem Value}{Q:Flow->Shared->Prop}(hbase:bm.contains (.type "BaseException")=true)(hh:A.handled=none)
  (h:wpAny M A x (λv s₁=>∃e t dx sl,v = .ref e/\s₁.heap.get? C=some (excClassObj nm q C N bs bm hdct sn sub ab col dd k0 k1 k2 k3 k5 newId) /\
   s₁.heap.get? e=some {cls:=.ref C,dict:=dx,data:=.fields #[.ref t,.none,.none,.none,.bool false,.none],slots:=sl}/\E (.ref e) s₁) E s):
  wpAny M A (raiseStmt env (some x) none) Q E s:=by
 have hcB:(Value.ref C::bm).contains (.type "BaseException")=true:=by rw[List.contains_cons,hbase,Pd]
 unfold raiseStmt;refine Pm (wpAny_mono h (λv s₁ h₁=>?_) λ_ _ x=>x);obtain⟨e,t,dx,sl,rfl,hC,he,hE⟩:=h₁;obtain⟨hp,g,d,tk,os⟩:=s₁
 repeat (first | with_reducible refine wpAny_loadPart_at he ?_ | with_reducible refine wpAny_loadPart_at hC ?_ | (with_reducible refine wpAny_isSubtype_exc hC ?_;rw[hcB]) | wp_step)
 exact wpAny_raiseNew_none hh hE
end
section
variable {prog:Program}{w:World}{A:Around}{E:Value->Shared->Prop}{s:Shared}{env:Env}
variable {nm q:Str}{C N:Addr}{bs bm bmB:List Value}{hdct:Bool}{sn:List Str}{sub:List Value}{ab:Bool}{col:Option Bool}{dd:Option Addr}{k0 k1 k2 k3 k5:Option Value}{B newId initId:String}
theorem Xl0(F:ExcBaseFacts B newId initId bmB){mN:Str->Option Value}{x:Str}{np cpos pos:Pos}{args:List Expr}{fI:Addr}{oI:Obj}{Q:Flow->Shared->Prop}
  (hbase:bm.contains (.type "BaseException")=true) (hh:A.handled=none) (hplain:(backTo cpos (starEach args env)).any (·.1)=false) (hi:mN "__init__" = some (.ref fI)) (hfc:oI.cls = .type "function")
  (h:wpAny (model prog w) A (eval (.Name x np) env) (λf s₁=>f = .ref C/\wpAny (model prog w) A (evalArgs (.ref C) true (backTo cpos (starEach args env)) [])
   (λa s₂=>a.kw=[]/\a.pos.length<=sizeLine/\s₂.heap.get? C=some (excClassObj nm q C N bs bm hdct sn sub ab col dd k0 k1 k2 k3 k5 newId)/\s₂.heap.Ns N mN/\OwnTail s₂.heap bmB bm/\s₂.heap.get? fI=some oI /\
    ∀h' e,Heap.MadeExcOf s₂.heap h' e (.ref C) a.pos ->
     wpAny (model prog w) (A.under (.builtin "type.__call__" ⟨.ref C::a.pos,[]⟩)) (call (.ref fI) (.ref e::a.pos)) (λr s'=>r = .none/\s'.heap.get? C=some (excClassObj nm q C N bs bm hdct sn sub ab col dd k0 k1 k2 k3 k5 newId) /\
      (∃t dx sl,s'.heap.get? e=some {cls:=.ref C,dict:=dx,data:=.fields #[.ref t,.none,.none,.none,.bool false,.none],slots:=sl})/\E (.ref e) s') E {s₂ with heap:=h'}) E s₁) E s):
  wpAny (model prog w) A (exec (.Raise (some (.Call (.Name x np) args [] cpos)) none pos) env) Q E s:=by
 rw[arm_exec_Raise];refine Pm (wpAny_standAt (Xlz (C:=C) (nm:=nm) (q:=q) (N:=N) (bs:=bs) (bm:=bm) (hdct:=hdct) (sn:=sn) (sub:=sub) (ab:=ab) (col:=col) (dd:=dd) (k0:=k0) (k1:=k1) (k2:=k2) (k3:=k3) (k5:=k5) (newId:=newId) hbase hh ?_));refine Pm (wpAny_mono (wpAny_Call_ofName (wpAny_mono h (λf s₁ h₁=>?_) λ_ _ x=>x)) (λv s₃ h₃=>Pm (wpAny_standAt (Pn h₃))) λ_ _ x=>x);obtain⟨rfl,h₁⟩:=h₁;unfold callWith;refine Pm (wpAny_holding (wpAny_mono h₁ (λa s₂ h₂=>Pm (wpAny_standAt ?_)) λ_ _ x=>x));obtain⟨apos,akw⟩:=a;obtain⟨hkw,hlen,hC,hn,T,hfI,h₂⟩:=h₂;obtain rfl:akw=[]:=hkw;obtain⟨hp,g,d,tk,os⟩:=s₂;simp only[hplain];refine Pm (wpAny_keeperOf_exc hC ?_);refine Pm (Xlq (hrest:=hlen) F T hC hn hi hfI hfc λh' e hm=>wpAny_mono (h₂ h' e hm) (λr s' hr=>⟨hr.1,Pm (wpAny_holding (wpAny_point (Pn ?_)))⟩) λ_ _ x=>x);obtain⟨_,hC',⟨t,dx,sl,he⟩,hE⟩:=hr;exact⟨e,t,dx,sl,rfl,hC',he,hE⟩
end
def Xeg (X:Cx) (E:XK):Prop:=∀(pins:List (Addr×Obj)) (σ:St) (H:Hp) (s:Shared) (ex C dx:Addr),Inv X pins σ H s->X.s₀.heap.get? ex=none->H ex=some (.ext (B8 ex C dx))->E (.ref C) (some dx) (hid ex H)->X.xe (.ref ex) s
section
variable {P:Program}{w:World}{K:PySem.W.Frag}{mg:Str->Option Value}{base:Heap}{N:List Str}{qual:Str}{scope:Scope}{f:Addr}{cd:Value}{A:Around}{outer:List Env}{s:Shared}{H:Hp}{E:XK}
theorem leaves3:Xeg (Br (CX2 P w) P w K mg base N qual scope f cd A outer s H E) E:=by
 intro pins σ H1 s1 ex C dx I hx0 hxt hE;have hx0:s.heap.get? ex=none:=hx0;obtain⟨⟨t0,xsl,hox⟩,_,_⟩:=(show Ar P w H1 s1.heap ex (.ext (B8 ex C dx)) from I.hok ex _ hxt);show wpAny (model P w) (A.deeper (envOfC qual scope s.heap.objs.size f cd)) (leaving (envOfC qual scope s.heap.objs.size f cd) (.ref ex)) _ _ s1;have hst:(Br (CX2 P w) P w K mg base N qual scope f cd A outer s H E).stack=envOfC qual scope s.heap.objs.size f cd::outer:=rfl;have hin:∀env∈(envOfC qual scope s.heap.objs.size f cd::outer),∀b,env.frame=some b->b∈frs (envOfC qual scope s.heap.objs.size f cd::outer):=λenv he b hb=>N6.mpr ⟨env,he,hb⟩;have hFun:s1.heap.FunFrames base (envOfC qual scope s.heap.objs.size f cd::outer):=I.stack;have hB:(PySem.W.hideAll s1.heap (ex::frs (envOfC qual scope s.heap.objs.size f cd::outer))).StaysIn s1.heap:=λb o q=>PySem.W.of_hideAll _ q;have getB:∀b o,s1.heap.get? b=some o->b∉frs (envOfC qual scope s.heap.objs.size f cd::outer)->b≠ex->(PySem.W.hideAll s1.heap (ex::frs (envOfC qual scope s.heap.objs.size f cd::outer))).get? b=some o:=λb o e n nx=>PySem.W.hideAll_get _ e λz=>(Lw.mp z).elim nx n;have sub:∀b,b∈frs (envOfC qual scope s.heap.objs.size f cd::outer)->b=s.heap.objs.size\/b∈frs outer:=λb hb=>Lw.mp (I.stkSub b hb);have sup:∀b,b∈frs outer->b∈frs (envOfC qual scope s.heap.objs.size f cd::outer):=λb hb=>by
  unfold frs at hb ⊢;rw[Mh];split
  ·exact hb
  ·exact Ll _ hb
 have frFree:∀b,b∈frs (envOfC qual scope s.heap.objs.size f cd::outer)->H1 b=none:=λb hb=>I.stkFree b hb;have nxf:ex∉frs (envOfC qual scope s.heap.objs.size f cd::outer):=λz=>by rw[frFree ex z] at hxt;cases hxt
 refine Xee (A:=A.deeper (envOfC qual scope s.heap.objs.size f cd)) (L:=s.heap.objs.size) (base:=PySem.W.hideAll s1.heap (ex::frs (envOfC qual scope s.heap.objs.size f cd::outer))) I.ok.frames
  (PySem.W.funFrames_hide hFun λenv he b hb=>Ll _ (hin env he b hb)) rfl hox hB (PySem.W.hideAll_none _ Lo) rfl (by rfl) (a0:=.ref t0) (by rfl) λh'' hL hD=>?_
 obtain⟨k1,⟨_,_,k2⟩,k3,up⟩:=hL;have f1:Cq (PySem.W.hideAll s1.heap (ex::frs (envOfC qual scope s.heap.objs.size f cd::outer))) outer ex (.ref C) (.ref t0) (some dx) h'':=⟨⟨k1,PySem.W.hideAll_none _ Lo,k2,k3⟩,hD⟩;have nx1:∀b o,s.heap.get? b=some o->H b=none->b≠ex:=λb o e n z=>by
  have q:=I.base.free b o e n (λz=>absurd (show b∈([]:List Addr) from z) (by simp));rw[z,hxt] at q;cases q
 have old:∀b o,s.heap.get? b=some o->b∉frs outer->b∉frs (envOfC qual scope s.heap.objs.size f cd::outer):=λb o e nb hb=>by
  rcases sub b hb with z | z
  ·exact absurd (Pw e) (by rw[z];exact Mg _)
  ·exact nb z
 have nf:∀b∈frs (envOfC qual scope s.heap.objs.size f cd::outer),∀o,s1.heap.get? b=some o->∀vs,o.data ≠ .fields vs:=λb hb o e=>by
  obtain⟨_,o',e',d⟩:=hFun.mem hb;rw[e] at e';cases e';exact d
 have hide0:∀b,H1 b=none->hid ex H1 b=none:=λb z=>by unfold hid;split<;>first | rfl | exact z
 refine⟨ex,C,some dx,hid ex H1,_,_,rfl,I.os,I.bare,⟨⟨λb o e n hb hx=>?_,λb o e n hb hx=>?_,λb o e n hx=>hide0 b (I.base.free b o e n hx),λb o e hx=>?_,λb xs e=>?_,λb ob u e=>?_,λb ps e=>?_⟩,λa o e=>?_,f1,λb o e hb hw=>?_,λb hb=>hide0 b (frFree b (sup b hb))⟩,hE⟩
 ·exact f1.1.1 b o (getB b o (I.base.keep b o e n hb hx) (old b o e hb) (nx1 b o e n))
 ·obtain⟨sl,e1⟩:=I.base.slot b o e n hb hx;obtain⟨sl',e2⟩:=up b _ e1 (nf b (sup b hb) _ e1);exact⟨sl',e2⟩
 ·obtain⟨o1,e1⟩:=I.base.there b o e hx;by_cases hb:b∈frs (envOfC qual scope s.heap.objs.size f cd::outer)
  ·obtain⟨sl',e2⟩:=up b _ e1 (nf b hb _ e1);exact⟨_,e2⟩
  ·by_cases nb:b=ex
   ·obtain⟨oe,z,_⟩:=hD;exact⟨oe,nb ▸ z⟩
   ·exact⟨o1,f1.1.1 b o1 (getB b o1 e1 hb nb)⟩
 ·have q:=I.base.tups b xs e;exact hid_ne q λz=>by rw[z,hxt] at q;cases q
 ·have q:=I.base.frzs b ob u e;exact hid_ne q λz=>by rw[z,hxt] at q;cases q
 ·obtain⟨more,q⟩:=I.base.tbls b ps e;exact⟨more,hid_ne q λz=>by rw[z,hxt] at q;cases q⟩
 ·have nae:a≠ex:=λz=>by
   unfold hid at e;rw[Pq z] at e;cases e
  have e':H1 a=some o:=E5 ex H1 a o e;refine(I.hok a o e').stay (λb u hb q=>?_) (λc q=>hid_ne q λz=>by rw[z,hxt] at q;cases q) λc xs q=>hid_ne q λz=>by rw[z,hxt] at q;cases q
  have hn:H1 b≠none:=by
   rcases hb with z | z
   ·rw[z,e'];simp
   ·rw[z];simp
  refine f1.1.1 b u (getB b u q (λz=>hn (frFree b z)) λz=>?_);rcases hb with w | w
  ·exact nae (w ▸ z)
  ·rw[z,hxt] at w;cases w
 ·have:∃o1,s1.heap.get? b=some o1/\b∉frs (envOfC qual scope s.heap.objs.size f cd::outer)/\b≠ex:=by
   rcases hw with ⟨o',e'⟩ | hw
   ·obtain⟨o1,e1⟩:=I.base.there b o' e' (λz=>absurd (show b∈([]:List Addr) from z) (by simp));exact⟨o1,e1,old b o' e' hb,λz=>by rw[z,hx0] at e';cases e'⟩
   ·cases q:H1 b with
    | none=>exact absurd (hide0 b q) hw
    | some u=>
     obtain⟨o1,e1⟩:=(I.hok b u q).there;exact⟨o1,e1,λz=>hw (hide0 b (frFree b z)),λz=>hw (by unfold hid;rw[Pq z])⟩
  obtain⟨o1,e1,nb,nx⟩:=this;have e2:=getB b o1 e1 nb nx;have e3:=f1.1.1 b o1 e2;rw[e] at e3;cases e3;exact e2
end
def excInI (K:PySem.W.Frag) (C fI:Addr):Bool:=match K.lookup C with
 | some ⟨.type "type",_,.cls cd,sl⟩=>(match cd.mro,sl.toList with
  | .ref C'::bm,[_,_,_,_,some (.builtin n),_]=>C'==C&&n == "ValueError.__new__" && !cd.hasDel&&PySem.W.tailIn K bmV bm&&PySem.W.nsOkIn K cd.ns&&PySem.W.nsIn K cd.ns "__init__" == some (some (.ref fI))&&(K.lookup fI).any (λo=>o.cls == .type "function")
  | _,_=>false)
 | _=>false
theorem Xl1{K:PySem.W.Frag}{h:Heap}{N:Addr}{mN:Str->Option Value}{n:Str}{v:Value}(X:K.In h)(G:h.Ns N mN)(e:PySem.W.nsIn K N n=some (some v)):mN n=some v:=by
 obtain⟨o,es,ep,ho,hd,_,hf⟩:=G;unfold PySem.W.nsIn at e;split at e
 ·rename_i c d es' n' sl q;have:=X _ _ q;rw[ho] at this;cases this;cases hd;split at e
  ·rename_i en he;cases e;rw[<-hf];unfold nsFind findBy;rw[<-Array.find?_toList,he];rfl
  ·split at e<;>cases e
 ·cases e
theorem Xl2{K:PySem.W.Frag}{h:Heap}{C fI:Addr}(X:K.In h)(q:excInI K C fI=true):
  ∃bm N nm q bs hdct sn sub ab col dd k0 k1 k2 k3 k5 mN oI,K.lookup C=some (excClassObj nm q C N bs bm hdct sn sub ab col dd k0 k1 k2 k3 k5 "ValueError.__new__")/\h.Ns N mN/\mN "__init__" = some (.ref fI)/\OwnTail h bmV bm/\K.lookup fI=some oI/\oI.cls = .type "function" := by
 unfold excInI at q;split at q
 ·rename_i dd cd sl ho;split at q
  ·rename_i C' bm k0 k1 k2 k3 n k5 hm hs;simp only[Lv,beq_iff_eq,Ot] at q;obtain⟨⟨⟨⟨⟨⟨rfl,rfl⟩,hdel⟩,ht⟩,hok⟩,hni⟩,hf⟩:=q;obtain⟨nm,bs,mro,ns,qn,hd,sn,sub,ab,col,del⟩:=cd;dsimp only at hm hdel hok hni;subst hm hdel;have hsl:sl = #[k0,k1,k2,k3,some (.builtin "ValueError.__new__"),k5]:=by
    obtain⟨l⟩:=sl;simp only at hs;rw[hs]
   subst hsl;obtain⟨oI,hoI,hc⟩:=PySem.W.any_some hf;have hN:h.Ns ns (h.nsMap ns):=.of_isNs (PySem.W.isNs_of_in X hok);exact⟨bm,ns,nm,qn,bs,hd,sn,sub,ab,col,dd,k0,k1,k2,k3,k5,_,oI,ho,hN,Xl1 X hN hni,PySem.W.tail_of_in X ht,hoI,beq_iff_eq.mp hc⟩
  ·cases q
 ·cases q
def spInit (K:PySem.W.Frag) (f:Str):Sp:=λvs H Q _=>∃(a C:Addr) (y:V),vs=[.ref a,y]/\H a=some (.ext (Dl a C))/\ExK K C f /\
 ∀dx,H dx=none->dx≠a->Q .non (upd (upd H a (.ext (B8 a C dx))) dx (.ext (xdP dx [(f,y)])))
def Xl3 (C:Addr) (f:Str) (E:XK) (t:TA):TS:=λ_ σ H=>t σ H λvs H1=>∃y,vs=[y]/\∀ex dx,H1 ex=none->H1 dx=none->dx≠ex->E (.ref C) (some dx) (hid ex (upd (upd (upd H1 ex (.ext (Dl ex C))) ex (.ext (B8 ex C dx))) dx (.ext (xdP dx [(f,y)]))))
theorem Xl4{X:Cx}{C fI:Addr}{fdI:FuncData}{E:XK}{x f:Str}{np cpos pos:Pos}{e:Expr}{t:TA}{k:Nat}{pn:Str}(hc:excInI X.K C fI=true)(hcalm:X.calm=true)(hexX:X.ex=[])(c:ExK X.K C f)(hx:Xeg X E)(hg:Gl X x)(hm:X.mg x=some (.ref C))
  (FI:FnOk X.prog X.w X.K X.mg X.base CX0 k fI fdI ["self",pn] (spInit X.K f)) (hr:Room (k+1) X.A) (hb:Binds X.K fdI ["self",pn] []) (ha:PA X [e] t)
  (hdb:(x==("__debug__" : Str))=false:=by decide) (he:starEach [e] X.env=[(false,eval e X.env)]:=by rfl):
  PS X (.Raise (some (.Call (.Name x np) [e] [] cpos)) none pos) (Xl3 C f E t):=by
 intro pins s σ H D I h;obtain⟨tl,N,nm,q,bs,hdct,sn,sub,ab,col,dd,k0,k1,k2,k3,k5,mN,oI,hC,hN,hni,T,hfI,hfc⟩:=Xl2 I.mod.kin hc;refine Xl0 (C:=C) (nm:=nm) (q:=q) (N:=N) (bs:=bs) (bm:=tl) (hdct:=hdct) (sn:=sn) (sub:=sub) (ab:=ab) (col:=col) (dd:=dd) (k0:=k0) (k1:=k1) (k2:=k2) (k3:=k3) (k5:=k5) (oI:=oI) (fI:=fI)
  PySem.F.excBase_ValueError (mN:=mN) (T.hasType PySem.F.excBase_ValueError.hasBase) (I.ok.hd hcalm) (by rw[he];rfl) hni hfc (D4 I hg hm ⟨rfl,?_⟩ hdb)
 have hh:=ha cpos pins s σ H _ I h;rw[he] at hh ⊢;refine Calls.evalArgs_plain (wpAny_mono hh (λus s2 hap=>?_) λ_ _ y=>y);obtain⟨vs,H2,I2,r2,y,ey,q2⟩:=hap;subst ey;obtain⟨u,rfl,ry⟩:∃u,us=[u]/\Ah y u:=by
  cases r2 with
  | cons a b=>cases b;exact⟨_,rfl,a⟩
 refine⟨rfl,by show 1<=sizeLine;decide,I2.kIn _ _ hC,hN.keeps I2.bk,T.keeps I2.bk,I2.kIn _ _ hfI,λh' ex hmk=>?_⟩;obtain⟨t0,hx1,_,_⟩:=hmk.there;have hxn:H2 ex=none:=by
  cases z:H2 ex with
  | none=>rfl
  | some o=>
   obtain⟨w,hw⟩:=(I2.hok ex o z).there;rw[hmk.new] at hw;cases hw
 have hx0:X.s₀.heap.get? ex=none:=by
  cases z:X.s₀.heap.get? ex with
  | none=>rfl
  | some o=>
   obtain⟨o1,w⟩:=I2.base.there ex o z (by rw[hexX];simp);rw[hmk.new] at w;cases w
 have there:∀b o,s2.heap.get? b=some o->b≠ex:=λb o z w=>by rw[w,hmk.new] at z;cases z
 have I2':Inv X pins σ H2 {s2 with heap:=h'}:=I2.kept (t':=s2.toks) λb o z=>hmk.keeps b o z;have I3:Inv X pins σ (upd H2 ex (.ext (Dl ex C))) {s2 with heap:=h'}:=by
  refine I2'.track hxn hx0 ?_ ?_ ?_ ⟨t0,_,hx1⟩ ⟨_,hx1⟩ λh1 h2 ⟨t,sl,z⟩ k=>⟨t,sl,k _ z⟩
  ·obtain⟨m,⟨o,es,ep,z,_⟩,_⟩:=I2.loc;exact λw=>there _ _ z w.symm
  ·intro x c' hc w;obtain⟨v,o,z,_⟩:=I2.cell x c' hc;exact there _ _ z w
  ·intro p hp w;exact there _ _ (I2.pin p hp).1 w
 refine wpAny_call (codeAny_mono (FI.run _ X.stack _ _ ⟨[.ref ex,u],[]⟩ [.ref ex,u] [.ref ex,y] (λv H'=>v = .non/\∃dx,H2 dx=none/\dx≠ex/\H'=upd (upd (upd H2 ex (.ext (Dl ex C))) ex (.ext (B8 ex C dx))) dx (.ext (xdP dx [(f,y)]))) E (hr.make C [u] [])
  (I3.env0.make C [u] []) (hb _ [.ref ex,u] I3.kIn rfl) (.cons rfl (.cons ry .nil)) ⟨ex,C,y,rfl,Ac,c,λdx n1 n2=>⟨rfl,dx,by rw[Af n2] at n1;exact n1,n2,rfl⟩⟩) λr s' hq'=>?_)
 cases r with
 | error e=>exact False.elim hq'
 | ok fl=>
  cases fl with
  | ret u'=>
   obtain⟨v,H',I4,rv,ev,dx,n1,n2,rfl⟩:=I3.after hq';subst ev;have hxe:upd (upd (upd H2 ex (.ext (Dl ex C))) ex (.ext (B8 ex C dx))) dx (.ext (xdP dx [(f,y)])) ex=some (.ext (B8 ex C dx)):=by rw[Af n2.symm,Ac]
   obtain⟨⟨t1,sl1,hx2⟩,_,_⟩:=(show Ar X.prog X.w _ s'.heap ex (.ext (B8 ex C dx)) from I4.hok ex _ hxe);exact⟨rv,I4.kIn _ _ hC,⟨t1,some dx,sl1,hx2⟩,hx pins σ _ s' ex C dx I4 hx0 hxe (q2 ex dx hxn n1 n2)⟩
  | next=>exact False.elim hq'
  | brk=>exact False.elim hq'
  | cont=>exact False.elim hq'
section
variable {M:Model}{A:Around}{E:Value->Shared->Prop}{s:Shared}
theorem Xl5{base:Heap}{env:Env}{outer:List Env}{L e:Addr}{oe:Obj}{vs:Array Value}{head a0:Value}{hadNext:Bool}{Q:Unit->Shared->Prop}
  (hfr:A.frames=some (env::outer)) (hl:s.heap.FunFrames base (env::outer)) (hf:env.frame=some L)
  (he:s.heap.get? e=some oe) (hkb:base.StaysIn s.heap) (hen:base.get? e=none) (hd:oe.data = .fields vs) (hsz:1<vs.size) (h0:vs[0]? = some a0)
  (h:∀h',Heap.NotedW base (env::outer) e oe.cls a0 (rawInt L) s.heap h'->Dk h' e oe.dict->Q () {s with heap:=h'}):
  wpAny M A (do let a <-frameOf env;let pl <-entryPlaceOf L hadNext;let b <-EntryCells.newEntry head a .none (rawInt L) .none pl;setField (.ref e) 1 b) Q E s:=by
 have out:e∉(env::outer).filterMap (·.frame):=λhm=>by
  obtain⟨_,o,ho,hnf⟩:=hl.mem hm;rw[he] at ho;cases ho;exact hnf vs hd
 refine Pm (wpAny_frameOf_fun hfr hl hf λg sg=>Pm (wpAny_entryPlaceOf λpl hpl=>?_));unfold EntryCells.newEntry newFields;refine Pm (wpAny_newObj_type ?_ (hpl.sizeOk5 _ _ _ _ _));generalize ht:({cls:=.type "traceback",dict:=none,data:=.fields ([head,.ref L,.none,rawInt L,.none]++(if pl.isEmpty then List.replicate 6 Value.none else pl)).toArray}:Obj)=tb;have ge:g.get? e=some oe:=(sg.2.1 e out).trans he;have gb:base.StaysIn g:=λb o q=>(sg.2.1 b λhm=>by rw[(hl.mem hm).1] at q;cases q).trans (hkb b o q);have ge2:(g.push tb).get? e=some oe:=Px tb ge;have ne:g.objs.size≠e:=Oy (Pw ge);have hd3:=Obj.data_mapFields hd (·.setIfInBounds 1 (Value.ref g.objs.size));have ge3:=Heap.get?_update_self (Obj.mapFields (·.setIfInBounds 1 (Value.ref g.objs.size))) ge2 (Obj.isFreed_of_fields hd3);have gt3:((g.push tb).update e (Obj.mapFields (·.setIfInBounds 1 (Value.ref g.objs.size)))).get? g.objs.size=some tb:=(Heap.get?_update_other _ _ (Ne.symm ne)).trans (Heap.get?_push_size g (by rw[<-ht];rfl));have keep:∀b o,b≠e->g.get? b=some o->((g.push tb).update e (Obj.mapFields (·.setIfInBounds 1 (Value.ref g.objs.size)))).get? b=some o:=λb o hbe hb=>(Heap.get?_update_other _ _ (Ne.symm hbe)).trans (Px _ hb);have nrc:∀b o,s.heap.get? b=some o->(∀vs,o.data ≠ .fields vs)->b≠e:=λb o hb hnf q=>by
  rw[q,he] at hb;cases hb;exact hnf vs hd
 refine wpAny_setField ge2 hd hsz (h _ ⟨λb o q=>keep b o (λz=>by rw[z,hen] at q;cases q) (gb b o q),hl.of_keeps λb o hb hnf=>?_,?_,λb o hb hnf=>?_⟩ ⟨_,ge3,Xec _ _⟩)
 ·obtain⟨sl,hs⟩:=sg.2.2 b o hb;exact⟨_,keep b _ (nrc b o hb hnf) hs,rfl⟩
 ·refine⟨_,_,g.objs.size,tb,_,ge3,⟨Obj.cls_mapFields _ _,by rw[Ov (by decide)];exact h0⟩,hd3,by simp[hsz],gb.fresh,ne,gt3,by rw[<-ht],by simp⟩
 ·obtain⟨sl,hs⟩:=sg.2.2 b o hb;exact⟨sl,keep b _ (nrc b o hb hnf) hs⟩
theorem Xl6{base:Heap}{env:Env}{outer:List Env}{L e:Addr}{cls a0:Value}{dd:Option Addr}{Q:Unit->Shared->Prop}
  (hfr:A.frames=some (env::outer)) (hf:env.frame=some L) (fly:Cq base (env::outer) e cls a0 dd s.heap)
  (hQ:∀h',Heap.HeldW base (env::outer) e cls a0 L h'->Dk h' e dd->s.heap.UpToSlots h'->Q () {s with heap:=h'}):wpAny M A (noteFrame (.ref e) env) Q E s:=by
 obtain⟨⟨hkb,hen,hl,oe,vs,T,oT,ts,he,⟨hcls,h0⟩,hd,h1,hnT,hTe,hT,hdT,h3⟩,oe',he',hdd⟩:=fly;rw[he] at he';cases he';subst hcls hdd;unfold noteFrame;simp only[hf];refine Pm (wpAny_field he hd h1 ?_);rw[Pq (show (Value.ref T != Value.none)=true from by simp)];refine Pm (wpAny_field hT hdT h3 ?_);rw[Pp (show ¬((Value.none==rawInt L)=true) from by simp[rawInt])];refine Pm (wpAny_setField hT hdT (My.mp h3).1 ?_);have same:∀b,b≠T->(s.heap.update T (Obj.mapFields (·.setIfInBounds 3 Value.none))).get? b=s.heap.get? b:=λb hb=>Heap.get?_update_other _ _ (Ne.symm hb);have nT:∀b o,s.heap.get? b=some o->(∀vs,o.data ≠ .fields vs)->b≠T:=λb o hb hnf q=>by
  rw[q,hT] at hb;cases hb;exact hnf ts hdT
 refine Xl5 hfr (hl.of_keeps λb o hb hnf=>⟨o,(same b (nT b o hb hnf)).trans hb,rfl⟩) hf ((same e (Ne.symm hTe)).trans he)
  (λb o q=>(same b λz=>by rw[z,hnT] at q;cases q).trans (hkb b o q)) hen hd (My.mp h1).1 h0 λh' n d=>?_
 obtain⟨x1,x2,x3,x4⟩:=n;exact hQ h' ⟨x1,hen,x2,x3⟩ d λb o hb hnf=>x4 b o ((same b (nT b o hb hnf)).trans hb) hnf
theorem Xeh{base:Heap}{l:List Env}{e:Addr}{cls a0 fl:Value}{dd:Option Addr}{Q:Unit->Shared->Prop}(hkb:base.StaysIn s.heap)(hen:base.get? e=none)(hl:s.heap.FunFrames base l)(ht:s.heap.TracedAtW base e cls a0 fl)(hD:Dk s.heap e dd)
  (h:∀h',Cq base l e cls a0 dd h'->s.heap.UpToSlots h'->Q () {s with heap:=h'}):wpAny M A (setFlight (.ref e) none) Q E s:=by
 obtain⟨oe,vs,T,oT,ts,he,hcls,hd,h1,hnT,hTe,hT,hdT,h3⟩:=ht;obtain⟨oe',he',hdd⟩:=hD;rw[he] at he';cases he';have lt3:3<ts.size:=(My.mp h3).1;unfold setFlight;refine Pm (wpAny_field he hd h1 ?_);rw[Pq (show (Value.ref T != Value.none)=true from by simp)];refine wpAny_setField hT hdT lt3 (h _ ?_ ?_)
 ·have same:∀b,b≠T->(s.heap.update T (Obj.mapFields (·.setIfInBounds 3 ((none:Option Addr).elim Value.none λf=>rawInt f)))).get? b=s.heap.get? b:=λb hb=>Heap.get?_update_other _ _ (Ne.symm hb);refine⟨⟨λb o q=>(same b λz=>by rw[z,hnT] at q;cases q).trans (hkb b o q),hen,hl.of_keeps λb o hb hnf=>⟨o,(same b λz=>?_).trans hb,rfl⟩,oe,vs,T,_,_,(same e (Ne.symm hTe)).trans he,hcls,hd,h1,hnT,hTe,Heap.get?_update_self _ hT (Obj.isFreed_of_fields (Obj.data_mapFields hdT _)),Obj.data_mapFields hdT _,by simp[lt3]⟩,oe,(same e (Ne.symm hTe)).trans he,hdd⟩;rw[z,hT] at hb;cases hb;exact hnf ts hdT
 ·intro b o hb hnf;refine⟨o.slots,(Heap.get?_update_other _ _ λz=>?_).trans hb⟩;rw[<-z,hT] at hb;cases hb;exact hnf ts hdT
theorem Xl7{base:Heap}{l:List Env}{e L:Addr}{cls a0:Value}{dd:Option Addr}{Q:Unit->Shared->Prop}(hh:Heap.HeldW base l e cls a0 L s.heap)(hD:Dk s.heap e dd)
  (hQ:∀h',Cq base l e cls a0 dd h'->s.heap.UpToSlots h'->Q () {s with heap:=h'}):wpAny M A (setFlight (.ref e) none) Q E s:=
 Xeh hh.1 hh.2.1 hh.2.2.1 hh.2.2.2 hD hQ
theorem lands_againD{base:Heap}{l:List Env}{e:Addr}{cls a0:Value}{dd:Option Addr}{Q:Unit->Shared->Prop}(fl:Cq base l e cls a0 dd s.heap)
  (hQ:∀h',Cq base l e cls a0 dd h'->s.heap.UpToSlots h'->Q () {s with heap:=h'}):wpAny M A (setFlight (.ref e) none) Q E s:=
 Xeh fl.1.1 fl.1.2.1 fl.1.2.2.1 fl.1.2.2.2.at fl.2 hQ
end
theorem Fun.ok2{P:Program}{w:World}{K:PySem.W.Frag}{mg:Str->Option Value}{base:Heap}{x qual:Str}{st:Stmt}{f:Addr}{fd:FuncData}{N ps:List Str}{k:Nat}{sp:Sp}(F:Fun K x qual st f fd)(S:FnScope N ps (defScope st))(len:∀vs H Q E,sp vs H Q E->vs.length=ps.length)
  (hbody:∀(cdv:Value) (A:Around) (outer:List Env) (s:Shared) (H:Hp) (vs:List V) (Q:VK) (E:XK),Room k (A.deeper (envOfC qual (defScope st) s.heap.objs.size f cdv))->sp vs H Q E ->
   ∃t,PSs (Br (CX2 P w) P w K mg base N qual (defScope st) f cdv A outer s H E) (Cu st) t/\t {nx:=λ_ H'=>Q .non H',rt:=Q} (start N vs) H):FnOk P w K mg base (CX2 P w) (k+1) f fd ps sp:=by
 obtain⟨oc,od,kV,doc,pm,an,cdv,ct,osl,rfl,lk,hcd⟩:=F.ex;exact Jb lk hcd S len λA outer s H vs Q E hr hsp=>hbody cdv A outer s H vs Q E hr hsp
theorem Xei{X:Cx}{C:Addr}{E:XK}{x:Str}{np cpos pos:Pos}{e:Expr}{es:List Expr}{t:TA}(hc:PySem.W.excIn X.K C bmV "ValueError.__new__" = true)(hcalm:X.calm=true)(hx:Xef X E)(hg:Gl X x)(hm:X.mg x=some (.ref C))
  (ha:PA X (e::es) t) (hdb:(x==("__debug__" : Str))=false:=by decide) (he:starEach (e::es) X.env=(false,eval e X.env)::starEach es X.env:=by rfl) (hpl:(backTo cpos (starEach es X.env)).any (·.1)=false:=by rfl):
  PS X (.Raise (some (.Call (.Name x np) (e::es) [] cpos)) none pos) (Xbt C E t):=by
 have hx':Leaves X E:=hx;exact Xbu hc hcalm hx' hg hm ha hdb he hpl
def Gk (ex C:Addr) (dd:Option Addr) (h:Heap):Prop:=∃o vs,h.get? ex=some o/\o.cls = .ref C/\o.data = .fields vs/\o.dict=dd
def Dm (ex C:Addr) (dd:Option Addr):HO:=.ext (Gk ex C dd)
def Cx.tryD (X:Cx) (pn:List (Addr×Obj)) (R:Addr->Option Addr->St->Hp->Prop):Cx:=X.re pn X.A X.calm λe s1=>
 ∃σ Hc sc,Inv (X.re pn X.A X.calm λ_ _=>True) [] σ Hc sc/\CX2 X.prog X.w X.stack Hc sc (λc dd H1=>∃C,c = .ref C/\R C dd σ H1) e s1
section
variable {X:Cx}{pn:List (Addr×Obj)}{R:Addr->Option Addr->St->Hp->Prop}{k:Nat}{f:Addr}{fd:FuncData}{ps:List Str}{sp:Sp}{dvs:List V}{ds:List Value}{x:Str}{p pos:Pos}{e:Expr}{es:List Expr}{t:TA}
def Xl8 (sp:Sp) (dvs:List V) (R:Addr->Option Addr->St->Hp->Prop) (t:TA):TE:=fun σ H Q=>t σ H λvs H1=>sp (vs++dvs) H1 Q λc dd H'=>∃C,c = .ref C/\R C dd σ H'
theorem Xl9(F:FnOk X.prog X.w X.K X.mg X.base (CX2 X.prog X.w) k f fd ps sp)(hr:Room k X.A)(hg:Gl X x)(hm:X.mg x=some (.ref f))(hk:PySem.W.keepIn X.K (.ref f)=true)(hb:Binds X.K fd ps ds)(hd:Vals dvs ds)
  (ha:PA (X.tryD pn R) (e::es) t) (hdb:(x==("__debug__" : Str))=false:=by decide) (he:starEach (e::es) X.env=(false,eval e X.env)::starEach es X.env:=by rfl) (hpl:(backTo pos (starEach es X.env)).any (·.1)=false:=by rfl):
  PE (X.tryD pn R) (.Call (.Name x p) (e::es) [] pos) (Xl8 sp dvs R t):=by
 intro pins s σ H Q I h;refine wpAny_Call_Name_kw (D4 I (show Gl (X.tryD pn R) x from hg) hm ?_ hdb);refine PySem.W.callWith_K (h₀:=X.base) I.ok.mod.kin hk (thn (ha pos pins s σ H _ I h) λus s1 hap=>?_) he hpl;obtain⟨vs,H1,I1,r,q⟩:=hap;refine⟨I1.kIn,?_⟩;have r2:Vals (vs++dvs) (us++ds):=r.append hd;have hl:(us++ds).length=ps.length:=by rw[<-r2.length];exact F.len _ _ _ _ q
 refine wpAny_call (codeAny_mono (F.run X.A X.stack s1 H1 ⟨us,[]⟩ (us++ds) (vs++dvs) Q _ hr I1.env0 (hb s1 us I1.kIn hl) r2 q) λr s' hq=>?_);cases r with
 | error e=>
  have I1':=I1.as (X:=X.tryD pn R) (pins':=[]) (pn:=pn) (A:=X.A) (c:=X.calm) (E:=λ_ _=>True) I1.ok.hd I1.ok.frames (λp hp=>Ls.mpr (.inl (show p∈pn from by simpa using hp)));exact⟨σ,H1,s1,I1',hq⟩
 | ok fl=>
  cases fl with
  | ret u=>exact I1.after hq
  | next=>exact False.elim hq
  | brk=>exact False.elim hq
  | cont=>exact False.elim hq
end
abbrev THd:=Addr->Option Addr->Ends->St->Hp->Prop
structure Landed (X:Cx) (pins:List (Addr×Obj)) (ex c:Addr) (dd:Option Addr) (σ1:St) (H1:Hp) (B:Heap) (a0:Value) (s1 s5:Shared):Prop where
 step:∀(h5:Heap) (tk:Nat),B.StaysIn h5->s1.heap.UpToSlots h5->Inv (X.re (X.pn++pins) X.A X.calm λ_ _=>True) [] σ1 H1 {s1 with heap:=h5,toks:=tk}
 fly:Cq B (X.env::X.outer) ex (.ref c) a0 dd s5.heap
 up:s1.heap.UpToSlots s5.heap
 as:s5 = {s1 with heap:=s5.heap}
 own:∀h5,B.StaysIn h5->s1.heap.UpToSlots h5->∀o,h5.get? ex=some o->ex∉frs (X.env::X.outer)->H1 ex=none/\X.s₀.heap.get? ex=none/\∀p∈(X.pn++pins)++[],p.1≠ex
def PH (X:Cx) (hs:List ExceptHandler) (th:THd):Prop:=∀(pins:List (Addr×Obj)) (ex c:Addr) (dd:Option Addr) (σ1:St) (H1:Hp) (B:Heap) (a0:Value) (s1 s5:Shared) (D:Ends),X.Ok->Landed X pins ex c dd σ1 H1 B a0 s1 s5->th c dd D σ1 H1 ->
 wpAny (model X.prog X.w) X.A (handleBy (.ref ex) X.env hs) (SP X pins D) X.xe s5
theorem Xma{X:Cx}:PH X [] λ_ _ _ _ _=>False:=λ_ _ _ _ _ _ _ _ _ _ _ _ _ h=>h.elim
section
variable {X:Cx}{pos np hpos:Pos}{b0:Stmt}{suite:List Stmt}{n x:Str}{i:Nat}{Cc:Addr}{th:TS}{rest:THd}{hs:List ExceptHandler}
def tHd (K:PySem.W.Frag) (i:Nat) (Cc:Addr) (th:TS) (rest:THd):THd:=λC dd D σ H=>∃b,PySem.W.exmOne K (.ref C) (.ref Cc)=some b/\if b=true then
 ∀ex,H ex=none->th {nx:=fun σ2 H2=>D.nx (σ2.set i none) H2,rt:=D.rt,bk:=fun σ2 H2=>D.bk (σ2.set i none) H2,ct:=fun σ2 H2=>D.ct (σ2.set i none) H2} (σ.set i (some (.ref ex))) (upd H ex (Dm ex C dd))
 else rest C dd D σ H
theorem Xmb(hst:X.stack=X.env::X.outer)(hfr:X.env.frame=some X.env.locals)(hN:X.N.Nodup)(hi:X.N[i]? = some n)(hl:X.env.scope.names.lookup n=some .local)(hg:Gl X x)(hm:X.mg x=some (.ref Cc))
  (hh:∀pn ex,PSs (X.suite pn ex) (b0::suite) th) (hr:PH X hs rest) (hdb:(x==("__debug__" : Str))=false:=by decide):
  PH X (.ExceptHandler (some (.Name x np)) (some n) (b0::suite) hpos::hs) (tHd X.K i Cc th rest):=by
 intro pins ex c dd σ1 H1 B a0 s1 s5 D ok L h;obtain⟨b,hx,h⟩:=h;have hsubs':∀p∈X.pn++pins,p∈X.pn++pins++[]:=λp hp=>by simpa using hp
 obtain⟨h5,g5,d5,t5,o5⟩:=s5;have es:=L.as;have fl5:=L.fly;have I5:=L.step h5 s1.toks fl5.1.1 L.up;have I5S:Inv (X.suite (X.pn++pins) ex) [] σ1 H1 {s1 with heap:=h5}:=Inv.as (X:=X.re (X.pn++pins) X.A X.calm λ_ _=>True) I5 (λz=>absurd z (by decide)) ok.frames (λp hp=>hp);have LT:PySem.W.Looks (model X.prog X.w) h5 (typeOf (.ref ex)) (.ref c):=by
  obtain⟨ob,hob,hobc⟩:=fl5.1.there;rw[<-hobc];exact(PySem.W.Looks.ld hob).andThen .now
 rw[es];refine wpAny_handleBy_cons (codeAny_handlers_test ?_) (by intro q;cases q);refine D4 (X:=X.suite (X.pn++pins) ex) I5S (show Gl (X.suite (X.pn++pins) ex) x from hg) hm ?_ hdb;refine(PySem.W.exm_one (I5S.kIn) LT hx).here ?_;cases b with
 | false=>
  refine hr pins ex c dd σ1 H1 B a0 s1 _ D ok ⟨L.step,fl5,L.up,rfl,L.own⟩ ?_;exact h
 | true=>
  have hth:∀ex,H1 ex=none->th {nx:=fun σ2 H2=>D.nx (σ2.set i none) H2,rt:=D.rt,bk:=fun σ2 H2=>D.bk (σ2.set i none) H2,ct:=fun σ2 H2=>D.ct (σ2.set i none) H2} (σ1.set i (some (.ref ex))) (upd H1 ex (Dm ex c dd)):=h;refine codeAny_handlers_suite_as (lands_againD fl5 λh6 fl6 up6=>?_);have up16:=L.up.trans up6;have I6:=L.step h6 s1.toks fl6.1.1 up16;have I6S:Inv (X.suite (X.pn++pins) ex) [] σ1 H1 {s1 with heap:=h6}:=Inv.as (X:=X.re (X.pn++pins) X.A X.calm λ_ _=>True) I6 (λz=>absurd z (by decide)) ok.frames (λp hp=>hp);refine Ii (X:=X.suite (X.pn++pins) ex) I6S hN hi (.inl hl) (show Ah (.ref ex) (.ref ex) from rfl) (λs7 I7 ⟨a7,sb7,ha7⟩=>?_) (.inr hl);have I7':Inv (X.suite (X.pn++pins) ex) [] (σ1.set i (some (.ref ex))) H1 s7:=I7;obtain⟨⟨f1,f2,f3,oe,vs,T,oT,ts,he,hce,hde,_⟩,oe2,he2,hdd⟩:=id fl6;rw[he] at he2;cases he2;have notFr:ex∉frs (X.env::X.outer):=λz=>by
   obtain⟨_,o',e',d⟩:=f3.mem z;rw[he] at e';cases e';exact d vs hde
  obtain⟨hexH,hex0,pinNe⟩:=L.own h6 f1 up16 oe he notFr;have hexL:ex≠X.env.locals:=λz=>notFr (by
   unfold frs;rw[Mh,hfr,z];exact Lo)
  have cellNe:∀y cc,X.env.cells.lookup y=some cc->cc≠ex:=λy cc e z=>by
   obtain⟨v,o,ho,hd⟩:=I6.cell y cc e;have ho':h6.get? cc=some o:=ho;rw[z,he] at ho';cases ho';rw[hde] at hd;cases hd
  have ne7:ex≠a7:=by
   rcases ha7 with z | z
   ·rw[z];exact hexL
   ·exact λq=>cellNe n a7 z q.symm
  have he7:s7.heap.get? ex=some oe:=(sb7.2 ex ne7).trans he;have I8:=I7'.track (a:=ex) (φ:=Gk ex c dd) hexH hex0 hexL cellNe pinNe ⟨oe,vs,he7,hce.1,hde,hdd⟩ ⟨oe,he7⟩ (λg1 g2 ⟨o,ws,q1,q2,q3,q4⟩ k=>⟨o,ws,k o q1,q2,q3,q4⟩);have hgo:=hh (X.pn++pins) ex [] s7 _ _ _ I8 (hth ex hexH);refine wpAny_mono hgo (λfl s9 q9=>?_) λ_ _ z=>z.elim;have goes:∀{σ':St} {H':Hp} {Q:Unit->Shared->Prop},Inv (X.suite (X.pn++pins) ex) [] σ' H' s9->(∀s10,Inv X pins (σ'.set i none) H' s10->Q () s10) ->
    wpAny (model X.prog X.w) X.A (do bindName X.env n .none;unbindBehindTheSuite X.env n hpos) Q X.xe s9:=λ{σ' H' Q} J k=>by
   have JX:Inv X pins σ' H' s9:=J.back ok hsubs';obtain⟨m,hns,hlk⟩:=JX.loc;refine wpAny_nameGoes_keeps hl hns (by rw[ok.kind];rfl) λh' v hn' hs'=>?_;exact k _ (JX.unbind hN hi hl hlk hn' hs')
  cases fl with
  | next=>
   obtain⟨σ',H',J,q⟩:=q9;exact goes J λs10 I10=>⟨_,H',I10,q⟩
  | brk=>
   obtain⟨σ',H',J,q⟩:=q9;exact goes J λs10 I10=>⟨_,H',I10,q⟩
  | cont=>
   obtain⟨σ',H',J,q⟩:=q9;exact goes J λs10 I10=>⟨_,H',I10,q⟩
  | ret u=>
   obtain⟨v, σ',H',J,r,q⟩:=q9;exact goes J λs10 I10=>⟨v,_,H',I10,r,q⟩
end
section
variable {X:Cx}{pos:Pos}{body:List Stmt}{h0:ExceptHandler}{hs:List ExceptHandler}{tb:(Addr->Option Addr->St->Hp->Prop)->TS}{th:THd}
def Xmc (tb:(Addr->Option Addr->St->Hp->Prop)->TS) (th:THd):TS:=λD σ H=>∃R:Addr->Option Addr->St->Hp->Prop,tb R D σ H/\∀C dd σ1 H1,R C dd σ1 H1->th C dd D σ1 H1
theorem Xmd(hex:X.ex=[])(hst:X.stack=X.env::X.outer)(hfr:X.env.frame=some X.env.locals)(hb:∀pn R,PSs (X.tryD pn R) body (tb R))(hh:PH X (h0::hs) th):
  PS X (.Try body (h0::hs) [] [] pos) (Xmc tb th):=by
 intro pins s σ H D I h;obtain⟨R,hbd,hcx⟩:=h;have hsubs:∀p∈X.pn++pins++[],p∈X.pn++pins:=λp hp=>by simpa using hp
 have hsubs':∀p∈X.pn++pins,p∈X.pn++pins++[]:=λp hp=>by simpa using hp
 have I0:Inv (X.tryD (X.pn++pins) R) [] σ H s:=I.as I.ok.hd I.ok.frames hsubs;refine wpAny_Try_except (wpAny_mono (hb (X.pn++pins) R [] s σ H D I0 hbd) (λfl s1 q=>?_) λe s1 q=>?_)
 ·have toX:∀{σ':St} {H':Hp},Inv (X.tryD (X.pn++pins) R) [] σ' H' s1->Inv X pins σ' H' s1:=λJ=>J.back I.ok hsubs';cases fl with
  | next=>
   obtain⟨σ',H',J,q⟩:=q;exact wpAny_execs_nil ⟨σ',H',toX J,q⟩
  | brk=>
   obtain⟨σ',H',J,q⟩:=q;exact⟨σ',H',toX J,q⟩
  | cont=>
   obtain⟨σ',H',J,q⟩:=q;exact⟨σ',H',toX J,q⟩
  | ret u=>
   obtain⟨v, σ',H',J,r,q⟩:=q;exact⟨v, σ',H',toX J,r,q⟩
 ·obtain⟨σ1,Hc,sc,Ic,ex,c,dd,H1,B,a0,rfl,hos,hbare,F,C,hC,hR⟩:=q;cases hC;have hth:=hcx c dd σ1 H1 hR;have F':FlownD X.prog X.w (X.env::X.outer) Hc sc.heap H1 ex c dd B a0 s1.heap:=by rw[<-hst];exact F
  have hfrm:X.A.frames=some (X.env::X.outer):=by rw[<-hst];exact I.ok.frames
  have step:∀(h5:Heap) (tk:Nat),B.StaysIn h5->s1.heap.UpToSlots h5->Inv (X.re (X.pn++pins) X.A X.calm λ_ _=>True) [] σ1 H1 {s1 with heap:=h5,toks:=tk}:=λh5 tk st up=>by
   obtain⟨un,hok,_⟩:=F'.move st up;refine Ic.call' (ch:=[]) hos ?_ hok hbare (λb z=>absurd z (by simp));show Un (frs X.stack) [] Hc H1 sc.heap h5;rw[hst];exact un
  have own:∀h5,B.StaysIn h5->s1.heap.UpToSlots h5->∀o,h5.get? ex=some o->ex∉frs (X.env::X.outer)->H1 ex=none/\X.s₀.heap.get? ex=none/\∀p∈(X.pn++pins)++[],p.1≠ex:=λh5 st up oe he notFr=>by
   have inB:=(F'.move st up).2.2;have f2:=F'.fly.1.2.1;have hexH:H1 ex=none:=by
    cases q:H1 ex with
    | none=>rfl
    | some u=>
     have z:=inB ex oe he notFr (.inr (by rw[q];simp));rw[f2] at z;cases z
   have hexc:sc.heap.get? ex=none:=by
    cases q:sc.heap.get? ex with
    | none=>rfl
    | some u=>
     have z:=inB ex oe he notFr (.inl ⟨u,q⟩);rw[f2] at z;cases z
   refine⟨hexH,?_,λp hp z=>?_⟩
   ·cases q:X.s₀.heap.get? ex with
    | none=>rfl
    | some u=>
     obtain⟨o1,e1⟩:=Ic.base.there ex u q (λz=>by
      have z':ex∈X.ex:=z;rw[hex] at z';cases z')
     rw[hexc] at e1;cases e1
   ·have:=(Ic.pin p hp).1;rw[z,hexc] at this;cases this
  refine Xl6 (L:=X.env.locals) hfrm hfr F'.fly λh4 held d4 up4=>?_;refine Xl7 held d4 λh5 fl5 up5=>?_;exact hh pins ex c dd σ1 H1 B a0 s1 _ D I.ok ⟨step,fl5,up4.trans up5,rfl,own⟩ hth
end
section
variable {prog:Program}{w:World}{A:Around}{E:Value->Shared->Prop}{K:PySem.W.Frag}{C a:Addr}{h:Heap}{g:Array GenState}{d:Drawn}{t:Nat}{os:OsState}{ox:Obj}{od:Option Obj}{name:Str}{v:Value}
open PySem.W in
theorem Xme{tk:Tok}{Q:Fin->Shared->Prop}(X:K.In h)(I:InstAt h a ox C od)(hf:findObj K C od name=some (.value v))(hq:Q (.done (.ret v)) ⟨h,g,d,t,os⟩):
  wpAny (model prog w) A (Builtin.«object.__getattribute__» ⟨[.ref a,.str name tk],[]⟩) Q E ⟨h,g,d,t,os⟩:=by
 have L0:=I.type (M:=model prog w);have L1:=looks_find (M:=model prog w) X I hf
 repeat (any_goals (first | assumption | (refine Pm (L0.at ?_)) | (refine Pm (L1.at ?_)) | wp_step))
open PySem.W in
theorem Xmf{tk:Tok}{vs:Array Value}{R:Result->Shared->Prop}(X:K.In h)(F:ExcF K C)(I:InstAt h a ox C od)(hd:ox.data = .fields vs)(hf:findObj K C od name=some (.value v))(hq:R (.ok (.ret v)) ⟨h,g,d,t,os⟩):
  codeAny (model prog w) A (.call (.builtin "BaseException.__getattribute__") ⟨[.ref a,.str name tk],[]⟩) R ⟨h,g,d,t,os⟩:=
 codeAny_call_builtin (by decide +kernel) PySem.F.entry_bexc_ga (Xb1 X F ⟨ox,vs,I.at_,I.cls,hd⟩ (Xme X I hf hq))
open PySem.W in
theorem Xmg{expr:Bool}{vs:Array Value}{Q:Value->Shared->Prop}(X:K.In h)(F:ExcF K C)(I:InstAt h a ox C od)(hd:ox.data = .fields vs)(hf:findObj K C od name=some (.value v))(hh:handedIn v=true)(hq:Q v ⟨h,g,d,t+1,os⟩):
  wpAny (model prog w) A (getAttr (.ref a) name expr) Q E ⟨h,g,d,t,os⟩:=by
 have L0:=I.type (M:=model prog w);have L1:=looks_findIn (M:=model prog w) X F.ga;have L2:=looks_findIn (M:=model prog w) X F.gn;have f3:bindSpecial (.builtin "BaseException.__getattribute__") (.ref a)=pure (.builtin "BaseException.__getattribute__",[.ref a]):=PySem.F.excAttr_ValueError.ga.bind (.ref a);have hx2:(Value.builtin "BaseException.__getattribute__" == Value.builtin "object.__getattribute__")=false:=by decide +kernel
 have hx1:(onTheHeap (Value.ref C)&&Value.builtin "BaseException.__getattribute__" == Value.builtin "object.__getattribute__")=false:=by rw[hx2];rfl
 unfold getAttr getAttrBy;refine Pm (wpAny_mkText (wpAny_holding (Pm (L0.at (Pm (L1.at ?_))))))
 repeat (any_goals (first | assumption | (refine Pm (L0.at ?_)) | (refine Pm (L1.at ?_)) | (refine Pm (L2.at ?_)) | wp_step))
 have hx3:(expr&&onTheHeap (Value.builtin "BaseException.__getattribute__"))=false:=by rw[show onTheHeap (Value.builtin "BaseException.__getattribute__")=false from rfl,Ow]
 rw[hx3,Pp (by decide)];unfold boundAndCalled
 repeat (any_goals (first | assumption | wp_step))
 refine Xmf X F I hd hf ?_;dsimp only;rw[handedOut_of hh];exact Pn hq
end
def Xmh (K:PySem.W.Frag) (ta:TE) (f:Str):TE:=fun σ H Q=>ta σ H λx H1=>∃a C dx fs v,x = .ref a/\H1 a=some (Dm a C (some dx))/\H1 dx=some (.ext (xdP dx fs))/\ExcF K C/\ExK K C f/\fs.lookup f=some v/\Q v H1
section
variable {X:Cx}{e:Expr}{f:Str}{pos:Pos}{ta:TE}
theorem Xmi(K:PySem.W.Frag)(hK:X.K=K)(he:PE X e ta)(hb:attributeBase e f X.env (eval e X.env)=eval e X.env:=by rfl):PE X (.Attribute e f pos) (Xmh K ta f):=by
 subst hK;intro pins s σ H Q I h;refine Xgh hb (thn (he pins s σ H _ I h) λu s1 ap=>?_);obtain⟨x,H1,I1,rx,a,C,dx,fs,v,rfl,ea,ed,F,c,l,q⟩:=ap;obtain rfl:u=Value.ref a:=rx;obtain⟨⟨o,vs,ho,hc,hd,hdd⟩,_,_⟩:=(show Ar X.prog X.w H1 s1.heap a (.ext (Gk a C (some dx))) from I1.hok a _ ea);obtain⟨⟨mA,hn,r⟩,_,_⟩:=(show Ar X.prog X.w H1 s1.heap dx (.ext (xdP dx fs)) from I1.hok dx _ ed);obtain⟨od,hod,hl⟩:=Xat hn;obtain⟨u,hu,ru⟩:=Bp.some_of (v:=v) (o:=mA f) (by rw[<-l];exact r f);obtain⟨cd,rs,hcl,_,hdict⟩:=c.cls;have hin:PySem.W.InstAt s1.heap a o C (some od):=by
  refine⟨ho,hc,?_,?_⟩
  ·obtain⟨c1,d1,dt,sl⟩:=o;cases hd;rfl
  ·rw[hdd];exact hod
 obtain⟨hp,g,d,tk,os⟩:=s1;refine Xmg I1.kIn F hin hd (PySem.W.findObj_own (by unfold PySem.W.hasDictIn;rw[hcl];exact hdict) c.no rfl (by rw[hl,hu])) (Xgf ru) ?_;exact⟨v,H1,I1.tok _,ru,q⟩
theorem Xej(K:PySem.W.Frag)(hK:X.K=K):Bh X (.builtin "isinstance") (λxs H Q=>∃a C dd c cv b,xs=[.ref a,c]/\H a=some (Dm a C dd)/\ExcF K C/\G0 c=some cv/\PySem.W.kitOne K (.ref C) cv=some b/\Q (.bl b) H):=by
 subst hK;intro pins s σ H xs us Q I r h;obtain⟨a,C,dd,c,cv,b,rfl,ha,F,hc,e,q⟩:=h;obtain⟨u,v,rfl,ru,rv⟩:=r.two;have:=Xb3 rv hc;subst this;cases ru;obtain⟨⟨o,vs,p1,p2,p3,_⟩,_⟩:=(show Ar X.prog X.w H s.heap a (.ext (Gk a C dd)) from I.hok a _ ha);exact PySem.W.kia_one (Xb2 F) I.kIn ⟨o,vs,p1,p2,p3⟩ e (λz=>nomatch z) λtk=>⟨.bl b,H,I.tok _,rfl,q⟩
end
section
variable {X:Cx}
end
section
variable {X:Cx}{a b c d:Expr}{ta tb tc td:TE}{pos:Pos}{es:List Expr}{t:St->Hp->(Hp->Prop)->Prop}{e:Expr}{te:TE}
def Xph (r r' r'':R2) (ta tb tc td:TE):TT:=fun σ H Q=>ta σ H λx H1=>tb σ H1 λy H2=>r x y H2 λz H3=>∃k,z = .bl k /\
 (if k=true then tc σ H3 λw H4=>r' y w H4 λz' H5=>∃k',z' = .bl k'/\(if k'=true then td σ H5 λu H6=>r'' w u H6 λz2 H7=>∃k2,z2 = .bl k2/\Q k2 H7 else Q false H5) else Q false H3)
end
def Tups (H:Hp) (ps:List Addr) (Ts:List (List Str)):Prop:=ps.length=Ts.length/\∀i,i<ps.length->H (ps.getD i 0)=some (.tup ((Ts.getD i []).map V.str))
end L2
namespace SH
open PySem PySem.Spec PyProof.Rows L2
def Cov (row:List Str) (Us:List (List Str)) (j:Nat) (Ts:List (List Str)):Prop:=∀i,i<j->∀x∈row,x∉Us.getD i []->Al row (srt (Us.getD i []++[x]))=true->srt (Us.getD i []++[x])∈Ts
theorem Xek{α : Type}{R : α -> α->Prop}(irr:∀a,¬R a a)(tr:∀a b c,R a b->R b c->R a c):∀{A B:List α},A.Pairwise R->B.Pairwise R->(∀x,x∈A↔x∈B)->A=B
 | [],[],_,_,_=>rfl
 | [],b::_,_,_,h=>absurd ((h b).mpr Lo) (by simp)
 | a::_,[],_,_,h=>absurd ((h a).mp Lo) (by simp)
 | a::A,b::B,hA,hB,h=>by
  obtain⟨a1,a2⟩:=Nv.mp hA;obtain⟨b1,b2⟩:=Nv.mp hB;have e:a=b:=by
   rcases Lw.mp ((h a).mp Lo) with z | z
   ·exact z
   ·rcases Lw.mp ((h b).mpr Lo) with u | u
    ·exact u.symm
    ·exact absurd (tr _ _ _ (a1 b u) (b1 a z)) (irr a)
  subst e;rw[Xek irr tr a2 b2 λx=>?_];constructor
  ·intro hx;rcases Lw.mp ((h x).mp (Ll _ hx)) with z | z
   ·exact absurd (z ▸ a1 x hx) (irr a)
   ·exact z
  ·intro hx;rcases Lw.mp ((h x).mpr (Ll _ hx)) with z | z
   ·exact absurd (z ▸ b1 x hx) (irr a)
   ·exact z
def LayC (row:List Str) (n:Nat) (Us:List (List Str)):Prop:=∀T,T∈Us↔Al row T=true/\T.length=n
end SH
namespace L2
open PySem PySem.Spec PyProof.Rows
end L2
namespace SH
open PySem PySem.Spec PyProof.Rows L2
def spOne:Sp:=λvs H Q _=>∃(dr sc l:Addr) (xs:List V),vs=[.ref dr,.ref l]/\DrawOk H dr sc/\H l=some (.lst xs)/\l≠dr/\0<xs.length/\xs.length<=1000 /\
 ∀(i:Nat) (H':Hp),i<xs.length->DrawOk H' dr sc->But dr H H'->Q (xs.getD i .non) H'
def mostL (a b c:List Str):List Str:=srt ((a.filter λx=>decide (x∈b)||decide (x∈c))++(b.filter λx=>decide (x∈c) && !decide (x∈a)))
theorem Xmj{a b:List Str}(ha:a.Pairwise ltS)(hb:b.Pairwise ltS)(h:∀x,x∈a↔x∈b):a=b:=Xek J3 (λ_ _ _=>Xcr) ha hb h
end SH
set_option maxHeartbeats 3200000
namespace L2
open PySem PySem.Spec PyProof.Rows PySem.Calls
def it5 (mask:Nat):Nat->Nat->Nat
 | 0,i=>i
 | m+1,i=>it5 mask m ((i * 5+1) % (mask+1))
theorem Xmk:∀i<8,∀j<8,∃m<8,it5 7 m i=j:=by decide +kernel
theorem Xml:∀i<16,∀j<16,∃m<16,it5 15 m i=j:=by decide +kernel
theorem Xmm:∀i<32,∀j<32,∃m<32,it5 31 m i=j:=by decide +kernel
def Mask (mask:Nat):Prop:=mask=7\/mask=15\/mask=31
theorem Xmn{mask:Nat}(h:Mask mask):∀i<mask+1,∀j<mask+1,∃m<mask+1,it5 mask m i=j:=by
 rcases h with rfl | rfl | rfl
 ·exact Xmk
 ·exact Xml
 ·exact Xmm
section
variable {mask:Nat}{owner:Array (Option Nat)}
abbrev Free (owner:Array (Option Nat)) (j:Nat):Prop:=owner.getD j (some 0)=none
theorem Xel(fuel i p:Nat):(∃j,SetTable.layClean.free mask owner (fuel+1) i p=some j/\Free owner j) \/
  (¬Free owner i/\SetTable.layClean.free mask owner (fuel+1) i p=SetTable.layClean.free mask owner fuel ((i * 5+1+p / 32) % (mask+1)) (p / 32)):=by
 rw[SetTable.layClean.free];cases hf:(List.range (SetTable.runEnd mask i+1 - i)).find? λk=>(owner.getD (i+k) (some 0)).isNone with
 | some k=>
  left;refine⟨i+k,rfl,?_⟩;have:=List.find?_some hf;exact Option.isNone_iff_eq_none.mp this
 | none=>
  right;refine⟨λz=>?_,rfl⟩;rw[List.find?_eq_none] at hf;have hr:0<SetTable.runEnd mask i+1 - i:=by
   unfold SetTable.runEnd;split<;>omega
  have:=hf 0 (Mo.mpr hr);rw[Nat.add_zero] at this;have z:owner.getD i (some 0)=none:=z;rw[z] at this;exact this rfl
theorem Xem:∀fuel i,(∃m,m<fuel/\Free owner (it5 mask m i))->∃j,SetTable.layClean.free mask owner fuel i 0=some j/\Free owner j
 | 0,_,⟨_,h,_⟩=>absurd h (Np _)
 | fuel+1,i,⟨m,hm,hf⟩=>by
  rcases Xel (mask:=mask) (owner:=owner) fuel i 0 with h | ⟨h1,h2⟩
  ·exact h
  ·rw[h2];cases m with
   | zero=>exact absurd hf h1
   | succ m=>exact Xem fuel _ ⟨m,by omega,hf⟩
theorem Xen:∀c fuel i p,p<32 ^ c->i<mask+1->(∀i,i<mask+1->∃m,m<fuel/\Free owner (it5 mask m i))->∃j,SetTable.layClean.free mask owner (fuel+c) i p=some j/\Free owner j
 | 0,fuel,i,p,hp,hi,h=>by
  have:p=0:=by omega
  subst this;exact Xem fuel i (h i hi)
 | c+1,fuel,i,p,hp,hi,h=>by
  rcases Xel (mask:=mask) (owner:=owner) (fuel+c) i p with h' | ⟨_,h2⟩
  ·exact h'
  ·rw[<-Nat.add_assoc,h2];exact Xen c fuel _ _ (by rw[Nat.pow_succ] at hp;omega) (Ph _ (by omega)) h
def Ci (owner:Array (Option Nat)):List Nat:=owner.toList.filterMap id
theorem Xmo{j k:Nat}(h:Free owner j):(Ci (owner.setIfInBounds j (some k))).Perm (k::Ci owner):=by
 have hj:j<owner.size:=by
  by_cases q:j<owner.size
  ·exact q
  ·have h:owner.getD j (some 0)=none:=h;simp[Array.getD,q] at h
 have h':owner.toList[j]'(by simpa using hj)=none:=by
  have h:owner.getD j (some 0)=none:=h;simpa [Array.getD,hj] using h
 unfold Ci;rw[Array.toList_setIfInBounds];have e:∀(l:List (Option Nat)) (j:Nat) (hj:j<l.length),l[j]=none->((l.set j (some k)).filterMap id).Perm (k::l.filterMap id):=by
  intro l
  induction l with
  | nil=>intro j hj;exact absurd hj (Np _)
  | cons o l ih=>
   intro j hj hn;cases j with
   | zero=>
    have:o=none:=hn;subst this;simp
   | succ j=>
    have:=ih j (by simpa using hj) (by simpa using hn);cases o with
    | none=>simpa using this
    | some v=>
     simp only[List.set_cons_succ,Mh,id];exact(this.cons v).trans (List.Perm.swap k v _)
 exact e _ j (by simpa using hj) h'
theorem Xmp(hn:(Ci owner).length<owner.size):∃j,j<owner.size/\Free owner j:=by
 refine Classical.byContradiction λz=>?_;have all:∀o∈owner.toList,o≠none:=λo ho e=>by
  obtain⟨j,hj,e2⟩:=Ni.mp ho;have hj':j<owner.size:=by simpa using hj
  refine z ⟨j,hj',?_⟩;show owner.getD j (some 0)=none;rw[<-e,<-e2];simp[Array.getD,hj']
 have:(Ci owner).length=owner.toList.length:=by
  unfold Ci;generalize owner.toList=l at all;clear hn z
  induction l with
  | nil=>rfl
  | cons o l ih=>
   cases o with
   | none=>exact absurd rfl (all none Lo)
   | some v=>
    have:=ih λo ho=>all o (Ll _ ho);simp only[Mh,id,L4,this]
 exact absurd hn (by rw[this,Lp];exact Mg _)
end
theorem Xmq(h:Int):SetTable.bits h<32 ^ 14:=by
 unfold SetTable.bits;have h1:h % (2 ^ 64:Int)<2 ^ 64:=N8 _ (by decide);have h2:0<=h % (2 ^ 64:Int):=Op _ (by decide);have:(h % (2 ^ 64:Int)).toNat<2 ^ 64:=by omega
 exact L5 this (by decide)
def K4 (mask:Nat) (acc:Option (Array (Option Nat)×Nat)) (h:Int):Option (Array (Option Nat)×Nat):=do
 let (owner,k) <-acc
 let j <-SetTable.layClean.free mask owner (SetTable.turns mask) (SetTable.bits h % (mask+1)) (SetTable.bits h)
 pure (owner.setIfInBounds j (some k),k+1)
theorem Xeo{mask:Nat}(hm:Mask mask):∀(hs:List Int) (owner:Array (Option Nat)) (k:Nat),owner.size=mask+1->(Ci owner).Perm (List.range k)->k+hs.length<=mask ->
  ∃owner',hs.foldl (K4 mask) (some (owner,k))=some (owner',k+hs.length)/\owner'.size=mask+1/\(Ci owner').Perm (List.range (k+hs.length))
 | [],owner,k,h1,h2,_=>⟨owner,rfl,h1,h2⟩
 | h::hs,owner,k,h1,h2,h3=>by
  have hl:(Ci owner).length=k:=by rw[h2.length_eq,M4]
  rw[L4] at h3;obtain⟨j0,hj0,hf0⟩:=Xmp (owner:=owner) (by omega);obtain⟨j,e,hf⟩:=Xen (mask:=mask) (owner:=owner) 14 (mask+1) (SetTable.bits h % (mask+1)) (SetTable.bits h) (Xmq h) (Ph _ (by omega)) λi hi=>by
   obtain⟨m,hm1,hm2⟩:=Xmn hm i hi j0 (by omega);exact⟨m,hm1,by rw[hm2];exact hf0⟩
  have e1:K4 mask (some (owner,k)) h=some (owner.setIfInBounds j (some k),k+1):=by
   show (do let j <-SetTable.layClean.free mask owner (SetTable.turns mask) (SetTable.bits h % (mask+1)) (SetTable.bits h);pure (owner.setIfInBounds j (some k),k+1))=_;have:SetTable.turns mask=mask+1+14:=by unfold SetTable.turns;omega
   rw[this,e];rfl
  rw[Oi,e1];obtain⟨o',a1,a2,a3⟩:=Xeo hm hs (owner.setIfInBounds j (some k)) (k+1) (by simpa using h1) (by
   refine(Xmo hf).trans ((h2.cons k).trans ?_);rw[Mw];exact(List.perm_append_singleton k (List.range k)).symm) (by omega)
  rw[show k+(h::hs).length=k+1+hs.length by rw[L4];omega];exact⟨o',a1,a2,a3⟩
theorem Xmr(mask:Nat)(hs:Array Int):SetTable.layClean mask hs=(hs.toList.foldl (K4 mask) (some (Array.replicate (mask+1) none,0))).map (·.1):=by
 unfold SetTable.layClean;rw[<-Array.foldl_toList];rfl
theorem Xep:∀(owner:Array (Option Nat)),((List.range owner.size).filterMap λj=>(owner.getD j none).map (j, ·)).map (·.2)=Ci owner:=by
 intro owner;unfold Ci;rw[List.map_filterMap];have e:owner.toList=(List.range owner.size).map λj=>owner.getD j none:=by
  refine List.ext_getElem (by simp) λi h1 h2=>?_;have:i<owner.size:=by simpa using h1
  simp[Array.getD,this]
 rw[e,Pa];congr 1;funext j;show Option.map _ (Option.map _ (owner.getD j none))=owner.getD j none;cases owner.getD j none<;>rfl
theorem Xms{mask finger moves:Nat}{led plain:Bool}{hs:Array Int}(hm:Mask mask)(hn:hs.size<=mask):
  ∃t o,SetTable.laid mask finger moves led plain hs=some (t,o)/\o.toList.Perm (List.range hs.size)/\t.fits hs.size=true/\t.led=led/\t.plain=plain:=by
 obtain⟨owner,e1,e2,e3⟩:=Xeo hm hs.toList (Array.replicate (mask+1) none) 0 (by simp) (by
  unfold Ci;rw[Array.toList_replicate];have:∀n,(List.replicate n (none:Option Nat)).filterMap id=[]:=λn=>by
   induction n with
   | zero=>rfl
   | succ n ih=>rw[Nd];simpa using ih
  rw[this];exact M0 _) (by simpa using hn)
 rw[Lp,O1] at e1 e3;have ec:SetTable.layClean mask hs=some owner:=by rw[Xmr,e1];rfl
 unfold SetTable.laid;rw[ec];refine⟨_,_,rfl,?_,?_,rfl,rfl⟩
 ·show (((List.range (mask+1)).filterMap λj=>(owner.getD j none).map (j, ·)).map (·.2)).Perm _;rw[<-e2,Xep];exact e3
 ·have l1:(((List.range (mask+1)).filterMap λj=>(owner.getD j none).map (j, ·))).length=hs.size:=by
   have:=congrArg List.length (Xep owner);rw[Li,e2,e3.length_eq,M4] at this;exact this
  simp only[SetTable.fits,SetTable.fill,Lv,beq_iff_eq,decide_eq_true_eq,Lj,Li,l1];exact⟨trivial,by simpa using hn⟩
theorem Xmt{mask finger moves:Nat}{led plain:Bool}(hm:Mask mask):∃t,SetTable.laid mask finger moves led plain #[]=some (t, #[])/\t.mask=mask/\t.place = #[]/\t.dummies = #[]/\t.led=led/\t.plain=plain:=by
 have ec:SetTable.layClean mask #[]=some (Array.replicate (mask+1) none):=rfl;unfold SetTable.laid;rw[ec];have l0:((List.range (mask+1)).filterMap λj=>((Array.replicate (mask+1) (none:Option Nat)).getD j none).map (j, ·))=[]:=by
  rw[List.filterMap_eq_nil_iff];intro j hj;have:j<mask+1:=Mo.mp hj;simp[Array.getD,this]
 refine⟨⟨mask, #[], #[],finger,led,moves,plain⟩,?_,rfl,rfl,rfl,rfl,rfl⟩;show some (_,_)=_;rw[l0];rfl
def reord (es:Array (Int×Value)) (laid:Option (SetTable×Array Nat)):Sem (Array (Int×Value)×SetTable):=do
 let some (t,order):=laid | unsupported "internal:set-table-without-room"
 let es':=order.filterMap (es[·]?)
 if es'.size != es.size then unsupported "internal:set-table-lost-an-element"
 pure (es',t)
theorem Xmu(a:Addr)(wanted:Nat):setRelay a wanted=(do
  let (es,_,t) <-setState a
  if SetTable.sizeAbove wanted > sizeLine then unsupported "set:memory"
  let (es,t) <-reord es (t.relaid (es.map (·.1)) wanted)
  storeSet a es t):=rfl
theorem Xmv(s o:Addr)(each:Sem Unit):setMerge s o each=(do
  if s==o then return
  let (eo,epoch,to) <-setState o
  if eo.isEmpty then return
  setRoomFor s eo.size
  let (_,_,ts) <-setState s
  match ts.road to with
  | .slotForSlot=>storeSet s eo {to with finger:=ts.finger,led:=ts.led&&to.led,moves:=ts.moves,plain:=ts.plain&&to.plain}
  | .clean=>
   let (es,t) <-reord eo (SetTable.laid ts.mask ts.finger ts.moves (led:=ts.led&&to.led) (plain:=ts.plain&&to.plain) (eo.map (·.1)))
   storeSet s es t
  | .oneByOne=>
   for (h,x) in <-setWalkUnseen o [s] (some s) do
    let _ <-holding [x] (setAddHashed s x h)
    each
    if (<-setState o).2.1 != epoch then unsupported "set.changed-during-merge"):=rfl
def K5 (es:Array (Int×Value)) (t:SetTable):Sem Unit:=do
 if !t.led&&es.size > 1 then unsupported "set:maker-not-led"
theorem Xmw(a:Addr):setWalk a=(do
  let (es,epoch,t) <-setState a
  if <-setsByText then return pickOrder ((<-ask).params.setOrder a epoch) es
  if !t.plain&&decide (es.size > 1) then return (<-drawOrder es.size es.toList).toArray
  K5 es t
  return es):=rfl
theorem Xmx:∀m<16,5<=m->(SetTable.sizeAbove (m * 2) - 1=15\/SetTable.sizeAbove (m * 2) - 1=31)/\m<=SetTable.sizeAbove (m * 2) - 1/\¬SetTable.sizeAbove (m * 2) > sizeLine:=by decide +kernel
section
variable {P:Program}{w:World}{A:Around}{E:Value->Shared->Prop}{s:Shared}{a b c:Addr}{ks ls:List Str}
theorem wp_reord{es:Array (Int×Value)}{t:SetTable}{o:Array Nat}{Q:Array (Int×Value)×SetTable->Shared->Prop}(h:o.toList.Perm (List.range es.size))(q:∀es':Array (Int×Value),es'.toList.Perm es.toList->es'.size=es.size->Q (es',t) s):
  wpAny (model P w) A (reord es (some (t,o))) Q E s:=by
 have p:(o.filterMap (es[·]?)).toList.Perm es.toList:=by
  rw[Array.toList_filterMap];have:=h.filterMap (λi=>es[i]?)
  rwa [filterMap_getElem?_range] at this
 have z:(o.filterMap (es[·]?)).size=es.size:=by rw[<-Lp,p.length_eq,Lp]
 unfold reord;dsimp only;rw[z];simp only[bne_self_eq_false,Md,if_false];exact Pn (q _ p z)
theorem Ht{Q:Bool->Shared->Prop}(hT:s.TypeIs (.ref a) "set")(h:Q true s):wpAny (model P w) A (Builtin.Frozenset.isAnySet (.ref a)) Q E s:=by
 unfold Builtin.Frozenset.isAnySet;show wpAny _ _ (isInstance (.ref a) (.type "set") >>= λb=>_) _ _ s;refine Pm (wpAny_isInstance hT sub_set_self ?_);exact Pn h
theorem Xmy{Q:Value->Shared->Prop}(hT:s.TypeIs (.ref a) "set")(h:Q (.type "set") s):wpAny (model P w) A (Builtin.Frozenset.baseOf a) Q E s:=by
 unfold Builtin.Frozenset.baseOf;refine Pm (wpAny_isInstance hT sub_set_self ?_);exact Pn h
theorem SSet.typeIs(S:SSet P w s.heap a ks):s.TypeIs (.ref a) "set" := by
 obtain⟨o,_,_,_,_,ho,hex,_⟩:=S;exact⟨o,ho,hex.1⟩
structure Nu (w:World) (h:Heap) (a:Addr) (n:Nat):Prop where
 ex:∃o ep t,h.get? a=some o/\o.ExactSet/\o.data = .set #[] ep t/\t.place = #[]/\t.dummies = #[]/\Mask t.mask/\n<=t.mask/\t.led = !A5 w/\t.plain=true
theorem Xmz{t:SetTable}(h1:t.place = #[])(h2:t.dummies = #[]):t.fits 0=true:=by
 simp[SetTable.fits,SetTable.fill,h1,h2]
theorem Xm0{n:Nat}{Q:Unit->Shared->Prop}{o:Obj}{ep:Nat}(ho:s.heap.get? a=some o)(hex:o.ExactSet)(hd:o.data = .set #[] ep (.fresh 0 0 (!A5 w)))(hn:n<16)
  (h:∀h',Heap.SameBut a s.heap h'->Nu w h' a n->Q () {s with heap:=h'}):wpAny (model P w) A (setRoomFor a n) Q E s:=by
 have hf:(SetTable.fresh 0 0 (!A5 w)).fits (#[]:Array (Int×Value)).size=true:=rfl;unfold setRoomFor;refine Pm (wpAny_setState_of ho hd hf ?_);dsimp only;by_cases hr:n * 5 ≥ 21
 ·have e:(SetTable.fresh 0 0 (!A5 w)).roomFor n=some (n * 2):=by
   unfold SetTable.roomFor;rw[Pq (by show (0+0+n) * 5 ≥ 7 * 3;omega)];show some ((0+n) * 2)=_;rw[O1]
  rw[e];dsimp only;rw[Xmu];refine Pm (wpAny_setState_of ho hd hf ?_);dsimp only;obtain⟨m1,m2,m3⟩:=Xmx n hn (by omega);have hM:Mask (SetTable.sizeAbove (n * 2) - 1):=.inr m1;rw[Pp m3];obtain⟨t,e1,t1,t2,t3,t4,t5⟩:=Xmt (finger:=(SetTable.fresh 0 0 (!A5 w)).finger) (moves:=(SetTable.fresh 0 0 (!A5 w)).movedTo (SetTable.sizeAbove (n * 2) - 1)) (led := !A5 w) (plain:=true) hM;have e2:(SetTable.fresh 0 0 (!A5 w)).relaid ((#[]:Array (Int×Value)).map (·.1)) (n * 2)=some (t, #[]):=by
   unfold SetTable.relaid;rw[Array.map_empty];exact e1
  rw[e2];refine Pm (wp_reord (es := #[]) (by simp) λes' p z=>?_);have:es' = #[]:=Array.eq_empty_of_size_eq_zero z;subst this;refine wpAny_storeSet_of ho hd ?_ (Mt _);have g:=Heap.get?_update_self (Obj.putSet #[] t) ho (by rw[putSet_of #[] t hd];rfl);rw[putSet_of #[] t hd] at g;exact h _ (Py _ a _) ⟨_,ep+1,t,g,hex,rfl,t2,t3,by rw[t1];exact hM,by rw[t1];exact m2,t4,t5⟩
 ·have e:(SetTable.fresh 0 0 (!A5 w)).roomFor n=none:=by
   unfold SetTable.roomFor;rw[Pp (by show ¬(0+0+n) * 5 ≥ 7 * 3;omega)]
  rw[e];exact Pn (h _ (Heap.SameBut.refl a _) ⟨o,ep,_,ho,hex,hd,rfl,rfl,.inl rfl,by show n<=7;omega,rfl,rfl⟩)
theorem Xm1{id:String}{Q:Unit->Shared->Prop}{o:Obj}{ep:Nat}(ho:s.heap.get? c=some o)(hex:o.ExactSet)(hd:o.data = .set #[] ep (.fresh 0 0 (!A5 w)))(S:SSet P w s.heap b ls)(hl:ls.length<16)(hcb:c≠b)
  (h:∀h',Heap.SameBut c s.heap h'->SSet P w h' c ls->Q () {s with heap:=h'}):wpAny (model P w) A (Builtin.Frozenset.merge id c b) Q E s:=by
 obtain⟨ob,eo,epo,to,lso,hob,hexo,hdo,helo,hsto,hpo,hbo,hfo,hlo,hplo⟩:=S;have hz:eo.size=ls.length:=by
  have:=hsto.length;rw[Li,Lp] at this;rw[this,hpo.length_eq]
 unfold Builtin.Frozenset.merge;refine Pm (wpAny_setEpoch_of hob hdo hfo ?_);rw[Xmv];rw[Pp (by simpa using hcb)];refine Pm (wpAny_setState_of hob hdo hfo ?_);dsimp only;by_cases he:eo.isEmpty=true
 ·rw[Pq he];have e0:eo = #[]:=by simpa using he
  have:ls=[]:=M6.mp (by rw[<-hz,e0];rfl);subst this;exact Pn (h _ (Heap.SameBut.refl c _) ⟨o, #[],ep,_,[],ho,hex,hd,λe he=>by simp at he,.nil,M0 _,by decide,rfl,rfl,λ_=>rfl⟩)
 ·rw[Pp he];refine Pm (Xm0 ho hex hd (by rw[hz];exact hl) λh1 sb1 nu=>?_);obtain⟨o1,ep1,t1,ho1,hex1,hd1,p1,p2,hM,hn1,l1,pl1⟩:=nu.ex;have hf1:t1.fits (#[]:Array (Int×Value)).size=true:=Xmz p1 p2;refine Pm (wpAny_setState_of (s:={s with heap:=h1}) ho1 hd1 hf1 ?_);dsimp only;have fin:∀(es':Array (Int×Value)) (t':SetTable),es'.toList.Perm eo.toList->t'.fits es'.size=true->t'.led = !A5 w->(t'.plain=true->es'.size=0)->Q () {s with heap:=h1.update c (Obj.putSet es' t')}:=λes' t' pp ff fl fp=>by
   obtain⟨ls',st',q'⟩:=G4 pp hsto;have z':es'.size=eo.size:=by rw[<-Lp,pp.length_eq,Lp]
   have g:=Heap.get?_update_self (Obj.putSet es' t') ho1 (by rw[putSet_of es' t' hd1];rfl);rw[putSet_of es' t' hd1] at g;exact h _ (sb1.trans (Py _ c _)) ⟨_,es',ep1+1,t',ls',g,hex1,rfl,helo.perm pp,st',q'.trans hpo,by rw[z'];exact hbo,ff,fl,fp⟩
  have hroad:t1.road to=if (t1.mask==to.mask&&to.dummies.isEmpty)=true then SetTable.Road.slotForSlot else SetTable.Road.clean:=by
   unfold SetTable.road;have:(t1.fill != 0)=false:=by simp[SetTable.fill,p1,p2]
   rw[this,Pp (by decide)]
  rw[hroad];by_cases hr:(t1.mask==to.mask&&to.dummies.isEmpty)=true
  ·rw[Pq hr];dsimp only;refine wpAny_storeSet_of (s:={s with heap:=h1}) ho1 hd1 ?_ (fits_of_scanBound hbo);exact fin eo _ (M0 _) hfo (by show (t1.led&&to.led)=_;rw[l1,hlo,Oo]) (by show (t1.plain&&to.plain)=true->_;rw[pl1,Mu];exact hplo)
  ·rw[Pp hr];dsimp only;obtain⟨t2,od,e1,e2,e3,e4,e5⟩:=Xms (finger:=t1.finger) (moves:=t1.moves) (led:=t1.led&&to.led) (plain:=t1.plain&&to.plain) (hs:=eo.map (·.1)) hM (by rw[Array.size_map];exact hn1);rw[e1];rw[Array.size_map] at e2 e3;refine Pm (wp_reord e2 λes' pp zz=>?_);refine wpAny_storeSet_of (s:={s with heap:=h1}) ho1 hd1 ?_ (fits_of_scanBound (by rw[zz];exact hbo));exact fin es' t2 pp (by rw[zz];exact e3) (by rw[e4,l1,hlo,Oo]) (by rw[e5,pl1,Mu,zz];exact hplo)
def Wl (P:Program) (w:World) (wl:Array (Int×Value)) (ks:List Str):Prop:=ElemsOf (PySem.strKind P w) wl.toList/\∃zs,StrsAre (wl.toList.map (·.2)) zs/\zs.Perm ks
theorem Xm2{es wl:Array (Int×Value)}{ls0:List Str}(hel:ElemsOf (PySem.strKind P w) es.toList)(hs:StrsAre (es.toList.map (·.2)) ls0)(hp:ls0.Perm ks)(pp:wl.toList.Perm es.toList):Wl P w wl ks:=by
 obtain⟨zs,st,q⟩:=G4 pp hs;exact⟨hel.perm pp,zs,st,q.trans hp⟩
theorem Xeq{Q:Option Bool×Unit->Shared->Prop}{f:Int×Value->Option Bool×Unit->Sem (ForInStep (Option Bool×Unit))}(hf:∀(x:Int×Value) (r:Option Bool×Unit),(∀p,x.2 ≠ .ref p)->f x r=pure (.yield (none,()))):
  ∀(l:List (Int×Value)),(∀e∈l,∀p,e.2 ≠ .ref p)->Q (none,()) s->wpAny (model P w) A (forIn l (none,()) f) Q E s
 | [],_,h=>by rw[Pf];exact Pn h
 | x::l,hn,h=>by
  rw[O5,hf x _ (hn x Lo)];exact Pm (Pn (Xeq hf l (λe he=>hn e (Ll _ he)) h))
end
section
variable {P:Program}{w:World}{A:Around}{E:Value->Shared->Prop}{s:Shared}{a b c:Addr}{ks ls:List Str}
theorem Xer{l:List (Int×Value)}(h:ElemsOf (PySem.strKind P w) l):∀e∈l,∀p,e.2 ≠ .ref p:=λe he p z=>by
 have:=(h e he).2;rw[z] at this;cases this
theorem Xes{Q:Option Bool×Unit->Shared->Prop}{f:Int×Value->Option Bool×Unit->Sem (ForInStep (Option Bool×Unit))}(hf:∀(x:Int×Value) (r:Option Bool×Unit),(∀p,x.2 ≠ .ref p)->f x r=pure (.yield (none,())))
  {es:Array (Int×Value)} (hn:∀e∈es.toList,∀p,e.2 ≠ .ref p) (h:Q (none,()) s):wpAny (model P w) A (forIn es (none,()) f) Q E s:=by
 rw[<-Array.forIn_toList];exact Xeq hf _ hn h
theorem Xm3{Q:Bool->Shared->Prop}(S:SSet P w s.heap a ks)(F:SSet P w s.heap b ls)(h:Q true s):wpAny (model P w) A (setsQuiet [a,b]) Q E s:=by
 obtain⟨o,es,ep,t,l0,ho,hex,hd,hel,hst,hp,hb,hf,hl,hpl⟩:=S;obtain⟨o',es',ep',t',l0',ho',hex',hd',hel',hst',hp',hb',hf',hl',hpl'⟩:=F;have hq:∀(x:Int×Value) (r:Option Bool×Unit),(∀p,x.2 ≠ .ref p)->(match x.2 with
   | Value.ref a=>do
    let __do_lift <-specialOf x.2 (Str.ofString "__eq__")
    if (__do_lift != some (Value.builtin "object.__eq__"))=true then pure (ForInStep.done (some false,())) else pure (ForInStep.yield (none,()))
   | x=>pure (ForInStep.yield (none,())):Sem (ForInStep (Option Bool×Unit)))=pure (.yield (none,())):=λx r hx=>by
  split
  ·rename_i e;exact absurd e (hx _)
  ·rfl
 unfold setsQuiet;simp only[O5,Pf];refine Pm (Pm (Pm (wpAny_setEntries_of ho hd hf (Pm (Xes hq (Xer hel) (Pn ?_))))));refine Pm (Pm (wpAny_setEntries_of ho' hd' hf' (Pm (Xes hq (Xer hel') (Pn ?_)))));exact Pn (Pn h)
theorem wp_unseen{Q:Array (Int×Value)->Shared->Prop}(S:SSet P w s.heap a ks)(F:SSet P w s.heap c ls)(hac:a≠c)
  (h:∀wl h' d,Wl P w wl ks->Heap.SameBut c s.heap h'->SSet P w h' c ls->Q wl {s with heap:=h',drawn:=d}):wpAny (model P w) A (setWalkUnseen a [c] (some c)) Q E s:=by
 obtain⟨o,es,ep,t,l0,ho,hex,hd,hel,hst,hp,hb,hf,hl,hpl⟩:=id S;have wl1:∀wl:Array (Int×Value),wl.toList.Perm es.toList->Wl P w wl ks:=λwl pp=>Xm2 hel hst hp pp;have walk:wpAny (model P w) A (setWalk a) Q E s:=by
  rw[Xmw];refine Pm (wpAny_setState_of ho hd hf ?_);dsimp only;unfold setsByText;refine Pm (Pm (wpAny_askSetting (Pn ?_)));show wpAny _ _ (if A5 w=true then _ else _) _ _ s;cases hw:A5 w with
  | true=>
   rw[Pq rfl];refine Pm (wpAny_askSetting (Pn ?_));exact h _ s.heap s.drawn (wl1 _ (Xcc _ es)) (Heap.SameBut.refl c _) F
  | false=>
   rw[Pp (by decide)];by_cases hc:(!t.plain&&decide (es.size > 1))=true
   ·rw[Pq hc];refine Pm (Xcd _ _ _ _ (Lp) λos d po=>Pn ?_);exact h _ s.heap d (wl1 _ (by simpa using po)) (Heap.SameBut.refl c _) F
   ·rw[Pp hc];have hm:K5 es t=pure ():=by
     unfold K5;rw[hl,hw];rfl
    refine Pm (wpAny_of_eq hm (Pn ?_));exact h _ s.heap s.drawn (wl1 _ (M0 _)) (Heap.SameBut.refl c _) F
 unfold setWalkUnseen;refine Pm (wpAny_setState_of ho hd hf ?_);dsimp only;unfold setsByText;refine Pm (Pm (wpAny_askSetting (Pn ?_)));show wpAny _ _ (if (A5 w||(t.led&&t.plain)||decide (es.size<=1))=true then setWalk a else _) _ _ s;by_cases hc:(A5 w||(t.led&&t.plain)||decide (es.size<=1))=true
 ·rw[Pq hc];exact walk
 ·rw[Pp hc];refine Pm (Xm3 S F ?_);simp only[Om,Md,if_false];refine Pm (wpAny_rule ?_);obtain⟨oc,ec,epc,tc,lc,hoc,hexc,hdc,helc,hstc,hpc,hbc,hfc,hlc,hplc⟩:=id F;refine Pm (wpAny_setState_of hoc hdc hfc ?_);dsimp only;by_cases hs:((tc.led && !t.led)||(tc.plain && !t.plain))=true
  ·rw[Pq hs];refine Pm (wpAny_storeSet_of hoc hdc (Pn ?_) (fits_of_scanBound hbc));obtain⟨g,S1⟩:_/\SSet P w (s.heap.update c (Obj.putSet ec {tc with led:=tc.led&&t.led,plain:=tc.plain&&t.plain})) c ls:=by
    have g:=Heap.get?_update_self (Obj.putSet ec {tc with led:=tc.led&&t.led,plain:=tc.plain&&t.plain}) hoc (by rw[putSet_of ec _ hdc];rfl);rw[putSet_of ec _ hdc] at g;exact⟨g,_,ec,epc+1,_,lc,g,hexc,rfl,helc,hstc,hpc,hbc,hfc,by show (tc.led&&t.led)=_;rw[hlc,hl,Oo],by
     show (tc.plain&&t.plain)=true->_;intro z;rw[Lv] at z;exact hplc z.1⟩
   exact h _ _ s.drawn (wl1 _ (M0 _)) (Py _ c _) S1
  ·rw[Pp hs];exact Pn (h _ s.heap s.drawn (wl1 _ (M0 _)) (Heap.SameBut.refl c _) F)
def xor1 (ks:List Str) (x:Str):List Str:=if x∈ks then ks.erase x else ks++[x]
theorem Hu{α : Type}(xs:Array α)(i:Nat):(SetTable.eraseAt xs i).toList=xs.toList.eraseIdx i:=by
 unfold SetTable.eraseAt;rw[Array.toList_append,Array.toList_extract,Array.toList_extract,List.eraseIdx_eq_take_drop_succ];simp[List.extract];exact Nb (by simp)
theorem Xet:∀(l:List Str),l.Nodup->∀(j:Nat) (hj:j<l.length),l.erase l[j]=l.eraseIdx j
 | x::l,nd,0,_=>by simp
 | x::l,nd,j+1,hj=>by
  obtain⟨h1,h2⟩:=Mv.mp nd;have hj':j<l.length:=by simpa using hj
  have ne:x≠l[j]:=λe=>h1 (e ▸ Me hj');rw[List.getElem_cons_succ,List.eraseIdx_cons_succ,List.erase_cons_tail (by simpa using ne),Xet l h2 j hj']
theorem Xeu{α β : Type}(f : α -> β):∀(l:List α) (j:Nat),(l.eraseIdx j).map f=(l.map f).eraseIdx j
 | [],_=>rfl
 | x::l,0=>rfl
 | x::l,j+1=>by simp[Xeu f l j]
theorem Xev:∀{vs:List Value} {ls:List Str} (i:Nat),StrsAre vs ls->StrsAre (vs.eraseIdx i) (ls.eraseIdx i)
 | _,_,_,.nil=>by simp;exact .nil
 | _,_,0,.cons x t h=>h
 | _,_,i+1,.cons x t h=>.cons x t (Xev i h)
theorem Xm4{vs:List Value}{ls:List Str}(h:StrsAre vs ls){i:Nat}(hi:i<vs.length):∃t,vs[i] = .str (ls.getD i Str.empty) t:=by
 induction h generalizing i with
 | nil=>exact absurd hi (Np _)
 | cons x t _ ih=>
  cases i with
  | zero=>exact⟨t,rfl⟩
  | succ i=>exact ih (by simpa using hi)
theorem Xm5{x:Str}{tk:Tok}{Q:Unit->Shared->Prop}(S:SSet P w s.heap a ks)(nd:ks.Nodup)(hr:ks.length+1<scanBound)
  (h:∀h',Heap.SameBut a s.heap h'->SSet P w h' a (xor1 ks x)->Q () {s with heap:=h'}):
  wpAny (model P w) A (holding [.str x tk] do
   if !(<-setDiscardHashed a (.str x tk) ((PySem.strKind P w).hash x)) then
    let _ <-setAddHashed a (.str x tk) ((PySem.strKind P w).hash x)) Q E s:=by
 obtain⟨o,es,ep,t,l0,ho,hex,hd,hel,hs,hp,hb,hf,hl,hpl⟩:=id S;have hkey:(PySem.strKind P w).is x (.str x tk)=true:=strKind_is P w x tk;have hin:x∈ks ↔ ∃e∈es.toList,(PySem.strKind P w).is x e.2=true:=hp.mem_iff.symm.trans (Xb7 hs);have hlen:es.size=ks.length:=by
  have:=hs.length;rw[Li,Lp] at this;rw[this,hp.length_eq]
 refine wpAny_holding (Pm ?_);unfold setDiscardHashed setFind setFindIn;refine Pm (Pm (wpAny_setState_of ho hd hf ?_));dsimp only;rw[byScan_of (knd:=PySem.strKind P w) rfl hb hel];simp only[↓reduceIte];refine Pm (wpAny_rule (Pm (wpAny_setScan_of hkey ho hd hf hel ?_)));cases hf1:List.findIdx? (λe=>(PySem.strKind P w).is x e.2) es.toList with
 | none=>
  dsimp only;have hx:x∉ks:=λz=>by
   obtain⟨e,he,q⟩:=hin.mp z;have:=List.findIdx?_eq_none_iff.mp hf1 e he;rw[q] at this;cases this
  refine Pn (Pn ?_);simp only[Bool.not_false,if_true];refine Pm (sset_add S hr λb h' sb S'=>Pn ?_);refine h h' sb ?_;unfold xor1;rw[Pp hx];rw[Pp hx] at S';exact S'
 | some j=>
  dsimp only;obtain⟨hj,hpj,_⟩:=Ol.mp hf1;have hx:x∈ks:=hin.mpr ⟨es.toList[j],Me hj,hpj⟩;rw[O1];refine Pn ?_;dsimp only;refine Pm (wpAny_setState_of ho hd hf ?_);dsimp only;have hjs:j<es.size:=by simpa using hj
  have zE:(SetTable.eraseAt es j).size=es.size - 1:=by
   rw[<-Lp,Hu,Nt hj,Lp]
  refine Pm (wpAny_storeSet_of ho hd ?_ (fits_of_scanBound (by rw[zE];omega)));refine Pm (wpAny_point (Pn ?_));simp only[Om,Md,if_false];refine Pn ?_;have g:=Heap.get?_update_self (Obj.putSet (SetTable.eraseAt es j) (t.drop j)) ho (by rw[putSet_of _ _ hd];rfl);rw[putSet_of _ _ hd] at g;have hfs:t.place.size=es.size/\t.fill<=t.mask:=by
   simpa [SetTable.fits,Lv] using hf
  have hdrop:(t.drop j).fits (es.size - 1)=true/\(t.drop j).led=t.led/\(t.drop j).plain=t.plain:=by
   unfold SetTable.drop;have hjp:j<t.place.size:=by rw[hfs.1];exact hjs
   rw[getElem?_pos t.place j hjp];dsimp only;refine⟨?_,rfl,rfl⟩;have z1:(SetTable.eraseAt t.place j).size=t.place.size - 1:=by
    rw[<-Lp,Hu,Nt (by simpa using hjp),Lp]
   have z2:∀p v,(SetTable.insertAt t.dummies p v).size=t.dummies.size+1:=λp v=>by
    have:=(SetTable.insertAt_perm t.dummies p v).length_eq;simpa using this
   simp only[SetTable.fits,SetTable.fill,Lv,beq_iff_eq,decide_eq_true_eq,z1,z2];have:=hfs.2;unfold SetTable.fill at this;omega
  have hl0j:l0.getD j Str.empty=x:=by
   obtain⟨tt,e⟩:=Xm4 hs (i:=j) (by simpa using hj);rw[List.getElem_map] at e;rw[e] at hpj;obtain⟨t3,e3⟩:=Value.isStrOf_shape (x:=x) (v:=.str (l0.getD j Str.empty) tt) hpj;injection e3
  have hl0:l0.length=es.size:=by
   have:=hs.length;rw[Li,Lp] at this;exact this.symm
  have nd0:l0.Nodup:=hp.nodup_iff.mpr nd;have ere:l0.eraseIdx j=l0.erase x:=by
   have hj0:j<l0.length:=by omega
   have e:l0[j]=x:=by rw[<-hl0j];simp[List.getD,hj0]
   rw[<-e];exact(Xet l0 nd0 j hj0).symm
  refine h _ (Py _ a _) ⟨_,_,ep+1,_,l0.eraseIdx j,g,hex,rfl,?_,?_,?_,by rw[zE];omega,by rw[zE];exact hdrop.1,hdrop.2.1.trans hl,?_⟩
  ·intro e he;rw[Hu] at he;exact hel e (List.mem_of_mem_eraseIdx he)
  ·rw[Hu];have:(es.toList.eraseIdx j).map (·.2)=(es.toList.map (·.2)).eraseIdx j:=by
    exact Xeu _ _ _
   rw[this];exact Xev j hs
  ·rw[ere];unfold xor1;rw[Pq hx];exact hp.erase x
  ·rw[hdrop.2.2,zE];intro z;rw[hpl z]
end
def Xm6 (a:Addr) (h:Int) (x:Value):Sem Unit:=holding [x] do
 if !(<-setDiscardHashed a x h) then
  let _ <-setAddHashed a x h
theorem Xew(ks:List Str)(x:Str):(xor1 ks x).length<=ks.length+1:=by
 unfold xor1;split
 ·exact Nat.le_succ_of_le (List.length_erase_le ..)
 ·rw[Ln];exact Lk _
theorem Xex{ks:List Str}{x:Str}(h:ks.Nodup):(xor1 ks x).Nodup:=by
 unfold xor1;split
 ·exact h.erase x
 ·rename_i hx;exact Nf.mpr ⟨h,by simp,λa ha b hb e=>hx (by rw[Ly.mp hb] at e;exact e ▸ ha)⟩
theorem Xm7{ks:List Str}{x y:Str}(h:ks.Nodup):y∈xor1 ks x↔(y∈ks/\y≠x)\/(y=x/\x∉ks):=by
 unfold xor1;split
 ·rename_i hx;rw[h.mem_erase_iff];constructor
  ·exact λz=>.inl ⟨z.2,z.1⟩
  ·rintro (z | z)
   ·exact⟨z.2,z.1⟩
   ·exact absurd hx z.2
 ·rename_i hx;rw[Ls,Ly];constructor
  ·rintro (z | z)
   ·exact .inl ⟨z,λe=>hx (e ▸ z)⟩
   ·exact .inr ⟨z,hx⟩
  ·rintro (z | z)
   ·exact .inl z.1
   ·exact .inr z.1
theorem Xey:∀(zs ms:List Str),ms.Nodup->zs.Nodup->(zs.foldl xor1 ms).Nodup/\(zs.foldl xor1 ms).length<=ms.length+zs.length/\∀y,y∈zs.foldl xor1 ms↔(y∈ms/\y∉zs)\/(y∉ms/\y∈zs)
 | [],ms,h,_=>⟨h,Lk _,λy=>by simp⟩
 | z::zs,ms,h,hz=>by
  obtain⟨n1,n2⟩:=Mv.mp hz;obtain⟨a1,a2,a3⟩:=Xey zs (xor1 ms z) (Xex h) n2;refine⟨a1,?_,λy=>?_⟩
  ·have:=Xew ms z;rw[L4];rw[Oi];omega
  ·rw[Oi,a3,Xm7 h,Lw];by_cases e:y=z
   ·subst e;by_cases g:y∈ms<;>simp[g,n1]
   ·by_cases g:y∈ms<;>simp[g,e]
section
variable {P:Program}{w:World}{A:Around}{E:Value->Shared->Prop}{s:Shared}{a b c:Addr}{ks ls:List Str}
theorem Xez{id:String}{ep:Nat}{f:Int×Value->PUnit->Sem (ForInStep PUnit)}(hf:∀x u,f x u=(do Xm6 c x.1 x.2; Builtin.Frozenset.unchanged id a ep;pure (.yield ⟨⟩))){o:Obj}{es:Array (Int×Value)}{t:SetTable}(hd:o.data = .set es ep t)(hft:t.fits es.size=true)(hac:a≠c):
  ∀(l:List (Int×Value)) (zs ms:List Str) (s:Shared) (Q:PUnit->Shared->Prop),s.heap.get? a=some o->ElemsOf (PySem.strKind P w) l->StrsAre (l.map (·.2)) zs->SSet P w s.heap c ms->ms.Nodup->ms.length+l.length<scanBound ->
   (∀h',Heap.SameBut c s.heap h'->SSet P w h' c (zs.foldl xor1 ms)->Q ⟨⟩ {s with heap:=h'})->wpAny (model P w) A (forIn l PUnit.unit f) Q E s
 | [],zs,ms,s,Q,_,_,hz,hS,_,_,h=>by
  rw[Pf];cases hz;exact Pn (h s.heap (Heap.SameBut.refl c _) hS)
 | (hh,x)::l,zs,ms,s,Q,ho,hel,hz,hS,nd,hb,h=>by
  have hz0:StrsAre (x::l.map (·.2)) zs:=hz;clear hz;cases hz0 with
  | cons y t' hz=>
   obtain⟨⟨k,hk,he⟩,_⟩:=hel.head;have hk:(PySem.strKind P w).is k (.str y t')=true:=hk;obtain⟨t3,e3⟩:=Value.isStrOf_shape (x:=k) (v:=.str y t') hk;injection e3 with e3 _
   subst e3;have he:hh=(PySem.strKind P w).hash y:=he;subst he;rw[L4] at hb;rw[O5,hf];refine Pm (Pm (Xm5 hS nd (by omega) λh1 sb1 S1=>?_));have ho1:h1.get? a=some o:=(sb1.2 a hac).trans ho;refine Pm ?_;unfold Builtin.Frozenset.unchanged;refine Pm (wpAny_setEpoch_of (s:={s with heap:=h1}) ho1 hd hft ?_);simp only[bne_self_eq_false,Md,if_false];refine Pn (Pn ?_);have hl:=Xew ms y;exact Xez hf hd hft hac l _ (xor1 ms y) {s with heap:=h1} Q ho1 hel.tail hz S1 (Xex nd) (by omega) λh2 sb2 S2=>h h2 (sb1.trans sb2) S2
def Xe0 (i:String) (l:Addr) (r:Value):Sem Value:=do
 let result <-Builtin.Frozenset.newFrom i (<-Builtin.Frozenset.baseOf l) r
 holding [result] (Builtin.Frozenset.symmetricDifferenceUpdate i (<-Builtin.Frozenset.addrOf result) (.ref l))
 return result
theorem Xm8(x y:Value):Builtin.«frozenset.__xor__» ⟨[x,y],[]⟩=(do
  let (self,other) <-Builtin.Frozenset.slot1 "__xor__" ⟨[x,y],[]⟩
  let (l,r):=if false then (other,self) else (self,other)
  if !(<-Builtin.Frozenset.isAnySet l <&&> Builtin.Frozenset.isAnySet r) then rule s!"frozenset.{"__xor__"}.declined"; return <-ret .notImplemented
  ret (<-Xe0 s!"frozenset.{"__xor__"}" (<-Builtin.Frozenset.addrOf l) r)):=rfl
theorem Xm9{i:String}{Q:Unit->Shared->Prop}{ms:List Str}(S:SSet P w s.heap a ks)(F:SSet P w s.heap c ms)(hac:a≠c)(hk:ks.Nodup)(hm:ms.Nodup)(l1:ks.length<16)(l2:ms.length<16)
  (h:∀h' d zs,Heap.SameBut c s.heap h'->SSet P w h' c zs->zs.Nodup->zs.length<=32->(∀y,y∈zs↔(y∈ms/\y∉ks)\/(y∉ms/\y∈ks))->Q () {s with heap:=h',drawn:=d}):
  wpAny (model P w) A (Builtin.Frozenset.symmetricDifferenceUpdate i c (.ref a)) Q E s:=by
 obtain⟨o,es,ep,t,l0,ho,hex,hd,hel,hst,hp,hb,hf,hl,hpl⟩:=id S;unfold Builtin.Frozenset.symmetricDifferenceUpdate;rw[Pp (by simpa using hac)];refine Pm (wpAny_typeOf (T := "set") S.typeIs ?_);rw[Pp (by decide)];refine Pm (Ht S.typeIs ?_);rw[Pq rfl];refine Pm (Pn ?_);refine Pm (Pn ?_);refine Pm (wpAny_setEpoch_of ho hd hf ?_);refine wpAny_holding (Pm (wp_unseen S F hac λwl h1 d W sb1 S1=>?_));obtain⟨hel1,zs,st1,q1⟩:=W;rw[<-Array.forIn_toList];have ho1:h1.get? a=some o:=(sb1.2 a hac).trans ho;have hwl:wl.toList.length=ks.length:=by
  have:=st1.length;rw[Li] at this;rw[this,q1.length_eq]
 have ndz:zs.Nodup:=q1.nodup_iff.mpr hk;obtain⟨x1,x2,x3⟩:=Xey zs ms hm ndz;refine Pm (Xez (id:=i) (c:=c) (a:=a) (s:={s with heap:=h1,drawn:=d}) (λx u=>rfl) hd hf hac wl.toList zs ms _ ho1 hel1 st1 S1 hm (by rw[hwl];unfold scanBound;omega) λh2 sb2 S2=>Pn ?_);refine h h2 d _ (sb1.trans sb2) S2 x1 ?_ λy=>?_
 ·have:=q1.length_eq;omega
 ·rw[x3,q1.mem_iff]
theorem Xna{Q:Value->Shared->Prop}(S:SSet P w s.heap a ks)(F:SSet P w s.heap b ls)(hk:ks.Nodup)(hl:ls.Nodup)(l1:ks.length<16)(l2:ls.length<16)
  (h:∀h' d zs,(∀e o,s.heap.get? e=some o->h'.get? e=some o)->SSet P w h' s.heap.objs.size zs->zs.Nodup->zs.length<=32->(∀y,y∈zs↔(y∈ls/\y∉ks)\/(y∉ls/\y∈ks))->Q (.ref s.heap.objs.size) {s with heap:=h',drawn:=d}):
  wpAny (model P w) A (binaryOp .BitXor (.ref a) (.ref b)) Q E s:=by
 have ha:=S.typeIs;have hb:=F.typeIs;have la:a<s.heap.objs.size:=by obtain⟨o,_,_,_,_,g,_⟩:=S;exact Pw g
 have lb:b<s.heap.objs.size:=by obtain⟨o,_,_,_,_,g,_⟩:=F;exact Pw g
 have eX:entryFor table "set.__xor__" = some Builtin.«frozenset.__xor__»:=entryFor_alias (id' := "frozenset.__xor__") (by kernel_rfl) rfl (by decide +kernel) (by kernel_rfl);refine wpAny_binaryOp_same (T := "set") (id := "set.__xor__") ha hb PySem.F.fills_set_xor PySem.F.slot_set_xor (wpAny_call_entry PySem.F.slot_set_xor ha eX ?_ (PySem.F.args_set_xor_2 _ _));rw[Xm8];unfold Builtin.Frozenset.slot1 slotArgs;simp only[List.isEmpty_nil,Om,Md, ↓reduceIte,bind_assoc,Nx,L4,bne_self_eq_false,pure_bind];refine Pm ?_;show wpAny _ _ (Builtin.Frozenset.isAnySet (.ref a) >>= λb1=>_) _ _ s;refine Pm (Ht ha ?_);show wpAny _ _ (Builtin.Frozenset.isAnySet (.ref b)) _ _ s;refine Ht hb ?_;simp only[Om,Md, ↓reduceIte];refine Pm ?_;show wpAny _ _ (pure a) _ _ s;refine Pn ?_;refine Pm ?_;unfold Xe0;refine Pm (Xmy ha ?_);refine Pm ?_;unfold Builtin.Frozenset.newFrom newSet setsByText;refine Pm (Pm (Pm (wpAny_askSetting (Pn ?_))));dsimp only;simp only[newObj];refine Pm (wpAny_alloc (Pn ?_));have keep:∀e o,s.heap.get? e=some o->(s.heap.push {cls:=.type "set",dict:=none,data:=.set #[] 0 (.fresh 0 0 (!A5 w))}).get? e=some o:=λe o q=>Px _ q;refine Pm ?_;show wpAny _ _ (pure s.heap.objs.size) _ _ _;refine Pn ?_;refine Pm (wpAny_holding ?_);unfold Builtin.Frozenset.updateFrom;have F1:SSet P w (s.heap.push {cls:=.type "set",dict:=none,data:=.set #[] 0 (.fresh 0 0 (!A5 w))}) b ls:=F.stay λo q=>keep b o q;refine Pm (Ht (s:={s with heap:=s.heap.push {cls:=.type "set",dict:=none,data:=.set #[] 0 (.fresh 0 0 (!A5 w))} }) F1.typeIs ?_);rw[Pq rfl];unfold Builtin.Frozenset.addrOf;refine Pm (Pn ?_);refine Xm1 (s:={s with heap:=s.heap.push {cls:=.type "set",dict:=none,data:=.set #[] 0 (.fresh 0 0 (!A5 w))} }) (c:=s.heap.objs.size) (ep:=0) (Heap.get?_push_size _ rfl) ⟨rfl,rfl,rfl⟩ rfl F1 l2 (Oy lb) λh1 sb1 S1=>?_;refine Pn ?_;have k1:∀e o,s.heap.get? e=some o->h1.get? e=some o:=λe o q=>(sb1.2 e (Lr (Pw q))).trans (keep e o q);refine Pm (Pn ?_);refine Pm (wpAny_holding (Xm9 (s:={s with heap:=h1}) (S.stay λo q=>k1 a o q) S1 (Lr la) hk hl l1 l2 λh2 d zs sb2 S2 n2 z2 m2=>?_));refine Pn (Pn ⟨_,rfl,by simp,?_⟩);exact h h2 d zs (λe o q=>(sb2.2 e (Lr (Pw q))).trans (k1 e o q)) S2 n2 z2 m2
end
section
variable {X:Cx}
theorem Xnb:OpR X (binaryOp .BitXor) (λx y H Q=>∃a b ks ls,x = .ref a/\y = .ref b/\H a=some (Dt X.prog X.w a ks)/\H b=some (Dt X.prog X.w b ls)/\ks.Nodup/\ls.Nodup/\ks.length<16/\ls.length<16 /\
  ∀c zs,H c=none->zs.Nodup->zs.length<=32->(∀y,y∈zs↔(y∈ls/\y∉ks)\/(y∉ls/\y∈ks))->Q (.ref c) (upd H c (Dt X.prog X.w c zs))):=by
 intro pins s σ H x y v u Q I rx ry h;obtain⟨a,b,ks,ls,rfl,rfl,ha,hb,nk,nl,l1,l2,q⟩:=h;cases rx;cases ry;obtain⟨S,_⟩:=(show Ar X.prog X.w H s.heap a (.ext λh=>SSet X.prog X.w h a ks) from I.hok a _ ha);obtain⟨F,_⟩:=(show Ar X.prog X.w H s.heap b (.ext λh=>SSet X.prog X.w h b ls) from I.hok b _ hb);refine Xna S F nk nl l1 l2 λh' d zs k S' n' z' m'=>?_;refine⟨.ref s.heap.objs.size,_,I.laidM (s':={s with heap:=h',drawn:=d}) k rfl rfl (Lk _) ?_,rfl,q _ zs (I.hok.fresh (Lk _)) n' z' m'⟩;exact⟨S',by obtain⟨o,_,_,_,_,g,_⟩:=S';exact⟨o,g⟩,λh1 h2 S1 kk=>S1.stay kk⟩
end
end L2
set_option maxHeartbeats 4000000
namespace SH
open PySem PySem.Spec PyProof.Rows L2
def Fc (a b:List Str):List Str:=srt ((a.filter λx => !decide (x∈b))++(b.filter λx => !decide (x∈a)))
theorem Xe1{a b:List Str}(ha:a.Nodup)(hb:b.Nodup):((a.filter λx => !decide (x∈b))++(b.filter λx => !decide (x∈a))).Nodup:=by
 rw[Nf];refine⟨ha.filter _,hb.filter _,λx hx y hy e=>?_⟩;subst e;have h1:=(Mc.mp hx).1;have h2:=(Mc.mp hy).2;simp[h1] at h2
theorem Xnc{a b:List Str}(ha:a.Nodup)(hb:b.Nodup):(Fc a b).Pairwise ltS:=by
 have nd2:(Fc a b).Nodup:=(Ce _).nodup_iff.mpr (Xe1 ha hb);exact(List.pairwise_and_iff.mpr ⟨Db _,nd2⟩).imp λ{x y} (h:leS x y/\x≠y)=>Ey h.1 h.2
theorem xor_srt{a b zs:List Str}(ha:a.Nodup)(hb:b.Nodup)(hz:zs.Nodup)(h:∀y,y∈zs↔(y∈b/\y∉a)\/(y∉b/\y∈a)):srt zs=Fc a b:=by
 refine Xcu (Ga hz (Xe1 ha hb) λy=>?_);rw[h,Ls,Mc,Mc];simp;by_cases h1:y∈a<;>by_cases h2:y∈b<;>simp[h1,h2]
def spParting:Sp:=λvs H Q _=>∃(p q:Addr) (a b:List Str),vs=[.ref p,.ref q]/\H p=some (.tup (a.map V.str))/\H q=some (.tup (b.map V.str))/\a.Nodup/\b.Nodup/\a.length<16/\b.length<16 /\
 ∀l H',H l=none->H' l=some (.lst ((Fc a b).map V.str))->Same H H'->Q (.ref l) H'
structure Two (H:Hp) (r p q:Addr) (row a b:List Str):Prop where
 hr:H r=some (.lst (row.map V.str))
 r2:Row2 row
 hd:(dit row).length<=14
 hp:H p=some (.tup (a.map V.str))
 hq:H q=some (.tup (b.map V.str))
 oa:∀y∈a,okN y
 ob:∀y∈b,okN y
 la:a.length<=24
 lb:b.length<=24
theorem Xe2{row a:List Str}(h:Al row a=true):a.Nodup:=E9 (C2 h).2
end SH
namespace L2
open PySem PySem.Spec PyProof.Rows
def tSset (K:PySem.W.Frag) (te:TE):TE:=fun σ H Q=>te σ H λv H1=>∃p ss,v = .ref p/\(SqL K H1 p (ss.map V.str)\/SqT K H1 p (ss.map V.str))/\ss.length<=60/\∀l H',H1 l=none->H' l=some (.lst ((dit ss).map V.str))->Same H1 H'->Q (.ref l) H'
end L2
namespace SH
open PySem PySem.Spec PyProof.Rows L2
def Xe3 (a b:List Str):List Str:=(dit (a++b)).filter λx => !(decide (x∈a)&&decide (x∈b))
structure First (a b:List Str) (x y:Str):Prop where
 hx:x∈a
 hy:y∈a
 lt:ltS x y
 df:lieR a x y≠lieR b x y
 fst:∀x' y',x'∈a->y'∈a->ltS x' y'->lieR a x' y'≠lieR b x' y'->ltS x x'\/(x'=x/\(y'=y\/ltS y y'))
inductive Due (a b:List Str):Option (List Str)->Prop
 | ditch (x:Str) (h:x∈Xe3 a b) (f:∀y∈Xe3 a b,y=x\/ltS x y):Due a b (some [Str.ofString "ditch",x])
 | lie (x y:Str) (h:∀z,z∈a↔z∈b) (f:First a b x y):Due a b (some [Str.ofString "lie",x,y])
 | none (h:∀z,z∈a↔z∈b) (f:∀x y,x∈a->y∈a->ltS x y->lieR a x y=lieR b x y):Due a b none
structure Two2 (H:Hp) (p q:Addr) (a b:List Str):Prop where
 hp:H p=some (.lst (a.map V.str))
 hq:H q=some (.lst (b.map V.str))
 ra:Row2 a
 rb:Row2 b
 la:a.length<=28
 lb:b.length<=28
 da:(ddup a).length<16
 db:(ddup b).length<16
def DueAt (H:Hp):Option (List Str)->V->Prop
 | none,v=>v = .non
 | some ss,v=>∃l,v = .ref l/\H l=some (.tup (ss.map V.str))
end SH
namespace L2
open PySem
def Xnd (s:Stmt):List Stmt:=match s with
 | .ClassDef _ _ _ b _ _ _ _ _ _ _=>b
 | _=>[]
end L2
namespace SH
open PySem PySem.Spec PyProof.Rows L2
def Fd (t:Str):Bool:=(decide (1<=t.length)&&decide (t.length<=8))&&t.cps.toList.all λc=>decide (97<=c)&&decide (c<=122)
structure Asc (t:Str):Prop where
 asc:t.cps.all (· < 128)=true
 len:t.length<=20
structure IsT (row:List Str) (x y z:Str):Prop where
 hx:x∈row
 hy:y∈row
 hz:z∈row
 lxy:ltS x y
 lyz:ltS y z
 xy:lieR row x y = "cross"
 yz:lieR row y z = "cross"
 xz:lieR row x z = "cross"
structure First3 (row:List Str) (x y z:Str):Prop where
 t:IsT row x y z
 fst:∀x' y' z',IsT row x' y' z'->ltS x x'\/(x'=x/\(ltS y y'\/(y'=y/\(z'=z\/ltS z z'))))
def noT (row:List Str):Prop:=∀x y z,¬IsT row x y z
def ltP2 (p q:Str×Str):Prop:=ltS p.1 q.1\/(p.1=q.1/\ltS p.2 q.2)
def Xpi (H:Hp) (dx:Addr) (x y z:Str):Prop:=∃t,H dx=some (.ext (xdP dx [(Str.ofString "three",.ref t)]))/\H t=some (.tup [.str x,.str y,.str z])
inductive PO
 | name | taken | full | place
 | barred (x y z:Str)
 | told
def Xpj (row:List Str) (x:Str) (a b:Int):PO->Prop
 | .name=>Fd x=false
 | .taken=>Fd x=true/\x∈row
 | .full=>Fd x=true/\x∉row/\14<=(dit row).length
 | .place=>Fd x=true/\x∉row/\(dit row).length<14/\¬(0<=a/\a<=b/\b<=row.length)
 | .barred u v w=>Fd x=true/\x∉row/\(dit row).length<14/\(0<=a/\a<=b/\b<=row.length)/\First3 (Cy row x a.toNat b.toNat) u v w
 | .told=>Fd x=true/\x∉row/\(dit row).length<14/\(0<=a/\a<=b/\b<=row.length)/\noT (Cy row x a.toNat b.toNat)
structure PutC where
 name:Addr
 taken:Addr
 full:Addr
 place:Addr
 barred:Addr
def PutC.of (C:PutC):PO->Addr
 | .name=>C.name
 | .taken=>C.taken
 | .full=>C.full
 | .place=>C.place
 | .barred ..=>C.barred
 | .told=>0
def Em:PO->Bool
 | .barred ..=>false
 | .told=>false
 | _=>true
def Hv:PO->Nat
 | .name=>0
 | .taken=>1
 | .full=>2
 | .place=>3
 | .barred ..=>4
 | .told=>5
structure PutK (K:PySem.W.Frag) (C:PutC) (S:Addr):Prop where
 fn:ExcF K C.name
 ft:ExcF K C.taken
 ff:ExcF K C.full
 fp:ExcF K C.place
 fb:ExcF K C.barred
 kb:ExK K C.barred "three"
 eb:PySem.W.exmOne K (.ref C.barred) (.ref C.barred)=some true
 nb:∀o,Em o=true->PySem.W.exmOne K (.ref (C.of o)) (.ref C.barred)=some false
 es:∀o,Em o=true->PySem.W.exmOne K (.ref (C.of o)) (.ref S)=some true
 v:∀o,Em o=true->PySem.W.kitOne K (.ref (C.of o)) (.type "ValueError")=some true
 kn:∀o,Em o=true->PySem.W.kitOne K (.ref (C.of o)) (.ref C.name)=some (decide (Hv o=0))
 kt:∀o,Em o=true->PySem.W.kitOne K (.ref (C.of o)) (.ref C.taken)=some (decide (Hv o=1))
 kf:∀o,Em o=true->PySem.W.kitOne K (.ref (C.of o)) (.ref C.full)=some (decide (Hv o=2))
 kp:∀o,Em o=true->PySem.W.kitOne K (.ref (C.of o)) (.ref C.place)=some (decide (Hv o=3))
structure LR (st:Nat) (late:Bool) (a:List Str):Prop where
 lt:st<26
 sub:∀y∈a,y∈Ba st late 14
 two:∀y∈a,a.count y=2
 len:a.length<=28
end SH
namespace L2
open PySem PySem.Spec PyProof.Rows
def K6 (K:PySem.W.Frag) (C S:Addr):Bool:=(PySem.W.clsIn K C).any λcd=>cd.hasDict&&cd.mro==Value.ref C::Value.ref S::El
structure InitAt (K:PySem.W.Frag) (x q:Str) (st:Stmt) (f:Str) (C fI S:Addr):Prop where
 a:PySem.W.nsIn K mainGlobals x=some (some (.ref C))
 m:∃fd,Fun K "__init__" q st fI fd
 e:excInI K C fI=true
 ga:PySem.W.findIn K (.ref C) "__getattribute__" = some (some (.builtin "BaseException.__getattribute__"))
 gn:PySem.W.findIn K (.ref C) "__getattr__" = some none
 cl:PySem.W.findIn K (.ref C) "__class__" = some (some (.builtin "object.__class__"))
 sb:PySem.W.subIn K (.ref C) (.type "BaseException")=some true
 so:PySem.W.subIn K (.ref C) (.type "object")=some true
 ss:PySem.W.subIn K (.ref C) (.ref C)=some true
 ic:PySem.W.isClsIn K C=true
 ty:PySem.W.typeIn K (.ref C)=some (.type "type")
 sa:PySem.W.findIn K (.ref C) "__setattr__" = some (some (.builtin "object.__setattr__"))
 no:PySem.W.findIn K (.ref C) f=some none
 mr:K6 K C S=true
section
variable {K:PySem.W.Frag}{x q f:Str}{st:Stmt}{C fI S:Addr}
theorem InitAt.of{oc:Value}{od an:Option Addr}{osl:Array (Option Value)}{kV doc pm cdv ct:Value}(a:PySem.W.nsIn K mainGlobals x=some (some (.ref C)))(i:PySem.W.findIn K (.ref C) "__init__" = some (some (.ref fI)))
  (l:K.lookup fI=some ⟨oc,od,.func (PySem.W.fnOf "__init__" q (Ec st) (Cu st) (defScope st) .none kV doc pm an cdv ct),osl⟩) (c:PySem.W.codeIn K cdv q=true) (k:PySem.W.keepIn K (.ref fI)=true) (e:excInI K C fI=true)
  (ga:PySem.W.findIn K (.ref C) "__getattribute__" = some (some (.builtin "BaseException.__getattribute__"))) (gn:PySem.W.findIn K (.ref C) "__getattr__" = some none) (cl:PySem.W.findIn K (.ref C) "__class__" = some (some (.builtin "object.__class__")))
  (sb:PySem.W.subIn K (.ref C) (.type "BaseException")=some true) (so:PySem.W.subIn K (.ref C) (.type "object")=some true) (ss:PySem.W.subIn K (.ref C) (.ref C)=some true) (ic:PySem.W.isClsIn K C=true) (ty:PySem.W.typeIn K (.ref C)=some (.type "type"))
  (sa:PySem.W.findIn K (.ref C) "__setattr__" = some (some (.builtin "object.__setattr__"))) (no:PySem.W.findIn K (.ref C) f=some none) (mr:K6 K C S=true):InitAt K x q st f C fI S:=
 ⟨a,⟨_,Xbm l c k⟩,e,ga,gn,cl,sb,so,ss,ic,ty,sa,no,mr⟩
theorem InitAt.ef(E:InitAt K x q st f C fI S):ExcF K C:=⟨E.ga,E.gn,E.cl,E.sb,E.so,E.ic⟩
theorem InitAt.k(E:InitAt K x q st f C fI S):ExK K C f:=by
 refine⟨?_,E.sa,E.no⟩;have h:=E.mr;unfold K6 at h;cases hc:PySem.W.clsIn K C with
 | none=>rw[hc] at h;cases h
 | some cd=>
  rw[hc] at h;have h':(cd.hasDict&&cd.mro==Value.ref C::Value.ref S::El)=true:=h;rw[Lv,beq_iff_eq] at h';exact⟨cd,[C,S],rfl,h'.2,h'.1⟩
end
end L2
namespace SH
open PySem PySem.Spec PyProof.Rows L2
end SH
namespace L2
open PySem PySem.Spec PyProof.Rows
section
variable {X:Cx}{pos np hpos:Pos}{b0:Stmt}{suite:List Stmt}{x:Str}{Cc:Addr}{th:TS}{rest:THd}{hs:List ExceptHandler}
def tHdN (K:PySem.W.Frag) (Cc:Addr) (th:TS) (rest:THd):THd:=λC dd D σ H=>∃b,PySem.W.exmOne K (.ref C) (.ref Cc)=some b/\if b=true then th D σ H else rest C dd D σ H
theorem Xe4(hg:Gl X x)(hm:X.mg x=some (.ref Cc))(hh:∀pn ex,PSs (X.suite pn ex) (b0::suite) th)(hr:PH X hs rest)(hdb:(x==("__debug__" : Str))=false:=by decide):
  PH X (.ExceptHandler (some (.Name x np)) none (b0::suite) hpos::hs) (tHdN X.K Cc th rest):=by
 intro pins ex c dd σ1 H1 B a0 s1 s5 D ok L h;obtain⟨b,hx,h⟩:=h;have hsubs':∀p∈X.pn++pins,p∈X.pn++pins++[]:=λp hp=>by simpa using hp
 obtain⟨h5,g5,d5,t5,o5⟩:=s5;have es:=L.as;have fl5:=L.fly;have I5:=L.step h5 s1.toks fl5.1.1 L.up;have I5S:Inv (X.suite (X.pn++pins) ex) [] σ1 H1 {s1 with heap:=h5}:=Inv.as (X:=X.re (X.pn++pins) X.A X.calm λ_ _=>True) I5 (λz=>absurd z (by decide)) ok.frames (λp hp=>hp);have LT:PySem.W.Looks (model X.prog X.w) h5 (typeOf (.ref ex)) (.ref c):=by
  obtain⟨ob,hob,hobc⟩:=fl5.1.there;rw[<-hobc];exact(PySem.W.Looks.ld hob).andThen .now
 rw[es];refine wpAny_handleBy_cons (codeAny_handlers_test ?_) (by intro q;cases q);refine D4 (X:=X.suite (X.pn++pins) ex) I5S (show Gl (X.suite (X.pn++pins) ex) x from hg) hm ?_ hdb;refine(PySem.W.exm_one (I5S.kIn) LT hx).here ?_;cases b with
 | false=>
  refine hr pins ex c dd σ1 H1 B a0 s1 _ D ok ⟨L.step,fl5,L.up,rfl,L.own⟩ ?_;exact h
 | true=>
  have hth:th D σ1 H1:=h;refine codeAny_handlers_suite (lands_againD fl5 λh6 fl6 up6=>?_);have up16:=L.up.trans up6;have I6:=L.step h6 s1.toks fl6.1.1 up16;have I6S:Inv (X.suite (X.pn++pins) ex) [] σ1 H1 {s1 with heap:=h6}:=Inv.as (X:=X.re (X.pn++pins) X.A X.calm λ_ _=>True) I6 (λz=>absurd z (by decide)) ok.frames (λp hp=>hp);refine wpAny_mono (hh (X.pn++pins) ex [] _ _ _ _ I6S hth) (λfl s9 q9=>?_) λ_ _ z=>z.elim;have goes:∀{σ':St} {H':Hp},Inv (X.suite (X.pn++pins) ex) [] σ' H' s9->Inv X pins σ' H' s9:=λJ=>J.back ok hsubs';cases fl with
  | next=>
   obtain⟨σ',H',J,q⟩:=q9;exact⟨σ',H',goes J,q⟩
  | brk=>
   obtain⟨σ',H',J,q⟩:=q9;exact⟨σ',H',goes J,q⟩
  | cont=>
   obtain⟨σ',H',J,q⟩:=q9;exact⟨σ',H',goes J,q⟩
  | ret u=>
   obtain⟨v, σ',H',J,r,q⟩:=q9;exact⟨v, σ',H',goes J,r,q⟩
end
theorem Xe5:∀{cs:List Addr} {its:List Value},Vals (cs.map V.ref) its->its=cs.map Value.ref
 | [],_,r=>by cases r;rfl
 | c::cs,_,r=>by
  cases r with
  | cons r1 r2=>cases r1;rw[Xe5 r2];rfl
section
variable {X:Cx}
theorem Xne(K:PySem.W.Frag)(hK:X.K=K):Bh X (.builtin "isinstance") (λxs H Q=>∃(a C:Addr) (dd:Option Addr) (t:Addr) (cs:List Addr) (b:Bool),xs=[.ref a,.ref t]/\H a=some (Dm a C dd)/\ExcF K C/\SqT K H t (cs.map V.ref)/\PySem.W.kitAny K (.ref C) (cs.map Value.ref)=some b/\Q (.bl b) H):=by
 subst hK;intro pins s σ H xs us Q I r h;obtain⟨a,C,dd,t,cs,b,rfl,ha,F,ht,e,q⟩:=h;obtain⟨u,v,rfl,ru,rv⟩:=r.two;cases ru;cases rv;obtain⟨its,rr,⟨o,ho,hc,n,hd⟩,_⟩:=I.tuple ht;obtain rfl:=Xe5 rr;obtain⟨⟨o2,vs,p1,p2,p3,_⟩,_⟩:=(show Ar X.prog X.w H s.heap a (.ext (Gk a C dd)) from I.hok a _ ha);obtain⟨oc,od,odt,osl⟩:=o;cases hc;cases hd;exact PySem.W.kia_tup (Xb2 F) I.kIn ⟨o2,vs,p1,p2,p3⟩ ho e (λz=>nomatch z) λtk=>⟨.bl b,H,I.tok _,rfl,q⟩
end
theorem Xnf{K:PySem.W.Frag}{a:Addr}{xs:List V}{g:TG}{tb:TS}{D:Ends}{σ:St}{H:Hp}(Pv:Nat->St->Hp->Prop)(h0:Pv 0 σ H)(hl:∀i σ H,i<=xs.length->Pv i σ H->SqL K H a xs)
  (hs:∀i x tp σ H,xs[i]? = some x->Pv i σ H->H tp=none->g (.ref tp) σ (upd H tp (.tup [.int i,x])) fun σ2 H2=>tb {D with nx:=Pv (i+1),ct:=Pv (i+1),bk:=D.nx} σ2 H2) (hd:∀σ H,Pv xs.length σ H->D.nx σ H):
  ∃W:Nat->Nat->St->Hp->Prop,(∃m,W 0 m σ H)/\∀i m σ H,W i m σ H ->
   ((Ite K a).stop i H/\D.nx σ H)\/((Ite K a).go i H/\∃N:St->Hp->Prop,(∀σ' H',N σ' H'->∃m',m'<m/\W (i+1) m' σ' H')/\∀x H',(Ite K a).yld i H x H'->g x σ H' fun σ2 H2=>tb {D with nx:=N,ct:=N,bk:=D.nx} σ2 H2):=by
 refine⟨λi m σ H=>m=xs.length - i/\i<=xs.length/\Pv i σ H,⟨xs.length,by simp,Mt _,h0⟩,?_⟩;rintro i m σ H ⟨rfl,hi,p⟩;have q:=hl i σ H hi p;by_cases hlt:i<xs.length
 ·refine .inr ⟨⟨xs,xs[i],q,by simp[hlt]⟩,Pv (i+1),fun σ' H' p'=>⟨xs.length - (i+1),by omega,rfl,hlt,p'⟩,?_⟩;rintro x H' ⟨tp,rfl,ht,hy⟩;obtain⟨y,hy1,rfl⟩:=hy xs q;exact hs i y tp σ _ hy1 p ht
 ·have e:i=xs.length:=by omega
  subst e;exact .inl ⟨⟨xs,q,Lk _⟩,hd σ H p⟩
end L2
namespace SH
open PySem PySem.Spec PyProof.Rows L2
theorem Xng{S:List Str}{x n:Str}:n∈Ay S x↔(n∈S/\n≠x)\/(x∉S/\n=x):=by
 unfold Ay;rw[E1,Ls,Mc,decide_eq_true_eq];by_cases h:x∈S
 ·rw[Pq h];simp[h]
 ·rw[Pp h];simp[h]
theorem Xe6(S:List Str)(x:Str):Fc S [x]=Ay S x:=by
 unfold Fc Ay;have e1:(S.filter λy => !decide (y∈[x]))=S.filter λy=>decide (y≠x):=by
  congr 1;funext y;by_cases z:y=x<;>simp[z]
 have e2:([x].filter λy => !decide (y∈S))=if x∈S then [] else [x]:=by
  by_cases z:x∈S<;>simp[z]
 rw[e1,e2]
theorem Xnh{S:List Str}(x:Str)(h:S.Nodup):(Ay S x).Pairwise ltS:=by
 rw[<-Xe6];exact Xnc h (by simp)
def spAcross:Sp:=λvs H Q _=>∃(p:Addr) (ss:List Str) (x:Str),vs=[.ref p,.str x]/\H p=some (.tup (ss.map V.str))/\ss.Nodup/\ss.length<16 /\
 ∀q H',H q=none->H' q=some (.tup ((Ay ss x).map V.str))->Same H H'->Q (.ref q) H'
theorem Xe7{row S:List Str}{x:Str}(hS:Al row S=true)(hx:x∈row):∀y∈Ay S x,y∈row:=λy hy=>by
 rcases Xng.mp hy with h | h
 ·exact(C2 hS).1 y h.1
 ·rw[h.2];exact hx
theorem Xe8{row S:List Str}{x:Str}(h2:∀y∈row,row.count y=2)(hS:Al row S=true)(hx:x∈row):B6 (bars row) (Ay S x)=Al row (Ay S x):=by
 rw[<-Hm h2];unfold Dw;have e:Ay S x=(dit row).filter λy=>decide (y∈Ay S x):=by
  refine Xmj (Xnh x (Xe2 hS)) ((G8 row).filter _) λy=>?_;rw[Mc,Ax,decide_eq_true_eq];exact⟨λh=>⟨Xe7 hS hx y h,h⟩,λh=>h.2⟩
 rw[Pr e,Mu]
def Bx (row:List Str):List Str->Nat->List Str->Nat ⊕ List Str
 | S,_,[]=>.inr S
 | S,i,x::r=>if Al row (Ay S x)=true then Bx row (Ay S x) (i+1) r else .inl i
def K7 (H:Hp) (dx:Addr) (n:Nat):Prop:=H dx=some (.ext (xdP dx [(Str.ofString "at",.int n)]))
def K8 (C:Addr):Sp:=λvs H Q E=>∃(r p:Addr) (row S:List Str) (x:Str) (n:Nat),vs=[.ref r,.ref p,.str x,.int n]/\H r=some (.lst (row.map V.str))/\Row2 row/\(dit row).length<=14/\H p=some (.tup (S.map V.str))/\Al row S=true/\x∈row /\
 (Al row (Ay S x)=true->∀q H',H' q=some (.tup ((Ay S x).map V.str))->Same H H'->Q (.ref q) H')/\(Al row (Ay S x)=false->∀dx H',K7 H' dx n->Same H H'->E (.ref C) (some dx) H')
structure LedC where
 plot:Addr
 ditch:Addr
 beside:Addr
def K9 (C:LedC):Sp:=λvs H Q E=>∃(r p s:Addr) (row S xs:List Str),vs=[.ref r,.ref p,.ref s]/\H r=some (.lst (row.map V.str))/\Row2 row/\(dit row).length<=14/\H p=some (.tup (S.map V.str))/\(∀y∈S,okN y)/\S.length<=24/\H s=some (.lst (xs.map V.str))/\(∀y∈xs,okN y) /\
 (Al row S=false->∀H',Same H H'->E (.ref C.plot) none H')/\(Al row S=true->(¬ ∀y∈xs,y∈row)->∀H',Same H H'->E (.ref C.ditch) none H') /\
 (Al row S=true->(∀y∈xs,y∈row)->(∀S',Bx row S 0 xs = .inr S'->∀q H',H' q=some (.tup (S'.map V.str))->Same H H'->Q (.ref q) H')/\∀i,Bx row S 0 xs = .inl i->∀dx H',K7 H' dx i->Same H H'->E (.ref C.beside) (some dx) H')
abbrev NSt:List Str:=["row", "plot", "name", "at", "over"]
abbrev NLe:List Str:=["row", "plot", "steps", "name", "here", "at"]
theorem La{row:List Str}:∀{xs:List Str} {S:List Str} {i k:Nat} {U:List Str},k<xs.length->Bx row S i (xs.take k) = .inr U ->
  Bx row S i (xs.take (k+1))=(if Al row (Ay U (xs.getD k Str.empty))=true then .inr (Ay U (xs.getD k Str.empty)) else .inl (i+k)) /\
  (Al row (Ay U (xs.getD k Str.empty))=false->Bx row S i xs = .inl (i+k))
 | [],_,_,_,_,h,_=>absurd h (Np _)
 | x::r,S,i,0,U,_,e=>by
  cases e;refine⟨?_,λh=>?_⟩
  ·rfl
  ·show (if _ then _ else _)=_;rw[Pp (by rw[show Al row (Ay S x)=false from h];decide)];rfl
 | x::r,S,i,k+1,U,h,e=>by
  have e':(if Al row (Ay S x)=true then Bx row (Ay S x) (i+1) (r.take k) else .inl i) = .inr U:=e;by_cases c:Al row (Ay S x)=true
  ·rw[Pq c] at e';obtain⟨a,b⟩:=La (i:=i+1) (Nat.lt_of_succ_lt_succ h) e';refine⟨?_,λz=>?_⟩
   ·show (if _ then _ else _)=_;rw[Pq c,show i+(k+1)=i+1+k by omega];exact a
   ·show (if _ then _ else _)=_;rw[Pq c,show i+(k+1)=i+1+k by omega];exact b z
  ·rw[Pp c] at e';cases e'
end SH
namespace L2
open PySem PySem.Spec PyProof.Rows
section
variable {X:Cx}
def Xni:V->List V->Hp->VK->Prop:=λx vs H Q=>∃(l:Addr) (xs:List V) (i:Nat) (y:V),x = .ref l/\vs=[.int i,y]/\H l=some (.lst xs)/\i<=xs.length/\xs.length<=1000/\Q .non (upd H l (.lst (xs.take i++y::xs.drop i)))
theorem Xe9:MtM X "list.insert" Xni:=by
 intro pins s σ H x vs v us Q I rx rv h;obtain⟨l,xs,i,y,rfl,rfl,hH,hi,hz0,q⟩:=h;cases rx;obtain⟨u1,u2,rfl,ru1,ru⟩:=rv.two;obtain⟨t,rfl⟩:=ru1;obtain⟨z,its,n,r,hl,e⟩:=I.lstM hH;have b1 : -(2 ^ 63)<=(i:Int):=by omega
 have b2:(i:Int)<2 ^ 63:=by omega
 have hfit:¬(!Builtin.List.listFitsIndex (i:Int))=true:=by
  rw[fitsIndex_both b1 b2];exact Lu
 have hsz:its.toArray.size<=sizeLine:=by rw[Lj,<-hl];exact z
 obtain⟨items,hit⟩:∃items,items=its.toArray:=⟨_,rfl⟩;obtain⟨x,hx⟩:∃x:Int,x=(i:Int):=⟨_,rfl⟩;rw[<-hit] at e hsz;rw[<-hx] at hfit ⊢;refine call_meets F.slot_list_insert ⟨_,e,rfl⟩ F.entry_list_insert (F.args_list_insert_3 _ _ _) (AutoSeq1.list_insert_list_int_val_1 l items n x t u2 hfit hsz) ⟨e,?_⟩;rw[hit] at e;refine⟨.non,_,I.lset (its':=its.take i++u2::its.drop i) hH e ?_ ?_ ?_,rfl,q⟩
 ·rw[hx];show ((its.toArray.extract 0 (if (i:Int)<0 then ((i:Int)+(its.toArray.size:Int)).toNat else min (i:Int).toNat its.toArray.size)).push u2++its.toArray.extract (if (i:Int)<0 then ((i:Int)+(its.toArray.size:Int)).toNat else min (i:Int).toNat its.toArray.size))=_;rw[Pp (by omega),Nc,Lj,N0 (by omega)];apply Array.toList_inj.mp;simp;exact Nb (by rw[Na];exact Lk _)
 ·exact(r.take i).append (.cons ru (r.drop i))
 ·rw[Ln,L4,Mb,Na,Po];omega
end
end L2
namespace SH
open PySem PySem.Spec PyProof.Rows L2
abbrev dN:Str×List Str:=(Str.empty,[])
def Nbs (H:Hp) (qs:List Addr) (xs:List (Str×List Str)):Prop:=qs.length=xs.length/\∀i,i<qs.length->∃p,H (qs.getD i 0)=some (.tup [.str (xs.getD i dN).1,.ref p])/\H p=some (.tup ((xs.getD i dN).2.map V.str))
theorem Nbs.keep{H H':Hp}{qs:List Addr}{xs:List (Str×List Str)}(h:Nbs H qs xs)(k:∀b w,H b=some (.tup w)->H' b=some (.tup w)):Nbs H' qs xs:=⟨h.1,λi hi=>let ⟨p,a,b⟩:=h.2 i hi; ⟨p,k _ _ a,k _ _ b⟩⟩
theorem Nbs.same{H H':Hp}{qs:List Addr}{xs:List (Str×List Str)}(h:Nbs H qs xs)(s:Same H H'):Nbs H' qs xs:=h.keep λ_ _ e=>s _ _ e
theorem Nbs.nil(H:Hp):Nbs H [] []:=⟨rfl,λi hi=>absurd hi (Np _)⟩
theorem Nbs.snoc{H:Hp}{qs:List Addr}{xs:List (Str×List Str)}{q p:Addr}{x:Str×List Str}(h:Nbs H qs xs)(h1:H q=some (.tup [.str x.1,.ref p]))(h2:H p=some (.tup (x.2.map V.str))):Nbs H (qs++[q]) (xs++[x]):=by
 refine⟨by rw[Ln,Ln,h.1];rfl,λi hi=>?_⟩;rw[Ln] at hi;have hi:i<qs.length+1:=hi;by_cases z:i<qs.length
 ·have z2:i<xs.length:=by rw[<-h.1];exact z
  rw[List.getD,List.getD,Oe z,Oe z2];exact h.2 i z
 ·have e:i=qs.length:=by omega
  subst e;refine⟨p,?_,?_⟩
  ·rw[List.getD,Nr (Lk _),Nat.sub_self,List.getD,h.1,Nr (Lk _),Nat.sub_self];exact h1
  ·rw[List.getD,h.1,Nr (Lk _),Nat.sub_self];exact h2
def dNb (q:Str×List Str):PyData:=.tuple [.str q.1,tupD q.2]
theorem Xfa{H:Hp}:∀{qs:List Addr} {xs:List (Str×List Str)},Nbs H qs xs->DAll H (xs.map dNb) (qs.map V.ref)
 | [],[],_=>Cv
 | [],x::xs,h=>by have:=h.1;simp at this
 | q::qs,[],h=>by have:=h.1;simp at this
 | q::qs,x::xs,h=>by
  obtain⟨p,h1,h2⟩:=h.2 0 (by simp);have h1:H q=some (.tup [.str x.1,.ref p]):=h1;have h2:H p=some (.tup (x.2.map V.str)):=h2;refine Cw ?_ (Xfa ⟨by simpa using h.1,λi hi=>h.2 (i+1) (by simpa using hi)⟩);unfold dNb DAt;exact⟨q,_,rfl,h1,Cw (by unfold DAt;rfl) (Cw (Ej h2) Cv)⟩
theorem Xnj{H:Hp}{l:Addr}{qs:List Addr}{xs:List (Str×List Str)}(h:H l=some (.lst (qs.map V.ref)))(n:Nbs H qs xs):DAt H (.list (xs.map dNb)) (.ref l):=Ke h (Xfa n)
theorem Fe{xs:List (Str×List Str)}(h:∀q∈xs,okN q.1/\∀y∈q.2,okN y):A9 (.list (xs.map dNb))=true:=plainAll_map dNb xs λq hq=>by
 show (A9 (.str q.1)&&(A9 (tupD q.2)&&true))=true;have a:(A9 (.str q.1)&&true)=true:=Xdp (ss:=[q.1]) λy hy=>by rw[Ly.mp hy];exact(h q hq).1
 rw[Bool.and_true] at a;have b:A9 (tupD q.2)=true:=Dx (h q hq).2;rw[a,b];rfl
theorem Nbs.at{H:Hp}{qs:List Addr}{xs:List (Str×List Str)}(h:Nbs H qs xs){i:Nat}(hi:i<qs.length):∃q∈xs,∃p,H (qs.getD i 0)=some (.tup [.str q.1,.ref p])/\H p=some (.tup (q.2.map V.str)):=by
 obtain⟨p,a,b⟩:=h.2 i hi;have hi':i<xs.length:=by rw[<-h.1];exact hi
 exact⟨xs.getD i dN,by rw[show xs.getD i dN=xs[i] by simp[List.getD,hi']];exact Me hi',p,a,b⟩
def Wys (row:List Str) (xs:List (Str×List Str)):Prop:=∀z∈xs,z.1∈row/\Al row z.2=true
theorem Wys.ok{row:List Str}{xs:List (Str×List Str)}(h:Wys row xs)(R:∀y∈row,okN y):∀z∈xs,okN z.1/\∀y∈z.2,okN y:=λz hz=>⟨R _ (h z hz).1,λy hy=>R y ((C2 (h z hz).2).1 y hy)⟩
def spWays:Sp:=λvs H Q _=>∃(b l p:Addr) (row S:List Str) (xs:List V),vs=[.ref b,.ref l,.ref p]/\H b=some (.lst xs)/\DAll H ((bars row).map trD) xs/\H l=some (.lst ((dit row).map V.str))/\Row2 row/\(dit row).length<=14/\H p=some (.tup (S.map V.str))/\Al row S=true /\
 ∀(D:Addr) (qs:List Addr) (zs:List (Str×List Str)) (H':Hp),H D=none->H' D=some (.lst (qs.map V.ref))->Nbs H' qs zs->Wys row zs->qs.length<=14->Same H H'->Q (.ref D) H'
def spOver:Sp:=λvs H Q _=>∃(r p:Addr) (row S:List Str),vs=[.ref r,.ref p]/\H r=some (.lst (row.map V.str))/\Row2 row/\(dit row).length<=14/\H p=some (.tup (S.map V.str))/\Al row S=true /\
 ∀(D:Addr) (qs:List Addr) (zs:List (Str×List Str)) (H':Hp),H D=none->H' D=some (.lst (qs.map V.ref))->Nbs H' qs zs->Wys row zs->qs.length<=14->Same H H'->Q (.ref D) H'
def Lb:Sp:=λvs H Q _=>∃(dr sc r p:Addr) (row S:List Str) (n:Nat),vs=[.ref dr,.ref r,.ref p,.int n]/\DrawOk H dr sc/\H r=some (.lst (row.map V.str))/\r≠dr/\Row2 row/\(dit row).length<=14/\H p=some (.tup (S.map V.str))/\Al row S=true/\n<=30 /\
 ∀(D:Addr) (xs:List Str) (H':Hp),H D=none->H' D=some (.lst (xs.map V.str))->(∀y∈xs,y∈row)->xs.length<=n->DrawOk H' dr sc->But dr H H'->Q (.ref D) H'
def Xfb (H:Hp) (t:Addr):Nat ⊕ List Str->Prop
 | .inl i=>H t=some (.tup [.str "beside",.int i])
 | .inr S=>∃q,H t=some (.tup [.str "told",.ref q])/\H q=some (.tup (S.map V.str))
def spLLed:Sp:=λvs H Q _=>∃(r p s:Addr) (row S xs:List Str),vs=[.ref r,.ref p,.ref s]/\H r=some (.lst (row.map V.str))/\Row2 row/\(dit row).length<=14/\H p=some (.tup (S.map V.str))/\Al row S=true/\H s=some (.lst (xs.map V.str))/\(∀y∈xs,y∈row)/\xs.length<=100 /\
 ∀(t:Addr) (H':Hp),H t=none->Xfb H' t (Bx row S 0 xs)->Same H H'->Q (.ref t) H'
abbrev NWy:List Str:=["_law_bars_here", "_law_names_here", "_law_plot", "_law_told", "_law_name", "_law_other"]
abbrev NWk:List Str:=["_law_draw", "_law_row_here", "_law_plot", "_law_many", "_law_steps_here", "_law_k", "_law_ways_here", "_law_name"]
abbrev NLl:List Str:=["_law_row_here", "_law_plot", "_law_steps_here", "_law_bars_here", "_law_at"]
theorem Hw{t u:TS}{D:Ends}{σ:L2.St}{H:Hp}(P:L2.St->Hp->Prop)(h2:∀σ' H',P σ' H'->u D σ' H')(h1:∀nx,(∀σ' H',P σ' H'->nx σ' H')->t {D with nx:=nx} σ H):Fm t u D σ H:=h1 (u D) h2
inductive O16 where
 | plot
 | ditch
 | beside (i:Nat)
 | told (S:List Str)
def o16D:O16->PyData
 | .plot=>.tuple [.str "plot",.none]
 | .ditch=>.tuple [.str "ditch",.none]
 | .beside i=>.tuple [.str "beside",.int i]
 | .told S=>.tuple [.str "told",tupD S]
def ofW:Nat ⊕ List Str->O16
 | .inl i=>.beside i
 | .inr S=>.told S
open Classical in
noncomputable def out16 (row S xs:List Str):O16:=if Al row S=true then (if ∀y∈xs,y∈row then ofW (Bx row S 0 xs) else .ditch) else .plot
theorem D0{H:Hp}{t:Addr}{w:Str}{d:PyData}{v:V}(h:H t=some (.tup [.str w,v]))(hv:DAt H d v):DAt H (.tuple [.str w,d]) (.ref t):=Hd h (Cw (by unfold DAt;rfl) (Cw hv Cv))
structure LedK (K:PySem.W.Frag) (C:LedC) (S:Addr):Prop where
 fb:ExcF K C.beside
 kb:ExK K C.beside "at"
 eb:PySem.W.exmOne K (.ref C.beside) (.ref C.beside)=some true
 db:PySem.W.exmOne K (.ref C.ditch) (.ref C.beside)=some false
 pb:PySem.W.exmOne K (.ref C.plot) (.ref C.beside)=some false
 dd:PySem.W.exmOne K (.ref C.ditch) (.ref C.ditch)=some true
 pd:PySem.W.exmOne K (.ref C.plot) (.ref C.ditch)=some false
 pp:PySem.W.exmOne K (.ref C.plot) (.ref C.plot)=some true
 ks:PySem.W.kitOne K (.ref C.beside) (.ref S)=some true
 kv:PySem.W.kitOne K (.ref C.beside) (.type "ValueError")=some true
 kn:PySem.W.kitAny K (.ref C.beside) ([C.ditch,C.plot].map Value.ref)=some false
def spSaid16:Sp:=λvs H Q _=>∃(r p s:Addr) (row S xs:List Str),vs=[.ref r,.ref p,.ref s]/\H r=some (.lst (row.map V.str))/\Row2 row/\(dit row).length<=14/\H p=some (.tup (S.map V.str))/\(∀y∈S,okN y)/\S.length<=24/\H s=some (.lst (xs.map V.str))/\(∀y∈xs,okN y) /\
 ∀(t:Addr) (H':Hp),DAt H' (o16D (out16 row S xs)) (.ref t)->Same H H'->Q (.ref t) H'
abbrev NSx:List Str:=["_law_row_here", "_law_plot", "_law_steps_here", "_law_said_here", "e"]
def Lc:Sp:=λvs H Q _=>∃(dr sc r p:Addr) (row S:List Str),vs=[.ref dr,.ref r,.ref p]/\DrawOk H dr sc/\H r=some (.lst (row.map V.str))/\r≠dr/\Row2 row/\(dit row).length<=14/\H p=some (.tup (S.map V.str))/\Al row S=true /\
 ∀(D:Addr) (xs:List Str) (H':Hp),H D=none->H' D=some (.lst (xs.map V.str))->(∀y∈xs,y∈row)->xs.length<=40->DrawOk H' dr sc->But dr H H'->Q (.ref D) H'
abbrev NSs:List Str:=["_law_draw", "_law_row_here", "_law_plot", "_law_names_here", "_law_way", "_law_many", "_law_steps_here"]
abbrev NSs1:List Str:=["_law_k", "_law_draw", "_law_names_here"]
end SH
namespace K16
open PySem PySem.Spec PyProof.Rows L2 SH
def top (i:Nat):Stmt:=PySem.Challenge.pw_shoretold_k16_where_walks_lead.main.body.getD i (.Pass ⟨0,0,0,0⟩)
abbrev sInit:Stmt:=(Xnd (top 4)).getD 0 (.Pass ⟨0,0,0,0⟩)
abbrev sAsk:Stmt:=top 6
abbrev sDitches:Stmt:=top 7
abbrev sEnds:Stmt:=top 8
abbrev sSpans:Stmt:=top 9
abbrev sLieOf:Stmt:=top 10
abbrev sTold:Stmt:=top 12
abbrev sAllows:Stmt:=top 13
abbrev sIsPlot:Stmt:=top 14
abbrev s_ask_plot:Stmt:=top 15
abbrev s_parting:Stmt:=top 17
abbrev s_across:Stmt:=top 18
abbrev s_stepped:Stmt:=top 19
abbrev s_led:Stmt:=top 21
abbrev sPick:Stmt:=top 23
abbrev s__law_one:Stmt:=top 24
abbrev s__law_flip:Stmt:=top 25
abbrev s__law_fits:Stmt:=top 26
abbrev s__law_ways:Stmt:=top 27
abbrev sWhere:Stmt:=top 28
abbrev sWord:Stmt:=top 29
abbrev s__law_bars:Stmt:=top 30
abbrev s__law_over:Stmt:=top 31
abbrev s__law_walked:Stmt:=top 32
abbrev sBegin:Stmt:=top 33
abbrev sPut:Stmt:=top 34
abbrev sBarred:Stmt:=top 35
abbrev sRow:Stmt:=top 36
abbrev sNames:Stmt:=top 37
abbrev sIsland:Stmt:=top 38
abbrev s__law_plots:Stmt:=top 39
abbrev s__law_led:Stmt:=top 40
abbrev s__law_stranger:Stmt:=top 41
abbrev s__law_odd_plot:Stmt:=top 42
abbrev s__law_good_plot:Stmt:=top 43
abbrev s__law_tuple:Stmt:=top 44
abbrev s__law_said:Stmt:=top 45
abbrev s__law_steps:Stmt:=top 46
abbrev s_law:Stmt:=top 47
abbrev NWo:List Str:=["_law_where_here", "_law_one_here", "_law_other", "_law_low", "_law_high", "_law_inner"]
abbrev NBc:List Str:=["_law_one_here", "_law_name", "_law_where_here"]
abbrev NFl1:List Str:=["_law_one_here", "_law_name"]
abbrev NFi:List Str:=["_law_bars_here", "_law_plot", "_law_one_here", "_law_other", "_law_word_here"]
abbrev NBr:List Str:=["_law_row_here", "_law_where_here", "_law_told", "_law_one_here", "_law_other", "_law_word_here"]
abbrev NPl:List Str:=["_law_row_here", "_law_bars_here", "_law_names_here", "_law_told", "_law_layer", "_law_k", "_law_fresh", "_law_plot", "_law_name", "_law_over_here"]
section
variable {P:Program}{w:World}{K:PySem.W.Frag}{mg:Str->Option Value}{base:Heap}
theorem Xnk:FnScope ["self", "at"] ["self", "at"] (defScope sInit):=⟨rfl,rfl,rfl,by decide +kernel,rfl,by decide +kernel,by decide +kernel⟩
theorem Xnl{f:Addr}{fd:FuncData}(F:Fun K "__init__" "NotBeside.__init__" sInit f fd):FnOk P w K mg base CX0 1 f fd ["self", "at"] (spInit K "at"):=by
 refine F.ok Xnk (λvs H Q E h=>?_) (λcdv A outer s H vs Q E hr h=>?_)
 ·obtain⟨a,C,y,rfl,_⟩:=h;rfl
 ·obtain⟨a,C,y,rfl,ha,c,k⟩:=h;refine⟨_,Ae (Xly rfl (pv 0) (pv 1) (by rfl)),?_⟩;exact⟨_,rfl,_,rfl,a,C,rfl,ha,c,k⟩
theorem Xfc:FnScope ["row", "name"] ["row", "name"] (defScope sAsk):=⟨rfl,rfl,rfl,by decide +kernel,rfl,by decide +kernel,by decide +kernel⟩
theorem Xnm{f C:Addr}{fd:FuncData}(F:Fun K "ask_ditch" "ask_ditch" sAsk f fd)(hC:mg "NoDitch" = some (.ref C))(hc:PySem.W.excIn K C bmV "ValueError.__new__" = true):
  FnOk P w K mg base (CX1 P w) 1 f fd ["row", "name"] (spAsk C):=by
 refine F.ok1 Xfc (λvs H Q E h=>?_) (λcdv A outer s H vs Q E hr h=>?_)
 ·obtain⟨r,row,x,rfl,_⟩:=h;rfl
 ·obtain⟨r,row,x,rfl,hR,⟨hx1,hx2⟩,kq,ke⟩:=h;refine⟨_,Ae (A3 (Ap Gw (pv 1) (pv 0) (by rfl))
   (Ae (Xbu (C:=C) (E:=E) hc rfl leaves1 (by rfl) hC (Aa (Jv (Ex (by decide +kernel) (Xcl (pv 1) (Ex (by decide +kernel) Ju)))) Ab))) A6),?_⟩
  refine⟨_,rfl,_,rfl,r,_,rfl,.inl (SqL.of hR),rfl,De row,_,rfl,?_⟩;rw[Dd];by_cases hx:x∈row
  ·refine Xbn hx ?_;exact kq hx H (Same.refl H)
  ·rw[Ps hx];refine iteT ?_;refine⟨_,rfl,x,rfl,by omega,(λc h=>Oz (hx2 c h) (by decide)),λz=>?_⟩;exact⟨by show 1<=sizeLine;decide,ke hx H (Same.refl H)⟩
theorem Xnn{f C:Addr}{fd:FuncData}(F:Fun K "ask_ditch" "ask_ditch" sAsk f fd)(hC:mg "NoDitch" = some (.ref C))(hc:PySem.W.excIn K C bmV "ValueError.__new__" = true):
  FnOk P w K mg base (CX2 P w) 1 f fd ["row", "name"] (spAsk C):=by
 refine F.ok2 Xfc (λvs H Q E h=>?_) (λcdv A outer s H vs Q E hr h=>?_)
 ·obtain⟨r,row,x,rfl,_⟩:=h;rfl
 ·obtain⟨r,row,x,rfl,hR,⟨hx1,hx2⟩,kq,ke⟩:=h;refine⟨_,Ae (A3 (Ap Gw (pv 1) (pv 0) (by rfl))
   (Ae (Xei (C:=C) (E:=E) hc rfl leaves2 (by rfl) hC (Aa (Jv (Ex (by decide +kernel) (Xcl (pv 1) (Ex (by decide +kernel) Ju)))) Ab))) A6),?_⟩
  refine⟨_,rfl,_,rfl,r,_,rfl,.inl (SqL.of hR),rfl,De row,_,rfl,?_⟩;rw[Dd];by_cases hx:x∈row
  ·refine Xbn hx ?_;exact kq hx H (Same.refl H)
  ·rw[Ps hx];refine iteT ?_;refine⟨_,rfl,x,rfl,by omega,(λc h=>Oz (hx2 c h) (by decide)),λz=>?_⟩;exact⟨by show 1<=sizeLine;decide,ke hx H (Same.refl H)⟩
theorem Xno:FnScope ["row"] ["row"] (defScope sDitches):=⟨rfl,rfl,rfl,by decide +kernel,rfl,by decide +kernel,by decide +kernel⟩
theorem Xnp{f:Addr}{fd:FuncData}(F:Fun K "ditches" "ditches" sDitches f fd)(T:Bl mg):FnOk P w K mg base CX0 1 f fd ["row"] spDitches:=by
 refine F.ok Xno (λvs H Q E h=>?_) (λcdv A outer s H vs Q E hr h=>?_)
 ·obtain⟨r,row,rfl,_⟩:=h;rfl
 ·obtain⟨r,row,rfl,hR,hl,k⟩:=h;refine⟨_,Ae (Am (A4 (G6 rfl) (by rfl) T.sorted (by rfl) (Aa (Bn (F8 rfl) (by rfl) T.set (by rfl) (Aa (pv 0) Ab)) Ab))),?_⟩;refine⟨_,rfl,r,row,rfl,.inl (SqL.of hR),by unfold scanBound;omega,λa na=>?_⟩;have hdl:=F6 row;refine⟨a,ddup row,rfl,Ac,by omega,λl ls nl hp hs=>?_⟩;have s1:Same H (upd H a (Dt P w a (ddup row))):=(Same.refl H).step na;refine k l _ (s1.free nl) ?_ (s1.step nl);rw[Ac,Ez hp hs];rfl
theorem Xfd:FnScope NEn ["row", "name"] (defScope sEnds):=⟨rfl,rfl,rfl,by decide +kernel,rfl,by decide +kernel,by decide +kernel⟩
theorem Xnq{f C:Addr}{fd:FuncData}(F:Fun K "ends" "ends" sEnds f fd)(T:Bl mg)(FA:Fn P w K mg base (CX1 P w) 1 "ask_ditch" ["row", "name"] (spAsk C)):
  FnOk P w K mg base (CX1 P w) 2 f fd ["row", "name"] (Kr C):=by
 refine F.ok1 Xfd (λvs H Q E h=>?_) (λcdv A outer s H vs Q E hr h=>?_)
 ·obtain⟨r,row,x,rfl,_⟩:=h;rfl
 ·obtain⟨r,row,x,rfl,hR,hx,hl,kq,ke⟩:=h;refine⟨_,Ad (C5 (Ai FA hr rfl pass1 (Aa (pv 0) (Aa (pv 1) Ab))))
   (Ad (Kd (i:=2) (N:=NEc) (cap:=[none,none,some 1]) (CompScope.of (defScope sEnds) NEn rfl rfl rfl (by decide +kernel)) rfl Xfd.nd rfl rfl
    (Xck (by rfl) T.enum (Aa (pv 0) Ab))
    (λ_ _ _=>J8 K 2 rfl rfl (Cj (A2 (i:=0) (show NEc.Nodup by decide +kernel) rfl (Or.inl rfl) (Or.inr rfl)) (Cj (A2 (i:=1) (show NEc.Nodup by decide +kernel) rfl (Or.inl rfl) (Or.inr rfl)) Fp)))
    (λ_ _ _=>F0 (Ap Bm (pv 1) (pv 2) (Au _))) (λ_ _ _=>pv 0))
   (Ae (Am (Be (Aa (Av Bb (pv 2) Ag (λ_ _=>rfl)) (Aa (Av Bb (pv 2) Ag (λ_ _=>rfl)) Ab)))))),?_⟩
  refine⟨_,rfl,_,rfl,r,row,x,rfl,hR,hx,λhin H1 s1=>?_,ke⟩;obtain⟨a,b,hab,kq⟩:=kq hin;refine⟨_,rfl,r,rfl,⟨_,SqL.of (s1 _ _ hR)⟩,?_⟩;refine Xjc (K:=K) (p:=0) (q:=1) (by decide) (SqL.of (s1 _ _ hR)) (by rw[Li,Po];omega) (λi=>decide (row.getD i Str.empty=x)) (λi=>.int i) ?_ ?_ ?_
  ·intro i v H2 Q' hv s2 k;obtain⟨y,rfl,hy⟩:∃y,v=V.str y/\row.getD i Str.empty=y:=by
    rw[Lz] at hv;cases q:row[i]? with
    | none=>rw[q] at hv;cases hv
    | some y=>rw[q] at hv;exact⟨y,(Lq hv).symm,by simp[List.getD,q]⟩
   refine⟨_,rfl,_,rfl,rfl,_,rfl,?_⟩;have:=k H2 (Same.refl _);rw[hy] at this;have e:decide (V.str y=V.str x)=decide (y=x):=by
    by_cases z:y=x
    ·rw[z];simp
    ·rw[Ps z,Ps (λq=>z (by injection q))]
   rw[e];exact this
  ·intro i v H2 Q' hv hk s2 k;exact⟨_,rfl,k H2 (Same.refl _)⟩
  ·intro D H2 nD s2 hD;have hD':H2 D=some (.lst [.int a,.int b]):=by
    rw[hD,Li];have:=congrArg (List.map V.int) ((Kq row x).trans hab);rw[Nw] at this;rw[show ((List.range row.length).filter λi=>decide (row.getD i Str.empty=x)).map (λi:Nat=>V.int (i:Int))=_ from this];rfl
   refine⟨_,rfl,_,_,_,_,rfl,rfl,SqL.of hD',rfl,_,rfl,_,_,_,_,rfl,rfl,SqL.of hD',rfl,by show 2<=sizeLine;decide,λp np=>?_⟩;have s3:=s1.trans s2;exact kq p _ (s3.free np) Ac (s3.step np)
theorem Xnr:FnScope ["row"] ["row"] (defScope sSpans):=⟨rfl,rfl,rfl,by decide +kernel,rfl,by decide +kernel,by decide +kernel⟩
theorem Xns{f C:Addr}{fd:FuncData}(F:Fun K "spans" "spans" sSpans f fd)(FD:Fn P w K mg base CX0 1 "ditches" ["row"] spDitches)(FE:Fn P w K mg base (CX1 P w) 2 "ends" ["row", "name"] (Kr C)):
  FnOk P w K mg base CX0 3 f fd ["row"] spSpans:=by
 refine F.ok Xnr (λvs H Q E h=>?_) (λcdv A outer s H vs Q E hr h=>?_)
 ·obtain⟨r,row,rfl,_⟩:=h;rfl
 ·obtain⟨r,row,rfl,hR,R2,k⟩:=h;have hr1:Room 1 _:=hr.mono (by decide);refine⟨_,Ae (Am (Xjm (N:=NSp) (cap:=[none,some 0]) (CompScope.of (defScope sSpans) ["row"] rfl rfl rfl (by decide +kernel)) rfl
   (Cd (Ai FD hr1 (by rfl) Aj (Aa (pv 0) Ab))) (λ_ _ _=>A2 (i:=0) (show NSp.Nodup by decide +kernel) rfl (Or.inl rfl) (Or.inr rfl)) (λ_ _ _=>Ew)
   (λ_ _ _=>pv 0) (λ_ _ _=>Ai (by exact FE) (by exact hr) (by rfl) Xjb (Aa (pv 1) (Aa (pv 0) Ab))))),?_⟩
  have hl:=R2.len;refine⟨_,rfl,r,row,rfl,hR,hl,λdi H1 ndi hdi s1=>?_⟩;refine⟨di,rfl,⟨_,SqL.of hdi⟩,λD nD=>?_⟩;have hn:∀i,i<(dit row).length->((dit row).map V.str).getD i .non = .str ((dit row).getD i Str.empty):=λi hi=>Cf V.str Str.empty _ hi;have hR1:=s1 _ _ hR;have hdl:=F9 row;refine⟨wN (dit row).length λi σ2 H2=>(∃v, σ2=[v,some (.ref r)])/\Same H1 H2/\∃kvs,H2 D=some (.dK kvs)/\Spn H2 kvs row ((dit row).take i),⟨(dit row).length,by simp,Mt _,⟨none,rfl⟩,(Same.refl H1).step nD,[],Ac,⟨rfl,λx hx=>by simp at hx⟩⟩,?_⟩;rintro i m σ1 H2 ⟨rfl,hi,⟨v,rfl⟩,s2,kvs,hD,sp⟩;by_cases hlt:i<(dit row).length
  ·have hlt':i<((dit row).map V.str).length:=by rw[Li];exact hlt
   obtain⟨g1,g2⟩:=Jw (K:=K) (SqL.of (s2 _ _ hdi)) hlt';refine .inr ⟨g1,λx H3 y=>?_⟩;obtain⟨e1,e2⟩:=g2 x H3 y;subst e1 e2;rw[hn i hlt];generalize hx:(dit row).getD i Str.empty=x;have hxd:x∈dit row:=by rw[<-hx];exact Co hlt
   have hxr:=Ax.mp hxd;have htk:(dit row).take (i+1)=(dit row).take i++[x]:=by
    rw[L7 hlt,<-hx];simp[List.getD,hlt]
   have hnx:x∉(dit row).take i:=by
    have nd:=G7 row;have h2:((dit row).take (i+1)).Nodup:=nd.sublist (Ob ..);rw[htk] at h2;exact λz=>(Nf.mp h2).2.2 x z x (by simp) rfl
   refine⟨_,rfl,_,rfl,_,rfl,r,row,x,rfl,s2 _ _ hR1,R2.ok x hxr,by omega,λ_=>⟨_,_,Ei (R2.two x hxr),λl H4 nl hl4 s4=>?_⟩,λz=>absurd hxr z⟩;have hD4:=s4 _ _ hD;have kl:kvs.length<=60:=by
    have:=sp.len;rw[Mb] at this;omega
   refine⟨kvs,Sum.inr x,rfl,hD4,by rw[Po];omega,?_⟩;refine wskip hlt ⟨⟨_,rfl⟩,λb u e=>?_,_,Ac,?_⟩
   ·rw[Af (Aq e nD)];exact s4 _ _ (s2 b u e)
   ·rw[htk];refine sp.snoc hnx ?_ λb xs e=>?_
    ·rw[Af (λz=>by rw[z,hD4] at hl4;cases hl4)];exact hl4
    ·have e4:=s4 _ _ e;rw[Af (λz=>by rw[z,hD4] at e4;cases e4)];exact e4
  ·have ei:i=(dit row).length:=by omega
   subst ei;refine .inl ⟨by have:=Jx (K:=K) (SqL.of (s2 _ _ hdi));rwa [Li] at this,?_⟩;rw[Mp] at sp;exact k D kvs H2 (s1.free nD) hD sp (s1.trans s2)
theorem Ld:FnScope NLo ["here", "there"] (defScope sLieOf):=⟨rfl,rfl,rfl,by decide +kernel,rfl,by decide +kernel,by decide +kernel⟩
theorem Xnt{f:Addr}{fd:FuncData}(F:Fun K "lie_of" "lie_of" sLieOf f fd):FnOk P w K mg base CX0 2 f fd ["here", "there"] Ks:=by
 refine F.ok Ld (λvs H Q E h=>?_) (λcdv A outer s H vs Q E hr h=>?_)
 ·obtain⟨p,q,a,b,c,e,rfl,_⟩:=h;rfl
 ·obtain⟨p,q,a,b,c,e,rfl,hp,hq,l4,k⟩:=h;refine⟨_,Ad (A3 (Ap (Xc8 (hu3 hr)) (pv 0) (pv 1) (Au _)) (Ae (Am A7)) A6)
   (Ad (Ak (i:=2) Ld.nd rfl (Or.inl rfl) (Xar B3 B3 (Av (Dc K (by rfl)) (pv 1) Ag (λ_ _=>rfl)) (Av (Dc K (by rfl)) (pv 0) Ag (λ_ _=>rfl)) (Av (Dc K (by rfl)) (pv 1) Ag (λ_ _=>rfl))))
   (Ad (Ak (i:=3) Ld.nd rfl (Or.inl rfl) (Xar B3 B3 (Av (Dc K (by rfl)) (pv 1) Ag (λ_ _=>rfl)) (Av (Dc K (by rfl)) (pv 0) Ag (λ_ _=>rfl)) (Av (Dc K (by rfl)) (pv 1) Ag (λ_ _=>rfl))))
   (Ad (A3 (Ap Fr (pv 2) (pv 3) (Au _)) (Ae (Am A7)) A6)
   (Ad (A3 (Cb (pv 2)) (Ae (Am A7)) A6)
   (Ae (Am (Gq (Xgd B3 B3 (Av (Dc K (by rfl)) (pv 0) Ag (λ_ _=>rfl)) (Av (Dc K (by rfl)) (pv 1) Ag (λ_ _=>rfl)) (Av (Dc K (by rfl)) (pv 0) Ag (λ_ _=>rfl))) A7 A7))))))),?_⟩
  have d2:∀{r:Addr} {x y:Int},H r=some (.tup [.int x,.int y])->DAt H (.tuple [.int x,.int y]) (.ref r):=λ{r x y} h=>Hd h (Xjo [x,y]);refine⟨_,rfl,_,rfl,.tuple [.int a,.int b],.tuple [.int c,.int e],d2 hp,d2 hq,rfl,rfl,(by show min (max 0 (max 0 0)+1) (max 0 (max 0 0)+1)<=3;decide),_,rfl,?_⟩;have ee:PyData.eqv (.tuple [.int a,.int b]) (.tuple [.int c,.int e])=decide (a=c/\b=e):=by
   rw[Mz,E4 _ _ rfl rfl];simp
  rw[ee];have kk:=k H (Same.refl H);refine Ao (λh1=>?_) (λh1=>?_)
  ·unfold lieT at kk;rw[Pq (Pt h1)] at kk;exact kk
  ·have h1:=Pu h1;dsimp only[Im,Fm,Iq,Az];refine Kt (x:=c) (y:=a) (z:=e) (λQ' h=>⟨_,rfl,q,_,_,_,rfl,rfl,SqT.of hq,rfl,h⟩) (λQ' h=>⟨_,rfl,p,_,_,_,rfl,rfl,SqT.of hp,rfl,h⟩) (λQ' h=>⟨_,rfl,q,_,_,_,rfl,rfl,SqT.of hq,rfl,h⟩) ?_;refine Kt (x:=c) (y:=b) (z:=e) (λQ' h=>⟨_,rfl,q,_,_,_,rfl,rfl,SqT.of hq,rfl,h⟩) (λQ' h=>⟨_,rfl,p,_,_,_,rfl,rfl,SqT.of hp,rfl,h⟩) (λQ' h=>⟨_,rfl,q,_,_,_,rfl,rfl,SqT.of hq,rfl,h⟩) ?_;refine⟨_,rfl,_,rfl,rfl,_,rfl,?_⟩;rw[Iu];refine Ao (λh2=>?_) (λh2=>?_)
   ·rw[Xkf h1 (by simpa using h2)] at kk;exact kk
   ·refine⟨_,rfl,_,rfl,?_⟩;refine Ao (λh3=>?_) (λh3=>?_)
    ·rw[Xkg h1 (by simpa using h2) h3] at kk;exact kk
    ·rw[Xkh l4 h1 (by simpa using h2) h3] at kk;dsimp only[Im,Xae,tIf,Iv];refine Kt (x:=a) (y:=c) (z:=b) (λQ' h=>⟨_,rfl,p,_,_,_,rfl,rfl,SqT.of hp,rfl,h⟩) (λQ' h=>⟨_,rfl,q,_,_,_,rfl,rfl,SqT.of hq,rfl,h⟩) (λQ' h=>⟨_,rfl,p,_,_,_,rfl,rfl,SqT.of hp,rfl,h⟩) ⟨_,rfl,?_⟩;refine Ao (λh4=>?_) (λh4=>?_)
     ·rw[Pq h4] at kk;exact kk
     ·rw[Pp (by rw[h4];exact Lu)] at kk;exact kk
theorem Xnu:FnScope ["names"] ["names"] (defScope sTold):=⟨rfl,rfl,rfl,by decide +kernel,rfl,by decide +kernel,by decide +kernel⟩
theorem Xnv{f:Addr}{fd:FuncData}(F:Fun K "told" "told" sTold f fd)(T:Bl mg):FnOk P w K mg base CX0 1 f fd ["names"] (spTold K):=by
 refine F.ok Xnu (λvs H Q E h=>?_) (λcdv A outer s H vs Q E hr h=>?_)
 ·obtain⟨p,ss,rfl,_⟩:=h;rfl
 ·obtain⟨p,ss,rfl,hR,hl,k⟩:=h;refine⟨_,Ae (Am (Bn Fw (by rfl) T.tuple (by rfl) (Aa (A4 (G6 rfl) (by rfl) T.sorted (by rfl) (Aa (Bn (F8 rfl) (by rfl) T.set (by rfl) (Aa (pv 0) Ab)) Ab)) Ab))),?_⟩;refine⟨_,rfl,p,ss,rfl,hR,by unfold scanBound;omega,λa na=>?_⟩;have hdl:=F6 ss;refine⟨a,ddup ss,rfl,Ac,by omega,λl ls nl hp hs=>?_⟩;have s1:Same H (upd H a (Dt P w a (ddup ss))):=(Same.refl H).step na;refine⟨l,_,rfl,.inl ⟨SqL.of Ac,λt nt=>?_⟩⟩;have s2:=s1.step (o:=.lst (ls.map V.str)) nl;refine k t _ (s2.free nt) ?_ (s2.step nt);rw[Ac,Ez hp hs];rfl
theorem Xnw:FnScope ["how", "off"] ["how", "off"] (defScope sAllows):=⟨rfl,rfl,rfl,by decide +kernel,rfl,by decide +kernel,by decide +kernel⟩
theorem Xnx{f:Addr}{fd:FuncData}(F:Fun K "allows" "allows" sAllows f fd):FnOk P w K mg base CX0 1 f fd ["how", "off"] spAllows:=by
 refine F.ok Xnw (λvs H Q E h=>?_) (λcdv A outer s H vs Q E hr h=>?_)
 ·obtain⟨how,off,rfl,_⟩:=h;rfl
 ·obtain⟨how,off,rfl,k⟩:=h;refine⟨_,Ad (A3 (Ap Bm (pv 0) A7 (Au _)) (Ae (Am (pv 1))) A6)
   (Ae (Am (Xac (D8 Fr (pv 0) A7 (Au _)) (Il (Xf2 (pv 1)))))),?_⟩
  refine⟨_,rfl,rfl,_,rfl,?_⟩;rw[Dg];unfold Bw at k;refine Ao (λq=>?_) (λq=>?_)
  ·rw[Pq (Pt q)] at k;exact⟨_,rfl,k⟩
  ·rw[Pp (Pu q)] at k;refine⟨_,rfl,rfl,_,rfl,?_⟩;rw[Dg];refine Ao (λq2=>?_) (λq2=>?_)
   ·rw[q2,Bool.true_or] at k;exact k
   ·rw[q2,Bool.false_or] at k;exact⟨_,rfl,off,rfl,k⟩
theorem Xfe:FnScope NIp ["row", "plot"] (defScope sIsPlot):=⟨rfl,rfl,rfl,by decide +kernel,rfl,by decide +kernel,by decide +kernel⟩
theorem Xny{f:Addr}{fd:FuncData}(F:Fun K "is_plot" "is_plot" sIsPlot f fd)(T:Bl mg)(FS:Fn P w K mg base CX0 3 "spans" ["row"] spSpans)(FO:Fn P w K mg base CX0 2 "lie_of" ["here", "there"] Ks)
  (FT:Fn P w K mg base CX0 1 "told" ["names"] (spTold K)) (FA:Fn P w K mg base CX0 1 "allows" ["how", "off"] spAllows):FnOk P w K mg base CX0 4 f fd ["row", "plot"] spIsPlot:=by
 refine F.ok Xfe (λvs H Q E h=>?_) (λcdv A outer s H vs Q E hr h=>?_)
 ·obtain⟨r,p,row,ss,rfl,_⟩:=h;rfl
 ·obtain⟨r,p,row,ss,rfl,hR,R2,hP,hok,hsl,k⟩:=h;have hu:=C9 hr;have hr1:Room 1 _:=hr.mono (by decide);have hr2:Room 2 _:=hr.mono (by decide);refine⟨_,Ad (Ak (i:=2) Xfe.nd rfl (Or.inr rfl) (Ai FS hr (by rfl) Aj (Aa (pv 0) Ab)))
   (Ad (A3 (Fl (Ap (Xc9 (hu3 hr)) (pv 1) (Ai FT hr1 (by rfl) Aj (Aa (pv 1) Ab)) (Au _))
     (Fk (Cb (A4 (Xjv rfl) (by rfl) T.any (by rfl) (Aa (Gc (N:=NI1) (cap:=[none,some 2]) (CompScope.of (defScope sIsPlot) NIp rfl rfl rfl (by decide +kernel)) rfl
      (Gs (pv 1)) (λ_ _ _=>A2 (i:=0) (show NI1.Nodup by decide +kernel) rfl (Or.inl rfl) (Or.inr rfl)) (λ_ _ _=>Ew) (λ_ _ _=>Xfy (Xhd (by exact hu) (pv 0) (pv 1)) (by rfl))) Ab))))).pt
    (Ae (Am Dp)) A6)
   (Ae (Am (A4 (Xbz rfl) (by rfl) T.all (by rfl) (Aa (Xjn (N:=NI2) (cap:=[none,none,some 1,some 2]) (CompScope.of (defScope sIsPlot) NIp rfl rfl rfl (by decide +kernel)) rfl
    (Gs (pv 1)) (λ_ _ _=>A2 (i:=0) (show NI2.Nodup by decide +kernel) rfl (Or.inl rfl) (Or.inr rfl)) (λ_ _ _=>Ew)
    (λ_ _ _=>Xjr (pv 3)) (λ_ _ _=>A2 (i:=1) (show NI2.Nodup by decide +kernel) rfl (Or.inl rfl) (Or.inr rfl)) (λ_ _ _=>Ew)
    (λ_ _ _=>Ai (by exact FA) (by exact hr1) (by rfl) Aj (Aa (Ai (by exact FO) (by exact hr2) (by rfl) Aj (Aa (Eu (by exact hu) (pv 3) (pv 0) (λ_ _=>rfl)) (Aa (Eu (by exact hu) (pv 3) (pv 1) (λ_ _=>rfl)) Ab)))
     (Aa (D8 (Xcx K (by rfl)) (pv 1) (pv 2) (by rfl)) Ab)))) Ab))))),?_⟩
  have hl:=R2.len;have hdl:=F9 row;refine⟨_,rfl,r,row,rfl,hR,R2,λd kvs H1 nd hd sp s1=>?_⟩;have hP1:=s1 _ _ hP;refine⟨_,rfl,_,rfl,p,ss,rfl,.inr (SqT.of hP1),hsl,λt H2 nt ht s2=>?_⟩;have s12:=s1.trans s2;have hP2:=s2 _ _ hP1;refine⟨_,_,Ej hP2,Ej ht,Du _ (Dx hok),Du _ (Dx (Xds hok)),Xdq _ _,_,rfl,?_⟩;rw[Xdr hok (Xds hok)];by_cases e1:ss=told ss
  ·rw[Pr e1];refine Bg ?_;refine⟨_,rfl,p,rfl,⟨_,SqT.of hP2⟩,?_⟩;have hd2:=s2 _ _ hd;have sp2:=sp.mono s2;refine Xcy (n:=ss.length) (by rw[Po];omega) (λi=>(ss.map V.str).getD i .non) (λi=>.bl (!decide (ss.getD i Str.empty∈row))) ?_ ?_ ?_ ?_
   ·intro i H3 hi s3;exact G2 (SqT.of (s3 _ _ hP2)) (by rw[Li];exact hi)
   ·intro H3 s3;have:=G3 (K:=K) (SqT.of (s3 _ _ hP2))
    rwa [Li] at this
   ·intro i H3 Q' hi s3 kk;rw[Cf V.str Str.empty ss hi];refine⟨_,rfl,_,rfl,d,_,rfl,.inl ⟨kvs,Sum.inr _,.inl (s3 _ _ hd2),rfl,rfl⟩,?_⟩;rw[sp2.has];exact kk H3 (Same.refl _)
   ·intro D H3 nD s3 hD;have hD':H3 D=some (.lst (((List.range ss.length).map λi => !decide (ss.getD i Str.empty∈row)).map V.bl)):=by rw[hD,Nw];rfl
    refine⟨D,_,rfl,hD',_,rfl,?_⟩;rw[Xkn Str.empty (λx => !decide (x∈row)) ss];have s13:=s12.trans s3;have e2:(ss.any λx => !decide (x∈row)) = !(ss.all λx=>decide (x∈row)):=by rw[List.not_all_eq_any_not]
    rw[e2];cases e3:ss.all (λx=>decide (x∈row)) with
    | false=>
     refine iteT ?_;have:=k H3 s13;unfold Al at this;rw[e3,Ow,Ms] at this;exact this
    | true=>
     refine Bg ?_;have hin:∀x∈ss,x∈row:=λx hx=>Pt (L9.mp e3 x hx);have hP3:=s3 _ _ hP2;have hd3:=s3 _ _ hd2;have sp3:=sp2.mono s3;refine⟨_,rfl,p,rfl,⟨_,SqT.of hP3⟩,λD2 nD2=>?_⟩;have kl:=sp3.len;have npd:p≠d:=λz=>by rw[z,hd3] at hP3;cases hP3
     have nrd:D2≠d:=(Aq hd3 nD2).symm;have hH0D:hid d H3 D2=none:=by
      unfold hid;rw[Pp nrd];exact nD2
     have hpin:hid d H3 p=some (.tup (ss.map V.str)):=hid_ne hP3 npd
     let part:Nat->List Bool:=λi=>(dit row).map λy=>Bw (lieR row (ss.getD i Str.empty) y) (decide (y∈ss))
     refine Xju (H0:=hid d H3) (xs0:=[]) (n:=ss.length) (λi=>.str (ss.getD i Str.empty)) (λi=>((List.range i).flatMap part).map PyData.bool) (λH4=>Rd H4 d (.dK kvs)) hH0D ((E5 d H3).trans ((Same.refl H3).step nD2)) (.inl (ku hd3 nD2)) Ac Cv
      (fun σ1=>∃v0 v1, σ1=[v0,v1,some (.ref p),some (.ref d)]) ⟨none,none,rfl⟩ ?_ ?_ ?_ ?_
     ·intro i H4 hi s4;have:=G2 (K:=K) (SqT.of (s4 _ _ hpin)) (show i<(ss.map V.str).length by rw[Li];exact hi)
      rwa [Cf V.str Str.empty ss hi] at this
     ·intro H4 s4;have:=G3 (K:=K) (SqT.of (s4 _ _ hpin))
      rwa [Li] at this
     ·rintro i σ1 xs H4 Q' hi ⟨v0,v1,rfl⟩ s4 g4 hD4 hal kk;have hxr:ss.getD i Str.empty∈row:=hin _ (Co hi);have main:∀(te':TE) (o:Obj) (H5:Hp),(∀(j:Nat) (H6:Hp) (Q2:VK) (l1 l2:Addr),j<(dit row).length->DGet H6 d (.str (ss.getD i Str.empty)) (some (.ref l1))->H6 l1=some (.tup [.int (pl row (ss.getD i Str.empty)).1,.int (pl row (ss.getD i Str.empty)).2]) ->
        DGet H6 d (.str ((dit row).getD j Str.empty)) (some (.ref l2))->H6 l2=some (.tup [.int (pl row ((dit row).getD j Str.empty)).1,.int (pl row ((dit row).getD j Str.empty)).2])->H6 p=some (.tup (ss.map V.str))->(∀H',Same H6 H'->Q2 (.bl (Bw (lieR row (ss.getD i Str.empty) ((dit row).getD j Str.empty)) (decide ((dit row).getD j Str.empty∈ss)))) H') ->
        te' [some (.str (ss.getD i Str.empty)),some (.str ((dit row).getD j Str.empty)),some (.ref p),some (.ref d)] H6 Q2)->H5 d=some (.frz o (.dK kvs))->Same (hid d H3) H5->H5 D2=some (.lst xs)->DAll (hid D2 H5) (((List.range i).flatMap part).map PyData.bool) xs ->
        tLp (Az 1) Ev (Ha te' D2) (Itd d o kvs) ([some (.str (ss.getD i Str.empty)),v1,some (.ref p),some (.ref d)]:L2.St) H5 Q':=λte' o H5 hte hd5 s5 hD5 hal5=>by
       have hpl:∀j,(part j).length<=60:=λj=>by
        show (List.map _ _).length<=60;rw[Li];omega
       have hacc:∀j,(((List.range j).flatMap part).map PyData.bool).length<=60 * j:=λj=>by
        rw[Li]
        induction j with
        | zero=>simp
        | succ j ih=>
         rw[Mw,O7,Ln,Ou,List.flatMap_nil,Mr];have:=hpl j;omega
       have hdin:hid D2 H5 d=some (.frz o (.dK kvs)):=hid_ne hd5 nrd.symm;have hsp:Spn (hid D2 H5) kvs row (dit row):=⟨sp3.keys,λx hx=>let ⟨l,h1,h2⟩:=sp3.val x hx; ⟨l,h1,hid_ne (s5 _ _ (hid_ne h2 (λz=>by rw[z,hd3] at h2;cases h2))) (λz=>by rw[z,nD2] at h2;cases h2)⟩⟩;have hpin5:hid D2 H5 p=some (.tup (ss.map V.str)):=hid_ne (s5 _ _ hpin) (λz=>by rw[z,nD2] at hP3;cases hP3);refine Xjt (H0:=hid D2 H5) (n:=(dit row).length) (λj=>.str ((dit row).getD j Str.empty)) (λ_=>true) (λj=>.bool (Bw (lieR row (ss.getD i Str.empty) ((dit row).getD j Str.empty)) (decide ((dit row).getD j Str.empty∈ss)))) (((List.range i).flatMap part).map PyData.bool)
        (Pq rfl) (E5 D2 H5) hD5 hal5 (by have:=hacc i;have h2:i<60:=(by omega);rw[Po];omega) ?_ ?_ ?_ ?_ ?_
       ·intro j H6 hj s6;have:=Xb5 (kvs:=kvs) (s6 _ _ hdin) (by omega:j<kvs.length)
        rwa [hsp.at j hj] at this
       ·intro H6 s6;have:=Xb6 (kvs:=kvs) (s6 _ _ hdin)
        rwa [kl] at this
       ·intro j H6 Q2 hj s6 k2;exact k2 H6 (Same.refl _)
       ·intro j xs' H6 Q2 hj _ s6 hD6 k2;have hyd:=Co hj;obtain⟨l1,g1,t1⟩:=(hsp.mono s6).get (.inr ⟨o,s6 _ _ hdin⟩) (Ax.mpr hxr);obtain⟨l2,g2,t2⟩:=(hsp.mono s6).get (.inr ⟨o,s6 _ _ hdin⟩) hyd;exact hte j H6 Q2 l1 l2 hj g1 t1 g2 t2 (s6 _ _ hpin5) λH' s'=>k2 _ _ s' (by unfold DAt;rfl)
       ·intro σ' H6 xs' e6 s6 hD6 hal6;refine kk σ' H6 xs' ?_ (λb u e=>?_) (.inr ⟨o,s6 _ _ hdin⟩) hD6 ?_
        ·have l1 : σ'.length=4:=by
          have:=congrArg List.length (e6 none);simpa using this
         match σ',l1,e6 with
         | [w0,w1,w2,w3],_,e6=>
          have:=e6 none;simp at this;exact⟨w0,w1,by rw[this.2.1,this.2.2]⟩
        ·refine s6 _ _ (hid_ne (s5 _ _ e) (λz=>?_));rw[z,hH0D] at e;cases e
        ·rw[Mx.mpr (λ_ _=>rfl)] at hal6;have em:(List.range (dit row).length).map (λj=>PyData.bool (Bw (lieR row (ss.getD i Str.empty) ((dit row).getD j Str.empty)) (decide ((dit row).getD j Str.empty∈ss))))=(part i).map PyData.bool:=by
          show _=((dit row).map _).map _;have this:=Gb Str.empty (λ_=>true) (dit row);rw[Mx.mpr (λ_ _=>rfl),Mx.mpr (λ_ _=>rfl)] at this
          conv=>rhs;rw[<-this]
          rw[Nw,Nw];rfl
         rw[em] at hal6;rw[Mw,O7,Lx,Ou,List.flatMap_nil,Mr];exact hal6
      rcases g4 with g4 | ⟨o,g4⟩
      ·refine⟨_,rfl,d,kvs,rfl,.inl ⟨g4,λo=>?_⟩⟩;refine main _ o _ (λj H6 Q2 l1 l2 hj g1 t1 g2 t2 hp6 k2=>⟨_,rfl,_,rfl,d,_,rfl,g1,_,rfl,_,rfl,d,_,rfl,g2,l1,l2,_,_,_,_,rfl,t1,t2,lie4 (R2.two _ hxr) (R2.two _ (Ax.mp (Co hj))),λH7 s7=>⟨_,rfl,_,rfl,p,_,rfl,.inr (SqT.of (s7 _ _ hp6)),rfl,De ss,_,_,rfl,by rw[Pp (by decide),Dd];exact k2 H7 s7⟩⟩) Ac (λb u e=>?_) (by rw[Af nrd];exact hD4) ?_
       ·rw[Af (λz=>by rw[z] at e;unfold hid at e;rw[Pq rfl] at e;cases e)];exact s4 _ _ e
       ·rw[Kw hal];have gb:∀bs:List Bool,DAll (hid D2 (upd H4 d (.frz o (.dK kvs)))) (bs.map PyData.bool) (bs.map V.bl):=λbs=>by
         induction bs with
         | nil=>exact Cv
         | cons b bs ih=>exact Cw (by unfold DAt;rfl) ih
        exact gb _
      ·exact⟨_,rfl,d,kvs,rfl,.inr ⟨o,g4,main _ o H4 (λj H6 Q2 l1 l2 hj g1 t1 g2 t2 hp6 k2=>⟨_,rfl,_,rfl,d,_,rfl,g1,_,rfl,_,rfl,d,_,rfl,g2,l1,l2,_,_,_,_,rfl,t1,t2,lie4 (R2.two _ hxr) (R2.two _ (Ax.mp (Co hj))),λH7 s7=>⟨_,rfl,_,rfl,p,_,rfl,.inr (SqT.of (s7 _ _ hp6)),rfl,De ss,_,_,rfl,by rw[Pp (by decide),Dd];exact k2 H7 s7⟩⟩) g4 s4 hD4 hal⟩⟩
     ·intro σ' H4 xs s4 g4 hD4 hal;have hx:=Kw hal;subst hx;refine⟨D2,_,rfl,hD4,?_⟩;have ef:((List.range ss.length).flatMap part).all id=ss.all λx=>(dit row).all λy=>Bw (lieR row x y) (decide (y∈ss)):=by
       have e5:(List.range ss.length).flatMap part=ss.flatMap λx=>(dit row).map λy=>Bw (lieR row x y) (decide (y∈ss)):=Xko Str.empty (λx=>(dit row).map λy=>Bw (lieR row x y) (decide (y∈ss))) ss;rw[e5,Xdt];congr 1;funext x;rw[List.all_map];rfl
      rw[ef];have s04:Same H H4:=λb u e=>s4 _ _ (hid_ne (s13 _ _ e) (λz=>by rw[z,nd] at e;cases e));have:=k H4 s04;unfold Al at this;rw[Pr e1,e3,Mu,Mu] at this;exact this
  ·rw[Ps e1];refine iteT ?_;have:=k H2 s12;unfold Al at this;rw[Ps e1,Ms,Ms] at this;exact this
theorem Xnz:FnScope ["row", "plot"] ["row", "plot"] (defScope s_ask_plot):=⟨rfl,rfl,rfl,by decide +kernel,rfl,by decide +kernel,by decide +kernel⟩
theorem Xn0{f C:Addr}{fd:FuncData}(F:Fun K "ask_plot" "ask_plot" s_ask_plot f fd)(hC:mg "NoPlot" = some (.ref C))(hc:PySem.W.excIn K C bmV "ValueError.__new__" = true)(FX:Fn P w K mg base CX0 4 "is_plot" ["row", "plot"] spIsPlot):
  FnOk P w K mg base (CX2 P w) 5 f fd ["row", "plot"] (spAskPlot C):=by
 refine F.ok2 Xnz (λvs H Q E h=>?_) (λcdv A outer s H vs Q E hr h=>?_)
 ·obtain⟨r,p,row,ss,rfl,_⟩:=h;rfl
 ·obtain⟨r,p,row,ss,rfl,hR,R2,hP,hok,hsl,kq,ke⟩:=h;refine⟨_,Ae (A3 (Gp (Cb (Ai FX hr (by rfl) Aj (Aa (pv 0) (Aa (pv 1) Ab)))))
   (Ae (Xei (C:=C) (E:=E) hc rfl leaves2 (by rfl) hC (Aa (Jv (Ex (by decide +kernel) (Xj5 hr (pv 1) (Ex (by decide +kernel) Ju)))) Ab))) A6),?_⟩
  refine⟨_,rfl,_,rfl,r,p,row,ss,rfl,hR,R2,hP,hok,by omega,λH1 s1=>⟨_,rfl,?_⟩⟩;cases e:Al row ss with
  | true=>exact Bg (kq e H1 s1)
  | false=>
   refine iteT ⟨_,rfl,p,ss,rfl,s1 _ _ hP,hsl,Xkx hok,λz=>?_⟩;exact⟨by show 1<=sizeLine;decide,ke e H1 s1⟩
theorem Xn1:FnScope ["one", "other"] ["one", "other"] (defScope s_parting):=⟨rfl,rfl,rfl,by decide +kernel,rfl,by decide +kernel,by decide +kernel⟩
theorem Xn2{f:Addr}{fd:FuncData}(F:Fun K "parting" "parting" s_parting f fd)(T:Bl mg):FnOk P w K mg base CX0 1 f fd ["one", "other"] spParting:=by
 refine F.ok Xn1 (λvs H Q E h=>?_) (λcdv A outer s H vs Q E hr h=>?_)
 ·obtain⟨p,q,a,b,rfl,_⟩:=h;rfl
 ·obtain⟨p,q,a,b,rfl,hP,hQ,na,nb,la,lb,k⟩:=h;refine⟨_,Ae (Am (A4 (G6 rfl) (by rfl) T.sorted (by rfl) (Aa (An Xnb (Bn (F8 rfl) (by rfl) T.set (by rfl) (Aa (pv 0) Ab)) (Bn (F8 rfl) (by rfl) T.set (by rfl) (Aa (pv 1) Ab))) Ab))),?_⟩;refine⟨_,rfl,p,a,rfl,.inr (SqT.of hP),by unfold scanBound;omega,λa1 n1=>?_⟩;refine⟨_,rfl,q,b,rfl,.inr (SqT.of (ku hQ n1)),by unfold scanBound;omega,λa2 n2=>?_⟩;have pa:=Hk na;have pb:=Hk nb;refine⟨a1,a2,_,_,rfl,rfl,ku Ac n2,Ac,F5 a,F5 b,by rw[pa.length_eq];exact la,by rw[pb.length_eq];exact lb,λc zs nc ndz lz mz=>?_⟩;refine⟨c,zs,rfl,Ac,by omega,λl ls nl pl so=>?_⟩;refine k l _ ?_ ?_ ?_
  ·exact(((Same.refl H).step n1).step n2).free ((Same.refl _).step nc |>.free nl)
  ·rw[Ac,Ez pl so,xor_srt na nb ndz λy=>by rw[mz,pa.mem_iff,pb.mem_iff]]
  ·exact((((Same.refl H).step n1).step n2).step nc).step nl
theorem Xn3:FnScope ["plot", "name"] ["plot", "name"] (defScope s_across):=⟨rfl,rfl,rfl,by decide +kernel,rfl,by decide +kernel,by decide +kernel⟩
theorem Xn4{f:Addr}{fd:FuncData}(F:Fun K "across" "across" s_across f fd)(B:Bl mg)(FP:Fn P w K mg base CX0 1 "parting" ["one", "other"] spParting):FnOk P w K mg base CX0 2 f fd ["plot", "name"] spAcross:=by
 refine F.ok Xn3 (λvs H Q E h=>?_) (λcdv A outer s H vs Q E hr h=>?_)
 ·obtain⟨p,ss,x,rfl,_⟩:=h;rfl
 ·obtain⟨p,ss,x,rfl,hp,nd,hl,k⟩:=h;have hr1:Room 1 _:=hr.mono (by decide);refine⟨_,Ae (Am (Bn Fw (by rfl) B.tuple (by rfl) (Aa (Ai FP hr1 (by rfl) Aj (Aa (pv 0) (Aa (Be (Aa (pv 1) Ab)) Ab))) Ab))),?_⟩;refine⟨_,rfl,_,rfl,by show 1<=sizeLine;decide,λt nt=>?_⟩;refine⟨p,t,ss,[x],rfl,ku hp nt,Ac,nd,by simp,hl,by show 1<16;decide,λl H1 nl hl1 s1=>?_⟩;rw[Xe6] at hl1;refine⟨l,_,rfl,.inl ⟨SqL.of hl1,λq nq=>?_⟩⟩;have s0:=((Same.refl H).step nt (o:=.tup [.str x])).trans s1;exact k q _ (s0.free nq) Ac (s0.step nq)
theorem Xff:FnScope NSt ["row", "plot", "name", "at"] (defScope s_stepped):=⟨rfl,rfl,rfl,by decide +kernel,rfl,by decide +kernel,by decide +kernel⟩
theorem Xn5{f C fI:Addr}{fd fdI:FuncData}(F:Fun K "stepped" "stepped" s_stepped f fd)(hC:mg "NotBeside" = some (.ref C))(hc:excInI K C fI=true)(hk:ExK K C "at")(FI:FnOk P w K mg base CX0 1 fI fdI ["self", "at"] (spInit K "at"))(hb:Binds K fdI ["self", "at"] [])
  (FX:Fn P w K mg base CX0 2 "across" ["plot", "name"] spAcross) (FP:Fn P w K mg base CX0 4 "is_plot" ["row", "plot"] spIsPlot):FnOk P w K mg base (CX2 P w) 5 f fd ["row", "plot", "name", "at"] (K8 C):=by
 refine F.ok2 Xff (λvs H Q E h=>?_) (λcdv A outer s H vs Q E hr h=>?_)
 ·obtain⟨r,p,row,S,x,n,rfl,_⟩:=h;rfl
 ·obtain⟨r,p,row,S,x,n,rfl,hR,R2,h14,hp,hS,hx,kq,ke⟩:=h;have hr2:Room 2 _:=hr.mono (by decide);refine⟨_,Ad (Ak (i:=4) Xff.nd rfl (Or.inl rfl) (Ai FX hr2 (by rfl) Aj (Aa (pv 1) (Aa (pv 2) Ab))))
   (Ad (A3 (Gp (Cb (Ai FP hr (by rfl) Aj (Aa (pv 0) (Aa (pv 4) Ab)))))
    (Ae (Xl4 (C:=C) (f := "at") (E:=E) hc rfl rfl hk leaves3 (by rfl) hC FI hr2 hb (Aa (pv 3) Ab))) A6)
   (Ae (Am (pv 4)))),?_⟩
  have hl:=Fb hS;refine⟨_,rfl,_,rfl,p,S,x,rfl,hp,Xe2 hS,by omega,λq H1 nq hq s1=>?_⟩;have okF:∀y∈Ay S x,okN y:=λy hy=>R2.ok y (Xe7 hS hx y hy);have lF:=Xdu S x;dsimp only[Az];refine⟨_,rfl,_,rfl,r,q,row,Ay S x,rfl,s1 _ _ hR,R2,hq,okF,by omega,λH2 s2=>⟨_,rfl,?_⟩⟩;have s12:=s1.trans s2;cases hv:Al row (Ay S x) with
  | true=>exact Bg ⟨_,rfl,kq hv q H2 (s2 _ _ hq) s12⟩
  | false=>
   refine iteT ⟨_,rfl,_,rfl,λex dx nex ndx ne=>?_⟩;have up:∀b u,H2 b=some u->hid ex (upd (upd (upd H2 ex (.ext (Dl ex C))) ex (.ext (B8 ex C dx))) dx (.ext (xdP dx [(Str.ofString "at",.int n)]))) b=some u:=λb u e=>by
    unfold hid;rw[Pp (Aq e nex),Af (Aq e ndx),Af (Aq e nex),Af (Aq e nex)];exact e
   refine ke hv dx _ ?_ λb u e=>up _ _ (s12 _ _ e);show hid ex _ dx=_;unfold hid;rw[Pp ne];exact Ac
theorem Ff:FnScope NLe ["row", "plot", "steps"] (defScope s_led):=⟨rfl,rfl,rfl,by decide +kernel,rfl,by decide +kernel,by decide +kernel⟩
theorem Xn6{f:Addr}{fd:FuncData}{C:LedC}(F:Fun K "led" "led" s_led f fd)(T:Bl mg)(FA:Fn P w K mg base (CX2 P w) 5 "ask_plot" ["row", "plot"] (spAskPlot C.plot))(FD:Fn P w K mg base (CX2 P w) 1 "ask_ditch" ["row", "name"] (spAsk C.ditch))(FS:Fn P w K mg base (CX2 P w) 5 "stepped" ["row", "plot", "name", "at"] (K8 C.beside)):
  FnOk P w K mg base (CX2 P w) 6 f fd ["row", "plot", "steps"] (K9 C):=by
 refine F.ok2 Ff (λvs H Q E h=>?_) (λcdv A outer s H vs Q E hr h=>?_)
 ·obtain⟨r,p,s,row,S,xs,rfl,_⟩:=h;rfl
 ·obtain⟨r,p,st,row,S,xs,rfl,hR,R2,h14,hp,okS,hSl,hX,okX,kp,kd,kw⟩:=h;have hr1:Room 1 _:=hr.mono (by decide);refine⟨_,Ad (C5 (Ai FA hr (by rfl) pass2 (Aa (pv 0) (Aa (pv 1) Ab))))
   (Ad (Bq PassesOwn.leaving rfl (Cd (pv 2)) (A2 (i:=3) Ff.nd rfl (Or.inl rfl)) (Ae (C5 (Ai FD hr1 (by rfl) pass2 (Aa (pv 0) (Aa (pv 3) Ab))))))
   (Ad (Ak (i:=4) Ff.nd rfl (Or.inl rfl) (pv 1))
   (Ad (Bq PassesOwn.leaving rfl (Xck (by rfl) T.enum (Aa (pv 2) Ab)) (J8 K 2 rfl rfl (Cj (A2 (i:=5) Ff.nd rfl (Or.inl rfl)) (Cj (A2 (i:=3) Ff.nd rfl (Or.inl rfl)) Fp)))
    (Ae (Ak (i:=4) Ff.nd rfl (Or.inl rfl) (Ai FS hr (by rfl) pass2 (Aa (pv 0) (Aa (pv 4) (Aa (pv 3) (Aa (pv 5) Ab))))))))
   (Ae (Am (pv 4)))))),?_⟩
  refine⟨_,rfl,_,rfl,r,p,row,S,rfl,hR,R2,hp,okS,hSl,λhS H1 s1=>?_,kp⟩;refine⟨_,rfl,st,rfl,⟨_,SqL.of (s1 _ _ hX)⟩,?_⟩;refine C7 (K:=K) (a:=st) (xs:=xs.map V.str) (λi σ H'=>∃v3, σ=[some (.ref r),some (.ref p),some (.ref st),v3,none,none]/\Same H H'/\∀y∈xs.take i,y∈row) ?_ ?_ ?_ ?_
  ·exact⟨_,rfl,s1,λy hy=>by simp at hy⟩
  ·rintro i σ H' _ ⟨v3,rfl,s',_⟩;exact SqL.of (s' _ _ hX)
  ·rintro i v σ H' hv ⟨v3,rfl,s',hin⟩;obtain⟨x,rfl,hx,hm⟩:∃x,v=V.str x/\xs[i]? = some x/\x∈xs:=by
    rw[Lz] at hv;cases z:xs[i]? with
    | none=>rw[z] at hv;cases hv
    | some x=>rw[z] at hv;exact⟨x,(Lq hv).symm,rfl,M8 z⟩
   refine⟨_,rfl,_,rfl,r,row,x,rfl,s' _ _ hR,okX x hm,λhxr H'' s''=>?_,λhxr H'' s''=>?_⟩
   ·refine⟨_,rfl,s'.trans s'',λy hy=>?_⟩;obtain⟨hi,e⟩:=L3.mp hx;rw[L7 hi,e] at hy;rcases Ls.mp hy with z | z
    ·exact hin y z
    ·rw[Ly.mp z];exact hxr
   ·exact kd hS (λh=>hxr (h x hm)) H'' (s'.trans s'')
  ·rintro σ H2 ⟨v3,rfl,s2,hin⟩;rw[Li,Mp] at hin;obtain⟨kq,ke⟩:=kw hS hin;dsimp only[Az];refine⟨_,rfl,?_⟩;dsimp only[Az];refine⟨_,rfl,st,rfl,⟨_,SqL.of (s2 _ _ hX)⟩,?_⟩;refine Xnf (K:=K) (a:=st) (xs:=xs.map V.str) (λi σ H'=>∃(v3 v5:Option V) (q:Addr) (U:List Str), σ=[some (.ref r),some (.ref p),some (.ref st),v3,some (.ref q),v5]/\Same H H'/\H' q=some (.tup (U.map V.str))/\Al row U=true/\Bx row S 0 (xs.take i) = .inr U) ?_ ?_ ?_ ?_
   ·exact⟨_,_,p,S,rfl,s2,s2 _ _ hp,hS,by rw[List.take_zero];rfl⟩
   ·rintro i σ H' _ ⟨v3,v5,q,U,rfl,s',_⟩;exact SqL.of (s' _ _ hX)
   ·rintro i v tp σ H' hv ⟨v3,v5,q,U,rfl,s',hq,hU,hw⟩ ntp;obtain⟨x,rfl,hx⟩:∃x,v=V.str x/\xs[i]? = some x:=by
     rw[Lz] at hv;cases z:xs[i]? with
     | none=>rw[z] at hv;cases hv
     | some x=>rw[z] at hv;exact⟨x,(Lq hv).symm,rfl⟩
    obtain⟨hi,e⟩:=L3.mp hx;have eD:xs.getD i Str.empty=x:=by rw[<-e];simp[List.getD,hi]
    obtain⟨w1,w2⟩:=La hi hw;rw[eD,O1] at w1 w2;have s3:Same H' (upd H' tp (.tup [.int i,.str x])):=(Same.refl H').step ntp;have ht:upd H' tp (.tup [.int i,.str x]) tp=some (.tup [.int i,.str x]):=Ac;generalize upd H' tp (.tup [.int i,.str x])=H3 at s3 ht;have s03:=s'.trans s3;refine⟨tp,_,rfl,SqT.of ht,rfl,_,_,rfl,_,_,rfl,rfl,?_⟩;dsimp only[Az];refine⟨_,rfl,_,rfl,_,rfl,_,rfl,r,q,row,U,x,i,rfl,s03 _ _ hR,R2,h14,s3 _ _ hq,hU,hin x (by rw[<-e];exact Me hi),λhv q2 H4 hq2 s4=>?_,λhv dx H4 at4 s4=>ke i (w2 hv) dx H4 at4 (s03.trans s4)⟩;rw[Pq hv] at w1;exact⟨_,_,q2,Ay U x,rfl,s03.trans s4,hq2,hv,w1⟩
   ·rintro σ H' ⟨v3,v5,q,U,rfl,s',hq,hU,hw⟩;rw[Li,Mp] at hw;exact⟨_,rfl,kq U hw q H' hq s'⟩
theorem Lf:FnScope NP ["_law_draw", "_law_many"] (defScope sPick):=⟨rfl,rfl,rfl,by decide +kernel,rfl,by decide +kernel,by decide +kernel⟩
theorem Xn7{f:Addr}{fd:FuncData}(F:Fun K "_law_pick" "_law_pick" sPick f fd)(T:Bl mg):FnOk P w K mg base CX0 1 f fd ["_law_draw", "_law_many"] Xdd:=by
 refine F.ok Lf (λvs H Q E h=>?_) (λcdv A outer s H vs Q E hr h=>?_)
 ·obtain⟨dr,sc,n,rfl,_⟩:=h;rfl
 ·obtain⟨dr,sc,n,rfl,hn0,hn1,⟨ns,p,c,m,k,hd,hs,hp,hl,hm0,hm1⟩,kk⟩:=h;have nds:dr≠sc:=by
   intro e;subst e;rw[hd] at hs;cases ns with
   | nil=>cases hs
   | cons a r=>cases hs
  refine Xi7 (fun σ' H'=>∃x y p c m, σ'=[some (.ref dr),some (.int n),x,y]/\H' dr=some (.lst [.ref sc,.int (p:Nat),.int c,.int m,.int k])/\p<=ns.length/\0<=m/\m<1000000007/\∀b o,H b=some o->b≠dr->H' b=some o) ?_ ?_
  ·-- the rest
   refine⟨_,Ad (A3 (Ap Xaq (Av Bb (pv 0) Ag (λ_ _=>rfl)) (pv 1) (Au _))
     (Ad (Ak (i:=3) Lf.nd rfl (Or.inl rfl) (An Ep (Av Bb (pv 0) Ag (λ_ _=>rfl)) (pv 1)))
     (Ad (C6 (An Xak (Av Bb (pv 0) Ag (λ_ _=>rfl)) (pv 1)) (D6 (pv 0) Ag Ea))
     (Ae (Am (pv 3))))) A6)
    (Ad (C6 (An Bk (Av Bb (pv 0) Ag (λ_ _=>rfl)) Ag) (D6 (pv 0) Ag Ea))
    (Ad (C6 (An Ep (An Bk (An Bk (An Xal (Av Bb (pv 0) Ag (λ_ _=>rfl)) Ag) (An Xaj Ag (Av Bb (pv 0) Ag (λ_ _=>rfl)))) Ag) Ag) (D6 (pv 0) Ag Ea))
    (Ae (Am (An Ep (An Xak (Av Bb (pv 0) Ag (λ_ _=>rfl)) Ag) (pv 1)))))),?_⟩
   rintro σ' H' ⟨x,y,p,c,m,rfl,hd',hp',hm0',hm1',kp⟩;refine⟨_,rfl,dr,_,_,_,rfl,rfl,SqL.of hd',rfl,_,rfl,_,_,rfl,rfl,_,rfl,?_⟩;refine Ao (λhc=>?_) (λhc=>?_)
   ·-- got
    refine⟨_,rfl,dr,_,_,_,rfl,rfl,SqL.of hd',rfl,_,rfl,_,_,rfl,rfl,hn0,?_⟩;refine⟨_,rfl,dr,_,_,_,rfl,rfl,SqL.of hd',rfl,_,rfl,_,_,rfl,rfl,⟨hn0,by omega⟩,?_⟩;refine⟨_,rfl,dr,_,_,2,rfl,rfl,hd',rfl,?_⟩;refine⟨_,rfl,?_⟩;refine kk _ _ (Op _ (by omega)) (N8 _ hn0) ⟨⟨ns,p,c / n,m,k,Ac,?_,hp',hl,hm0',hm1'⟩⟩ λb o e hb=>by rw[Af hb];exact kp b o e hb
    rw[Af nds.symm];exact kp _ _ hs nds.symm
   ·refine⟨_,rfl,dr,_,_,_,rfl,rfl,SqL.of hd',rfl,_,_,rfl,rfl,?_⟩;refine⟨_,rfl,dr,_,_,4,rfl,rfl,hd',rfl,?_⟩;refine⟨_,rfl,dr,_,_,_,rfl,rfl,SqL.of Ac,rfl,_,_,rfl,rfl,cpow3 hm0' hm1',?_⟩;refine⟨_,rfl,dr,_,_,_,rfl,rfl,SqL.of Ac,rfl,_,_,rfl,rfl,.inl ⟨by decide,by decide⟩,_,_,rfl,rfl,_,_,rfl,rfl,_,_,rfl,rfl,(by show (0:Int)<1000000007;decide),?_⟩;refine⟨_,rfl,dr,_,_,3,rfl,rfl,Ac,rfl,?_⟩;refine⟨_,rfl,dr,_,_,_,rfl,rfl,SqL.of Ac,rfl,_,_,rfl,rfl,⟨by decide,by decide⟩,_,rfl,_,_,rfl,rfl,hn0,?_⟩;refine kk _ _ (Op _ (by omega)) (N8 _ hn0) ⟨⟨ns,p,c,_,k+1,Ac,?_,hp',hl,Op _ (by decide),N8 _ (by decide)⟩⟩ λb o e hb=>by rw[Af hb,Af hb];exact kp b o e hb
    rw[Af nds.symm,Af nds.symm];exact kp _ _ hs nds.symm
  ·intro nx hnx;refine⟨_,A3 (Ct (Ap B3 (Av Bb (pv 0) Ag (λ_ _=>rfl)) (pv 1) (Au _)) (C4 (Ap B3 (Av Bb (pv 0) Ag (λ_ _=>rfl)) (A4 Bt (by rfl) T.len boot_len (Aa (Av Bb (pv 0) Ag (λ_ _=>rfl)) Ab)) (Au _)))).pt
     (Ad (Ak (i:=2) Lf.nd rfl (Or.inl rfl) (Av Bb (Av Bb (pv 0) Ag (λ_ _=>rfl)) (Av Bb (pv 0) Ag (λ_ _=>rfl)) (λ_ _=>rfl)))
     (Ad (C6 (An Bk (Av Bb (pv 0) Ag (λ_ _=>rfl)) Ag) (D6 (pv 0) Ag Ea))
     (Ad (C6 Ag (D6 (pv 0) Ag Ea))
     (Ae (A3 (Ap Xaq (pv 2) (An Xal Ag Ag) (Au _))
      (Ae (C6 (pv 2) (D6 (pv 0) Ag Ea)))
      (Ae (C6 (An Ep (An Bk (Av Bb (pv 0) Ag (λ_ _=>rfl)) (pv 2)) Ag) (D6 (pv 0) Ag Ea)))))))) A6,?_⟩
   refine⟨_,rfl,dr,_,_,_,rfl,rfl,SqL.of hd,rfl,_,rfl,_,_,rfl,rfl,_,rfl,?_⟩;have skip:nx [some (.ref dr),some (.int n),none,none] H:=hnx _ _ ⟨none,none,p,c,m,rfl,hd,hp,hm0,hm1,λb o e _=>e⟩;refine Ao (λ_=>?_) (λ_=>Bg skip);refine⟨_,rfl,dr,_,_,_,rfl,rfl,SqL.of hd,rfl,_,rfl,dr,_,_,_,rfl,rfl,SqL.of hd,rfl,sc,_,rfl,.inl (SqL.of hs),_,_,rfl,rfl,_,rfl,?_⟩;refine Ao (λhlt=>?_) (λ_=>skip);have hlt':(p:Int)<((ns.map V.int).length:Nat):=Pt hlt;rw[Li] at hlt';have hpl:p<ns.length:=by omega
   have hat:(ns.map V.int)[p]? = some (.int (ns[p]'hpl)):=by rw[Lz,Lm hpl];rfl
   refine⟨_,rfl,dr,_,_,_,rfl,rfl,SqL.of hd,rfl,_,rfl,dr,_,_,_,rfl,rfl,SqL.of hd,rfl,sc,_,_,_,rfl,rfl,SqL.of hs,B0 hat,?_⟩;refine⟨_,rfl,dr,_,_,_,rfl,rfl,SqL.of hd,rfl,_,_,rfl,rfl,?_⟩;refine⟨_,rfl,dr,_,_,1,rfl,rfl,hd,rfl,?_⟩;refine⟨_,rfl,dr,_,_,2,rfl,rfl,Ac,rfl,?_⟩;refine⟨_,rfl,_,_,rfl,rfl,⟨by decide,by decide,by decide⟩,_,_,rfl,rfl,_,rfl,?_⟩;refine Ao (λ_=>?_) (λ_=>?_)
   ·refine⟨_,rfl,_,rfl,dr,_,_,2,rfl,rfl,Ac,rfl,?_⟩;refine hnx _ _ ⟨_,none,p+1,_,m,rfl,Ac,hpl,hm0,hm1,λb o e hb=>by rw[Af hb,Af hb,Af hb];exact e⟩
   ·refine⟨_,rfl,dr,_,_,_,rfl,rfl,SqL.of Ac,rfl,_,rfl,_,_,rfl,rfl,_,_,rfl,rfl,(by show (0:Int)<1000000007;decide),?_⟩;refine⟨_,rfl,dr,_,_,3,rfl,rfl,Ac,rfl,?_⟩;refine hnx _ _ ⟨_,none,p+1,_,_,rfl,Ac,hpl,Op _ (by decide),N8 _ (by decide),λb o e hb=>by rw[Af hb,Af hb,Af hb];exact e⟩
theorem Xn8:FnScope ["_law_draw", "_law_some"] ["_law_draw", "_law_some"] (defScope s__law_one):=⟨rfl,rfl,rfl,by decide +kernel,rfl,by decide +kernel,by decide +kernel⟩
theorem Xn9{f:Addr}{fd:FuncData}(F:Fun K "_law_one" "_law_one" s__law_one f fd)(T:Bl mg)(FP:FnPick P w K mg base):FnOk P w K mg base CX0 2 f fd ["_law_draw", "_law_some"] spOne:=by
 refine F.ok Xn8 (λvs H Q E h=>?_) (λcdv A outer s H vs Q E hr h=>?_)
 ·obtain⟨dr,sc,l,xs,rfl,_⟩:=h;rfl
 ·obtain⟨dr,sc,l,xs,rfl,d,hl,nld,h0,h1,k⟩:=h;have hr1:Room 1 _:=hr.mono (by decide);refine⟨_,Ae (Am (Av Bb (pv 1) (Ai FP hr1 (by rfl) Aj (Aa (pv 0) (Aa (A4 Bt (by rfl) T.len boot_len (Aa (pv 1) Ab)) Ab))) (λ_ _=>rfl))),?_⟩;refine⟨_,rfl,_,rfl,_,rfl,l,_,rfl,.inl (SqL.of hl),dr,sc,_,rfl,by omega,by omega,d,λgi H4 g0 g1 d4 b4=>?_⟩;have b4:But dr H H4:=b4;obtain⟨gi,rfl⟩:=Ma g0;have hgi:gi<xs.length:=by omega
  have hat:atI xs (gi:Int)=some (xs.getD gi .non):=B0 (by rw[Lm hgi];simp[List.getD,hgi]);exact⟨l,_,_,_,rfl,rfl,SqL.of (b4 _ _ hl nld),hat,k gi H4 hgi d4 b4⟩
theorem Xoa:FnScope NFl ["_law_plot", "_law_name"] (defScope s__law_flip):=⟨rfl,rfl,rfl,by decide +kernel,rfl,by decide +kernel,by decide +kernel⟩
theorem Xob{f:Addr}{fd:FuncData}(F:Fun K "_law_flip" "_law_flip" s__law_flip f fd)(T:Bl mg):FnOk P w K mg base CX0 1 f fd ["_law_plot", "_law_name"] spFlip:=by
 refine F.ok Xoa (λvs H Q E h=>?_) (λcdv A outer s H vs Q E hr h=>?_)
 ·obtain⟨p,ss,x,rfl,_⟩:=h;rfl
 ·obtain⟨p,ss,x,rfl,hP,hl,k⟩:=h;refine⟨_,Ae (Am (Bn Fw (by rfl) T.tuple (by rfl) (Aa (A4 Xjw (by rfl) T.sorted (by rfl) (Aa (An B5
   (Gc (N:=NFl1) (cap:=[none,some 1]) (CompScope.of (defScope s__law_flip) NFl rfl rfl rfl (by decide +kernel)) rfl
    (Gs (pv 0)) (λ_ _ _=>A2 (i:=0) (show NFl1.Nodup by decide +kernel) rfl (Or.inl rfl) (Or.inr rfl)) (λ_ _ _=>F0 (Ap Fr (pv 0) (pv 1) (Au _))) (λ_ _ _=>pv 0))
   (An Xba (Bf (Aa (pv 1) Ab)) (Bn Xas (by rfl) T.int (by rfl) (Aa (D8 Gw (pv 1) (pv 0) (by rfl)) Ab)))) Ab)) Ab))),?_⟩
  refine⟨_,rfl,p,rfl,⟨_,SqT.of hP⟩,?_⟩;refine J5 (n:=ss.length) (by rw[Po];omega) (λi=>(ss.map V.str).getD i .non) (λi=>decide (ss.getD i Str.empty≠x)) (λi=>.str (ss.getD i Str.empty)) ?_ ?_ ?_ ?_ ?_
  ·intro i H2 hi s2;exact G2 (SqT.of (s2 _ _ hP)) (by rw[Li];exact hi)
  ·intro H2 s2;have:=G3 (K:=K) (SqT.of (s2 _ _ hP))
   rwa [Li] at this
  ·intro i H2 Q' hi s2 kk;rw[Cf V.str Str.empty _ hi];refine⟨_,rfl,_,rfl,rfl,_,rfl,?_⟩;rw[Dg];have:=kk H2 (Same.refl _);have e:(!decide (ss.getD i Str.empty=x))=decide (ss.getD i Str.empty≠x):=by
    by_cases z:ss.getD i Str.empty=x
    ·simp[z]
    ·simp[z]
   rw[e];exact this
  ·intro i H2 Q' hi hk s2 kk;rw[Cf V.str Str.empty _ hi];exact⟨_,rfl,kk H2 (Same.refl _)⟩
  ·intro D H2 nD s2 hD;have hD':H2 D=some (.lst ((ss.filter λy=>decide (y≠x)).map V.str)):=by
    rw[hD,<-Gb Str.empty (λy=>decide (y≠x)) ss,Nw];rfl
   have hfl:=M5 (λy=>decide (y≠x)) ss;refine⟨_,rfl,by show 1<=sizeLine;decide,λb nb=>?_⟩;refine⟨_,rfl,_,rfl,p,_,rfl,.inr (SqT.of (ku (s2 _ _ hP) nb)),rfl,De ss,.inr ⟨_,rfl,?_⟩⟩;rw[Dd];show Xa9 _ _ _ _;have eint:(if (!decide (x∈ss))=true then (1:Int) else 0).toNat=(if x∈ss then 0 else 1):=by
    by_cases hx:x∈ss
    ·simp[hx]
    ·simp[hx]
   have erep:(List.replicate (if x∈ss then 0 else 1) [V.str x]).flatten=(if x∈ss then ([]:List Str) else [x]).map V.str:=by
    by_cases hx:x∈ss
    ·simp[hx]
    ·simp[hx]
   refine⟨b,_,_,rfl,rfl,Ac,?_,?_,?_,λc nc=>?_⟩
   ·by_cases hx:x∈ss<;>simp[hx]
   ·by_cases hx:x∈ss<;>simp[hx]
   ·rw[Pq rfl,eint,Po];by_cases hx:x∈ss<;>simp[hx]
   ·rw[Pq rfl,eint,erep];have hone:(if x∈ss then ([]:List Str) else [x]).length<=1:=by by_cases hx:x∈ss<;>simp[hx]
    have s3:=(s2.step (o:=.lst [V.str x]) nb);refine⟨D,c,_,_,rfl,rfl,ku (ku hD' nb) nc,Ac,by rw[Li,Li,Po];omega,λe ne=>?_⟩;have s4:=s3.step (o:=.lst ((if x∈ss then ([]:List Str) else [x]).map V.str)) nc;rw[<-Lx];refine⟨e,_,rfl,Ac,by rw[Ln];omega,λt nt=>?_⟩;have s5:=s4.step (o:=.lst ((ss.filter (λy=>decide (y≠x))++(if x∈ss then [] else [x])).map V.str)) ne;refine⟨t,_,rfl,.inl ⟨SqL.of Ac,λq nq=>?_⟩⟩;have s6:=s5.step (o:=.lst ((srt (ss.filter (λy=>decide (y≠x))++(if x∈ss then [] else [x]))).map V.str)) nt;exact k q _ (s6.free nq) Ac (s6.step nq)
theorem Hx:FnScope NFi ["_law_bars_here", "_law_plot"] (defScope s__law_fits):=⟨rfl,rfl,rfl,by decide +kernel,rfl,by decide +kernel,by decide +kernel⟩
theorem Xoc{f:Addr}{fd:FuncData}(F:Fun K "_law_fits" "_law_fits" s__law_fits f fd):FnOk P w K mg base CX0 1 f fd ["_law_bars_here", "_law_plot"] spFits:=by
 refine F.ok Hx (λvs H Q E h=>?_) (λcdv A outer s H vs Q E hr h=>?_)
 ·obtain⟨b,p,xs,bs,ss,rfl,_⟩:=h;rfl
 ·obtain⟨b,p,xs,bs,ss,rfl,hB,hal,hP,k⟩:=h;refine⟨_,Ad (Bq PassesOwn.never rfl (Cd (pv 0)) (Xag (n:=3) rfl (Cj (A2 (i:=2) Hx.nd rfl (Or.inl rfl)) (Cj (A2 (i:=3) Hx.nd rfl (Or.inl rfl)) (Cj (A2 (i:=4) Hx.nd rfl (Or.inl rfl)) Fp))))
    (Ae (A3 (Ct (Ap Jg (pv 2) (pv 1) (by rfl)) (C4 (Ap Fr (D8 Jg (pv 3) (pv 1) (by rfl)) (D8 Bm (pv 4) A7 (Au _)) (Au _)))).pt (Ae (Am Dp)) A6)))
   (Ae (Am Dp)),?_⟩
  refine⟨_,rfl,b,rfl,⟨_,SqL.of hB⟩,?_⟩;have hxl:xs.length=bs.length:=by rw[Ge hal,Li]
  refine C7 (K:=K) (a:=b) (xs:=xs) (λi σ H2=>∃v2 v3 v4, σ=[some (.ref b),some (.ref p),v2,v3,v4]/\Same H H2/\B6 (bs.take i) ss=true) ?_ ?_ ?_ ?_
  ·exact⟨none,none,none,rfl,Same.refl H,rfl⟩
  ·rintro i σ H2 _ ⟨v2,v3,v4,rfl,s2,_⟩;exact SqL.of (s2 _ _ hB)
  ·rintro i y σ H2 hi ⟨v2,v3,v4,rfl,s2,hf⟩;have hil:i<xs.length:=(L3.mp hi).1;have hib:i<bs.length:=by omega
   obtain⟨v,hv,dv⟩:=Xc6 hal (show (bs.map trD)[i]? = some (trD bs[i]) by rw[Lz,Lm hib];rfl);rw[hi] at hv;cases hv;obtain⟨q,rfl,hq⟩:=Xkr dv;have htk:bs.take (i+1)=bs.take i++[bs[i]]:=L7 hib;generalize bs[i]=t at *;have hfs:B6 (bs.take (i+1)) ss = !(decide (t.1∈ss) && !decide (decide (t.2.1∈ss)=decide (t.2.2 = "within"))):=by
    rw[htk];unfold B6 at hf ⊢;rw[List.all_append,hf,Mu];simp
   have bad:(decide (t.1∈ss) && !decide (decide (t.2.1∈ss)=decide (t.2.2 = "within")))=true->B6 bs ss=false:=λhb=>by
    rw[Nz];intro z;have hz:B6 (bs.take (i+1)) ss=true:=by
     unfold B6 at z ⊢;rw[L9] at z ⊢;exact λx hx=>z x (M9 hx)
    rw[hfs,hb] at hz;cases hz
   refine⟨q,_,rfl,SqT.of (s2 _ _ hq),rfl,_,_,rfl,_,_,rfl,_,_,rfl,rfl,?_⟩;refine⟨_,rfl,_,rfl,p,_,rfl,.inr (SqT.of (s2 _ _ hP)),rfl,De ss,_,rfl,?_⟩;rw[Pp (by decide),Dd];refine Ao (λq1=>?_) (λq1=>?_)
   ·refine⟨_,rfl,_,rfl,p,_,rfl,.inr (SqT.of (s2 _ _ hP)),rfl,De ss,_,rfl,rfl,rfl,_,rfl,?_⟩;rw[Pp (by decide),Dd,Dg];have eb:(!decide (V.bl (decide (t.2.1∈ss))=V.bl (decide (t.2.2 = "within")))) = !decide (decide (t.2.1∈ss)=decide (t.2.2 = "within")):=by
     congr 1;rw[Mz,decide_eq_true_eq,decide_eq_true_eq];exact⟨λz=>by injection z,λz=>by rw[z]⟩
    rw[eb];refine Ao (λq2=>?_) (λq2=>?_)
    ·have:=k H2 s2;rw[bad (by rw[q1,q2];rfl)] at this;exact this
    ·exact⟨_,_,_,rfl,s2,by rw[hfs,q1,q2];rfl⟩
   ·exact Bg ⟨_,_,_,rfl,s2,by rw[hfs,q1];rfl⟩
  ·rintro σ H2 ⟨v2,v3,v4,rfl,s2,hf⟩;rw[hxl,Mp] at hf;have:=k H2 s2;rw[hf] at this;exact this
theorem Hy:FnScope NWy ["_law_bars_here", "_law_names_here", "_law_plot"] (defScope s__law_ways):=⟨rfl,rfl,rfl,by decide +kernel,rfl,by decide +kernel,by decide +kernel⟩
theorem Xod{f:Addr}{fd:FuncData}(F:Fun K "_law_ways" "_law_ways" s__law_ways f fd)(FF:Fn P w K mg base CX0 1 "_law_flip" ["_law_plot", "_law_name"] spFlip)(FI:Fn P w K mg base CX0 1 "_law_fits" ["_law_bars_here", "_law_plot"] spFits):FnOk P w K mg base CX0 2 f fd ["_law_bars_here", "_law_names_here", "_law_plot"] spWays:=by
 refine F.ok Hy (λvs H Q E h=>?_) (λcdv A outer s H vs Q E hr h=>?_)
 ·obtain⟨b,l,p,row,S,xs,rfl,_⟩:=h;rfl
 ·obtain⟨b,l,p,row,S,xs,rfl,hb,hxs,hl,R2,h14,hp,hS,k⟩:=h;refine⟨_,Ad (Ak (i:=3) Hy.nd rfl (Or.inl rfl) (Bf Ab))
   (Ad (Bq PassesOwn.never rfl (Cd (pv 1)) (A2 (i:=4) Hy.nd rfl (Or.inl rfl))
    (Ad (Ak (i:=5) Hy.nd rfl (Or.inl rfl) (Ai FF hr (by rfl) Aj (Aa (pv 2) (Aa (pv 4) Ab))))
    (Ae (A3 (Cb (Ai FI hr (by rfl) Aj (Aa (pv 0) (Aa (pv 5) Ab)))) (Ae (C5 (Er PySem.F.plainAttrs_list PySem.F.slot_list_append PySem.F.type_list_append Fx (pv 3) (Aa (Be (Aa (pv 4) (Aa (pv 5) Ab))) Ab)))) A6))))
   (Ae (Am (pv 3)))),?_⟩
  refine⟨by show 0<=sizeLine;decide,λD nD=>?_⟩;have s1:Same H (upd H D (.lst [])):=(Same.refl H).step nD;have hD1:upd H D (.lst []) D=some (.lst (([]:List Addr).map V.ref)):=Ac;dsimp only[Az];generalize upd H D (.lst [])=H1 at s1 hD1;refine⟨_,rfl,l,rfl,⟨_,SqL.of (s1 _ _ hl)⟩,?_⟩;refine C7 (K:=K) (a:=l) (xs:=(dit row).map V.str) (λi σ H'=>∃(v4 v5:Option V) (qs:List Addr) (zs:List (Str×List Str)), σ=[some (.ref b),some (.ref l),some (.ref p),some (.ref D),v4,v5]/\Same H H'/\H' D=some (.lst (qs.map V.ref))/\Nbs H' qs zs/\Wys row zs/\qs.length<=i) ?_ ?_ ?_ ?_
  ·exact⟨_,_,[],[],rfl,s1,hD1,Nbs.nil _,λz hz=>by simp at hz,Mt _⟩
  ·rintro i σ H' _ ⟨v4,v5,qs,zs,rfl,s',_⟩;exact SqL.of (s' _ _ hl)
  ·rintro i v σ H' hv ⟨v4,v5,qs,zs,rfl,s',hD',hn,hw,hq⟩;obtain⟨x,rfl,hx⟩:∃x,v=V.str x/\x∈dit row:=by
    rw[Lz] at hv;cases z:(dit row)[i]? with
    | none=>rw[z] at hv;cases hv
    | some x=>rw[z] at hv;exact⟨x,(Lq hv).symm,M8 z⟩
   have hx:=Ax.mp hx;have hil:i<(dit row).length:=by
    have:=(L3.mp hv).1
    rwa [Li] at this
   have hSl:=Fb hS;dsimp only[Az];refine⟨_,rfl,_,rfl,p,S,x,rfl,s' _ _ hp,by omega,λq H2 nq hq2 s2=>?_⟩;have s02:=s'.trans s2;dsimp only[Az];refine⟨_,rfl,_,rfl,b,q,xs,bars row,Ay S x,rfl,s02 _ _ hb,DAll.same s02 _ _ hxs,hq2,λH3 s3=>⟨_,rfl,?_⟩⟩;rw[Xe8 R2.two hS hx];have s03:=s02.trans s3;have hD3:=s3 _ _ (s2 _ _ hD');have hn3:=hn.same (s2.trans s3);refine Ao (λhpl=>?_) (λ_=>⟨_,_,qs,zs,rfl,s03,hD3,hn3,hw,by omega⟩);refine⟨_,rfl,.inl ⟨rfl,_,SqL.of hD3⟩,_,rfl,_,rfl,by show 2<=sizeLine;decide,λt nt=>?_⟩;have s4:Same H3 (upd H3 t (.tup [.str x,.ref q])):=(Same.refl H3).step nt;have ht:upd H3 t (.tup [.str x,.ref q]) t=some (.tup [.str x,.ref q]):=Ac;generalize upd H3 t (.tup [.str x,.ref q])=H4 at s4 ht;have hD4:=s4 _ _ hD3;refine⟨D,_,_,rfl,rfl,hD4,by rw[Li,Po];omega,?_⟩;have kt:∀{a:Addr} {w:List V},H4 a=some (.tup w)->upd H4 D (.lst (qs.map V.ref++[.ref t])) a=some (.tup w):=λ{a w} e=>by
    rw[Af (λz=>by rw[z,hD4] at e;cases e)];exact e
   refine⟨_,_,qs++[t],zs++[(x,Ay S x)],rfl,λa o e=>?_,by rw[Ac,Lx];rfl,?_,λz hz=>?_,by rw[Ln,Mq];omega⟩
   ·rw[Af (Aq e nD)];exact s4 _ _ (s03 _ _ e)
   ·exact((hn3.same s4).keep λa w e=>kt e).snoc (kt ht) (kt (s4 _ _ (s3 _ _ hq2)))
   ·rcases Ls.mp hz with z' | z'
    ·exact hw z z'
    ·rw[Ly.mp z'];exact⟨hx,hpl⟩
  ·rintro σ H' ⟨v4,v5,qs,zs,rfl,s',hD',hn,hw,hq⟩;rw[Li] at hq;exact⟨_,rfl,k D qs zs H' nD hD' hn hw (by omega) s'⟩
theorem Lg:FnScope NWh ["_law_row_here"] (defScope sWhere):=⟨rfl,rfl,rfl,by decide +kernel,rfl,by decide +kernel,by decide +kernel⟩
theorem Xoe{f:Addr}{fd:FuncData}(F:Fun K "_law_where" "_law_where" sWhere f fd)(T:Bl mg):FnOk P w K mg base CX0 1 f fd ["_law_row_here"] Hi:=by
 refine F.ok Lg (λvs H Q E h=>?_) (λcdv A outer s H vs Q E hr h=>?_)
 ·obtain⟨r,row,rfl,_⟩:=h;rfl
 ·obtain⟨r,row,rfl,hR,hl,k⟩:=h;have hu:=C9 hr;refine⟨_,Ad (Ak (i:=1) Lg.nd rfl (Or.inl rfl) Xhg)
   (Ad (Bq PassesOwn.never rfl (D7 rfl T.range (Aa (A4 Bt (by rfl) T.len boot_len (Aa (pv 0) Ab)) Ab)) (A2 (i:=2) Lg.nd rfl (Or.inl rfl))
    (Ae (Xhe hu (pv 1) (Av Bb (pv 0) (pv 2) (λ_ _=>rfl))
     (An B5 (Xhl hu (pv 1) (Av Bb (pv 0) (pv 2) (λ_ _=>rfl)) (Bf Ab) ⟨rfl,rfl,rfl,rfl⟩) (Bf (Aa (pv 2) Ab))) rfl)))
   (Ae (Am (pv 1)))),?_⟩
  intro d nd;have s0:Same H (upd H d (.dK [])):=(Same.refl H).step nd;refine⟨_,rfl,r,_,rfl,.inl (SqL.of (s0 _ _ hR)),((row.map V.str).length:Int),rfl,by omega,by rw[Li];omega,?_⟩;have hn:((row.map V.str).length:Int).toNat=row.length:=by rw[Li];simp
  rw[hn];refine Eo (lo:=0) (n:=row.length) (λi σ H2=>∃kvs v, σ=[some (.ref r),some (.ref d),v]/\Same H H2/\H2 d=some (.dK kvs)/\Wh H2 kvs (row.take i)) ?_ ?_ ?_
  ·exact⟨[],none,rfl,s0,Ac,⟨λk hk=>by simp at hk,λx hx=>by simp at hx,λ_ _=>rfl,by simp,by simp⟩⟩
  ·rintro i σ H2 hi ⟨kvs,v,rfl,s2,hd,wh⟩;have hat:(row.map V.str)[i]? = some (.str (row[i]'hi)):=by rw[Lz,Lm hi];rfl
   have hat':atI (row.map V.str) (0+(i:Int))=some (.str (row[i]'hi)):=by rw[Pe];exact B0 hat
   have tk:row.take (i+1)=row.take i++[row[i]'hi]:=by rw[L7 hi]
   have kl:=wh.len;rw[Mb] at kl;have ll:(plc (row.take i) (row[i]'hi)).length<=1000:=by
    rw[Kl];have:=List.count_le_length (a:=row[i]'hi) (l:=row.take i);rw[Mb] at this;omega
   have h24:∀n,n<=100000->n<=sizeLine:=λn h=>by rw[Po];omega
   refine⟨_,rfl,d,rfl,.inl ⟨kvs,.inl hd⟩,_,rfl,_,rfl,r,_,_,_,rfl,rfl,SqL.of (s2 _ _ hR),hat',by show 0<=sizeLine;decide,λp1 n1=>?_⟩;refine⟨_,DGet.k (k:=Sum.inr (row[i]'hi)) (ku hd n1),?_⟩;obtain⟨q,xs,e1,hq,hxs⟩:∃q xs,(Aw kvs (Sum.inr (row[i]'hi):Key)).getD (V.ref p1)=V.ref q/\upd H2 p1 (.lst []) q=some (.lst (xs.map V.int))/\plc (row.take i) (row[i]'hi)=xs:=by
    by_cases hx:row[i]'hi∈row.take i
    ·obtain⟨l,e1,e2⟩:=wh.val _ hx;exact⟨l,_,by rw[e1];rfl,ku e2 n1,rfl⟩
    ·refine⟨p1,[],by rw[wh.none _ hx];rfl,Ac,?_⟩;have:(plc (row.take i) (row[i]'hi)).length=0:=by rw[Kl];exact N7.mpr hx
     exact M6.mp this
   have hlx:xs.length<=1000:=by rw[<-hxs];exact ll
   rw[e1];refine⟨_,rfl,by show 1<=sizeLine;decide,λp2 n2=>?_⟩;refine⟨q,p2,_,_,rfl,rfl,ku hq n2,Ac,h24 _ (by simp;omega),λp3 n3=>?_⟩;refine⟨_,rfl,_,rfl,_,rfl,r,_,_,_,rfl,rfl,SqL.of (ku (ku (ku (s2 _ _ hR) n1) n2) n3),hat',?_⟩;have hd2:=ku (u:=.lst [V.int (0+(i:Int))]) (ku (u:=.lst []) hd n1) n2;have hd3:=ku (u:=.lst (xs.map V.int++[V.int (0+(i:Int))])) hd2 n3;refine⟨d,_,rfl,DPut.k (k:=Sum.inr (row[i]'hi)) hd3 (by rw[Po];omega),_,_,rfl,?_,Ac,?_⟩
   ·have s3:=((s2.go n1 n2).go n2 n3).step (o:=.lst (xs.map V.int++[V.int (0+(i:Int))])) n3;exact s3.upd nd
   ·rw[tk];refine wh.snoc _ p3 ?_ λb ys e=>?_
    ·have ne:p3≠d:=(Aq hd2 n3).symm;rw[Af ne,Ac,Km,Pq rfl,hxs,Lx,Mb,N0 (Ox hi)];simp
    ·have ne:b≠d:=λz=>by rw[z,hd] at e;cases e
     rw[Af ne];exact ku (ku (ku e n1) n2) n3
  ·rintro σ H2 ⟨kvs,v,rfl,s2,hd,wh⟩;rw[Mp] at wh;exact⟨_,rfl,k d kvs H2 nd hd wh s2⟩
theorem Hz:FnScope NWo ["_law_where_here", "_law_one_here", "_law_other"] (defScope sWord):=⟨rfl,rfl,rfl,by decide +kernel,rfl,by decide +kernel,by decide +kernel⟩
theorem Xof{f:Addr}{fd:FuncData}(F:Fun K "_law_word" "_law_word" sWord f fd)(T:Bl mg):FnOk P w K mg base CX0 1 f fd ["_law_where_here", "_law_one_here", "_law_other"] spWord:=by
 refine F.ok Hz (λvs H Q E h=>?_) (λcdv A outer s H vs Q E hr h=>?_)
 ·obtain⟨d,l1,l2,kvs,x,y,a,b,c,e,rfl,_⟩:=h;rfl
 ·obtain⟨d,l1,l2,kvs,x,y,a,b,c,e,rfl,hd,v1,v2,h1,h2,k⟩:=h;have hu:=C9 hr;refine⟨_,Ad (C6 (Eu hu (pv 0) (pv 1) (λ_ _=>rfl)) (Xh0 rfl (Cj (A2 (i:=3) Hz.nd rfl (Or.inr rfl)) (Cj (A2 (i:=4) Hz.nd rfl (Or.inr rfl)) Fp))))
   (Ad (Kd (i:=5) (N:=["_law_at", "_law_high", "_law_low"]) (cap:=[none,some 4,some 3]) (CompScope.of (defScope sWord) NWo rfl rfl rfl (by decide +kernel)) rfl Hz.nd rfl rfl
     (Cd (Eu hu (pv 0) (pv 2) (λ_ _=>rfl))) (λ_ _ _=>A2 (i:=0) (show (["_law_at", "_law_high", "_law_low"]:List Str).Nodup by decide +kernel) rfl (Or.inl rfl) (Or.inr rfl))
     (λ_ _ _=>F0 (Ct (Ap B3 (pv 2) (pv 0) (Au _)) (C4 (Ap B3 (pv 0) (pv 1) (Au _)))).pt) (λ_ _ _=>pv 0))
   (Ad (A3 (Fl (Ap Bm (pv 1) (pv 2) (Au _)) (Fk (Ap Xgb (A4 Bt (by rfl) T.len boot_len (Aa (pv 5) Ab)) Ag (Au _)))).pt
    (Ae (Am (Av Fs (Be (Aa A7 (Aa A7 (Aa A7 Ab)))) (A4 Bt (by rfl) T.len boot_len (Aa (pv 5) Ab)) (λ_ _=>rfl)))) A6)
   (Ae (Am (Gq (Ct (Ap B3 (Av Bb (Eu hu (pv 0) (pv 2) (λ_ _=>rfl)) Ag (λ_ _=>rfl)) (pv 3) (Au _)) (C4 (Ap B3 (pv 4) (Av Bb (Eu hu (pv 0) (pv 2) (λ_ _=>rfl)) Ag (λ_ _=>rfl)) (Au _)))).pt A7 A7))))),?_⟩
  refine⟨_,rfl,_,rfl,d,_,rfl,DGet.rd hd v1,l1,_,rfl,SqL.of h1,rfl,?_⟩;refine⟨_,_,rfl,_,_,rfl,rfl,?_⟩;refine⟨_,rfl,_,rfl,d,_,rfl,DGet.rd hd v2,l2,rfl,⟨_,SqL.of h2⟩,?_⟩;refine G1 (n:=2) (λi=>([V.int c,V.int e]:List V).getD i .non) (λD i σ2 H2=>∃v, σ2=[v,some (.int b),some (.int a)]/\Same H H2/\H2 D=some (.lst ((inn a b (([c,e]:List Int).take i)).map V.int))) ?_ ?_ ?_ ?_ ?_
  ·intro D hD;exact⟨none,rfl,(Same.refl H).step hD,Ac⟩
  ·rintro D i σ2 H2 hD hi ⟨v,rfl,s2,hl⟩;exact Jw (SqL.of (s2 _ _ h2)) hi
  ·rintro D σ2 H2 hD ⟨v,rfl,s2,hl⟩;exact Jx (SqL.of (s2 _ _ h2))
  ·rintro D i σ2 H2 hD hi ⟨v,rfl,s2,hl⟩;obtain⟨t,ht1,ht2⟩:∃t,([V.int c,V.int e]:List V).getD i .non = .int t/\([c,e]:List Int).take (i+1)=([c,e]:List Int).take i++[t]:=by
    match i,hi with
    | 0,_=>exact⟨c,rfl,rfl⟩
    | 1,_=>exact⟨e,rfl,rfl⟩
   rw[ht1];have hil:(inn a b (([c,e]:List Int).take i)).length<=2:=Mj (Kn ..) (by rw[Mb];simp;omega);refine⟨_,rfl,_,rfl,_,_,rfl,rfl,_,rfl,?_⟩;refine Ao (λq1=>?_) (λq1=>Bg (wskip hi ⟨_,rfl,s2,?_⟩))
   ·refine⟨_,rfl,_,rfl,_,_,rfl,rfl,_,rfl,?_⟩;refine Ao (λq2=>?_) (λq2=>wskip hi ⟨_,rfl,s2,?_⟩)
    ·refine⟨_,rfl,wput hi hl (by rw[Li,Po];omega) ⟨_,rfl,?_,?_⟩⟩
     ·intro b' o e';rw[Af (Aq e' hD)];exact s2 b' o e'
     ·rw[Ac,ht2];unfold inn;rw[L6,Lx,Mi,Pq (by rw[q1,q2];rfl)];rfl
    ·rw[hl,ht2];unfold inn;rw[L6,Mi,Pp (by rw[q1,q2];decide)];simp
   ·rw[hl,ht2];unfold inn;rw[L6,Mi,Pp (by rw[q1];simp)];simp
  ·rintro D σ2 H2 hD ⟨v,rfl,s2,hl⟩;have hl':H2 D=some (.lst ((inn a b [c,e]).map V.int)):=hl;have hil:(inn a b [c,e]).length<=2:=Kn ..;have three:∀p,H2 p=none->atI ([V.str "same",V.str "cross",V.str "around"]:List V) (((inn a b [c,e]).map V.int).length:Int)=some (.str (words3.getD (inn a b [c,e]).length "apart")):=λp _=>by
    rw[Li];generalize (inn a b [c,e]).length=n at hil
    match n,hil with
    | 0,_=>rfl
    | 1,_=>rfl
    | 2,_=>rfl
   have ret3:(decide (x=y)||decide (0<(inn a b [c,e]).length))=true->∀p,H2 p=none->∀H',Same H H'->Q (.str (words3.getD (inn a b [c,e]).length "apart")) H':=λhc p _ H' s'=>by
    have:=k H' s';unfold Cz at this;rw[Pq hc] at this;exact this
   refine⟨_,rfl,_,rfl,rfl,_,rfl,?_⟩;refine Ao (λq1=>?_) (λq1=>?_)
   ·refine iteT ⟨by show 3<=sizeLine;decide,λp hp=>?_⟩;refine⟨_,rfl,D,_,rfl,.inl (SqL.of (ku hl' hp)),p,_,_,_,rfl,rfl,SqT.of Ac,three p hp,?_⟩;refine ret3 ?_ p hp _ (s2.step hp);have q1':decide (x=y)=true:=by
     have:=Pt q1;injection this with this
     exact Pr this
    rw[q1'];rfl
   ·refine⟨_,rfl,D,_,rfl,.inl (SqL.of hl'),_,_,rfl,rfl,_,rfl,?_⟩;have q1':decide (x=y)=false:=by
     have:=Pu q1;exact Ps λz=>this (by rw[z])
    refine Ao (λq2=>?_) (λq2=>?_)
    ·have q2':0<(inn a b [c,e]).length:=by
      have:=Pt q2;rw[Li] at this;omega
     refine⟨by show 3<=sizeLine;decide,λp hp=>?_⟩;refine⟨_,rfl,D,_,rfl,.inl (SqL.of (ku hl' hp)),p,_,_,_,rfl,rfl,SqT.of Ac,three p hp,?_⟩;exact ret3 (by rw[Pr q2',Pd]) p hp _ (s2.step hp)
    ·have q2':¬ 0<(inn a b [c,e]).length:=by
      have:=Pu q2;rw[Li] at this;omega
     have last:∀z:Str,(if c<a/\b<e then ("within" : Str) else "apart")=z->Q (.str z) H2:=λz hz=>by
      have:=k H2 s2;unfold Cz at this;rw[Pp (by rw[q1',Ps q2'];decide),hz] at this;exact this
     refine⟨_,rfl,_,rfl,d,_,rfl,DGet.rd (Rd.same hd s2) v2,l2,_,_,_,rfl,rfl,SqL.of (s2 _ _ h2),rfl,_,rfl,_,_,rfl,rfl,_,rfl,?_⟩;refine Ao (λq3=>?_) (λq3=>?_)
     ·refine⟨_,rfl,_,rfl,_,rfl,d,_,rfl,DGet.rd (Rd.same hd s2) v2,l2,_,_,_,rfl,rfl,SqL.of (s2 _ _ h2),rfl,_,_,rfl,rfl,_,rfl,?_⟩;refine Ao (λq4=>?_) (λq4=>?_)
      ·exact last _ (Pq ⟨Pt q3,Pt q4⟩)
      ·exact last _ (Pp λz=>Pu q4 z.2)
     ·exact Bg (last _ (Pp λz=>Pu q3 z.1))
theorem Fg:FnScope NBr ["_law_row_here"] (defScope s__law_bars):=⟨rfl,rfl,rfl,by decide +kernel,rfl,by decide +kernel,by decide +kernel⟩
theorem Xog{f:Addr}{fd:FuncData}(F:Fun K "_law_bars" "_law_bars" s__law_bars f fd)(T:Bl mg)(FW:Fn P w K mg base CX0 1 "_law_where" ["_law_row_here"] Hi)
  (FO:Fn P w K mg base CX0 1 "_law_word" ["_law_where_here", "_law_one_here", "_law_other"] spWord):FnOk P w K mg base CX0 2 f fd ["_law_row_here"] spBars:=by
 refine F.ok Fg (λvs H Q E h=>?_) (λcdv A outer s H vs Q E hr h=>?_)
 ·obtain⟨r,row,rfl,_⟩:=h;rfl
 ·obtain⟨r,row,rfl,hR,R2,k⟩:=h;refine⟨_,Ad (Ak (i:=1) Fg.nd rfl (Or.inl rfl) (Ai FW hr (by rfl) Aj (Aa (pv 0) Ab)))
   (Ad (Ak (i:=2) Fg.nd rfl (Or.inl rfl) (Bf Ab))
   (Ad (Bq PassesOwn.never rfl (Cd (A4 (Xcn rfl) (by rfl) T.sorted (by rfl) (Aa (pv 1) Ab))) (A2 (i:=3) Fg.nd rfl (Or.inl rfl))
    (Ae (Bq PassesOwn.never rfl (Cd (A4 (Xcn rfl) (by rfl) T.sorted (by rfl) (Aa (pv 1) Ab))) (A2 (i:=4) Fg.nd rfl (Or.inl rfl))
     (Ad (Ak (i:=5) Fg.nd rfl (Or.inl rfl) (Ai FO hr (by rfl) Aj (Aa (pv 1) (Aa (pv 3) (Aa (pv 4) Ab)))))
     (Ae (A3 (Fl (Ap Bm (pv 5) A7 (Au _)) (Fk (Ct (Ap Bm (pv 5) A7 (Au _)) (C4 (Ap Xgc (pv 3) (pv 4) (Au _)))).pt)).pt
      (Ae (C5 (Er PySem.F.plainAttrs_list PySem.F.slot_list_append PySem.F.type_list_append Fx (pv 2) (Aa (Be (Aa (pv 3) (Aa (pv 4) (Aa (pv 5) Ab)))) Ab)))) A6))))))
   (Ae (Am (pv 2))))),?_⟩
  have hrl:=R2.len;have hdl:=F9 row;refine⟨_,rfl,r,row,rfl,hR,by omega,λd kvs H1 nd hd wh s1=>?_⟩;obtain⟨ss,hss,hsn,hsm⟩:=wh.names;have hsl:ss.length<=60:=by
   have h1:=congrArg List.length hss;rw[Li,Li] at h1;have:=wh.len;omega
  refine⟨by show 0<=sizeLine;decide,λu nu=>?_⟩;refine⟨_,rfl,d,kvs,ss,rfl,.inl (ku hd nu),hss,by omega,λsn ls nsn hp1 hs1=>?_⟩;rw[Xcv hp1 hs1 hsn hsm];have hnu:∀{xs:List V},upd (upd H1 u (.lst [])) sn (.lst xs) u=some (.lst []):=λ{xs}=>ku Ac nsn;have s2:Same H1 (upd (upd H1 u (.lst [])) sn (.lst ((dit row).map V.str))):=((Same.refl H1).step nu).step nsn;have hsn2:upd (upd H1 u (.lst [])) sn (.lst ((dit row).map V.str)) sn=some (.lst ((dit row).map V.str)):=Ac;have nsu:sn≠u:=(Aq (H:=upd H1 u (.lst [])) Ac nsn).symm;have hu2:upd (upd H1 u (.lst [])) sn (.lst ((dit row).map V.str)) u=some (.lst []):=hnu;generalize upd (upd H1 u (.lst [])) sn (.lst ((dit row).map V.str))=H2 at s2 hsn2 hu2;have hlq:∀(i j:Nat),i<=60->∀x,((Ch row i++B7 row x ((dit row).take j)).map trD).length<=5000:=λi j hi x=>by
   rw[Li,Ln];have h1:=Xkv row i;have h2:=Xdv row x ((dit row).take j);rw[Mb] at h2;have h3:i * (dit row).length<=60 * 60:=Nat.mul_le_mul hi (by omega);omega
  have hbase:∀b o,H1 b=some o->hid u H2 b=some o:=λb o e=>hid_ne (s2 _ _ e) (Aq e nu);refine⟨sn,rfl,⟨_,SqL.of hsn2⟩,?_⟩;refine C7 (K:=K) (a:=sn) (xs:=(dit row).map V.str) (λi σ H9=>∃v3 v4 v5, σ=[some (.ref r),some (.ref d),some (.ref u),v3,v4,v5]/\Same (hid u H2) H9/\∃xs,H9 u=some (.lst xs)/\DAll (hid u H9) ((Ch row i).map trD) xs) ?_ ?_ ?_ ?_
  ·exact⟨none,none,none,rfl,E5 u H2,[],hu2,Cv⟩
  ·rintro i σ H9 _ ⟨v3,v4,v5,rfl,s9,_⟩;exact SqL.of (s9 _ _ (hid_ne hsn2 nsu))
  ·rintro i y σ H9 hi ⟨v3,v4,v5,rfl,s9,xs,hu9,hal⟩;have hil:i<(dit row).length:=by
    have:=(L3.mp hi).1
    rwa [Li] at this
   obtain⟨x,rfl,hx⟩:∃x,y=V.str x/\(dit row).getD i Str.empty=x:=by
    rw[Lz,Lm hil] at hi;exact⟨_,(Lq hi).symm,by simp[List.getD,hil]⟩
   have hxr:x∈row:=Ax.mp (by rw[<-hx];exact Co hil);refine⟨_,rfl,d,kvs,ss,rfl,.inl (s9 _ _ (hbase _ _ hd)),hss,by omega,λsn2 ls2 nsn2 hp2 hs2=>?_⟩;rw[Xcv hp2 hs2 hsn hsm];have s10:Same H9 (upd H9 sn2 (.lst ((dit row).map V.str))):=(Same.refl H9).step nsn2;have hsn10:upd H9 sn2 (.lst ((dit row).map V.str)) sn2=some (.lst ((dit row).map V.str)):=Ac;have nsu2:sn2≠u:=(Aq hu9 nsn2).symm;generalize upd H9 sn2 (.lst ((dit row).map V.str))=H10 at s10 hsn10;have hal10:=DAll.same (Gf (D:=u) s10) _ _ hal;have hu10:=s10 _ _ hu9;have b10:=s9.trans s10;refine⟨sn2,rfl,⟨_,SqL.of hsn10⟩,?_⟩;refine C7 (K:=K) (a:=sn2) (xs:=(dit row).map V.str) (λj σ H11=>∃v4 v5, σ=[some (.ref r),some (.ref d),some (.ref u),some (.str x),v4,v5]/\Same (hid u H10) H11/\∃xs,H11 u=some (.lst xs)/\DAll (hid u H11) ((Ch row i++B7 row x ((dit row).take j)).map trD) xs) ?_ ?_ ?_ ?_
   ·exact⟨v4,v5,rfl,E5 u H10,xs,hu10,by simpa [B7] using hal10⟩
   ·rintro j σ H11 _ ⟨v4,v5,rfl,s11,_⟩;exact SqL.of (s11 _ _ (hid_ne hsn10 nsu2))
   ·rintro j z σ H11 hj ⟨v4,v5,rfl,s11,xs,hu11,hal11⟩;have hjl:j<(dit row).length:=by
     have:=(L3.mp hj).1
     rwa [Li] at this
    obtain⟨y,rfl,hy⟩:∃x,z=V.str x/\(dit row).getD j Str.empty=x:=by
     rw[Lz,Lm hjl] at hj;exact⟨_,(Lq hj).symm,by simp[List.getD,hjl]⟩
    have hyr:y∈row:=Ax.mp (by rw[<-hy];exact Co hjl);have c1:=R2.two x hxr;have c2:=R2.two y hyr;have bb:∀b o,H1 b=some o->H11 b=some o:=λb o e=>s11 _ _ (hid_ne (b10 _ _ (hbase b o e)) (Aq e nu));obtain⟨l1,e1,g1⟩:=wh.two' hxr c1;obtain⟨l2,e2,g2⟩:=wh.two' hyr c2;refine⟨_,rfl,_,rfl,_,rfl,d,l1,l2,kvs,x,y,_,_,_,_,rfl,.inl (bb _ _ hd),e1,e2,bb _ _ g1,bb _ _ g2,λH12 s12=>?_⟩;rw[<-E8 c1 c2];have hu12:=s12 _ _ hu11;have hal12:=DAll.same (Gf (D:=u) s12) _ _ hal11;have b12:=s11.trans s12;have hps:=Xku row x hjl;rw[hy] at hps;have stay:B2 row x y=false->∃v4 v5,[some (V.ref r),some (.ref d),some (.ref u),some (.str x),some (.str y),some (.str (lieR row x y))]=[some (.ref r),some (.ref d),some (.ref u),some (.str x),v4,v5]/\Same (hid u H10) H12/\∃xs,H12 u=some (.lst xs)/\DAll (hid u H12) ((Ch row i++B7 row x ((dit row).take (j+1))).map trD) xs:=λhk=>by
     refine⟨_,_,rfl,b12,xs,hu12,?_⟩;rw[hps,hk,Pp Lu,Mr];exact hal12
    have app:B2 row x y=true->Xad (tBM K "list" Jh (Ca 2) (D9 (Iz (D9 (Ca 3) (D9 (Ca 4) (D9 (Ca 5) Dq)))) Dq)) {nx:=fun σ H=>∃v4 v5, σ=[some (.ref r),some (.ref d),some (.ref u),some (.str x),v4,v5]/\Same (hid u H10) H/\∃xs,H u=some (.lst xs)/\DAll (hid u H) ((Ch row i++B7 row x ((dit row).take (j+1))).map trD) xs,rt:=Q} [some (V.ref r),some (.ref d),some (.ref u),some (.str x),some (.str y),some (.str (lieR row x y))] H12:=λhk=>by
     refine⟨_,rfl,.inl ⟨rfl,_,SqL.of hu12⟩,_,rfl,_,rfl,_,rfl,by show 3<=sizeLine;decide,λp np=>?_⟩;have hxl:xs.length<=5000:=by
      rw[Ge hal12];exact hlq i j (by omega) x
     refine⟨u,_,_,rfl,rfl,ku hu12 np,by rw[Po];omega,?_⟩;refine⟨_,_,rfl,?_,xs++[.ref p],Ac,?_⟩
     ·intro b o e;have nb:b≠u:=λz=>by rw[z] at e;unfold hid at e;rw[Pq rfl] at e;cases e
      rw[Af nb,Af (Aq (b12 _ _ e) np)];exact b12 _ _ e
     ·rw[Xda,hps,hk,Pq rfl,<-Oc,Lx];refine Hb (DAll.same (Gf (D:=u) ((Same.refl H12).step np)) _ _ hal12) ?_;exact Xjs hu12 np (Xc7 [x,y,lieR row x y])
    refine⟨_,rfl,rfl,_,rfl,?_⟩;rw[Dg];refine Ao (λq1=>?_) (λq1=>?_)
    ·exact iteT (app (by unfold B2;rw[q1];rfl))
    ·refine⟨_,rfl,rfl,_,rfl,?_⟩;rw[Dg];refine Ao (λq2=>?_) (λq2=>?_)
     ·refine⟨_,rfl,_,rfl,_,_,rfl,rfl,_,rfl,?_⟩;refine Ao (λq3=>?_) (λq3=>?_)
      ·refine app ?_;unfold B2;have q3':decide (ltS x y)=true:=q3;rw[q2,q3',Oo,Pd]
      ·refine stay ?_;unfold B2;have q3':decide (ltS x y)=false:=q3;rw[q1,q3',Ow,Pi]
     ·refine Bg (stay ?_);unfold B2;rw[q1,q2,Ms,Pi]
   ·rintro σ H11 ⟨v4,v5,rfl,s11,xs,hu11,hal11⟩;rw[Li,Mp] at hal11;refine⟨_,_,_,rfl,λb o e=>?_,xs,hu11,?_⟩
    ·have nb:b≠u:=λz=>by rw[z] at e;unfold hid at e;rw[Pq rfl] at e;cases e
     exact s11 _ _ (hid_ne (b10 _ _ e) nb)
    ·rw[Xkt row hil,hx];exact hal11
  ·rintro σ H9 ⟨v3,v4,v5,rfl,s9,xs,hu9,hal⟩;rw[Li,Xks] at hal;refine⟨_,rfl,k u xs H9 (s1.free nu) hu9 (DAll.same (E5 u H9) _ _ hal) (λb o e=>s9 _ _ (hbase _ _ (s1 _ _ e)))⟩
theorem Xoh:FnScope ["_law_row_here", "_law_plot"] ["_law_row_here", "_law_plot"] (defScope s__law_over):=⟨rfl,rfl,rfl,by decide +kernel,rfl,by decide +kernel,by decide +kernel⟩
theorem Xoi{f:Addr}{fd:FuncData}(F:Fun K "_law_over" "_law_over" s__law_over f fd)(T:Bl mg)(FB:Fn P w K mg base CX0 2 "_law_bars" ["_law_row_here"] spBars)(FW:Fn P w K mg base CX0 2 "_law_ways" ["_law_bars_here", "_law_names_here", "_law_plot"] spWays):FnOk P w K mg base CX0 3 f fd ["_law_row_here", "_law_plot"] spOver:=by
 refine F.ok Xoh (λvs H Q E h=>?_) (λcdv A outer s H vs Q E hr h=>?_)
 ·obtain⟨r,p,row,S,rfl,_⟩:=h;rfl
 ·obtain⟨r,p,row,S,rfl,hR,R2,h14,hp,hS,k⟩:=h;refine⟨_,Ae (Am (Ai FW hr (by rfl) Aj (Aa (Ai FB hr (by rfl) Aj (Aa (pv 0) Ab)) (Aa (Hn (i:=0) rfl (by rfl) T.sorted (by rfl) T.set (pv 0)) (Aa (pv 1) Ab))))),?_⟩;have hl:=R2.len;refine⟨_,rfl,r,row,rfl,hR,R2,λb xs H1 nb hb hxs s1=>?_⟩;refine⟨_,rfl,r,row,rfl,.inl (SqL.of (s1 _ _ hR)),hl,λl H2 nl hl2 s2=>?_⟩;have s12:=s1.trans s2;exact⟨_,rfl,b,l,p,row,S,xs,rfl,s2 _ _ hb,DAll.same s2 _ _ hxs,hl2,R2,h14,s12 _ _ hp,hS,λD qs zs H3 nD hD hn hw hq s3=>k D qs zs H3 (s12.free nD) hD hn hw hq (s12.trans s3)⟩
theorem Fh:FnScope NWk ["_law_draw", "_law_row_here", "_law_plot", "_law_many"] (defScope s__law_walked):=⟨rfl,rfl,rfl,by decide +kernel,rfl,by decide +kernel,by decide +kernel⟩
theorem Xoj{f:Addr}{fd:FuncData}(F:Fun K "_law_walked" "_law_walked" s__law_walked f fd)(B:Bl mg)(FP:FnPick P w K mg base)(FO:Fn P w K mg base CX0 3 "_law_over" ["_law_row_here", "_law_plot"] spOver):FnOk P w K mg base CX0 4 f fd ["_law_draw", "_law_row_here", "_law_plot", "_law_many"] Lb:=by
 refine F.ok Fh (λvs H Q E h=>?_) (λcdv A outer s H vs Q E hr h=>?_)
 ·obtain⟨dr,sc,r,p,row,S,n,rfl,_⟩:=h;rfl
 ·obtain⟨dr,sc,r,p,row,W,m,rfl,d0,hR,nrd,R2,h14,hp,hW,hm,k⟩:=h;have hr1:Room 1 _:=hr.mono (by decide);refine⟨_,Ad (Ak (i:=4) Fh.nd rfl (Or.inl rfl) (Bf Ab))
   (Ad (Bq PassesOwn.never rfl (D7 rfl B.range (Aa (pv 3) Ab)) (A2 (i:=5) Fh.nd rfl (Or.inl rfl))
    (Ad (Ak (i:=6) Fh.nd rfl (Or.inl rfl) (Ai FO hr (by rfl) Aj (Aa (pv 1) (Aa (pv 2) Ab))))
    (Ad (A3 (Ap (Xc8 (hu3 hr)) (pv 6) (Bf Ab) (Au _)) (Ae (Am (pv 4))) A6)
    (Ad (C6 (Av Bb (pv 6) (Ai FP hr1 (by rfl) Aj (Aa (pv 0) (Aa (A4 Bt (by rfl) B.len boot_len (Aa (pv 6) Ab)) Ab))) (λ_ _=>rfl)) (J8 K 2 rfl rfl (Cj (A2 (i:=7) Fh.nd rfl (Or.inl rfl)) (Cj (A2 (i:=2) Fh.nd rfl (Or.inl rfl)) Fp))))
    (Ae (C5 (Er PySem.F.plainAttrs_list PySem.F.slot_list_append PySem.F.type_list_append Fx (pv 4) (Aa (pv 7) Ab))))))))
   (Ae (Am (pv 4)))),?_⟩
  refine⟨by show 0<=sizeLine;decide,λst nst=>?_⟩;obtain⟨n1,n2⟩:=d0.ne nst;have s1:Same H (upd H st (.lst [])):=(Same.refl H).step nst;have hst1:upd H st (.lst []) st=some (.lst (([]:List Str).map V.str)):=Ac;dsimp only[Az];generalize upd H st (.lst [])=H1 at s1 hst1;refine⟨_,rfl,(m:Int),rfl,by omega,by omega,?_⟩;rw[Nc];refine Eo (lo:=0) (n:=m) (λi σ H'=>∃(h:Addr) (v5 v6 v7:Option V) (S ss:List Str), σ=[some (.ref dr),some (.ref r),some (.ref h),some (.int m),some (.ref st),v5,v6,v7]/\H' h=some (.tup (S.map V.str))/\H' st=some (.lst (ss.map V.str))/\Al row S=true/\(∀y∈ss,y∈row)/\ss.length<=i/\DrawOk H' dr sc/\But dr H H') ?_ ?_ ?_
  ·exact⟨p,none,none,none,W,[],rfl,s1 _ _ hp,hst1,hW,λy hy=>by simp at hy,Lk _,d0.same s1,But.of s1⟩
  ·rintro i σ H2 hi ⟨h,v5,v6,v7,S,ss,rfl,hh,hst,hS,ho,hl,d2,b2⟩;have hR2:H2 r=some (.lst (row.map V.str)):=b2 _ _ hR nrd;dsimp only[Az];refine⟨_,rfl,_,rfl,r,h,row,S,rfl,hR2,R2,h14,hh,hS,λD qs zs H3 nD hD hnb hw hql s3=>?_⟩;have hst3:=s3 _ _ hst;have hh3:=s3 _ _ hh;have d3:=d2.same s3;have nDd:D≠dr:=(d2.ne nD).1;dsimp only[Az];refine⟨_,rfl,by show 0<=sizeLine;decide,λe0 ne0=>?_⟩;have s4:Same H3 (upd H3 e0 (.lst [])):=(Same.refl H3).step ne0;have he:upd H3 e0 (.lst []) e0=some (.lst []):=Ac;dsimp only[Dq];generalize upd H3 e0 (.lst [])=H4 at s4 he;have ok:=hw.ok R2.ok;refine⟨.list (zs.map dNb),.list (([]:List (Str×List Str)).map dNb),Xnj (s4 _ _ hD) (hnb.same s4),Ke he Cv,Du _ (Fe ok),Du _ (Fe (xs:=[]) λ_ h=>(nomatch h)),Mj (Nat.min_le_right _ _) (by decide),_,rfl,?_⟩;have hD4:=s4 _ _ hD;have hnb4:=hnb.same s4;have hst4:=s4 _ _ hst3;have d4:=d3.same s4;have b4:=(b2.same s3).same s4;by_cases hemp:zs=[]
   ·rw[(E4 _ _ (Fe ok) (Fe (xs:=[]) λ_ h=>(nomatch h))).mpr (by rw[hemp])];exact iteT ⟨_,rfl,k st ss H4 nst hst4 ho (by omega) d4 b4⟩
   have ef:PyData.eqv (.list (zs.map dNb)) (.list (([]:List (Str×List Str)).map dNb))=false:=by
    cases hq:PyData.eqv (.list (zs.map dNb)) (.list (([]:List (Str×List Str)).map dNb)) with
    | false=>rfl
    | true=>
     have:=(E4 _ _ (Fe ok) (Fe (xs:=[]) λ_ h=>(nomatch h))).mp hq;injection this with this
     exact absurd (List.map_eq_nil_iff.mp this) hemp
   rw[ef];refine Bg ?_;have hq0:0<qs.length:=by rw[hnb.1];exact O8.mpr hemp
   refine⟨_,rfl,_,rfl,_,rfl,D,_,rfl,.inl (SqL.of hD4),dr,sc,_,rfl,by rw[Li];omega,by rw[Li];omega,d4,λj H5 j0 j1 d5 b5=>?_⟩;have b5:But dr H4 H5:=b5;rw[Li] at j1;obtain⟨j,rfl⟩:=Ma j0;have hj:j<qs.length:=by omega
   have hD5:=b5 _ _ hD4 nDd;obtain⟨q,hq,p',h1,h2⟩:=hnb4.at hj;obtain⟨x1,x3⟩:=hw q hq;have h15:=b5 _ _ h1 (d4.ntup _ _ h1);have h25:=b5 _ _ h2 (d4.ntup _ _ h2);have hst5:=b5 _ _ hst4 n1;refine⟨D,_,_,.ref (qs.getD j 0),rfl,rfl,SqL.of hD5,B0 (by rw[Lz,Lm hj];simp[List.getD,hj]),_,_,rfl,SqT.of h15,rfl,_,_,rfl,_,_,rfl,rfl,?_⟩;refine⟨_,rfl,.inl ⟨rfl,_,SqL.of hst5⟩,_,rfl,st,_,_,rfl,rfl,hst5,by rw[Li,Po];omega,?_⟩;refine⟨p',_,_,_,q.2,ss++[q.1],rfl,?_,by rw[Ac,Lx];rfl,x3,λy hy=>?_,by rw[Ln];show ss.length+1<=i+1;omega,d5.upd n1 n2,(b4.trans b5).upd nst⟩
   ·rw[Af (λz=>by rw[z,hst5] at h25;cases h25)];exact h25
   ·rcases Ls.mp hy with z | z
    ·exact ho y z
    ·rw[Ly.mp z];exact x1
  ·rintro σ H2 ⟨h,v5,v6,v7,S,ss,rfl,hh,hst,hS,ho,hl,d2,b2⟩;exact⟨_,rfl,k st ss H2 nst hst ho (by omega) d2 b2⟩
theorem Xok:FnScope ["_law_script"] ["_law_script"] (defScope sBegin):=⟨rfl,rfl,rfl,by decide +kernel,rfl,by decide +kernel,by decide +kernel⟩
theorem Xol{f:Addr}{fd:FuncData}(F:Fun K "_law_begin" "_law_begin" sBegin f fd)(T:Bl mg):FnOk P w K mg base CX0 1 f fd ["_law_script"] (Kj K):=by
 refine F.ok Xok (λvs H Q E h=>?_) (λcdv A outer s H vs Q E hr h=>?_)
 ·obtain⟨a,ns,rfl,_⟩:=h;rfl
 ·obtain⟨a,ns,rfl,hS,hl,k⟩:=h;refine⟨_,Ae (Am (Bf (Aa (Bn Fv rfl T.list boot_list (Aa (Bu C8 (pv 0) Bz (Bs Ag)) Ab)) (Aa Ag (Aa Ag (Aa Ag (Aa Ag Ab))))))),?_⟩;refine⟨_,rfl,_,rfl,a,_,rfl,hS,λp hp=>?_⟩;have cut:Bj (ns.map V.int) none (some 63)=ns.map V.int:=by
   unfold Bj;rw[HT.sIx_none,Pg,show (some (63:Int))=some ((63:Nat):Int) from rfl,HT.sIx_nat];exact Nb (by rw[Li];omega)
  rw[cut];refine⟨p,_,rfl,.inl (SqL.of Ac),λq hq=>?_⟩;refine⟨by show 5<=sizeLine;decide,λdr hdr=>?_⟩;have npq:p≠q:=Aq (o:=.lst (ns.map V.int)) Ac hq;have nqd:q≠dr:=Aq (o:=.lst (ns.map V.int)) Ac hdr;have hqH:H q=none:=by rw[Af npq.symm] at hq;exact hq
  have hpd:p≠dr:=Aq (H:=upd (upd H p (.lst (ns.map V.int))) q (.lst (ns.map V.int))) (o:=.lst (ns.map V.int)) (by rw[Af npq,Ac]) hdr;have hdH:H dr=none:=by rw[Af nqd.symm,Af hpd.symm] at hdr;exact hdr
  refine k dr q _ hdH hqH ⟨⟨ns,0,0,1,0,Ac,by rw[Af nqd,Ac],Mt _,hl,by decide,by decide⟩⟩ ((((Same.refl H).upd hp).upd hqH).upd hdH)
theorem Xfg:FnScope NPut ["_law_row_here", "_law_name", "_law_at", "_law_to"] (defScope sPut):=⟨rfl,rfl,rfl,by decide +kernel,rfl,by decide +kernel,by decide +kernel⟩
theorem Xom{f:Addr}{fd:FuncData}(F:Fun K "_law_put" "_law_put" sPut f fd):FnOk P w K mg base CX0 1 f fd ["_law_row_here", "_law_name", "_law_at", "_law_to"] Kk:=by
 refine F.ok Xfg (λvs H Q E h=>?_) (λcdv A outer s H vs Q E hr h=>?_)
 ·obtain⟨r,row,x,a,b,rfl,_⟩:=h;rfl
 ·obtain⟨r,row,x,a,b,rfl,hR,hl,hab,hb,k⟩:=h;refine⟨_,Ad (Ak (i:=4) Xfg.nd rfl (Or.inl rfl) (An B5 (An B5 (Bu C8 (pv 0) Bz (Bs (pv 2))) (Bf (Aa (pv 1) Ab))) (Bu C8 (pv 0) (Bs (pv 2)) (Bs (pv 3)))))
   (Ae (Am (An B5 (An B5 (pv 4) (Bf (Aa (pv 1) Ab))) (Bu C8 (pv 0) (Bs (pv 3)) Bz)))),?_⟩
  have h24:∀n,n<=100000->n<=sizeLine:=λn h=>by rw[Po];omega
  refine⟨_,rfl,_,rfl,_,rfl,r,_,rfl,SqL.of hR,λp1 n1=>?_⟩;rw[E2 _ _ _ (by omega)];refine⟨_,rfl,by show 1<=sizeLine;decide,λp2 n2=>?_⟩;refine⟨p1,p2,_,_,rfl,rfl,ku Ac n2,Ac,h24 _ (by simp;omega),λp3 n3=>?_⟩;refine⟨_,rfl,_,rfl,_,rfl,_,rfl,_,rfl,r,_,rfl,SqL.of (ku (ku (ku hR n1) n2) n3),λp4 n4=>?_⟩;rw[Xi8 _ _ _ _ hab hb];refine⟨p3,p4,_,_,rfl,rfl,ku Ac n4,Ac,h24 _ (by simp;omega),λp5 n5=>?_⟩;refine⟨_,rfl,_,rfl,by show 1<=sizeLine;decide,λp6 n6=>?_⟩;refine⟨p5,p6,_,_,rfl,rfl,ku Ac n6,Ac,h24 _ (by simp;omega),λp7 n7=>?_⟩;refine⟨_,rfl,_,rfl,_,rfl,r,_,rfl,SqL.of (ku (ku (ku (ku (ku (ku (ku hR n1) n2) n3) n4) n5) n6) n7),λp8 n8=>?_⟩;rw[E3 _ _ _ hb];refine⟨p7,p8,_,_,rfl,rfl,ku Ac n8,Ac,h24 _ (by simp;omega),λp9 n9=>?_⟩;have s8:=((((((((Same.refl H).go n1 n2).go n2 n3).go n3 n4).go n4 n5).go n5 n6).go n6 n7).go n7 n8).go n8 n9;refine k p9 _ (s8.free n9) (Ac.trans ?_) (s8.step n9);unfold Cy;simp
theorem Gm:FnScope NBa ["_law_row_here", "_law_name"] (defScope sBarred):=⟨rfl,rfl,rfl,by decide +kernel,rfl,by decide +kernel,by decide +kernel⟩
theorem Xon{f:Addr}{fd:FuncData}(F:Fun K "_law_barred" "_law_barred" sBarred f fd)(T:Bl mg)(FW:Fn P w K mg base CX0 1 "_law_where" ["_law_row_here"] Hi)
  (FO:Fn P w K mg base CX0 1 "_law_word" ["_law_where_here", "_law_one_here", "_law_other"] spWord):FnOk P w K mg base CX0 2 f fd ["_law_row_here", "_law_name"] spBarredN:=by
 refine F.ok Gm (λvs H Q E h=>?_) (λcdv A outer s H vs Q E hr h=>?_)
 ·obtain⟨r,row,x,rfl,_⟩:=h;rfl
 ·obtain⟨r,row,x,rfl,hR,hl,h2,hx,k⟩:=h;have hu:=C9 hr;refine⟨_,Ad (Ak (i:=2) Gm.nd rfl (Or.inr rfl) (Ai FW hr rfl Aj (Aa (pv 0) Ab)))
   (Ad (Kd (i:=3) (N:=NBc) (cap:=[none,some 1,some 2]) (CompScope.of (defScope sBarred) NBa rfl rfl rfl (by decide +kernel)) rfl Gm.nd rfl rfl
     (Xh6 (pv 2)) (λ_ _ _=>A2 (i:=0) (show NBc.Nodup by decide +kernel) rfl (Or.inl rfl) (Or.inr rfl))
     (λ_ _ _=>F0 (Ap Bm (Ai FO hr rfl Aj (Aa (pv 2) (Aa (pv 1) (Aa (pv 0) Ab)))) A7 (Au _))) (λ_ _ _=>pv 0))
   (Ad (Bq PassesOwn.never rfl (D7 rfl T.range (Aa (A4 Bt (by rfl) T.len boot_len (Aa (pv 3) Ab)) Ab)) (A2 (i:=4) Gm.nd rfl (Or.inl rfl))
    (Ae (Bq PassesOwn.never rfl (Cd (Bu C8 (pv 3) (Bs (An Bk (pv 4) Ag)) Bz)) (A2 (i:=5) Gm.nd rfl (Or.inl rfl))
     (Ae (A3 (Ap Bm (Ai FO hr rfl Aj (Aa (pv 2) (Aa (Av Bb (pv 3) (pv 4) (λ_ _=>rfl)) (Aa (pv 5) Ab)))) A7 (Au _)) (Ae (Am Dp)) A6)))))
   (Ae (Am Dp)))),?_⟩
  refine⟨_,rfl,r,row,rfl,hR,hl,λd kvs H1 nd hd wh s1=>?_⟩;refine⟨_,rfl,d,kvs,rfl,hd,λo=>?_⟩;generalize hH2:upd H1 d (.frz o (.dK kvs))=H2;have s2:Same H H2:=λb u e=>by rw[<-hH2,Af (Aq e nd)];exact s1 b u e
  have hd2:H2 d=some (.frz o (.dK kvs)):=by rw[<-hH2];exact Ac
  have wh2:Wh H2 kvs row:=⟨wh.keys,λy hy=>let ⟨l,e1,e2⟩:=wh.val y hy; ⟨l,e1,by rw[<-hH2,Af (λz=>by rw[z,hd] at e2;cases e2)];exact e2⟩,wh.none,wh.nd,wh.len⟩;have hkl:=wh.len;refine G1 (n:=kvs.length) (λi=>(kvs.map λp=>kV p.1).getD i .non) (λD i σ2 H3=>∃(v:Option V) (ms:List Str), σ2=[v,some (.str x),some (.ref d)]/\Same H2 H3/\H3 D=some (.lst (ms.map V.str))/\(∀m∈ms,m∈row)/\ms.length<=i/\∀(j:Nat) (y:Str),j<i->(kvs.map λp=>kV p.1).getD j .non = .str y->A0 row x y->y∈ms) ?_ ?_ ?_ ?_ ?_
  ·intro D hD;exact⟨none,[],rfl,(Same.refl H2).step hD,Ac,by simp,Lk _,λj y h=>absurd h (Np _)⟩
  ·rintro D i σ2 H3 hD hi ⟨v,ms,rfl,s3,hm,hin,hml,hall⟩;exact Xb5 (s3 _ _ hd2) hi
  ·rintro D σ2 H3 hD ⟨v,ms,rfl,s3,hm,hin,hml,hall⟩;exact Xb6 (s3 _ _ hd2)
  ·rintro D i σ2 H3 hD hi ⟨v,ms,rfl,s3,hm,hin,hml,hall⟩;obtain⟨y,hy1,hy2⟩:∃y,(kvs.map λp=>kV p.1).getD i .non = .str y/\y∈row:=by
    obtain⟨y,e1,e2⟩:=wh.keys (kvs[i]'hi).1 (Mf.mpr ⟨kvs[i]'hi,Me hi,rfl⟩);refine⟨y,?_,e2⟩;simp only[List.getD,Lz,Lm hi,Nk,Option.getD_some];rw[e1];rfl
   rw[hy1];obtain⟨l1,e1,g1⟩:=wh2.pl hx (h2 x hx);obtain⟨l2,e2,g2⟩:=wh2.pl hy2 (h2 y hy2);refine⟨_,rfl,_,rfl,_,rfl,d,l1,l2,kvs,x,y,_,_,_,_,rfl,.inr ⟨o,s3 _ _ hd2⟩,e1,e2,s3 _ _ g1,s3 _ _ g2,λH4 s4=>?_⟩;have s24:=s3.trans s4;refine⟨rfl,_,rfl,?_⟩;rw[<-E8 (h2 x hx) (h2 y hy2)];refine Ao (λhc=>?_) (λhc=>wskip hi ⟨_,ms,rfl,s24,s4 _ _ hm,hin,by omega,λj z hj hz kz=>?_⟩);rotate_left
   ·by_cases ej:j=i
    ·subst ej;rw[hy1] at hz;injection hz with hz
     subst hz;exact absurd (by rw[show lieR row x y = "cross" from kz]) (Xd0 hc)
    ·exact hall j z (by omega) hz kz
   refine⟨_,rfl,wput hi (s4 _ _ hm) (by rw[Li,Po];omega) ⟨_,ms++[y],rfl,?_,by rw[Ac,Lx];rfl,?_,by rw[Ln,Mq];omega,λj z hj hz kz=>?_⟩⟩
   ·intro b u e;rw[Af (Aq e hD)];exact s24 b u e
   ·intro m hm;rcases Ls.mp hm with z | z
    ·exact hin m z
    ·rw[Ly.mp z];exact hy2
   ·by_cases ej:j=i
    ·subst ej;rw[hy1] at hz;injection hz with hz
     subst hz;simp
    ·exact M7 _ (hall j z (by omega) hz kz)
  ·rintro D σ2 H3 hD ⟨v,ms,rfl,s3,hm,hin,hml,hall⟩;refine⟨_,rfl,D,_,rfl,.inl (SqL.of hm),((ms.map V.str).length:Int),rfl,by omega,by rw[Li];omega,?_⟩;have hn:((ms.map V.str).length:Int).toNat=ms.length:=by rw[Li];simp
   rw[hn];refine Eo (lo:=0) (n:=ms.length) (λi σ H4=>∃v1 v2, σ=[some (.ref r),some (.str x),some (.ref d),some (.ref D),v1,v2]/\Same H3 H4/\∀(p q:Nat) (y z:Str),p<i->p<q->ms[p]? = some y->ms[q]? = some z->¬A0 row y z) ?_ ?_ ?_
   ·exact⟨none,none,rfl,Same.refl _,λp q y z h=>absurd h (Np _)⟩
   ·rintro i σ H4 hi ⟨v1,v2,rfl,s4,ho⟩;refine⟨_,rfl,_,rfl,_,_,rfl,rfl,_,rfl,D,_,rfl,SqL.of (s4 _ _ hm),λp np=>?_⟩;have e0:(0:Int)+(i:Int)+1=((i+1:Nat):Int):=by omega
    rw[e0,E3 _ _ _ (by omega)];have s5:Same H3 (upd H4 p (.lst ((ms.drop (i+1)).map V.str))):=s4.step np;refine⟨p,rfl,⟨_,SqL.of Ac⟩,?_⟩;refine C7 (K:=K) (a:=p) (xs:=(ms.drop (i+1)).map V.str) (λj σ H5=>∃v2, σ=[some (.ref r),some (.str x),some (.ref d),some (.ref D),some (.int (0+(i:Int))),v2]/\Same (upd H4 p (.lst ((ms.drop (i+1)).map V.str))) H5/\∀(q:Nat) (z:Str),q<j->ms[i+1+q]? = some z->¬A0 row (ms[i]'hi) z) ?_ ?_ ?_ ?_
    ·exact⟨_,rfl,Same.refl _,λq z h=>absurd h (Np _)⟩
    ·rintro j σ H5 _ ⟨v2,rfl,s6,hi2⟩;exact SqL.of (s6 _ _ Ac)
    ·rintro j y σ H5 hj ⟨v2,rfl,s6,hi2⟩;obtain⟨z,rfl,hz,hzj⟩:∃z,y=V.str z/\z∈ms/\ms[i+1+j]? = some z:=by
      rw[Lz] at hj;cases q:(ms.drop (i+1))[j]? with
      | none=>rw[q] at hj;cases hj
      | some z=>
       rw[q] at hj;exact⟨z,(Lq hj).symm,Nj (M8 q),by rw[<-q,List.getElem?_drop]⟩
     have s36:=s5.trans s6;have hat:(ms.map V.str)[i]? = some (.str (ms[i]'hi)):=by rw[Lz,Lm hi];rfl
     have hat':atI (ms.map V.str) (0+(i:Int))=some (.str (ms[i]'hi)):=by rw[Pe];exact B0 hat
     obtain⟨l1,e1,g1⟩:=wh2.pl (hin _ (Me hi)) (h2 _ (hin _ (Me hi)));obtain⟨l2,e2,g2⟩:=wh2.pl (hin _ hz) (h2 _ (hin _ hz));have s26:=s3.trans s36;refine⟨_,rfl,_,rfl,_,rfl,D,_,_,_,rfl,rfl,SqL.of (s36 _ _ hm),hat',_,rfl,d,l1,l2,kvs,_,z,_,_,_,_,rfl,.inr ⟨o,s26 _ _ hd2⟩,e1,e2,s26 _ _ g1,s26 _ _ g2,λH6 s7=>?_⟩;refine⟨rfl,_,rfl,?_⟩;rw[<-E8 (h2 _ (hin _ (Me hi))) (h2 _ (hin _ hz))];refine Ao (λ_=>?_) (λhc=>?_)
     ·exact k true H6 (λe=>by cases e) ((s2.trans s3).trans (s36.trans s7))
     ·refine⟨_,rfl,s6.trans s7,λq u hq hu=>?_⟩;by_cases eq:q=j
      ·subst eq;rw[hzj] at hu;have hu:=Lq hu;subst hu;exact λkz=>absurd (by rw[show lieR row (ms[i]'hi) z = "cross" from kz]) (Xd0 hc)
      ·exact hi2 q u (by omega) hu
    ·rintro σ H5 ⟨v2,rfl,s6,hi2⟩;refine⟨_,_,rfl,s5.trans s6,λp q y z hp hpq hy hz=>?_⟩;by_cases ep:p=i
     ·subst ep;rw[Lm hi] at hy;rw[<-Lq hy];refine hi2 (q - (p+1)) z ?_ (by rw[show p+1+(q - (p+1))=q by omega];exact hz);have:=(L3.mp hz).1;rw[Li,Na];omega
     ·exact ho p q y z (by omega) hpq hy hz
   ·rintro σ H4 ⟨v1,v2,rfl,s4,ho⟩;refine k false H4 (λ_ y hy z hz k1 k2 k3=>?_) ((s2.trans s3).trans s4);have mem:∀u∈row,A0 row x u->u∈ms:=λu hu ku=>by
     obtain⟨l,e,_⟩:=wh.val u hu;obtain⟨j,hj,ej⟩:=Ni.mp (Gy e);rw[Li] at hj;refine hall j u hj ?_ ku;rw[List.getElem_map] at ej;simp only[List.getD,Lz,Lm hj,Nk,Option.getD_some];rw[ej];rfl
    obtain⟨p,hp,ep⟩:=Ni.mp (mem y hy k1);obtain⟨q,hq,eq⟩:=Ni.mp (mem z hz k2);have ep':ms[p]? = some y:=by rw[Lm hp,ep]
    have eq':ms[q]? = some z:=by rw[Lm hq,eq]
    rcases Nat.lt_trichotomy p q with h | h | h
    ·exact ho p q y z hp h ep' eq' k3
    ·subst h;rw[ep'] at eq';have e:=Lq eq';subst e;exact Dy (h2 y hy) k3
    ·exact ho q p z y hq h eq' ep' (Di (h2 y hy) (h2 z hz) k3)
theorem Dn:FnScope NRo ["_law_draw", "_law_names_here"] (defScope sRow):=⟨rfl,rfl,rfl,by decide +kernel,rfl,by decide +kernel,by decide +kernel⟩
theorem Xoo{f:Addr}{fd:FuncData}(F:Fun K "_law_row" "_law_row" sRow f fd)(T:Bl mg)(FP:FnPick P w K mg base)(FPut:Fn P w K mg base CX0 1 "_law_put" ["_law_row_here", "_law_name", "_law_at", "_law_to"] Kk)
  (FB:Fn P w K mg base CX0 2 "_law_barred" ["_law_row_here", "_law_name"] spBarredN):FnOk P w K mg base CX0 3 f fd ["_law_draw", "_law_names_here"] spRowN:=by
 refine F.ok Dn (λvs H Q E h=>?_) (λcdv A outer s H vs Q E hr h=>?_)
 ·obtain⟨dr,sc,nl,ns,rfl,_⟩:=h;rfl
 ·obtain⟨dr,sc,nl,ns,rfl,dk,hN,nnd,hnd,hnl,k⟩:=h;have hr1:Room 1 _:=hr.mono (by decide);have h24:∀m,m<=100000->m<=sizeLine:=λm h=>by rw[Po];omega
  refine⟨_,Ad (A3 (Ap Bm (Ai FP hr1 rfl Aj (Aa (pv 0) (Aa Ag Ab))) Ag (Au _))
    (Ad (Ak (i:=2) Dn.nd rfl (Or.inl rfl) (Ai FP hr1 rfl Aj (Aa (pv 0) (Aa (An Bk (A4 Bt (by rfl) T.len boot_len (Aa (pv 1) Ab)) Ag) Ab))))
    (Ae (Am (An B5 (An B5 (pv 1) (Xbv (Bu C8 (pv 1) Bz (Bs (pv 2))))) (Xbv (Bu C8 (pv 1) (Bs (pv 2)) Bz)))))) A6)
   (Ad (Ak (i:=3) Dn.nd rfl (Or.inl rfl) (Bf Ab))
   (Ad (Bq PassesOwn.never rfl (Cd (pv 1)) (A2 (i:=4) Dn.nd rfl (Or.inl rfl))
    (Ad (Ak (i:=5) Dn.nd rfl (Or.inl rfl) (Ai FP hr1 rfl Aj (Aa (pv 0) (Aa (An Bk (A4 Bt (by rfl) T.len boot_len (Aa (pv 3) Ab)) Ag) Ab))))
    (Ad (Ak (i:=6) Dn.nd rfl (Or.inl rfl) (An Bk (pv 5) (Ai FP hr1 rfl Aj (Aa (pv 0) (Aa (An Xga (An Bk (A4 Bt (by rfl) T.len boot_len (Aa (pv 3) Ab)) Ag) (pv 5)) Ab)))))
    (Ad (Ak (i:=7) Dn.nd rfl (Or.inl rfl) (Ai FPut hr1 rfl Aj (Aa (pv 3) (Aa (pv 4) (Aa (pv 5) (Aa (pv 6) Ab))))))
    (Ad (A3 (Cb (Ai FB hr rfl Aj (Aa (pv 7) (Aa (pv 4) Ab))))
     (Ae (Ak (i:=7) Dn.nd rfl (Or.inl rfl) (An B5 (An B5 (Bu C8 (pv 3) Bz (Bs (pv 5))) (Bf (Aa (pv 4) (Aa (pv 4) Ab)))) (Bu C8 (pv 3) (Bs (pv 5)) Bz)))) A6)
    (Ae (Ak (i:=3) Dn.nd rfl (Or.inl rfl) (pv 7))))))))
   (Ae (Am (pv 3))))),?_⟩
  refine⟨_,rfl,dr,sc,4,rfl,by decide,by decide,dk,λr1 H1 _ _ d1 b1=>?_⟩;refine⟨rfl,_,rfl,?_⟩;have b1:But dr H H1:=b1;have hN1:=b1 _ _ hN nnd;refine Ao (λ_=>?_) (λ_=>?_)
  ·-- the grid
   refine⟨_,rfl,_,rfl,nl,_,rfl,.inl (SqL.of hN1),_,_,rfl,rfl,dr,sc,_,rfl,by omega,by rw[Li];omega,d1,λc H2 c0 c1 d2 b2=>?_⟩;obtain⟨c,rfl⟩:=Ma c0;rw[Li] at c1;have hc:c<=ns.length:=by omega
   have b12:=But.trans b1 b2;have hN2:=b2 _ _ hN1 nnd;obtain⟨xs,hdr⟩:=d2.at;refine⟨_,rfl,_,rfl,_,rfl,_,rfl,nl,_,rfl,SqL.of hN2,λp1 n1=>?_⟩;rw[E2 _ _ _ hc];refine⟨p1,_,rfl,SqL.of Ac,λp2 n2=>?_⟩;refine⟨nl,p2,_,_,rfl,rfl,ku (ku hN2 n1) n2,Ac,h24 _ (by simp;omega),λp3 n3=>?_⟩;refine⟨_,rfl,_,rfl,_,rfl,nl,_,rfl,SqL.of (ku (ku (ku hN2 n1) n2) n3),λp4 n4=>?_⟩;rw[E3 _ _ _ hc];refine⟨p4,_,rfl,SqL.of Ac,λp5 n5=>?_⟩;refine⟨p3,p5,_,_,rfl,rfl,ku (ku Ac n4) n5,Ac,h24 _ (by simp;omega),λp6 n6=>?_⟩;have s5:=(((((Same.refl H2).go n1 n2).go n2 n3).go n3 n4).go n4 n5).go n5 n6;have f6:=s5.free n6;have hpm:(ns++(ns.take c).reverse++(ns.drop c).reverse).Perm (ns++ns):=by
    rw[Oc];refine List.Perm.append_left ns ?_;refine((List.reverse_perm _).append (List.reverse_perm _)).trans ?_;rw[Mn]
   refine k p6 (ns++(ns.take c).reverse++(ns.drop c).reverse) _ (b12.free hdr f6) (Ac.trans (by simp)) hpm (noThree_grid hnd c λz hz=>E6 hnd hpm z ?_) (d2.same (s5.step n6)) (b12.same (s5.step n6));exact hpm.mem_iff.mpr (M7 _ hz)
  ·-- dug one by one
   refine⟨by show 0<=sizeLine;decide,λp np=>?_⟩;obtain⟨xs1,hdr1⟩:=d1.at;have s0:Same H1 (upd H1 p (.lst [])):=(Same.refl H1).step np;refine⟨_,rfl,nl,rfl,⟨_,SqL.of (s0 _ _ hN1)⟩,?_⟩;refine C7 (K:=K) (a:=nl) (xs:=ns.map V.str) (λi σ H2=>∃(v2 v4 v5 v6 v7:Option V) (q:Addr) (row:List Str), σ=[some (.ref dr),some (.ref nl),v2,some (.ref q),v4,v5,v6,v7]/\H2 q=some (.lst (row.map V.str))/\H q=none/\q≠dr/\row.Perm (ns.take i++ns.take i)/\Cp row/\DrawOk H2 dr sc/\But dr H H2) ?_ ?_ ?_ ?_
   ·exact⟨_,_,_,_,_,p,[],rfl,Ac,b1.free hdr1 np,(Aq hdr1 np).symm,by simp,Xk2,d1.same s0,b1.same s0⟩
   ·rintro i σ H2 _ ⟨v2,v4,v5,v6,v7,q,row,rfl,hq,nq,nqd,hp,hno,d2,b2⟩;exact SqL.of (b2 _ _ hN nnd)
   ·rintro i y σ H2 hi ⟨v2,v4,v5,v6,v7,q,row,rfl,hq,nq,nqd,hp,hno,d2,b2⟩;have hil:i<ns.length:=by
     have:=(L3.mp hi).1
     rwa [Li] at this
    obtain⟨x,rfl,hx⟩:∃x,y=V.str x/\ns[i]? = some x:=by
     rw[Lz] at hi;cases z:ns[i]? with
     | none=>rw[z] at hi;cases hi
     | some x=>rw[z] at hi;exact⟨x,(Lq hi).symm,rfl⟩
    have tk:ns.take (i+1)=ns.take i++[x]:=by
     rw[L7 hil];rw[Lm hil] at hx;rw[Lq hx]
    have hrl:row.length<=28:=by
     have:=hp.length_eq;rw[Ln,Mb] at this;omega
    have ndT:(ns.take i++[x]).Nodup:=by rw[<-tk];exact hnd.sublist (Ob ..)
    refine⟨_,rfl,_,rfl,q,_,rfl,.inl (SqL.of hq),_,_,rfl,rfl,dr,sc,_,rfl,by omega,by rw[Li];omega,d2,λa H3 a0 a1 d3 b3=>?_⟩;obtain⟨a,rfl⟩:=Ma a0;rw[Li] at a1;have hq3:=b3 _ _ hq nqd;refine⟨_,rfl,_,rfl,_,rfl,q,_,rfl,.inl (SqL.of hq3),_,_,rfl,rfl,_,rfl,_,_,rfl,rfl,dr,sc,_,rfl,by rw[Li];omega,by rw[Li];omega,d3,λc H4 c0 c1 d4 b4=>?_⟩;obtain⟨c,rfl⟩:=Ma c0;rw[Li] at c1;refine⟨_,_,rfl,rfl,?_⟩;have eac:(a:Int)+(c:Int)=((a+c:Nat):Int):=by omega
    dsimp only;rw[eac];have hac:a+c<=row.length:=by omega
    have hq4:=b4 _ _ hq3 nqd;have b24:=But.trans b2 (But.trans b3 b4);obtain⟨xs4,hdr4⟩:=d4.at;refine⟨_,rfl,_,rfl,_,rfl,_,rfl,q,row,x,a,a+c,rfl,hq4,by omega,by omega,hac,λl H5 nl5 hl5 s5=>?_⟩;have d5:=d4.same s5;have b25:=b24.same s5;have nlH:=b24.free hdr4 nl5;have nld:l≠dr:=(Aq hdr4 nl5).symm;have hperm:(Cy row x a (a+c)).Perm ((ns.take i++[x])++(ns.take i++[x])):=Xdh hp (Xde row x a (a+c) (by omega));have hll:(Cy row x a (a+c)).length<=1000:=by
     have:=hperm.length_eq;rw[Ln,Ln,Mb,Mq] at this;omega
    refine⟨_,rfl,_,rfl,l,_,x,rfl,hl5,hll,E6 ndT hperm,hperm.mem_iff.mpr (by simp),λbb H6 hbb s6=>?_⟩;have d6:=d5.same s6;have b26:=b25.same s6;refine⟨bb,rfl,?_⟩;have two0:∀y∈row,row.count y=2:=E6 (hnd.sublist (Ob ..)) hp;refine Ao (λ_=>?_) (λhbf=>?_)
    ·have hq6:=s6 _ _ (s5 _ _ hq4);refine⟨_,rfl,_,rfl,_,rfl,q,_,rfl,SqL.of hq6,λp1 n1=>?_⟩;rw[E2 _ _ _ (by omega)];refine⟨_,rfl,_,rfl,by show 2<=sizeLine;decide,λp2 n2=>?_⟩;refine⟨p1,p2,_,_,rfl,rfl,ku Ac n2,Ac,h24 _ (by simp;omega),λp3 n3=>?_⟩;refine⟨_,rfl,_,rfl,_,rfl,q,_,rfl,SqL.of (ku (ku (ku hq6 n1) n2) n3),λp4 n4=>?_⟩;rw[E3 _ _ _ (by omega)];refine⟨p3,p4,_,_,rfl,rfl,ku Ac n4,Ac,h24 _ (by simp;omega),λp5 n5=>?_⟩;have s4':=((((Same.refl H6).go n1 n2).go n2 n3).go n3 n4).go n4 n5;have f5:=s4'.free n5;obtain⟨xs6,hdr6⟩:=d6.at;have pN:(row.take a++[x,x]++row.drop a).Perm (x::x::row):=by
      have e:row.take a++[x,x]++row.drop a=row.take a++x::x::row.drop a:=by simp
      rw[e];refine N5.trans (List.Perm.cons x (N5.trans (List.Perm.cons x ?_)));rw[Mn]
     have pM:=Xdh hp pN;have twoN:=E6 ndT pM;refine⟨_,rfl,_,_,_,_,_,p5,row.take a++[x,x]++row.drop a,rfl,Ac.trans (by simp),b26.free hdr6 f5,(Aq hdr6 f5).symm,by rw[tk];exact pM,?_,d6.same (s4'.step n5),b26.same (s4'.step n5)⟩;refine Xdy (x:=x) hno two0 twoN (λy hy=>?_) (λp hp=>Xk5 hp) (λy hy z hz ky=>absurd ky (Xk4 (twoN x (by simp)) (twoN y hy)));have:=pN.mem_iff.mp hy;simp only[Lw] at this;rcases this with h | h | h
     ·exact .inl h
     ·exact .inl h
     ·exact .inr h
    ·refine⟨_,rfl,_,_,_,_,_,l,_,rfl,s6 _ _ hl5,nlH,nld,by rw[tk];exact hperm,?_,d6,b26⟩;refine Xdy (x:=x) hno two0 (E6 ndT hperm) (λy hy=>?_) (λp hp=>Xk3 (by omega) hp) (hbb hbf);have:=(Xde row x a (a+c) (by omega)).mem_iff.mp hy;simp only[Lw] at this;rcases this with h | h | h
     ·exact .inl h
     ·exact .inl h
     ·exact .inr h
   ·rintro σ H2 ⟨v2,v4,v5,v6,v7,q,row,rfl,hq,nq,nqd,hp,hno,d2,b2⟩;rw[Li,Mp] at hp;exact⟨_,rfl,k q row H2 nq hq hp hno d2 b2⟩
theorem D1:FnScope NNa ["_law_draw", "_law_many"] (defScope sNames):=⟨rfl,rfl,rfl,by decide +kernel,rfl,by decide +kernel,by decide +kernel⟩
theorem Xop{f:Addr}{fd:FuncData}(F:Fun K "_law_names" "_law_names" sNames f fd)(T:Bl mg)(FP:FnPick P w K mg base):FnOk P w K mg base CX0 2 f fd ["_law_draw", "_law_many"] Kp:=by
 refine F.ok D1 (λvs H Q E h=>?_) (λcdv A outer s H vs Q E hr h=>?_)
 ·obtain⟨dr,sc,n,rfl,_⟩:=h;rfl
 ·obtain⟨dr,sc,n,rfl,hn,dk,k⟩:=h;refine⟨_,Ad (Ak (i:=2) D1.nd rfl (Or.inl rfl) A7)
   (Ad (Ak (i:=3) D1.nd rfl (Or.inl rfl) (Ai FP hr rfl Aj (Aa (pv 0) (Aa Ag Ab))))
   (Ad (Ak (i:=4) D1.nd rfl (Or.inl rfl) (D8 Bm (Ai FP hr rfl Aj (Aa (pv 0) (Aa Ag Ab))) Ag (Au _)))
   (Ad (Ak (i:=5) D1.nd rfl (Or.inl rfl) (Bf Ab))
   (Ad (Bq PassesOwn.never rfl (D7 rfl T.range (Aa (pv 1) Ab)) (A2 (i:=6) D1.nd rfl (Or.inl rfl))
    (Ad (Ak (i:=7) D1.nd rfl (Or.inl rfl) (Av Xgx (pv 2) (An Ep (An Bk (pv 3) (pv 6)) Ag) (λ_ _=>rfl)))
    (Ad (Ak (i:=8) D1.nd rfl (Or.inl rfl) (An Xh3 A7 (An Ep (An Bk (pv 3) (An Xaj (pv 6) (pv 6))) Ag)))
    (Ae (C5 (Er PySem.F.plainAttrs_list PySem.F.slot_list_append PySem.F.type_list_append Fx (pv 5)
     (Aa (Gq (Cb (pv 4)) (An Gv (An Gv (pv 8) (pv 7)) A7) (An Gv (pv 7) (pv 8))) Ab)))))))
   (Ae (Am (pv 5))))))),?_⟩
  refine⟨_,rfl,dr,sc,26,rfl,by decide,by decide,dk,λr1 H1 r10 r11 d1 b1=>?_⟩;refine⟨_,rfl,dr,sc,2,rfl,by decide,by decide,d1,λr2 H2 r20 r21 d2 b2=>?_⟩;refine⟨rfl,?_⟩;refine⟨by show 0<=sizeLine;decide,λl nl=>?_⟩;obtain⟨st,rfl⟩:=Ma r10;have hst:st<26:=by omega
  generalize hlt:decide (V.int r2=V.int 1)=late;have b12:But dr H H2:=But.trans b1 b2;obtain⟨xs,hdr⟩:=d2.at;have nlH:H l=none:=b12.free hdr nl;obtain⟨nld,nls⟩:=d2.ne nl;refine⟨_,rfl,(n:Int),rfl,by omega,by omega,?_⟩;rw[Nc];refine Eo (lo:=0) (n:=n) (λi σ H3=>∃v1 v2 v3, σ=[some (.ref dr),some (.int n),some (.str Eh),some (.int st),some (.bl late),some (.ref l),v1,v2,v3]/\H3 l=some (.lst ((Ba st late i).map V.str))/\DrawOk H3 dr sc/\But dr H H3) ?_ ?_ ?_
  ·exact⟨none,none,none,rfl,Ac,d2.upd nld nls,b12.upd nlH⟩
  ·rintro i σ H3 hi ⟨v1,v2,v3,rfl,hl3,d3,b3⟩;have e26:((st:Int)+(0+(i:Int))) % 26=(((st+i) % 26:Nat):Int):=by omega
   have h26:(st+i) % 26<26:=Ph _ (by decide);have eii:((0:Int)+(i:Int)) * (0+(i:Int))=((i * i:Nat):Int):=by rw[Pe];exact(Int.natCast_mul i i).symm
   have h7:(st+i * i) % 7<7:=Ph _ (by decide);have e7:((st:Int)+((i * i:Nat):Int)) % 7=(((st+i * i) % 7:Nat):Int):=by
    generalize i * i=j;omega
   refine⟨_,rfl,_,rfl,_,rfl,_,_,rfl,rfl,_,_,rfl,rfl,(by show (0:Int)<26;decide),_,_,_,rfl,rfl,(by show 26<=sizeLine;decide),by rw[e26];exact Xj8 h26,?_⟩;refine⟨_,rfl,_,rfl,_,rfl,_,_,rfl,rfl,.inl ⟨by omega,by omega⟩,_,_,rfl,rfl,_,_,rfl,rfl,(by show (0:Int)<7;decide),?_⟩;have e77:((st:Int)+((0:Int)+(i:Int)) * (0+(i:Int))) % 7=(((st+i * i) % 7:Nat):Int):=by rw[eii,e7]
   refine⟨_,_,rfl,rfl,by rw[e77];omega,by rw[e77];omega,by show 1<=1000;decide,?_⟩;rw[e77,Nc];have hrl:(repS "m" ((st+i * i) % 7)).length<=6:=by
    rw[Js];have:(Str.ofString "m").length=1:=rfl;rw[this];omega
   have hsl:(signOf ((st+i) % 26)).length=1:=rfl;have hnl:(Ba st late i).length=i:=by unfold Ba;simp
   have hsnoc:Ba st late (i+1)=Ba st late i++[Gi st late i]:=by unfold Ba;rw[Mw,Lx];rfl
   have h24:∀m,m<=100000->m<=sizeLine:=λm h=>by rw[Po];omega
   have fin:∀z:Str,Gi st late i=z->Jh (.ref l) [.str z] H3 λ_ H4=>∃v1 v2 v3,[some (V.ref dr),some (.int n),some (.str Eh),some (.int st),some (.bl late),some (.ref l),some (.int (0+(i:Int))),some (.str (signOf ((st+i) % 26))),some (.str (repS "m" ((st+i * i) % 7)))]=[some (.ref dr),some (.int n),some (.str Eh),some (.int st),some (.bl late),some (.ref l),v1,v2,v3]/\H4 l=some (.lst ((Ba st late (i+1)).map V.str))/\DrawOk H4 dr sc/\But dr H H4:=λz hz=>by
    refine⟨l,_,_,rfl,rfl,hl3,by rw[Li,hnl,Po];omega,_,_,_,rfl,?_,d3.upd nld nls,b3.upd nlH⟩;rw[Ac,hsnoc,Lx,<-hz];rfl
   refine⟨_,rfl,.inl ⟨rfl,_,SqL.of hl3⟩,_,rfl,late,rfl,?_⟩;refine Ao (λhL=>?_) (λhL=>?_)
   ·refine⟨_,rfl,_,rfl,_,_,rfl,rfl,h24 _ (by show (repS "m" ((st+i * i) % 7)).length+1<=100000;omega),_,_,rfl,rfl,h24 _ ?_,fin _ (by unfold Gi;rw[Pq hL];rfl)⟩;rw[Ee];show (repS "m" ((st+i * i) % 7)).length+1+1<=100000;omega
   ·exact⟨_,rfl,_,rfl,_,_,rfl,rfl,h24 _ (by show 1+(repS "m" ((st+i * i) % 7)).length<=100000;omega),fin _ (by unfold Gi;rw[Pp (by rw[hL];decide)];rfl)⟩
  ·rintro σ H3 ⟨v1,v2,v3,rfl,hl3,d3,b3⟩;exact⟨_,rfl,k l st late H3 nlH hst hl3 nls d3 b3⟩
theorem Lh:FnScope NIs ["_law_draw", "_law_most"] (defScope sIsland):=⟨rfl,rfl,rfl,by decide +kernel,rfl,by decide +kernel,by decide +kernel⟩
theorem Xoq{f:Addr}{fd:FuncData}(F:Fun K "_law_island" "_law_island" sIsland f fd)(T:Bl mg)(FP:FnPick P w K mg base)(FN:Fn P w K mg base CX0 2 "_law_names" ["_law_draw", "_law_many"] Kp)
  (FR:Fn P w K mg base CX0 3 "_law_row" ["_law_draw", "_law_names_here"] spRowN):FnOk P w K mg base CX0 4 f fd ["_law_draw", "_law_most"] spIslandN:=by
 refine F.ok Lh (λvs H Q E h=>?_) (λcdv A outer s H vs Q E hr h=>?_)
 ·obtain⟨dr,sc,m,rfl,_⟩:=h;rfl
 ·obtain⟨dr,sc,m,rfl,hm,dk,k⟩:=h;have hr1:Room 1 _:=hr.mono (by decide);have hr2:Room 2 _:=hr.mono (by decide);refine⟨_,Ad (Ak (i:=2) Lh.nd rfl (Or.inl rfl) (An Bk Ag (Ai FP hr1 rfl Aj (Aa (pv 0) (Aa Ag Ab)))))
   (Ad (Ak (i:=3) Lh.nd rfl (Or.inl rfl) (Av Fs (Be (Aa (Ai FP hr1 rfl Aj (Aa (pv 0) (Aa Ag Ab))) (Aa (pv 2) (Aa (Ai FP hr1 rfl Aj (Aa (pv 0) (Aa (An Bk (pv 1) Ag) Ab))) Ab))))
    (Ai FP hr1 rfl Aj (Aa (pv 0) (Aa Ag Ab))) (λ_ _=>rfl)))
   (Ae (Am (Ai FR hr rfl Aj (Aa (pv 0) (Aa (Ai FN hr2 rfl Aj (Aa (pv 0) (Aa (A4 (Xge rfl) (by rfl) T.min boot_min (Aa (pv 3) (Aa (pv 1) Ab))) Ab))) Ab)))))),?_⟩
  refine⟨_,rfl,dr,sc,5,rfl,by decide,by decide,dk,λr1 H1 r10 _ d1 b1=>⟨_,_,rfl,rfl,?_⟩⟩;refine⟨_,rfl,dr,sc,5,rfl,by decide,by decide,d1,λr2 H2 r20 _ d2 b2=>?_⟩;refine⟨_,rfl,_,rfl,_,rfl,_,_,rfl,rfl,dr,sc,_,rfl,by omega,by omega,d2,λr3 H3 r30 _ d3 b3=>?_⟩;have b1:But dr H H1:=b1;have b13:But dr H H3:=But.trans b1 (But.trans b2 b3);refine⟨by show 3<=sizeLine;decide,λp np=>?_⟩;obtain⟨ne1,ne2⟩:=d3.ne np;obtain⟨xs3,hdr3⟩:=d3.at;have npH:=b13.free hdr3 np;refine⟨_,rfl,dr,sc,3,rfl,by decide,by decide,d3.upd ne1 ne2,λr4 H4 r40 r41 d4 b4=>?_⟩;have b4:But dr (L2.upd H3 p (.tup [.int r2,.int (2+r1),.int r3])) H4:=b4;have hp4:=b4 p _ Ac ne1;have b14:But dr H H4:=But.trans (b13.upd npH) b4;obtain⟨mm,hmm0,hmm⟩:∃mm:Int,0<=mm/\atI ([.int r2,.int (2+r1),.int r3]:List V) r4=some (.int mm):=by
   obtain⟨i,rfl⟩:=Ma r40;have hi:i<3:=by omega
   match i,hi with
   | 0,_=>exact⟨r2,r20,rfl⟩
   | 1,_=>exact⟨2+r1,by omega,rfl⟩
   | 2,_=>exact⟨r3,r30,rfl⟩
  refine⟨p,_,_,_,rfl,rfl,SqT.of hp4,hmm,?_⟩;obtain⟨n,hn,hnm⟩:∃n:Nat,(if (m:Int)<mm then (m:Int) else mm)=(n:Int)/\n<=m:=by
   obtain⟨j,rfl⟩:=Ma hmm0;by_cases hj:(m:Int)<(j:Int)
   ·exact⟨m,Pq hj,Lk _⟩
   ·exact⟨j,Pp hj,by omega⟩
  refine⟨_,rfl,_,rfl,_,rfl,_,rfl,_,_,rfl,?_⟩;rw[hn];refine⟨dr,sc,n,rfl,by omega,d4,λl st late H5 nl hst hl5 nls d5 b5=>?_⟩;obtain⟨xs4,hdr4⟩:=d4.at;have nld:l≠dr:=(Aq hdr4 nl).symm;have b15:=But.trans b14 b5;refine⟨dr,sc,l,_,rfl,d5,hl5,nld,Ko hst (by omega),by unfold Ba;simp;omega,λl2 row H6 nl2 hl6 hp hno d6 b6=>?_⟩;obtain⟨xs5,hdr5⟩:=d5.at;exact k l2 row n st late H6 (b15.free hdr5 nl2) hnm hst hl6 hp hno d6 (But.trans b15 b6)
theorem B9:FnScope NPl ["_law_row_here"] (defScope s__law_plots):=⟨rfl,rfl,rfl,by decide +kernel,rfl,by decide +kernel,by decide +kernel⟩
theorem Xor{f:Addr}{fd:FuncData}(F:Fun K "_law_plots" "_law_plots" s__law_plots f fd)(T:Bl mg)(FFi:Fn P w K mg base CX0 1 "_law_fits" ["_law_bars_here", "_law_plot"] spFits)
  (FBr:Fn P w K mg base CX0 2 "_law_bars" ["_law_row_here"] spBars):FnOk P w K mg base CX0 3 f fd ["_law_row_here"] spPlots:=by
 refine F.ok B9 (λvs H Q E h=>?_) (λcdv A outer s H vs Q E hr h=>?_)
 ·obtain⟨r,row,rfl,_⟩:=h;rfl
 ·obtain⟨r,row,rfl,hR,R2,h3,h14,k⟩:=h;have hu4:_+4<cLine:=Nat.lt_of_le_of_lt (Nat.add_le_add_left (by decide:4<=64) _) hr.units;have hr1:Room 1 _:=hr.mono (by decide);have hr2:Room 2 _:=hr.mono (by decide);refine⟨_,Ad (Ak (i:=1) B9.nd rfl (Or.inl rfl) (Ai FBr hr2 (by rfl) Aj (Aa (pv 0) Ab)))
   (Ad (Ak (i:=2) B9.nd rfl (Or.inl rfl) (Hn (i:=0) rfl (by rfl) T.sorted (by rfl) T.set (pv 0)))
   (Ad (Ak (i:=3) B9.nd rfl (Or.inl rfl) (Bf (Aa (Be Ab) Ab)))
   (Ad (Ak (i:=4) B9.nd rfl (Or.inl rfl) (Bf (Aa (Be Ab) Ab)))
   (Ad (Bq PassesOwn.never rfl (D7 rfl T.range (Aa (A4 Bt (by rfl) T.len boot_len (Aa (pv 2) Ab)) Ab)) (A2 (i:=5) B9.nd rfl (Or.inl rfl))
    (Ad (Ak (i:=6) B9.nd rfl (Or.inl rfl) (Bf Ab))
    (Ad (Bq PassesOwn.never rfl (Cd (pv 4)) (A2 (i:=7) B9.nd rfl (Or.inl rfl))
     (Ae (Bq PassesOwn.never rfl (Cd (pv 2)) (A2 (i:=8) B9.nd rfl (Or.inl rfl))
      (Ad (Ak (i:=9) B9.nd rfl (Or.inl rfl) (Bn Fw (by rfl) T.tuple (by rfl) (Aa (A4 Xll (by rfl) T.sorted (by rfl) (Aa (An Gg (pv 7) (Be (Aa (pv 8) Ab))) Ab)) Ab)))
      (Ae (A3 (Ct (Ap Gw (pv 8) (pv 7) (by rfl)) (C4 (Ap (Xlm hu4) (pv 9) (pv 6) (by rfl)))).pt
       (Ae (Ak (i:=6) B9.nd rfl (Or.inl rfl) (An B5 (pv 6) (An Xba (Bf (Aa (pv 9) Ab)) (Bn Xas (by rfl) T.int (by rfl) (Aa (Ai FFi hr1 (by rfl) Aj (Aa (pv 1) (Aa (pv 9) Ab))) Ab))))))
       A6))))))
    (Ad (Ak (i:=4) B9.nd rfl (Or.inl rfl) (A4 Xlk (by rfl) T.sorted (by rfl) (Aa (pv 6) Ab)))
    (Ae (Ak (i:=3) B9.nd rfl (Or.inl rfl) (An B5 (pv 3) (pv 4))))))))
   (Ae (Am (pv 3))))))),?_⟩
  have hrl:=R2.len;have hdl:=F9 row;refine⟨_,rfl,r,row,rfl,hR,R2,λb xs0 H1 nb hb hall s1=>?_⟩;refine⟨_,rfl,r,row,rfl,.inl (SqL.of (s1 _ _ hR)),R2.len,λnl H2 nn hn2 s2=>?_⟩;have hb2:=s2 _ _ hb;have hall2:=DAll.same s2 _ _ hall;have s12:=s1.trans s2;refine⟨by show 0<=sizeLine;decide,λe1 ne1=>?_⟩;refine⟨by show 1<=sizeLine;decide,λtl0 ntl0=>?_⟩;refine⟨by show 0<=sizeLine;decide,λe2 ne2=>?_⟩;refine⟨by show 1<=sizeLine;decide,λly0 nly0=>?_⟩;generalize hH3:upd (upd (upd (upd H2 e1 (.tup [])) tl0 (.lst [.ref e1])) e2 (.tup [])) ly0 (.lst [.ref e2])=H3;have f1:Same H2 H3:=by
   rw[<-hH3];exact((((Same.refl H2).step ne1).step ntl0).step ne2).step nly0
  have ht3:H3 tl0=some (.lst ([e1].map V.ref)):=by
   rw[<-hH3];exact ku (ku Ac ne2) nly0
  have hy3:H3 ly0=some (.lst ([e2].map V.ref)):=by
   rw[<-hH3];exact Ac
  have hP1:Plts row H3 [e1]:=λp hp=>by
   rw[Ly.mp hp];exact⟨[],by rw[<-hH3];exact ku (ku (ku Ac ntl0) ne2) nly0,Xea row⟩
  have hP2:Plts row H3 [e2]:=λp hp=>by
   rw[Ly.mp hp];exact⟨[],by rw[<-hH3];exact ku Ac nly0,Xea row⟩
  have ntl:H tl0=none:=s12.free (((Same.refl H2).step ne1).free ntl0);clear hH3;have hn3:=f1 _ _ hn2;refine⟨_,rfl,nl,_,rfl,.inl (SqL.of hn3),(((dit row).map V.str).length:Int),rfl,by omega,by rw[Li];omega,?_⟩;have hnn:(((dit row).map V.str).length:Int).toNat=(dit row).length:=by rw[Li];simp
  rw[hnn];refine Eo (lo:=0) (n:=(dit row).length) (λi σ H4=>∃(v5 v6 v7 v8 v9:Option V) (tl ly:Addr) (ps qs:List Addr), σ=[some (.ref r),some (.ref b),some (.ref nl),some (.ref tl),some (.ref ly),v5,v6,v7,v8,v9]/\Same H3 H4/\H tl=none/\H4 tl=some (.lst (ps.map V.ref))/\H4 ly=some (.lst (qs.map V.ref))/\ps≠[]/\ps.length<=1+63 * i/\Plts row H4 ps/\Plts row H4 qs) ?_ ?_ ?_
  ·exact⟨_,_,_,_,_,tl0,ly0,[e1],[e2],rfl,Same.refl _,ntl,ht3,hy3,by simp,by simp,hP1,hP2⟩
  ·rintro i σ H4 hi ⟨v5,v6,v7,v8,v9,tl,ly,ps,qs,rfl,s4,nt4,ht4,hy4,hne,hpl,hPs,hQs⟩;refine⟨by show 0<=sizeLine;decide,λf0 nf0=>?_⟩;have g1:Same H4 (upd H4 f0 (.lst [])):=(Same.refl H4).step nf0;have hf0:Fresh row (upd H4 f0 (.lst [])) f0 [] []:=⟨Ac,rfl,.nil,λ_ h=>by cases h⟩;generalize upd H4 f0 (.lst [])=H5 at g1 hf0;have s35:=s4.trans g1;have hn5:=s35 _ _ hn3;have hb5:=s35 _ _ (f1 _ _ hb2);have ha5:=DAll.same s35 _ _ (DAll.same f1 _ _ hall2);have hQ5:=hQs.same g1;refine⟨_,rfl,ly,rfl,⟨_,SqL.of (g1 _ _ hy4)⟩,?_⟩;refine C7 (K:=K) (a:=ly) (xs:=qs.map V.ref) (λj σ H6=>∃(v7 v8 v9:Option V) (f:Addr) (xs:List V) (Ts:List (List Str)), σ=[some (.ref r),some (.ref b),some (.ref nl),some (.ref tl),some (.ref ly),some (.int (0+(i:Int))),some (.ref f),v7,v8,v9]/\Same H5 H6/\Fresh row H6 f xs Ts) ?_ ?_ ?_ ?_
   ·exact⟨_,_,_,f0,[],[],rfl,Same.refl _,hf0⟩
   ·rintro j σ H6 _ ⟨v7,v8,v9,f,xs,Ts,rfl,s6,hf⟩;exact SqL.of (s6 _ _ (g1 _ _ hy4))
   ·rintro j y σ H6 hj ⟨v7,v8,v9,f,xs,Ts,rfl,s6,hf⟩;obtain⟨q,rfl,hq⟩:∃q,y=V.ref q/\q∈qs:=by
     rw[Lz] at hj;cases z:qs[j]? with
     | none=>rw[z] at hj;cases hj
     | some q=>rw[z] at hj;exact⟨q,(Lq hj).symm,M8 z⟩
    obtain⟨ss,hqs,hip⟩:=hQ5 q hq;have hssl:=Fb hip;obtain⟨hsr,hslt⟩:=C2 hip;refine⟨_,rfl,nl,rfl,⟨_,SqL.of (s6 _ _ hn5)⟩,?_⟩;refine C7 (K:=K) (a:=nl) (xs:=(dit row).map V.str) (λm σ H7=>∃(v8 v9:Option V) (f:Addr) (xs:List V) (Ts:List (List Str)), σ=[some (.ref r),some (.ref b),some (.ref nl),some (.ref tl),some (.ref ly),some (.int (0+(i:Int))),some (.ref f),some (.ref q),v8,v9]/\Same H5 H7/\Fresh row H7 f xs Ts) ?_ ?_ ?_ ?_
    ·exact⟨_,_,f,xs,Ts,rfl,s6,hf⟩
    ·rintro m σ H7 _ ⟨v8,v9,f,xs,Ts,rfl,s7,hf⟩;exact SqL.of (s7 _ _ hn5)
    ·rintro m y σ H7 hm ⟨v8,v9,f,xs,Ts,rfl,s7,hf⟩;obtain⟨x,rfl,hx⟩:∃x,y=V.str x/\x∈row:=by
      rw[Lz] at hm;cases z:(dit row)[m]? with
      | none=>rw[z] at hm;cases hm
      | some x=>rw[z] at hm;exact⟨x,(Lq hm).symm,Ax.mp (M8 z)⟩
     refine⟨_,rfl,_,rfl,by show 1<=sizeLine;decide,λt1 nt1=>?_⟩;have s8:Same H5 (upd H7 t1 (.tup [.str x])):=s7.step nt1;have k78:Same H7 (upd H7 t1 (.tup [.str x])):=(Same.refl H7).step nt1;refine⟨q,t1,_,_,rfl,rfl,s8 _ _ hqs,Ac,by rw[Li,Po];show ss.length+1<=_;omega,λp1 H9 s9 hp1=>?_⟩;have hp1':H9 p1=some (.tup ((ss++[x]).map V.str)):=by rw[hp1,Lx];rfl
     refine⟨p1,_,rfl,hp1',by rw[Ln];show ss.length+1<64;omega,λl2 nl2=>?_⟩;refine⟨l2,_,rfl,.inl ⟨SqL.of Ac,λov nov=>?_⟩⟩;have k7:Same H7 (upd (upd H9 l2 (.lst ((srt (ss++[x])).map V.str))) ov (.tup ((srt (ss++[x])).map V.str))):=((k78.trans s9).step nl2).step nov;have hov:upd (upd H9 l2 (.lst ((srt (ss++[x])).map V.str))) ov (.tup ((srt (ss++[x])).map V.str)) ov=some (.tup ((srt (ss++[x])).map V.str)):=Ac;generalize upd (upd H9 l2 (.lst ((srt (ss++[x])).map V.str))) ov (.tup ((srt (ss++[x])).map V.str))=HA at k7 hov;have s5A:=s7.trans k7;have hfA:=hf.same k7;have okr:∀y∈srt (ss++[x]),okN y:=λy hy=>by
      rcases Ls.mp (E1.mp hy) with z | z
      ·exact R2.ok y (hsr y z)
      ·rw[Ly.mp z];exact R2.ok x hx
     have okT:∀T∈Ts,∀y∈T,okN y:=λT hT y hy=>R2.ok y ((C2 (hf.ok T hT).2).1 y hy);have dep:PyData.depth (tupD (srt (ss++[x])))<=3:=by
      have:=Xdq (srt (ss++[x])) (srt (ss++[x]))
      rwa [Nat.min_self] at this
     have xsl:xs.length=Ts.length:=by rw[Ge hfA.all,Li]
     have hlt:=Xd3 R2.two h3 h14 hf.nd hf.ok;dsimp only[Az];refine⟨_,rfl,_,rfl,q,_,rfl,.inr (SqT.of (s5A _ _ hqs)),rfl,De ss,_,rfl,?_⟩;rw[Pq rfl,Dd];refine Ao (λhc=>?_) (λhc=>Bg ⟨_,_,f,xs,Ts,rfl,s5A,hfA⟩);have hxs:x∉ss:=by simpa using hc
     refine⟨_,rfl,_,rfl,tupD (srt (ss++[x])),Ts.map tupD,Ej hov,Ke hfA.at' hfA.all,Du _ (Dx okr),Hf _ (plainAll_map tupD Ts λT hT=>Dx (okT T hT)),dep,_,rfl,?_⟩;refine Ao (λhd=>?_) (λhd=>⟨_,_,f,xs,Ts,rfl,s5A,hfA⟩);have hnew:srt (ss++[x])∉Ts:=λhm=>by
      have:((Ts.map tupD).any λe=>PyData.eqv e (tupD (srt (ss++[x]))))=true:=by
       rw[N4];refine⟨_,Mf.mpr ⟨_,hm,rfl⟩,?_⟩;show PyData.eqv (.tuple _) (.tuple _)=true;rw[Xdr okr okr];exact Pr rfl
      rw[this] at hd;exact absurd hd (by decide)
     refine⟨_,rfl,_,rfl,by show 1<=sizeLine;decide,λc nc=>?_⟩;have kA:Same HA (upd HA c (.lst [.ref ov])):=(Same.refl HA).step nc;refine⟨_,rfl,_,rfl,b,ov,xs0,bars row,srt (ss++[x]),rfl,kA _ _ (s5A _ _ hb5),DAll.same kA _ _ (DAll.same s5A _ _ ha5),kA _ _ hov,λHB sB=>?_⟩;have hcB:=sB _ _ (show upd HA c (.lst [.ref ov]) c=_ from Ac);refine .inr ⟨_,rfl,?_⟩;cases hfit:B6 (bars row) (srt (ss++[x])) with
     | false=>
      refine⟨c,_,_,rfl,rfl,hcB,by simp,by simp,by simp,λc2 nc2=>?_⟩;have e0:(if True then (List.replicate ((if (false:Bool)=true then (1:Int) else 0)).toNat [V.ref ov]).flatten else ([]:List V))=[]:=by simp
      have kB:Same HA (upd HB c2 (.lst [])):=(kA.trans sB).step nc2;refine⟨f,c2,xs,[],rfl,rfl,kB _ _ hfA.at',Ac,by rw[Po];simp;omega,λg ng=>?_⟩;have kC:Same HA (upd (upd HB c2 (.lst [])) g (.lst (xs++[]))):=kB.step ng;refine⟨_,_,g,xs++[],Ts,rfl,s5A.trans kC,⟨Ac,?_,hf.nd,hf.ok⟩⟩;exact(congrArg (DAll _ _) (Mr xs)).mpr (DAll.same kC _ _ hfA.all)
     | true=>
      refine⟨c,_,_,rfl,rfl,hcB,by simp,by simp,by show 1 * 1<=sizeLine;decide,λc2 nc2=>?_⟩;have kB:Same HA (upd HB c2 (.lst [V.ref ov])):=(kA.trans sB).step nc2;refine⟨f,c2,xs,[V.ref ov],rfl,rfl,kB _ _ hfA.at',Ac,by rw[Po];simp;omega,λg ng=>?_⟩;have kC:Same HA (upd (upd HB c2 (.lst [V.ref ov])) g (.lst (xs++[V.ref ov]))):=kB.step ng;refine⟨_,_,g,xs++[V.ref ov],Ts++[srt (ss++[x])],rfl,s5A.trans kC,⟨Ac,?_,?_,?_⟩⟩
      ·rw[Lx];exact Hb (DAll.same kC _ _ hfA.all) (Ej (kC _ _ hov))
      ·rw[Nf];exact⟨hf.nd,by simp,λa ha b hb e=>hnew (by rw[Ly.mp hb] at e;exact e ▸ ha)⟩
      ·intro T hT;rcases Ls.mp hT with z | z
       ·exact hf.ok T z
       ·rw[Ly.mp z];exact⟨Xlo,Xln R2.two hip hx hxs hfit⟩
    ·rintro σ H7 ⟨v8,v9,f,xs,Ts,rfl,s7,hf⟩;exact⟨_,_,_,f,xs,Ts,rfl,s7,hf⟩
   ·rintro σ H6 ⟨v7,v8,v9,f,xs,Ts,rfl,s6,hf⟩;have hlt:=Xd3 R2.two h3 h14 hf.nd hf.ok;obtain⟨fs,rfl,hfl,hfs⟩:=Xd9 hf.all;refine⟨_,rfl,f,fs,rfl,hf.at',λp hp=>?_,by omega,λly' fs' nly' hpm=>?_⟩
    ·obtain⟨T,hT,hpT⟩:=hfs p hp;exact⟨T,hpT,(hf.ok T hT).1⟩
    have g6:Same H6 (upd H6 ly' (.lst (fs'.map V.ref))):=(Same.refl H6).step nly';have s46:=(g1.trans s6).trans g6;have hP':Plts row (upd H6 ly' (.lst (fs'.map V.ref))) fs':=λp hp=>by
     obtain⟨T,hT,hpT⟩:=hfs p (hpm.mem_iff.mp hp);exact⟨T,g6 _ _ hpT,(hf.ok T hT).2⟩
    have hly':upd H6 ly' (.lst (fs'.map V.ref)) ly'=some (.lst (fs'.map V.ref)):=Ac;generalize upd H6 ly' (.lst (fs'.map V.ref))=H8 at g6 s46 hP' hly';have hfl':=hpm.length_eq;refine⟨_,rfl,_,rfl,tl,ly',_,_,rfl,rfl,s46 _ _ ht4,hly',by rw[Li,Li,Po];omega,λtl' ntl'=>?_⟩;have g8:Same H8 (upd H8 tl' (.lst (ps.map V.ref++fs'.map V.ref))):=(Same.refl H8).step ntl';have e8:upd H8 tl' (.lst (ps.map V.ref++fs'.map V.ref)) tl'=some (.lst ((ps++fs').map V.ref)):=by rw[Ac,Lx]
    refine⟨_,_,_,_,_,tl',ly',ps++fs',fs',rfl,(s4.trans s46).trans g8,?_,e8,g8 _ _ hly',by simp[hne],by rw[Ln];omega,λp hp=>?_,hP'.same g8⟩
    ·exact s12.free (f1.free (s4.free (s46.free ntl')))
    ·rcases Ls.mp hp with z | z
     ·exact(hPs.same (s46.trans g8)) p z
     ·exact(hP'.same g8) p z
  ·rintro σ H4 ⟨v5,v6,v7,v8,v9,tl,ly,ps,qs,rfl,s4,nt4,ht4,hy4,hne,hpl,hPs,hQs⟩;exact⟨_,rfl,k tl ps H4 nt4 ht4 hne (by omega) hPs ((s12.trans f1).trans s4)⟩
theorem Ia:FnScope NLl ["_law_row_here", "_law_plot", "_law_steps_here"] (defScope s__law_led):=⟨rfl,rfl,rfl,by decide +kernel,rfl,by decide +kernel,by decide +kernel⟩
theorem Xos{f:Addr}{fd:FuncData}(F:Fun K "_law_led" "_law_led" s__law_led f fd)(T:Bl mg)(FB:Fn P w K mg base CX0 2 "_law_bars" ["_law_row_here"] spBars)(FF:Fn P w K mg base CX0 1 "_law_flip" ["_law_plot", "_law_name"] spFlip)(FI:Fn P w K mg base CX0 1 "_law_fits" ["_law_bars_here", "_law_plot"] spFits):FnOk P w K mg base CX0 3 f fd ["_law_row_here", "_law_plot", "_law_steps_here"] spLLed:=by
 refine F.ok Ia (λvs H Q E h=>?_) (λcdv A outer s H vs Q E hr h=>?_)
 ·obtain⟨r,p,s,row,S,xs,rfl,_⟩:=h;rfl
 ·obtain⟨r,p,st,row,S,xs,rfl,hR,R2,h14,hp,hS,hX,hin,hxl,k⟩:=h;have hr1:Room 1 _:=hr.mono (by decide);refine⟨_,Ad (Ak (i:=3) Ia.nd rfl (Or.inl rfl) (Ai FB hr (by rfl) Aj (Aa (pv 0) Ab)))
   (Ad (Bq PassesOwn.never rfl (D7 rfl T.range (Aa (A4 Bt (by rfl) T.len boot_len (Aa (pv 2) Ab)) Ab)) (A2 (i:=4) Ia.nd rfl (Or.inl rfl))
    (Ad (Ak (i:=1) Ia.nd rfl (Or.inl rfl) (Ai FF hr1 (by rfl) Aj (Aa (pv 1) (Aa (Av Bb (pv 2) (pv 4) (λ_ _=>rfl)) Ab))))
    (Ae (A3 (Gp (Cb (Ai FI hr1 (by rfl) Aj (Aa (pv 3) (Aa (pv 1) Ab))))) (Ae (Am (Be (Aa A7 (Aa (pv 4) Ab))))) A6))))
   (Ae (Am (Be (Aa A7 (Aa (pv 1) Ab)))))),?_⟩
  refine⟨_,rfl,r,row,rfl,hR,R2,λb bs H1 nb hb hbs s1=>?_⟩;dsimp only[Az];refine⟨_,rfl,st,_,rfl,.inl (SqL.of (s1 _ _ hX)),_,rfl,by omega,by rw[Li];omega,?_⟩;have et:((xs.map V.str).length:Int).toNat=xs.length:=by rw[Li];simp
  rw[et];refine Eo (lo:=0) (n:=xs.length) (λi σ H'=>∃(v4:Option V) (q:Addr) (U:List Str), σ=[some (.ref r),some (.ref q),some (.ref st),some (.ref b),v4]/\Same H1 H'/\H' q=some (.tup (U.map V.str))/\Al row U=true/\Bx row S 0 (xs.take i) = .inr U) ?_ ?_ ?_
  ·exact⟨_,p,S,rfl,Same.refl _,s1 _ _ hp,hS,by rw[List.take_zero];rfl⟩
  ·rintro i σ H' hi ⟨v4,q,U,rfl,s',hq,hU,hw⟩;obtain⟨w1,w2⟩:=La hi hw;have hx:xs.getD i Str.empty∈xs:=Co hi;have hat:atI (xs.map V.str) (0+(i:Int))=some (.str (xs.getD i Str.empty)):=by
    rw[Pe];exact B0 (by rw[Lz,Lm hi];simp[List.getD,hi])
   generalize xs.getD i Str.empty=x at w1 w2 hx hat;rw[O1] at w1 w2;have s01:=s1.trans s';have hUl:=Fb hU;dsimp only[Az];refine⟨_,rfl,_,rfl,_,rfl,st,_,_,_,rfl,rfl,SqL.of (s01 _ _ hX),hat,q,U,x,rfl,hq,by omega,λq2 H2 nq2 hq2 s2=>?_⟩;have s12:=s'.trans s2;dsimp only[Az];refine⟨_,rfl,_,rfl,b,q2,bs,bars row,Ay U x,rfl,s12 _ _ hb,DAll.same s12 _ _ hbs,hq2,λH3 s3=>⟨_,rfl,?_⟩⟩;rw[Xe8 R2.two hU (hin x hx)];cases hv:Al row (Ay U x) with
   | true=>
    rw[Pq hv] at w1;exact Bg ⟨_,q2,Ay U x,rfl,s12.trans s3,s3 _ _ hq2,hv,w1⟩
   | false=>
    refine iteT ⟨_,rfl,by show 2<=sizeLine;decide,λt nt=>?_⟩;have sA:=s1.trans (s12.trans s3);refine k t _ (sA.free nt) ?_ (sA.step nt);rw[w2 hv];show upd _ t _ t=some (.tup [.str "beside",.int i]);rw[Ac,Pe]
  ·rintro σ H' ⟨v4,q,U,rfl,s',hq,hU,hw⟩;rw[Mp] at hw;refine⟨_,rfl,by show 2<=sizeLine;decide,λt nt=>?_⟩;have sA:=s1.trans s';refine k t _ (sA.free nt) ?_ (sA.step nt);rw[hw];exact⟨q,Ac,ku hq nt⟩
theorem Xot:FnScope ["_law_row_here"] ["_law_row_here"] (defScope s__law_stranger):=⟨rfl,rfl,rfl,by decide +kernel,rfl,by decide +kernel,by decide +kernel⟩
theorem Xou{f:Addr}{fd:FuncData}(F:Fun K "_law_stranger" "_law_stranger" s__law_stranger f fd):FnOk P w K mg base CX0 1 f fd ["_law_row_here"] spStranger:=by
 refine F.ok Xot (λvs H Q E h=>?_) (λcdv A outer s H vs Q E hr h=>?_)
 ·obtain⟨r,row,rfl,_⟩:=h;rfl
 ·obtain⟨r,row,rfl,hR,hl,k⟩:=h;have hu:=C9 hr;refine⟨_,Ae (Am (Gq (Ap (F3 (N2 hu)) (pv 0) (Bf Ab) (Au _))
   (An Gv (Bu Xi3 (Av Bb (pv 0) Ag (λ_ _=>rfl)) Bz (Bs Ag)) A7) A7)),?_⟩
  refine⟨_,rfl,by show 0<=sizeLine;decide,λp np=>?_⟩;have s1:Same H (upd H p (.lst [])):=(Same.refl H).step np;refine⟨r,p,_,_,rfl,rfl,SqL.of (s1 _ _ hR),SqL.of Ac,Dv row,by simp,_,rfl,?_⟩;have e:Bi (row.map V.str) []=decide (row=[]):=F2 row [];rw[e];cases row with
  | nil=>exact k _ s1
  | cons y r'=>
   refine iteT ?_;refine⟨_,rfl,r,_,_,_,rfl,rfl,SqL.of (s1 _ _ hR),(show atI ((y::r').map V.str) ((0:Nat):Int)=some (.str y) from B0 rfl),_,rfl,y,rfl,rfl,⟨_,rfl⟩,by have:=hl y Lo;omega,?_⟩;refine⟨_,_,rfl,rfl,?_,k _ s1⟩;have h1:=Txt.slice_le y none (some 7);have h2:=hl y Lo;have h3:(Str.ofString "q").length=1:=rfl;rw[Po,h3];omega
theorem Ib:FnScope NOd ["_law_draw", "_law_row_here", "_law_plot"] (defScope s__law_odd_plot):=⟨rfl,rfl,rfl,by decide +kernel,rfl,by decide +kernel,by decide +kernel⟩
theorem Xov{f:Addr}{fd:FuncData}(F:Fun K "_law_odd_plot" "_law_odd_plot" s__law_odd_plot f fd)(T:Bl mg)(FP:FnPick P w K mg base)(FS:Fn P w K mg base CX0 1 "_law_stranger" ["_law_row_here"] spStranger)
  (FF:Fn P w K mg base CX0 1 "_law_flip" ["_law_plot", "_law_name"] spFlip):FnOk P w K mg base CX0 2 f fd ["_law_draw", "_law_row_here", "_law_plot"] spOdd:=by
 refine F.ok Ib (λvs H Q E h=>?_) (λcdv A outer s H vs Q E hr h=>?_)
 ·obtain⟨dr,sc,r,p,row,ss,rfl,_⟩:=h;rfl
 ·obtain⟨dr,sc,r,p,row,ss,rfl,dk,hR,nrd,hI,hP,hok,hsl,k⟩:=h;have hu:=N2 (C9 hr);have h24:∀m,m<=100000->m<=sizeLine:=λm h=>by rw[Po];omega
  refine⟨_,Ad (Ak (i:=3) Ib.nd rfl (Or.inl rfl) (Ai FP hr (by rfl) Aj (Aa (pv 0) (Aa Ag Ab))))
   (Ad (Ak (i:=4) Ib.nd rfl (Or.inl rfl) (Ai FP hr (by rfl) Aj (Aa (pv 0) (Aa (An Bk (A4 Bt (by rfl) T.len boot_len (Aa (pv 2) Ab)) Ag) Ab))))
   (Ad (A3 (Fl (Ap Bm (pv 3) Ag (Au _)) (Fk (Ap (Xhy hu) (pv 1) (Bf Ab) (Au _)))).pt
    (Ae (Am (An Gg (An Gg (Bu Gh (pv 2) Bz (Bs (pv 4))) (Be (Aa (Ai FS hr (by rfl) Aj (Aa (pv 1) Ab)) Ab))) (Bu Gh (pv 2) (Bs (pv 4)) Bz)))) A6)
   (Ad (Ak (i:=5) Ib.nd rfl (Or.inl rfl) (Av Bb (pv 1) (Ai FP hr (by rfl) Aj (Aa (pv 0) (Aa (A4 Bt (by rfl) T.len boot_len (Aa (pv 1) Ab)) Ab))) (λ_ _=>rfl)))
   (Ad (A3 (Ap Bm (pv 3) Ag (Au _)) (Ae (Am (An Gg (An Gg (Bu Gh (pv 2) Bz (Bs (pv 4))) (Be (Aa (pv 5) Ab))) (Bu Gh (pv 2) (Bs (pv 4)) Bz)))) A6)
   (Ad (A3 (Ap Bm (pv 3) Ag (Au _)) (Ae (Am (Xj2 (pv 2)))) A6)
   (Ad (A3 (Ap Bm (pv 3) Ag (Au _)) (Ae (Am (Bn Fw (by rfl) T.tuple (by rfl) (Aa (An B5 (Bn Fv (by rfl) T.list boot_list (Aa (pv 2) Ab)) (Bn Fv (by rfl) T.list boot_list (Aa (Bu Gh (pv 2) Bz (Bs Ag)) Ab))) Ab)))) A6)
   (Ae (Am (Ai FF hr (by rfl) Aj (Aa (pv 2) (Aa (pv 5) Ab))))))))))),?_⟩
  refine⟨_,rfl,dr,sc,5,rfl,by decide,by decide,dk,λwy H1 w0 w1 d1 b1=>?_⟩;have npd:∀{H0:Hp} {q:Addr} {xs:List V},DrawOk H0 dr sc->H0 q=some (.tup xs)->q≠dr:=λ{H0 q xs} d e z=>by
   obtain⟨ys,h⟩:=d.at;rw[z,h] at e;cases e
  have b1:But dr H H1:=b1;have hP1:=b1 _ _ hP (npd dk hP);have hR1:=b1 _ _ hR nrd;refine⟨_,rfl,_,rfl,p,_,rfl,.inr (SqT.of hP1),_,_,rfl,rfl,dr,sc,_,rfl,by omega,by rw[Li];omega,d1,λat_ H2 a0 a1 d2 b2=>?_⟩;obtain⟨at_,rfl⟩:=Ma a0;rw[Li] at a1;have hat:at_<=ss.length:=by omega
  have b2:But dr H1 H2:=b2;have b12:=b1.trans b2;have hP2:=b2 _ _ hP1 (npd d1 hP1);have hR2:=b2 _ _ hR1 nrd;have put:∀(x:Str) (H3:Hp),okN x->DrawOk H3 dr sc->But dr H H3->H3 p=some (.tup (ss.map V.str))->∀(q:Addr) (H4:Hp),Same H3 H4->H4 q=some (.tup ((ss.take at_++[x]++ss.drop at_).map V.str))->Q (.ref q) H4:=λx H3 hx d3 b3 _ q H4 s4 hq=>by
   refine k q _ H4 hq (λy hy=>?_) ?_ (d3.same s4) (b3.same s4)
   ·rcases Ls.mp hy with hy | hy
    ·rcases Ls.mp hy with hy | hy
     ·exact hok y (M9 hy)
     ·rw[Ly.mp hy];exact hx
    ·exact hok y (Nj hy)
   ·rw[Ln,Ln,Mb,Na,Mq];omega
  have strange:∀H3,DrawOk H3 dr sc->But dr H H3->H3 p=some (.tup (ss.map V.str))->H3 r=some (.lst (row.map V.str)) ->
    ∀(q:Addr) (H4:Hp),Same H3 H4->H4 q=some (.tup ((ss.take at_++[C0 row]++ss.drop at_).map V.str))->Q (.ref q) H4:=λH3 d3 b3 hP3 _=>put _ H3 hI.stranger.1 d3 b3 hP3
  have tailS:∀H3,DrawOk H3 dr sc->But dr H H3->H3 p=some (.tup (ss.map V.str))->H3 r=some (.lst (row.map V.str)) ->
    tSl Ki (Ca 2) Jc (Jd (Ca 4)) [some (.ref dr),some (.ref r),some (.ref p),some (.int wy),some (.int at_),none] H3 λx H4=>Iz (D9 (Ja spStranger [] E0 (D9 (Ca 1) Dq)) Dq) [some (.ref dr),some (.ref r),some (.ref p),some (.int wy),some (.int at_),none] H4 λy H5=>Kh x y H5 λz H6=>
     tSl Ki (Ca 2) (Jd (Ca 4)) Jc [some (.ref dr),some (.ref r),some (.ref p),some (.int wy),some (.int at_),none] H6 λu H7=>Kh z u H7 Q:=λH3 d3 b3 hP3 hR3=>by
   refine⟨_,rfl,_,rfl,_,rfl,p,_,rfl,hP3,λq1 H4 s4 hq1=>?_⟩;rw[E2 _ _ _ hat] at hq1;refine⟨_,rfl,r,row,rfl,s4 _ _ hR3,λy hy=>(hI.ok y hy).1,λH5 s5=>⟨by show 1<=sizeLine;decide,λq2 n2=>?_⟩⟩;have s35:=(s4.trans s5).step (o:=.tup [.str (C0 row)]) n2;refine⟨q1,q2,_,[.str (C0 row)],rfl,rfl,ku (s5 _ _ hq1) n2,Ac,h24 _ (by simp;omega),λq3 H6 s6 hq3=>?_⟩;have s36:=s35.trans s6;refine⟨_,rfl,_,rfl,_,rfl,p,_,rfl,s36 _ _ hP3,λq4 H7 s7 hq4=>?_⟩;rw[E3 _ _ _ hat] at hq4;refine⟨q3,q4,_,_,rfl,rfl,s7 _ _ hq3,hq4,h24 _ (by simp;omega),λq5 H8 s8 hq5=>?_⟩;refine strange H3 d3 b3 hP3 hR3 q5 H8 (s36.trans (s7.trans s8)) (hq5.trans ?_);rw[Lx,Lx];rfl
  refine⟨_,rfl,rfl,_,rfl,?_⟩;refine Ao (λ_=>?_) (λ_=>?_)
  ·exact iteT (tailS H2 d2 b12 hP2 hR2)
  ·refine⟨_,rfl,by show 0<=sizeLine;decide,λe ne=>?_⟩;have s3:Same H2 (upd H2 e (.lst [])):=(Same.refl H2).step ne;refine⟨r,e,_,_,rfl,rfl,SqL.of (s3 _ _ hR2),SqL.of Ac,Dv row,by simp,_,rfl,?_⟩;generalize upd H2 e (.lst [])=H3 at s3;have d3:=d2.same s3;have b13:=b12.same s3;have hP3:=s3 _ _ hP2;have hR3:=s3 _ _ hR2;have ee:Bi (row.map V.str) []=decide (row=[]):=F2 row [];rw[ee];refine Ao (λ_=>tailS H3 d3 b13 hP3 hR3) (λhne=>?_);have hne:=Pu hne;have hrl:=hI.len;have hpos:0<row.length:=O8.mpr hne;refine⟨_,rfl,_,rfl,_,rfl,r,_,rfl,.inl (SqL.of hR3),dr,sc,_,rfl,by rw[Li];omega,by rw[Li];omega,d3,λi H4 i0 i1 d4 b4=>?_⟩;obtain⟨i,rfl⟩:=Ma i0;rw[Li] at i1;have hi:i<row.length:=by omega
   have b4:But dr H3 H4:=b4;have b14:=b13.trans b4;have hP4:=b4 _ _ hP3 (npd d3 hP3);have hR4:=b4 _ _ hR3 nrd;refine⟨r,_,_,_,rfl,rfl,SqL.of hR4,Xj9 V.str Str.empty row hi,?_⟩;have hx:row.getD i Str.empty∈row:=Co hi;generalize row.getD i Str.empty=x at hx;have hxo:=hI.ok x hx;refine⟨_,rfl,rfl,_,rfl,?_⟩;refine Ao (λ_=>?_) (λ_=>?_)
   ·refine⟨_,rfl,_,rfl,_,rfl,p,_,rfl,hP4,λq1 H5 s5 hq1=>?_⟩;rw[E2 _ _ _ hat] at hq1;refine⟨_,rfl,by show 1<=sizeLine;decide,λq2 n2=>?_⟩;have s46:=s5.step (o:=.tup [.str x]) n2;refine⟨q1,q2,_,[.str x],rfl,rfl,ku hq1 n2,Ac,h24 _ (by simp;omega),λq3 H6 s6 hq3=>?_⟩;have s47:=s46.trans s6;refine⟨_,rfl,_,rfl,_,rfl,p,_,rfl,s47 _ _ hP4,λq4 H7 s7 hq4=>?_⟩;rw[E3 _ _ _ hat] at hq4;refine⟨q3,q4,_,_,rfl,rfl,s7 _ _ hq3,hq4,h24 _ (by simp;omega),λq5 H8 s8 hq5=>?_⟩;refine put x H4 hxo d4 b14 hP4 q5 H8 (s47.trans (s7.trans s8)) (hq5.trans ?_);rw[Lx,Lx];rfl
   ·refine⟨_,rfl,rfl,_,rfl,?_⟩;refine Ao (λ_=>?_) (λ_=>?_)
    ·refine⟨_,rfl,p,_,rfl,hP4,λq nq=>?_⟩;have s5:Same H4 (upd H4 q (.tup (ss.map V.str).reverse)):=(Same.refl H4).step nq;refine k q ss.reverse _ (Ac.trans (by rw[List.map_reverse])) (λy hy=>hok y (List.mem_reverse.mp hy)) (by rw[Oh];omega) (d4.same s5) (b14.same s5)
    ·refine⟨_,rfl,rfl,_,rfl,?_⟩;refine Ao (λ_=>?_) (λ_=>?_)
     ·refine⟨_,rfl,p,_,rfl,.inr (SqT.of hP4),λl1 n1=>?_⟩;have s5:Same H4 (upd H4 l1 (.lst (ss.map V.str))):=(Same.refl H4).step n1;refine⟨_,rfl,_,rfl,p,_,rfl,s5 _ _ hP4,λq1 H6 s6 hq1=>?_⟩;have e1:(some (1:Int))=some ((1:Nat):Int):=rfl;rw[e1,Xkw] at hq1;refine⟨q1,_,rfl,.inr (SqT.of hq1),λl2 n2=>?_⟩;have s7:=(s5.trans s6).step (o:=.lst ((ss.take 1).map V.str)) n2;refine⟨l1,l2,_,_,rfl,rfl,ku (s6 _ _ Ac) n2,Ac,h24 _ (by simp;omega),λl3 n3=>?_⟩;have s8:=s7.step (o:=.lst (ss.map V.str++(ss.take 1).map V.str)) n3;refine⟨l3,_,rfl,.inl ⟨SqL.of Ac,λq nq=>?_⟩⟩;have s9:=s8.step (o:=.tup (ss.map V.str++(ss.take 1).map V.str)) nq;refine k q (ss++ss.take 1) _ (Ac.trans (by rw[Lx])) (λy hy=>?_) (by rw[Ln,Mb];omega) (d4.same s9) (b14.same s9);rcases Ls.mp hy with hy | hy
      ·exact hok y hy
      ·exact hok y (M9 hy)
     ·refine⟨_,rfl,_,rfl,p,ss,x,rfl,hP4,by omega,λq H5 nq hq s5=>?_⟩;refine k q _ H5 hq (λy hy=>?_) (Xdu ss x) (d4.same s5) (b14.same s5);rcases Xkq hy with h | h
      ·exact hok y h
      ·rw[h];exact hxo
theorem Xow:FnScope NGo ["_law_row_here", "_law_plot"] (defScope s__law_good_plot):=⟨rfl,rfl,rfl,by decide +kernel,rfl,by decide +kernel,by decide +kernel⟩
theorem Xox{f:Addr}{fd:FuncData}(F:Fun K "_law_good_plot" "_law_good_plot" s__law_good_plot f fd)(T:Bl mg)(FF:Fn P w K mg base CX0 1 "_law_fits" ["_law_bars_here", "_law_plot"] spFits)
    (FB:Fn P w K mg base CX0 2 "_law_bars" ["_law_row_here"] spBars):FnOk P w K mg base CX0 3 f fd ["_law_row_here", "_law_plot"] Ky:=by
  refine F.ok Xow (λvs H Q E h=>?_) (λcdv A outer s H vs Q E hr h=>?_)
  . obtain⟨r,p,row,ss,rfl,_⟩:=h;rfl
  . obtain⟨r,p,row,ss,rfl,hR,R2,hP,hok,hsl,k⟩:=h;have hu:=N2 (C9 hr);have hr1:Room 1 _:=hr.mono (by decide);refine⟨_,Ad (A3 (Ap (F3 hu) (Bn Fv (by rfl) T.list boot_list (Aa (pv 1) Ab)) (Gc (N:=NGo1) (cap:=[none,some 1]) (CompScope.of (defScope s__law_good_plot) NGo rfl rfl rfl (by decide +kernel)) rfl
          (Cd (Hn (i:=0) rfl (by rfl) T.sorted (by rfl) T.set (pv 0))) (λ_ _ _=>A2 (i:=0) (show NGo1.Nodup by decide +kernel) rfl (Or.inl rfl) (Or.inr rfl))
          (λ_ _ _=>F0 (Ap (Xcx K (by rfl)) (pv 0) (pv 1) (by rfl))) (λ_ _ _=>pv 0)) (Au _)) (Ae (Am Dp)) A6)
      (Ae (Am (Ai FF hr1 (by rfl) Aj (Aa (Ai FB hr (by rfl) Aj (Aa (pv 0) Ab)) (Aa (pv 1) Ab))))),?_⟩
    have hrl:=R2.len;have hdl:=F9 row;refine⟨_,rfl,p,_,rfl,.inr (SqT.of hP),λl1 n1=>?_⟩;have s1:Same H (upd H l1 (.lst (ss.map V.str))):=(Same.refl H).step n1;have h1:upd H l1 (.lst (ss.map V.str)) l1=some (.lst (ss.map V.str)):=Ac;generalize upd H l1 (.lst (ss.map V.str))=H1 at s1 h1;refine⟨_,rfl,r,row,rfl,.inl (SqL.of (s1 _ _ hR)),hrl,λl H2 nl hl2 s2=>?_⟩;have hP2:=s2 _ _ (s1 _ _ hP);refine⟨l,rfl,⟨_,SqL.of hl2⟩,?_⟩;refine J5 (n:=(dit row).length) (by rw[Po];omega) (λi=>((dit row).map V.str).getD i .non) (λi=>decide ((dit row).getD i Str.empty∈ss)) (λi=>.str ((dit row).getD i Str.empty)) ?_ ?_ ?_ ?_ ?_
    . intro i H3 hi s3;exact Jw (SqL.of (s3 _ _ hl2)) (by rw[Li];exact hi)
    . intro H3 s3;have:=Jx (K:=K) (SqL.of (s3 _ _ hl2))
      rwa [Li] at this
    . intro i H3 Q' hi s3 kk;rw[Cf V.str Str.empty _ hi];refine⟨_,rfl,_,rfl,p,_,rfl,.inr (SqT.of (s3 _ _ hP2)),rfl,De ss,_,rfl,?_⟩;rw[Pp (by decide),Dd];exact kk H3 (Same.refl _)
    . intro i H3 Q' hi hk s3 kk;rw[Cf V.str Str.empty _ hi];exact⟨_,rfl,kk H3 (Same.refl _)⟩
    . intro D H3 nD s3 hD;have hD':H3 D=some (.lst (((dit row).filter λy=>decide (y∈ss)).map V.str)):=by
        rw[hD,<-Gb Str.empty (λy=>decide (y∈ss)) (dit row),Nw];rfl
      have s13:=s1.trans (s2.trans s3);refine⟨l1,D,_,_,rfl,rfl,SqL.of (s3 _ _ (s2 _ _ h1)),SqL.of hD',Dv _,Dv _,_,rfl,?_⟩;rw[F2];by_cases e:ss=(dit row).filter λy=>decide (y∈ss)
      . rw[Pr e];refine Bg ?_;refine⟨_,rfl,r,row,rfl,s13 _ _ hR,R2,λb xs H4 nb hb hal s4=>?_⟩;refine⟨_,rfl,b,p,xs,bars row,ss,rfl,hb,hal,s4 _ _ (s13 _ _ hP),λH5 s5=>?_⟩;have:=k H5 (s13.trans (s4.trans s5));unfold Dw at this;rw[Pr e,Mu] at this;exact this
      . rw[Ps e];refine iteT ?_;have:=k H3 s13;unfold Dw at this;rw[Ps e,Ms] at this;exact this
theorem Xoy:FnScope ["_law_found"] ["_law_found"] (defScope s__law_tuple):=⟨rfl,rfl,rfl,by decide +kernel,rfl,by decide +kernel,by decide +kernel⟩
theorem Xoz{f:Addr}{fd:FuncData}(F:Fun K "_law_tuple" "_law_tuple" s__law_tuple f fd)(T:Bl mg):FnOk P w K mg base CX0 1 f fd ["_law_found"] spTuple:=by
 refine F.ok Xoy (λvs H Q E h=>?_) (λcdv A outer s H vs Q E hr h=>?_)
 ·obtain⟨v,ss,rfl,_⟩:=h;rfl
 ·obtain⟨v,ss,rfl,hv,hl,k⟩:=h;obtain⟨a,xs,rfl,hR,hs⟩:=He hv;rw[Hj hs] at hR;refine⟨_,Ae (Am (Xf1 (A4 Xb4 (by rfl) T.isi boot_isinstance (Aa (pv 0) (Aa (Ik (v:=.ty "tuple") (by rfl) T.tuple (by rfl) rfl) Ab)))
   (Il (A4 (Xbz rfl) (by rfl) T.all (by rfl) (Aa (Gc (N:=["_law_one_here"]) (cap:=[none]) (CompScope.of (defScope s__law_tuple) ["_law_found"] rfl rfl rfl (by decide +kernel)) rfl
    (Gs (pv 0)) (λ_ _ _=>A2 (i:=0) (show (["_law_one_here"]:List Str).Nodup by decide +kernel) rfl (Or.inl rfl) (Or.inr rfl)) (λ_ _ _=>Ew)
    (λ_ _ _=>A4 (Xi9 K rfl) (by rfl) T.isi boot_isinstance (Aa (pv 0) (Aa (Ik (v:=.ty "str") (by rfl) T.str boot_str rfl) Ab)))) Ab))))),?_⟩
  refine⟨_,rfl,_,_,_,_,true,rfl,.tup hR,rfl,Xdi K "tuple",true,rfl,iteT ?_⟩;refine⟨_,rfl,a,rfl,⟨_,SqT.of hR⟩,?_⟩;refine Xcy (n:=ss.length) (by rw[Po];omega) (λi=>(ss.map V.str).getD i .non) (λ_=>.bl true) ?_ ?_ ?_ ?_
  ·intro i H2 hi s2;exact G2 (SqT.of (s2 _ _ hR)) (by rw[Li];exact hi)
  ·intro H2 s2;have:=G3 (K:=K) (SqT.of (s2 _ _ hR))
   rwa [Li] at this
  ·intro i H2 Q' hi s2 kk;rw[Cf V.str Str.empty ss hi];exact⟨_,rfl,_,_,_,_,true,rfl,.str _,rfl,Xdi K "str",kk H2 (Same.refl _)⟩
  ·intro D H2 nD s2 hD;refine⟨D,List.replicate ss.length true,rfl,?_,?_⟩
   ·rw[hD,List.map_const',M4,List.map_replicate]
   ·have e:(List.replicate ss.length true).all id=true:=by
     rw[L9];intro b hb;rw[(List.mem_replicate.mp hb).2];rfl
    rw[e];exact k H2 s2
theorem En:FnScope NSx ["_law_row_here", "_law_plot", "_law_steps_here"] (defScope s__law_said):=⟨rfl,rfl,rfl,by decide +kernel,rfl,by decide +kernel,by decide +kernel⟩
theorem Xo0{f Sh fa:Addr}{fd fda:FuncData}{C:LedC}(F:Fun K "_law_said" "_law_said" s__law_said f fd)(T:Bl mg)(hS:mg "ShoreError" = some (.ref Sh))(hB:mg "NotBeside" = some (.ref C.beside))(hD:mg "NoDitch" = some (.ref C.ditch))(hP:mg "NoPlot" = some (.ref C.plot))
  (hma:mg "led" = some (.ref fa)) (hka:PySem.W.keepIn K (.ref fa)=true) (hba:Binds K fda ["row", "plot", "steps"] []) (FA:FnOk P w K mg base (CX2 P w) 6 fa fda ["row", "plot", "steps"] (K9 C)) (k6:LedK K C Sh):
  FnOk P w K mg base CX0 7 f fd ["_law_row_here", "_law_plot", "_law_steps_here"] spSaid16:=by
 refine F.ok En (λvs H Q E h=>?_) (λcdv A outer s H vs Q E hr h=>?_)
 ·obtain⟨r,p,s,row,S,xs,rfl,_⟩:=h;rfl
 ·obtain⟨r,p,st,row,S,xs,rfl,hR,R2,h14,hp,okS,hSl,hX,okX,k⟩:=h;refine⟨_,Ad (Ak (i:=3) En.nd rfl (Or.inl rfl) (Be (Aa A7 (Aa Fi Ab))))
   (Ad (Xmd rfl rfl rfl
     (λpn R=>Ae (Ak (i:=3) En.nd rfl (Or.inl rfl) (Be (Aa A7 (Aa (Xl9 FA hr (by rfl) hma hka hba .nil (Aa (pv 0) (Aa (pv 1) (Aa (pv 2) Ab)))) Ab)))))
     (Xmb (i:=4) (Cc:=C.beside) rfl rfl En.nd rfl rfl (by rfl) hB
      (λpn ex=>Ae (A3 (Ct (Cb (A4 (Xej K rfl) (by rfl) T.isi boot_isinstance (Aa (pv 4) (Aa (Ij (v:=.ref Sh) (by rfl) hS rfl) Ab))))
        (Ct (Cb (A4 (Xej K rfl) (by rfl) T.isi boot_isinstance (Aa (pv 4) (Aa (Ik (v:=.ty "ValueError") (by rfl) T.val (by rfl) rfl) Ab))))
        (C4 (Gp (Cb (A4 (Xne K rfl) (by rfl) T.isi boot_isinstance (Aa (pv 4) (Aa (Be (Aa (Ij (v:=.ref C.ditch) (by rfl) hD rfl) (Aa (Ij (v:=.ref C.plot) (by rfl) hP rfl) Ab))) Ab)))))))).pt
       (Ae (Ak (i:=3) En.nd rfl (Or.inl rfl) (Be (Aa A7 (Aa (Xmi K rfl (pv 4)) Ab))))) A6))
     (Xe4 (Cc:=C.ditch) (by rfl) hD (λpn ex=>Ae (Ak (i:=3) En.nd rfl (Or.inl rfl) (Be (Aa A7 (Aa Fi Ab)))))
     (Xe4 (Cc:=C.plot) (by rfl) hP (λpn ex=>Ae (Ak (i:=3) En.nd rfl (Or.inl rfl) (Be (Aa A7 (Aa Fi Ab)))))
     Xma))))
   (Ae (Am (pv 3)))),?_⟩
  have two:∀u v:V,[u,v].length<=sizeLine:=λ_ _=>by show 2<=sizeLine;decide
  refine⟨two _ _,λt0 nt0=>?_⟩;have s0:Same H (upd H t0 (.tup [.str "other",.non])):=(Same.refl H).step nt0;show Fm _ _ _ _ (upd H t0 (.tup [.str "other",.non]));generalize upd H t0 (.tup [.str "other",.non])=H0 at s0;have non:∀{H':Hp},DAt H' .none .non:=λ{H'}=>by unfold DAt;rfl
  refine⟨λC1 dd σ1 H1 => σ1=[some (.ref r),some (.ref p),some (.ref st),some (.ref t0),none]/\Same H H1/\((C1=C.plot/\dd=none/\out16 row S xs = .plot)\/(C1=C.ditch/\dd=none/\out16 row S xs = .ditch) \/ ∃i dx,C1=C.beside/\dd=some dx/\K7 H1 dx i/\out16 row S xs = .beside i),?_,?_⟩
  ·refine⟨_,rfl,_,rfl,_,rfl,r,p,st,row,S,xs,rfl,s0 _ _ hR,R2,h14,s0 _ _ hp,okS,hSl,s0 _ _ hX,okX,λhpl H' s'=>?_,λhpl hin H' s'=>?_,λhpl hin=>⟨λS' e q H' hq s'=>?_,λi e dx H' at' s'=>?_⟩⟩
   ·exact⟨_,rfl,rfl,s0.trans s',.inl ⟨rfl,rfl,by unfold out16;rw[Pp (by rw[hpl];decide)]⟩⟩
   ·exact⟨_,rfl,rfl,s0.trans s',.inr (.inl ⟨rfl,rfl,by unfold out16;rw[Pq hpl,Pp hin]⟩)⟩
   ·refine⟨two _ _,λt nt=>?_⟩;refine⟨_,rfl,k t _ ?_ ((s0.trans s').step nt)⟩;unfold out16;rw[Pq hpl,Pq hin,e];exact D0 Ac (Ej (ku hq nt))
   ·exact⟨_,rfl,rfl,s0.trans s',.inr (.inr ⟨i,dx,rfl,rfl,at',by unfold out16;rw[Pq hpl,Pq hin,e];rfl⟩)⟩
  ·rintro C1 dd σ1 H1 ⟨rfl,s1,⟨rfl,rfl,eo⟩ | ⟨rfl,rfl,eo⟩ | ⟨i,dx,rfl,rfl,at',eo⟩⟩
   ·refine⟨false,k6.pb,Bg ⟨false,k6.pd,Bg ⟨true,k6.pp,iteT ⟨two _ _,λt nt=>?_⟩⟩⟩⟩;refine⟨_,rfl,k t _ ?_ (s1.step nt)⟩;rw[eo];exact D0 Ac non
   ·refine⟨false,k6.db,Bg ⟨true,k6.dd,iteT ⟨two _ _,λt nt=>?_⟩⟩⟩;refine⟨_,rfl,k t _ ?_ (s1.step nt)⟩;rw[eo];exact D0 Ac non
   ·refine⟨true,k6.eb,iteT λex hex=>?_⟩;have hX2:upd H1 ex (Dm ex C.beside (some dx)) ex=some (Dm ex C.beside (some dx)):=Ac;have s2:Same H1 (upd H1 ex (Dm ex C.beside (some dx))):=(Same.refl H1).step hex;generalize upd H1 ex (Dm ex C.beside (some dx))=H2 at hX2 s2;refine⟨_,rfl,ex,_,_,_,_,_,rfl,hX2,k6.fb,rfl,k6.ks,_,rfl,iteT ?_⟩;refine⟨_,rfl,ex,_,_,_,_,_,rfl,hX2,k6.fb,rfl,k6.kv,_,rfl,iteT ?_⟩;refine⟨_,rfl,two _ _,λu nu=>?_⟩;have s3:Same H2 (upd H2 u (.tup [.ref C.ditch,.ref C.plot])):=(Same.refl H2).step nu;have hu3:upd H2 u (.tup [.ref C.ditch,.ref C.plot]) u=some (.tup ([C.ditch,C.plot].map V.ref)):=Ac;generalize upd H2 u (.tup [.ref C.ditch,.ref C.plot])=H3 at s3 hu3;refine⟨ex,_,_,u,_,_,rfl,s3 _ _ hX2,k6.fb,SqT.of hu3,k6.kn,_,rfl,?_⟩;refine iteT ?_;refine⟨_,rfl,ex,_,dx,_,.int i,rfl,s3 _ _ hX2,s3 _ _ (s2 _ _ at'),k6.fb,k6.kb,rfl,two _ _,λt nt=>?_⟩;refine⟨_,rfl,k t _ ?_ ((s1.trans (s2.trans s3)).step nt)⟩;rw[eo];exact D0 Ac (by unfold DAt;rfl)
theorem Gn:FnScope NSs ["_law_draw", "_law_row_here", "_law_plot"] (defScope s__law_steps):=⟨rfl,rfl,rfl,by decide +kernel,rfl,by decide +kernel,by decide +kernel⟩
theorem Xo1{f:Addr}{fd:FuncData}(F:Fun K "_law_steps" "_law_steps" s__law_steps f fd)(B:Bl mg)(FP:FnPick P w K mg base)(FO:Fn P w K mg base CX0 2 "_law_one" ["_law_draw", "_law_some"] spOne)(FW:Fn P w K mg base CX0 4 "_law_walked" ["_law_draw", "_law_row_here", "_law_plot", "_law_many"] Lb):
  FnOk P w K mg base CX0 5 f fd ["_law_draw", "_law_row_here", "_law_plot"] Lc:=by
 refine F.ok Gn (λvs H Q E h=>?_) (λcdv A outer s H vs Q E hr h=>?_)
 ·obtain⟨dr,sc,r,p,row,S,rfl,_⟩:=h;rfl
 ·obtain⟨dr,sc,r,p,row,S,rfl,d0,hR,nrd,R2,h14,hp,hS,k⟩:=h;have hu:=C9 hr;have hr1:Room 1 _:=hr.mono (by decide);have hr2:Room 2 _:=hr.mono (by decide);refine⟨_,Ad (Ak (i:=3) Gn.nd rfl (Or.inr rfl) (Hn (i:=1) rfl (by rfl) B.sorted (by rfl) B.set (pv 1)))
   (Ad (Ak (i:=4) Gn.nd rfl (Or.inl rfl) (Ai FP hr1 (by rfl) Aj (Aa (pv 0) (Aa Ag Ab))))
   (Ad (Ak (i:=5) Gn.nd rfl (Or.inl rfl) (Ai FP hr1 (by rfl) Aj (Aa (pv 0) (Aa Ag Ab))))
   (Ad (A3 (Ct (Ap B3 (pv 4) Ag (Au _)) (C4 (Ap (F3 (N2 hu)) (pv 3) (Bf Ab) (Au _)))).pt
    (Ae (Am (Gc (N:=NSs1) (cap:=[none,some 0,some 3]) (CompScope.of (defScope s__law_steps) NSs rfl rfl rfl (by decide +kernel)) rfl (D7 (by rfl) B.range (Aa (pv 5) Ab)) (λ_ _ _=>A2 (i:=0) (show NSs1.Nodup by decide +kernel) rfl (Or.inl rfl) (Or.inr rfl)) (λ_ _ _=>Ew)
     (λ_ _ _=>Ai (by exact FO) (by exact hr2) (by rfl) Aj (Aa (pv 1) (Aa (pv 2) Ab)))))) A6)
   (Ad (Ak (i:=6) Gn.nd rfl (Or.inl rfl) (Ai FW hr (by rfl) Aj (Aa (pv 0) (Aa (pv 1) (Aa (pv 2) (Aa (pv 5) Ab))))))
   (Ad (A3 (Ct (Ap Bm (pv 4) Ag (Au _)) (C4 (Ap (F3 (N2 hu)) (pv 3) (Bf Ab) (Au _)))).pt
    (Ae (C5 (Er PySem.F.plainAttrs_list PySem.F.slot_list_insert PySem.F.type_list_insert Xe9 (pv 6) (Aa (Ai FP hr1 (by rfl) Aj (Aa (pv 0) (Aa (An Bk (A4 Bt (by rfl) B.len boot_len (Aa (pv 6) Ab)) Ag) Ab))) (Aa (Ai FO hr2 (by rfl) Aj (Aa (pv 0) (Aa (pv 3) Ab))) Ab))))) A6)
   (Ae (Am (pv 6)))))))),?_⟩
  have hrl:=R2.len;refine⟨_,rfl,r,row,rfl,.inl (SqL.of hR),hrl,λnl H1 nnl hnl s1=>?_⟩;have d1:=d0.same s1;obtain⟨nl1,nl2⟩:=d0.ne nnl;dsimp only[Az];refine⟨_,rfl,dr,sc,5,rfl,by decide,by decide,d1,λwy H2 w0 w1 d2 b2=>?_⟩;have b2:But dr H1 H2:=b2;dsimp only[Az];refine⟨_,rfl,dr,sc,21,rfl,by decide,by decide,d2,λm H3 m0 m1 d3 b3=>?_⟩;have b3:But dr H2 H3:=b3;obtain⟨m,rfl⟩:=Ma m0;have b03:But dr H H3:=((But.of s1).trans b2).trans b3;have hnl3:=b3 _ _ (b2 _ _ hnl nl1) nl1;have hR3:=b03 _ _ hR nrd;have hp3:=b03 _ _ hp (d0.ntup _ _ hp);have inr:∀y∈dit row,y∈row:=λy hy=>Ax.mp hy;have hdl:0<(dit row).length\/dit row=[]:=by
   cases dit row with
   | nil=>exact .inr rfl
   | cons a b=>exact .inl (by simp)
  have eE:Bi ((dit row).map V.str) []=decide (dit row=[]):=F2 (dit row) [];dsimp only[Az];refine Hw (t:=Fo _ _ _) (fun σ' H' => σ'=[some (.ref dr),some (.ref r),some (.ref p),some (.ref nl),some (.int wy),some (.int m),none]/\Same H3 H') ?_ ?_;rotate_left
  ·intro nxt kn;refine⟨_,rfl,_,_,rfl,rfl,_,rfl,?_⟩;refine Ao (λ_=>?_) (λ_=>kn _ _ ⟨rfl,Same.refl _⟩);refine⟨_,rfl,by show 0<=sizeLine;decide,λe0 ne0=>?_⟩;have s4:Same H3 (upd H3 e0 (.lst [])):=(Same.refl H3).step ne0;have he:upd H3 e0 (.lst []) e0=some (.lst []):=Ac;dsimp only[Dq];generalize upd H3 e0 (.lst [])=H4 at s4 he;have hnl4:=s4 _ _ hnl3;refine⟨nl,e0,_,_,rfl,rfl,SqL.of hnl4,SqL.of he,Dv (dit row),by simp,_,rfl,?_⟩;rw[eE];refine Ao (λhne=>?_) (λ_=>kn _ _ ⟨rfl,s4⟩);have h0:0<(dit row).length:=hdl.resolve_right λz=>by rw[Pr z] at hne;cases hne
   have d4:=d3.same s4;refine⟨_,rfl,(m:Int),rfl,by omega,by omega,?_⟩;rw[Nc];refine Xja (n:=m) (λi=>.int (0+(i:Int))) (λD i σ2 H2=>(∃v, σ2=[v,some (.ref dr),some (.ref nl)])/\DrawOk H2 dr sc/\But dr H4 H2/\∃xs:List Str,H2 D=some (.lst (xs.map V.str))/\xs.length=i/\∀y∈xs,y∈row) ?_ ?_ ?_ ?_ ?_
   ·intro D hD;obtain⟨n1,n2⟩:=d4.ne hD;exact⟨⟨_,rfl⟩,d4.upd n1 n2,(But.refl dr H4).upd hD,[],Ac,rfl,λq hq=>by simp at hq⟩
   ·rintro D i σ2 H5 hD hi _;refine⟨hi,λx H6 y=>?_⟩;obtain⟨e1,e2⟩:=y;exact⟨e1,e2⟩
   ·rintro D σ2 H5 hD _;exact Lk _
   ·rintro D i σ2 H5 hD hi ⟨⟨v,rfl⟩,d5,b5,xs,hq,hl2,hm⟩;obtain⟨n1,n2⟩:=d4.ne hD;refine⟨_,rfl,_,rfl,dr,sc,nl,_,rfl,d5,b5 _ _ hnl4 nl1,nl1,by rw[Li];exact h0,by rw[Li];omega,λgi H6 hgi d6 b6=>?_⟩;have b6:But dr H5 H6:=b6;rw[Li] at hgi;rw[Cf V.str Str.empty _ hgi];have hq6:=b6 _ _ hq n1;refine wput hi hq6 (by rw[Li,Po];omega) ⟨⟨_,rfl⟩,d6.upd n1 n2,λb o e n=>?_,xs++[(dit row).getD gi Str.empty],by rw[Ac,Lx];rfl,by rw[Ln,hl2];rfl,λq hq=>?_⟩
    ·rw[Af (Aq e hD)];exact b6 _ _ (b5 _ _ e n) n
    ·rcases Ls.mp hq with z | z
     ·exact hm q z
     ·rw[Ly.mp z];exact inr _ (Co hgi)
   ·rintro D σ2 H5 hD ⟨_,d5,b5,xs,hq,hl2,hm⟩;obtain⟨ys,hdr⟩:=d4.at;obtain⟨ys3,hdr3⟩:=d3.at;exact k D xs H5 (b03.free hdr3 (s4.free hD)) hq hm (by omega) d5 ((b03.same s4).trans b5)
  rintro σ' H4 ⟨rfl,s4⟩;have d4:=d3.same s4;have b04:=b03.same s4;have hnl4:=s4 _ _ hnl3;obtain⟨ys4,hdr4⟩:=d4.at;refine⟨_,rfl,_,rfl,_,rfl,_,rfl,dr,sc,r,p,row,S,m,rfl,d4,s4 _ _ hR3,nrd,R2,h14,s4 _ _ hp3,hS,by omega,λst xs H5 nst hst hin hl d5 b5=>?_⟩;have b5:But dr H4 H5:=b5;obtain⟨st1,st2⟩:=d4.ne nst;have nst0:=b04.free hdr4 nst;have b05:=b04.trans b5;have hnl5:=b5 _ _ hnl4 nl1;dsimp only[Az];refine Hw (t:=Fo _ _ _) (fun σ' H'=>∃ys:List Str, σ'=[some (.ref dr),some (.ref r),some (.ref p),some (.ref nl),some (.int wy),some (.int m),some (.ref st)]/\H' st=some (.lst (ys.map V.str))/\(∀y∈ys,y∈row)/\ys.length<=40/\DrawOk H' dr sc/\But dr H H') ?_ ?_
  ·rintro σ' H6 ⟨ys,rfl,h1,h2,h3,d6,b6⟩;exact⟨_,rfl,k st ys H6 nst0 h1 h2 h3 d6 b6⟩
  ·intro nxt kn;refine⟨_,rfl,rfl,_,rfl,?_⟩;refine Ao (λ_=>?_) (λ_=>kn _ _ ⟨xs,rfl,hst,hin,by omega,d5,b05⟩);refine⟨_,rfl,by show 0<=sizeLine;decide,λe0 ne0=>?_⟩;have s6:Same H5 (upd H5 e0 (.lst [])):=(Same.refl H5).step ne0;have he:upd H5 e0 (.lst []) e0=some (.lst []):=Ac;dsimp only[Dq];generalize upd H5 e0 (.lst [])=H6 at s6 he;have hnl6:=s6 _ _ hnl5;have hst6:=s6 _ _ hst;have d6:=d5.same s6;have b06:=b05.same s6;refine⟨nl,e0,_,_,rfl,rfl,SqL.of hnl6,SqL.of he,Dv (dit row),by simp,_,rfl,?_⟩;rw[eE];refine Ao (λhne=>?_) (λ_=>kn _ _ ⟨xs,rfl,hst6,hin,by omega,d6,b06⟩);have h0:0<(dit row).length:=hdl.resolve_right λz=>by rw[Pr z] at hne;cases hne
   refine⟨_,rfl,.inl ⟨rfl,_,SqL.of hst6⟩,_,rfl,_,rfl,st,_,rfl,.inl (SqL.of hst6),_,_,rfl,rfl,dr,sc,_,rfl,by omega,by rw[Li];omega,d6,λj H7 j0 j1 d7 b7=>?_⟩;have b7:But dr H6 H7:=b7;obtain⟨j,rfl⟩:=Ma j0;rw[Li] at j1;refine⟨_,rfl,_,rfl,dr,sc,nl,_,rfl,d7,b7 _ _ hnl6 nl1,nl1,by rw[Li];exact h0,by rw[Li];omega,λgi H8 hgi d8 b8=>?_⟩;have b8:But dr H7 H8:=b8;rw[Li] at hgi;rw[Cf V.str Str.empty _ hgi];have hst8:=b8 _ _ (b7 _ _ hst6 st1) st1;refine⟨st,_,j,_,rfl,rfl,hst8,by rw[Li];omega,by rw[Li];omega,?_⟩;refine kn _ _ ⟨xs.take j++(dit row).getD gi Str.empty::xs.drop j,rfl,?_,λy hy=>?_,?_,d8.upd st1 st2,((b06.trans b7).trans b8).upd nst0⟩
   ·rw[Ac,Lx,L8,Pj,Pk]
   ·rcases Ls.mp hy with z | z
    ·exact hin y (M9 z)
    ·rcases Lw.mp z with z | z
     ·rw[z];exact inr _ (Co hgi)
     ·exact hin y (Nj z)
   ·rw[Ln,L4,Mb,Na];omega
end
end K16
set_option maxHeartbeats 8000000
namespace K16
open PySem PySem.Spec PyProof.Rows L2 SH
def Ie (K:PySem.W.Frag):Sp:=λvs H Q _=>∃(a:Addr) (ns:List Int),vs=[.ref a]/\SqL K H a (ns.map V.int)/\ns.length<=63/\∀H',Q (.bl true) H'
theorem Xo2{K:PySem.W.Frag}{C:Addr}(h:PySem.W.subIn K (.ref C) (.type "ValueError")=some true):PySem.W.kitOne K (.ref C) (.type "ValueError")=some true:=by
 unfold PySem.W.kitOne;rw[Pp (λz=>by cases (beq_iff_eq.mp z))];show (if PySem.W.kitMeta "ValueError" = true then PySem.W.subIn K (.ref C) (.type "ValueError") else none)=some true;rw[Pq (by decide +kernel)];exact h
theorem Xo3{K:PySem.W.Frag}{C D E:Addr}(h1:PySem.W.kitOne K (.ref C) (.ref D)=some false)(h2:PySem.W.kitOne K (.ref C) (.ref E)=some false):PySem.W.kitAny K (.ref C) ([D,E].map Value.ref)=some false:=by
 show (match PySem.W.kitOne K (.ref C) (.ref D) with | some true=>some true | some false=>PySem.W.kitAny K (.ref C) [.ref E] | none=>none)=some false;rw[h1];show (match PySem.W.kitOne K (.ref C) (.ref E) with | some true=>some true | some false=>PySem.W.kitAny K (.ref C) [] | none=>none)=some false;rw[h2];rfl
def DueAt (H:Hp) (t:Addr):O16->Prop
 | .plot=>H t=some (.tup [.str "plot",.non])
 | .ditch=>H t=some (.tup [.str "ditch",.non])
 | .beside i=>H t=some (.tup [.str "beside",.int i])
 | .told S=>∃q,H t=some (.tup [.str "told",.ref q])/\H q=some (.tup (S.map V.str))
theorem DueAt.keep{H H':Hp}{t:Addr}(k:∀b w,H b=some (.tup w)->H' b=some (.tup w)):∀{o:O16},DueAt H t o->DueAt H' t o
 | .plot,h=>k _ _ h
 | .ditch,h=>k _ _ h
 | .beside _,h=>k _ _ h
 | .told _,⟨q,h1,h2⟩=>⟨q,k _ _ h1,k _ _ h2⟩
theorem Xo4{H:Hp}{t:Addr}:∀{z:Nat ⊕ List Str},Xfb H t z->DueAt H t (ofW z)
 | .inl _,h=>h
 | .inr _,h=>h
theorem Xfh(H:Hp):DAt H .none .non:=by unfold DAt;rfl
theorem Xo5(H:Hp)(i:Int):DAt H (.int i) (.int i):=by unfold DAt;rfl
theorem Xo6{H:Hp}{t:Addr}:∀{o:O16},DueAt H t o->DAt H (o16D o) (.ref t)
 | .plot,h=>D0 h (Xfh H)
 | .ditch,h=>D0 h (Xfh H)
 | .beside i,h=>D0 h (Xo5 H i)
 | .told _,⟨_,h1,h2⟩=>D0 h1 (Ej h2)
theorem Ig{H:Hp}{t:Addr}{w:Str}{d:PyData}(h:DAt H (.tuple [.str w,d]) (.ref t)):∃v,H t=some (.tup [.str w,v])/\DAt H d v:=by
 obtain⟨p,xs,e,hp,hs⟩:=He h;cases e;unfold DAll at hs;obtain⟨v1,r1,rfl,h1,hs⟩:=hs;unfold DAll at hs;obtain⟨v2,r2,rfl,h2,hs⟩:=hs;unfold DAll at hs;subst hs;unfold DAt at h1;subst h1;exact⟨v2,hp,h2⟩
theorem Xfi{row:List Str}:∀{xs S:List Str} {i:Nat} {U:List Str},Al row S=true->Bx row S i xs = .inr U->Al row U=true
 | [],S,i,U,h,e=>by cases e;exact h
 | x::r,S,i,U,h,e=>by
  have e':(if Al row (Ay S x)=true then Bx row (Ay S x) (i+1) r else .inl i) = .inr U:=e;by_cases c:Al row (Ay S x)=true
  ·rw[Pq c] at e';exact Xfi c e'
  ·rw[Pp c] at e';cases e'
theorem Xfj{row S xs U:List Str}(h:out16 row S xs = .told U):Al row U=true:=by
 unfold out16 at h;split at h
 ·rename_i hS;split at h
  ·cases hw:Bx row S 0 xs with
   | inl i=>rw[hw] at h;cases h
   | inr U'=>
    rw[hw] at h;have h:O16.told U' = .told U:=h;injection h with h
    rw[<-h];exact Xfi hS hw
  ·cases h
 ·cases h
theorem Xfk{y:Str}(h:okN y):A9 (.str y)=true:=by
 have a:(A9 (.str y)&&true)=true:=Xdp (ss:=[y]) λz hz=>by rw[Ly.mp hz];exact h
 rw[Bool.and_true] at a;exact a
theorem Xo7{row:List Str}(R:∀y∈row,okN y):∀{o:O16},(∀U,o = .told U->Al row U=true)->A9 (o16D o)=true
 | .plot,_=>by decide +kernel
 | .ditch,_=>by decide +kernel
 | .beside i,_=>by
  show (A9 (.str "beside")&&(A9 (.int i)&&true))=true;rw[Xfk (by decide +kernel)];rfl
 | .told U,h=>by
  show (A9 (.str "told")&&(A9 (tupD U)&&true))=true;have a:A9 (tupD U)=true:=Dx λy hy=>R y ((C2 (h U rfl)).1 y hy);rw[Xfk (by decide +kernel),a];rfl
theorem Xo8:∀o:O16,(o16D o).depth<=3
 | .plot=>by decide
 | .ditch=>by decide
 | .beside i=>by show max 0 (max 0 0)+1<=3;decide
 | .told U=>by
  show max 0 (max (PyData.depthAll (U.map PyData.str)+1) 0)+1<=3;rw[Kx];decide
abbrev NLw:List Str:=["_law_script", "_law_draw", "_law_row_here", "_law_plot", "_law_steps_here", "_law_due", "_law_kept", "_law_found"]
section
variable {P:Program}{w:World}{K:PySem.W.Frag}{mg:Str->Option Value}{base:Heap}
theorem Cr:FnScope NLw ["_law_script"] (defScope s_law):=⟨rfl,rfl,rfl,by decide +kernel,rfl,by decide +kernel,by decide +kernel⟩
theorem Xo9{f:Addr}{fd:FuncData}(F:Fun K "law" "law" s_law f fd)(B:Bl mg)(FB:Fn P w K mg base CX0 1 "_law_begin" ["_law_script"] (Kj K))(FP:FnPick P w K mg base)
  (FI:Fn P w K mg base CX0 4 "_law_island" ["_law_draw", "_law_most"] spIslandN) (FPl:Fn P w K mg base CX0 3 "_law_plots" ["_law_row_here"] spPlots) (FOn:Fn P w K mg base CX0 2 "_law_one" ["_law_draw", "_law_some"] spOne) (FSt:Fn P w K mg base CX0 5 "_law_steps" ["_law_draw", "_law_row_here", "_law_plot"] Lc)
  (FLd:Fn P w K mg base CX0 3 "_law_led" ["_law_row_here", "_law_plot", "_law_steps_here"] spLLed) (FS:Fn P w K mg base CX0 1 "_law_stranger" ["_law_row_here"] spStranger) (FO:Fn P w K mg base CX0 2 "_law_odd_plot" ["_law_draw", "_law_row_here", "_law_plot"] spOdd) (FG:Fn P w K mg base CX0 3 "_law_good_plot" ["_law_row_here", "_law_plot"] Ky)
  (FSd:Fn P w K mg base CX0 7 "_law_said" ["_law_row_here", "_law_plot", "_law_steps_here"] spSaid16) (FT:Fn P w K mg base CX0 1 "_law_tuple" ["_law_found"] spTuple):FnOk P w K mg base CX0 8 f fd ["_law_script"] (Ie K):=by
 refine F.ok Cr (λvs H Q E h=>?_) (λcdv A outer s H vs Q E hr h=>?_)
 ·obtain⟨a,ns,rfl,_⟩:=h;rfl
 ·obtain⟨a,ns,rfl,hS,hlen,k⟩:=h;have hu:=C9 hr;have hr1:Room 1 _:=hr.mono (by decide);have hr2:Room 2 _:=hr.mono (by decide);have hr3:Room 3 _:=hr.mono (by decide);have hr4:Room 4 _:=hr.mono (by decide);have hr5:Room 5 _:=hr.mono (by decide);refine⟨_,Ad (Ak (i:=1) Cr.nd rfl (Or.inl rfl) (Ai FB hr1 (by rfl) Aj (Aa (pv 0) Ab)))
   (Ad (Ak (i:=2) Cr.nd rfl (Or.inl rfl) (Ai FI hr4 (by rfl) Aj (Aa (pv 1) (Aa Ag Ab))))
   (Ad (Ak (i:=3) Cr.nd rfl (Or.inl rfl) (Ai FOn hr2 (by rfl) Aj (Aa (pv 1) (Aa (Ai FPl hr3 (by rfl) Aj (Aa (pv 2) Ab)) Ab))))
   (Ad (Ak (i:=4) Cr.nd rfl (Or.inl rfl) (Ai FSt hr5 (by rfl) Aj (Aa (pv 1) (Aa (pv 2) (Aa (pv 3) Ab)))))
   (Ad (Ak (i:=5) Cr.nd rfl (Or.inl rfl) (Ai FLd hr3 (by rfl) Aj (Aa (pv 2) (Aa (pv 3) (Aa (pv 4) Ab)))))
   (Ad (A3 (Ap Bm (Ai FP hr1 (by rfl) Aj (Aa (pv 1) (Aa Ag Ab))) Ag (Au _)) (Ad (C5 (Er PySem.F.plainAttrs_list PySem.F.slot_list_insert PySem.F.type_list_insert Xe9 (pv 4) (Aa (Ai FP hr1 (by rfl) Aj (Aa (pv 1) (Aa (An Bk (A4 Bt (by rfl) B.len boot_len (Aa (pv 4) Ab)) Ag) Ab))) (Aa (Ai FS hr1 (by rfl) Aj (Aa (pv 2) Ab)) Ab)))) (Ae (Ak (i:=5) Cr.nd rfl (Or.inl rfl) (Be (Aa A7 (Aa Fi Ab)))))) A6)
   (Ad (A3 (Ap Bm (Ai FP hr1 (by rfl) Aj (Aa (pv 1) (Aa Ag Ab))) Ag (Au _)) (Ad (Ak (i:=3) Cr.nd rfl (Or.inl rfl) (Ai FO hr2 (by rfl) Aj (Aa (pv 1) (Aa (pv 2) (Aa (pv 3) Ab))))) (Ad (Ak (i:=5) Cr.nd rfl (Or.inl rfl) (Be (Aa A7 (Aa Fi Ab)))) (Ae (A3 (Cb (Ai FG hr3 (by rfl) Aj (Aa (pv 2) (Aa (pv 3) Ab)))) (Ae (Am Dp)) A6)))) A6)
   (Ad (Ak (i:=6) Cr.nd rfl (Or.inl rfl) (Bn Fv (by rfl) B.list (by rfl) (Aa (pv 4) Ab)))
   (Ad (Ak (i:=7) Cr.nd rfl (Or.inl rfl) (Ai FSd hr (by rfl) Aj (Aa (pv 2) (Aa (pv 3) (Aa (pv 4) Ab)))))
   (Ad (A3 (Fl (Ap (Xc9 (hu3 hr)) (pv 7) (pv 5) (Au _)) (Fk (Ap (F3 (N2 hu)) (pv 4) (pv 6) (Au _)))).pt (Ae (Am Dp)) A6)
   (Ae (Am (Xac (D8 Fr (Av Fs (pv 7) Ag (λ_ _=>rfl)) A7 (Au _)) (Il (Ai FT hr1 (by rfl) Aj (Aa (Av Fs (pv 7) Ag (λ_ _=>rfl)) Ab))))))))))))))),?_⟩
  refine⟨_,rfl,a,ns,rfl,hS,hlen,λdr sc H1 ndr nsc d1 s1=>?_⟩;refine⟨_,rfl,dr,sc,14,rfl,by decide,d1,λr row n st late H2 nr hn hst hR hp hno d2 b2=>?_⟩;have hI:Isl row:=⟨n,st,late,hn,hst,hp⟩;have hrl:=hI.len;have h14:=hI.dlen;have R2:=hI.row2;obtain⟨hso,hsn⟩:=hI.stranger;have nrd:r≠dr:=λz=>by
   obtain⟨xs1,h1⟩:=d1.at;rw[z,h1] at nr;cases nr
  dsimp only[Az];refine⟨_,rfl,_,rfl,r,row,rfl,hR,R2,hno,h14,λl ps H3 nl hl3 hne hpl hPs s3=>?_⟩;have d3:=d2.same s3;have nld:l≠dr:=(d2.ne nl).1;have hlp:0<ps.length:=O8.mpr hne;refine⟨dr,sc,l,_,rfl,d3,hl3,nld,by rw[Li];omega,by rw[Li];omega,λgi H4 hgi d4 b4=>?_⟩;have b4:But dr H3 H4:=b4;rw[Li] at hgi;rw[Cf V.ref 0 ps hgi];have hm:ps.getD gi 0∈ps:=by
   rw[show ps.getD gi 0=ps[gi] by simp[List.getD,hgi]];exact Me hgi
  generalize ps.getD gi 0=p at hm;obtain⟨S,hp3,hS⟩:=hPs p hm;have hR4:=b4 _ _ (s3 _ _ hR) nrd;have hp4:=b4 _ _ hp3 (d3.ntup _ _ hp3);dsimp only[Az];refine⟨_,rfl,_,rfl,_,rfl,dr,sc,r,p,row,S,rfl,d4,hR4,nrd,R2,h14,hp4,hS,λst_ xs H5 nst hst5 hin hxl d5 b5=>?_⟩;have b5:But dr H4 H5:=b5;have nsd:st_≠dr:=(d4.ne nst).1;have nss:st_≠sc:=(d4.ne nst).2;have hR5:=b5 _ _ hR4 nrd;have hp5:=b5 _ _ hp4 (d4.ntup _ _ hp4);dsimp only[Az];refine⟨_,rfl,_,rfl,_,rfl,r,p,st_,row,S,xs,rfl,hR5,R2,h14,hp5,hS,hst5,hin,by omega,λt H6 nt hW s6=>?_⟩;have d6:=d5.same s6;have e0:ofW (Bx row S 0 xs)=out16 row S xs:=by
   unfold out16;rw[Pq hS,Pq hin]
  have hD6:DueAt H6 t (out16 row S xs):=by rw[<-e0];exact Xo4 hW
  have okX:∀y∈xs,okN y:=λy hy=>R2.ok y (hin y hy);have okS:∀y∈S,okN y:=λy hy=>R2.ok y ((C2 hS).1 y hy);have hSl:=Fb hS;have ku6:=s6 _ _ hst5;dsimp only[Az];refine Hw (t:=Fo _ _ _) (fun σ' H'=>∃(t:Addr) (xs:List Str), σ'=[some (.ref a),some (.ref dr),some (.ref r),some (.ref p),some (.ref st_),some (.ref t),none,none]/\H' r=some (.lst (row.map V.str))/\H' p=some (.tup (S.map V.str))/\H' st_=some (.lst (xs.map V.str))/\(∀y∈xs,okN y)/\xs.length<=41/\DueAt H' t (out16 row S xs)/\DrawOk H' dr sc) ?_ ?_;rotate_left
  ·intro nxt kn;refine⟨_,rfl,dr,sc,8,rfl,by decide,by decide,d6,λq H7 _ _ d7 b7=>?_⟩;have b7:But dr H6 H7:=b7;have k7:∀b w,H6 b=some (.tup w)->H7 b=some (.tup w):=λb w e=>b7 _ _ e (d6.ntup _ _ e);have hR7:=b7 _ _ (s6 _ _ hR5) nrd;have hst7:=b7 _ _ ku6 nsd;refine⟨rfl,_,rfl,?_⟩;refine Ao (λ_=>?_) (λ_=>kn _ _ ⟨t,xs,rfl,hR7,k7 _ _ (s6 _ _ hp5),hst7,okX,by omega,hD6.keep k7,d7⟩);refine⟨_,rfl,.inl ⟨rfl,_,SqL.of hst7⟩,_,rfl,_,rfl,st_,_,rfl,.inl (SqL.of hst7),_,_,rfl,rfl,dr,sc,_,rfl,by omega,by rw[Li];omega,d7,λj H8 j0 j1 d8 b8=>?_⟩;have b8:But dr H7 H8:=b8;obtain⟨j,rfl⟩:=Ma j0;rw[Li] at j1;have hR8:=b8 _ _ hR7 nrd;refine⟨_,rfl,r,row,rfl,hR8,λy hy=>(R2.ok y hy).1,λH9 s9=>?_⟩;have hst9:=s9 _ _ (b8 _ _ hst7 nsd);have hp9:=s9 _ _ (b8 _ _ (k7 _ _ (s6 _ _ hp5)) (d7.ntup _ _ (k7 _ _ (s6 _ _ hp5))));refine⟨st_,_,j,_,rfl,rfl,hst9,by rw[Li];omega,by rw[Li];omega,?_⟩;have eL:(xs.map V.str).take j++V.str (C0 row)::(xs.map V.str).drop j=(xs.take j++C0 row::xs.drop j).map V.str:=by
    rw[Lx,L8,Pj,Pk]
   rw[eL];generalize hX:xs.take j++C0 row::xs.drop j=xs2;have hstA:upd H9 st_ (.lst (xs2.map V.str)) st_=some (.lst (xs2.map V.str)):=Ac;have kA:∀{b:Addr} {o:HO},H9 b=some o->b≠st_->upd H9 st_ (.lst (xs2.map V.str)) b=some o:=λ{b o} e n=>by rw[Af n];exact e
   have hRA:=kA (s9 _ _ hR8) (λz=>by rw[z] at hR5;have:=hst5.symm.trans hR5;exact absurd (d4.ne nst) (by rw[z] at hR4;rw[hR4] at nst;cases nst));have hpA:=kA hp9 (λz=>by rw[z,hst9] at hp9;cases hp9);have dA:DrawOk (upd H9 st_ (.lst (xs2.map V.str))) dr sc:=(d8.same s9).upd nsd nss;generalize upd H9 st_ (.lst (xs2.map V.str))=HA at hstA hRA hpA dA;refine⟨by show 2<=sizeLine;decide,λt2 nt2=>?_⟩;have sB:Same HA (upd HA t2 (.tup [.str "ditch",.non])):=(Same.refl HA).step nt2;have m2:C0 row∈xs2:=by rw[<-hX];simp
   have eo:out16 row S xs2 = .ditch:=by
    unfold out16;rw[Pq hS,Pp λh=>hsn (h _ m2)]
   refine kn _ _ ⟨t2,xs2,rfl,sB _ _ hRA,sB _ _ hpA,sB _ _ hstA,λy hy=>?_,?_,by rw[eo];exact Ac,dA.same sB⟩
   ·rw[<-hX] at hy;rcases Ls.mp hy with z | z
    ·exact okX y (M9 z)
    ·rcases Lw.mp z with z | z
     ·rw[z];exact hso
     ·exact okX y (Nj z)
   ·rw[<-hX,Ln,L4,Mb,Na];omega
  rintro σ' H7 ⟨t,xs,rfl,hR7,hp7,hst7,okX,hxl,hD7,d7⟩;clear hD6 hW nt e0 hst5 hin ku6;refine Hw (t:=Fo _ _ _) (fun σ' H'=>∃(t p:Addr) (S:List Str), σ'=[some (.ref a),some (.ref dr),some (.ref r),some (.ref p),some (.ref st_),some (.ref t),none,none]/\H' r=some (.lst (row.map V.str))/\H' p=some (.tup (S.map V.str))/\(∀y∈S,okN y)/\S.length<=24/\H' st_=some (.lst (xs.map V.str))/\DueAt H' t (out16 row S xs)) ?_ ?_;rotate_left
  ·intro nxt kn;refine⟨_,rfl,dr,sc,8,rfl,by decide,by decide,d7,λq H8 _ _ d8 b8=>?_⟩;have b8:But dr H7 H8:=b8;have k8:∀b w,H7 b=some (.tup w)->H8 b=some (.tup w):=λb w e=>b8 _ _ e (d7.ntup _ _ e);have hR8:=b8 _ _ hR7 nrd;have hst8:=b8 _ _ hst7 nsd;refine⟨rfl,_,rfl,?_⟩;refine Ao (λ_=>?_) (λ_=>kn _ _ ⟨t,p,S,rfl,hR8,k8 _ _ hp7,okS,by omega,hst8,hD7.keep k8⟩);refine⟨_,rfl,_,rfl,_,rfl,dr,sc,r,p,row,S,rfl,d8,hR8,nrd,hI,k8 _ _ hp7,okS,by omega,λp2 S2 H9 hp9 ok2 hl2 d9 b9=>?_⟩;have b9:But dr H8 H9:=b9;have hR9:=b9 _ _ hR8 nrd;have hst9:=b9 _ _ hst8 nsd;dsimp only[Az];refine⟨by show 2<=sizeLine;decide,λt2 nt2=>?_⟩;have sB:Same H9 (upd H9 t2 (.tup [.str "plot",.non])):=(Same.refl H9).step nt2;have ht2:upd H9 t2 (.tup [.str "plot",.non]) t2=some (.tup [.str "plot",.non]):=Ac;dsimp only[Az];generalize upd H9 t2 (.tup [.str "plot",.non])=HB at sB ht2;refine⟨_,rfl,_,rfl,r,p2,row,S2,rfl,sB _ _ hR9,R2,sB _ _ hp9,ok2,by omega,λHC sC=>⟨_,rfl,?_⟩⟩;rw[Hm R2.two];refine Ao (λ_=>k _) (λhf=>?_);have sBC:=sB.trans sC;have eo:out16 row S2 xs = .plot:=by
    unfold out16;rw[Pp (by rw[hf];decide)]
   exact kn _ _ ⟨t2,p2,S2,rfl,sBC _ _ hR9,sBC _ _ hp9,ok2,by omega,sBC _ _ hst9,by rw[eo];exact sC _ _ ht2⟩
  rintro σ' H8 ⟨t,p,S,rfl,hR8,hp8,okS,hSl,hst8,hD8⟩;refine⟨_,rfl,st_,_,rfl,.inl (SqL.of hst8),λkp nkp=>?_⟩;have s9:Same H8 (upd H8 kp (.lst (xs.map V.str))):=(Same.refl H8).step nkp;have hk9:upd H8 kp (.lst (xs.map V.str)) kp=some (.lst (xs.map V.str)):=Ac;dsimp only[Az];generalize upd H8 kp (.lst (xs.map V.str))=H9 at s9 hk9;refine⟨_,rfl,_,rfl,_,rfl,r,p,st_,row,S,xs,rfl,s9 _ _ hR8,R2,h14,s9 _ _ hp8,okS,hSl,s9 _ _ hst8,okX,λt7 HA hf sA=>?_⟩;have s8A:=s9.trans sA;have plo:A9 (o16D (out16 row S xs))=true:=Xo7 R2.ok λU e=>Xfj e;have hdue:=Xo6 (hD8.keep λb w e=>s8A _ _ e);dsimp only[Az];refine⟨_,rfl,_,rfl,o16D (out16 row S xs),o16D (out16 row S xs),hf,hdue,Du _ plo,Du _ plo,Mj (Nat.min_le_left _ _) (Xo8 _),_,rfl,?_⟩;rw[(E4 _ _ plo plo).mpr rfl];refine Bg ?_;refine⟨_,rfl,_,rfl,st_,kp,_,_,rfl,rfl,SqL.of (s8A _ _ hst8),SqL.of (sA _ _ hk9),Dv xs,Dv xs,_,rfl,?_⟩;rw[show Bi (xs.map V.str) (xs.map V.str)=decide (xs=xs) from F2 xs xs,Pr rfl];refine Bg ?_;cases ho:out16 row S xs with
  | plot=>
   rw[ho] at hf;obtain⟨v,hv,_⟩:=Ig hf;refine⟨_,rfl,t7,_,_,_,rfl,rfl,SqT.of hv,(show atI [V.str "plot",v] ((0:Nat):Int)=some (.str "plot") from B0 rfl),?_⟩;refine⟨rfl,_,rfl,Ao (λ_=>k _) (λz=>absurd z (by rw[Dg];decide +kernel))⟩
  | ditch=>
   rw[ho] at hf;obtain⟨v,hv,_⟩:=Ig hf;refine⟨_,rfl,t7,_,_,_,rfl,rfl,SqT.of hv,(show atI [V.str "ditch",v] ((0:Nat):Int)=some (.str "ditch") from B0 rfl),?_⟩;refine⟨rfl,_,rfl,Ao (λ_=>k _) (λz=>absurd z (by rw[Dg];decide +kernel))⟩
  | beside i=>
   rw[ho] at hf;obtain⟨v,hv,_⟩:=Ig hf;refine⟨_,rfl,t7,_,_,_,rfl,rfl,SqT.of hv,(show atI [V.str "beside",v] ((0:Nat):Int)=some (.str "beside") from B0 rfl),?_⟩;refine⟨rfl,_,rfl,Ao (λ_=>k _) (λz=>absurd z (by rw[Dg];decide +kernel))⟩
  | told U=>
   rw[ho] at hf;obtain⟨v,hv,hd⟩:=Ig hf;have hUl:=Fb (Xfj ho);refine⟨_,rfl,t7,_,_,_,rfl,rfl,SqT.of hv,(show atI [V.str "told",v] ((0:Nat):Int)=some (.str "told") from B0 rfl),?_⟩;refine⟨rfl,_,rfl,Ao (λ_=>k _) (λ_=>?_)⟩;exact⟨_,rfl,t7,_,_,_,rfl,rfl,SqT.of hv,(show atI [V.str "told",v] ((1:Nat):Int)=some v from B0 rfl),v,U,rfl,hd,by omega,λH' s'=>k _⟩
end
end K16
set_option maxHeartbeats 4000000
namespace L2
open PySem
theorem len1{us:List Value}(h:us.length=1):∃a,us=[a]:=List.length_eq_one_iff.mp h
theorem len2{us:List Value}(h:us.length=2):∃a b,us=[a,b]:=by
 cases us with
 | nil=>cases h
 | cons a r=>
  obtain⟨b,rfl⟩:=len1 (Nat.succ.inj h);exact⟨a,b,rfl⟩
theorem len3{us:List Value}(h:us.length=3):∃a b c,us=[a,b,c]:=by
 cases us with
 | nil=>cases h
 | cons a r=>
  obtain⟨b,c,rfl⟩:=len2 (Nat.succ.inj h);exact⟨a,b,c,rfl⟩
theorem len4{us:List Value}(h:us.length=4):∃a b c d,us=[a,b,c,d]:=by
 cases us with
 | nil=>cases h
 | cons a r=>
  obtain⟨b,c,d,rfl⟩:=len3 (Nat.succ.inj h);exact⟨a,b,c,d,rfl⟩
end L2
namespace K16
open PySem PySem.Spec PyProof.Rows L2 SH
theorem Xpa{P:Program}{w:World}{K:PySem.W.Frag}{h:Heap}{mg:Str->Option Value}{fa C_NoDitch C_NoPlot C_ShoreError:Addr}{C_NotBeside fI_NotBeside:Addr}(X:K.In h)(G:h.Ns mainGlobals mg)(hfa:mg "law" = some (.ref fa))
  (d_ask_ditch:DefAt K "ask_ditch" sAsk)
  (d_ditches:DefAt K "ditches" sDitches)
  (d_ends:DefAt K "ends" sEnds)
  (d_spans:DefAt K "spans" sSpans)
  (d_lie_of:DefAt K "lie_of" sLieOf)
  (d_told:DefAt K "told" sTold)
  (d_allows:DefAt K "allows" sAllows)
  (d_is_plot:DefAt K "is_plot" sIsPlot)
  (d_ask_plot:DefAt K "ask_plot" s_ask_plot)
  (d_parting:DefAt K "parting" s_parting)
  (d_across:DefAt K "across" s_across)
  (d_stepped:DefAt K "stepped" s_stepped)
  (d_led:DefAt K "led" s_led)
  (d__law_pick:DefAt K "_law_pick" sPick)
  (d__law_one:DefAt K "_law_one" s__law_one)
  (d__law_flip:DefAt K "_law_flip" s__law_flip)
  (d__law_fits:DefAt K "_law_fits" s__law_fits)
  (d__law_ways:DefAt K "_law_ways" s__law_ways)
  (d__law_where:DefAt K "_law_where" sWhere)
  (d__law_word:DefAt K "_law_word" sWord)
  (d__law_bars:DefAt K "_law_bars" s__law_bars)
  (d__law_over:DefAt K "_law_over" s__law_over)
  (d__law_walked:DefAt K "_law_walked" s__law_walked)
  (d__law_begin:DefAt K "_law_begin" sBegin)
  (d__law_put:DefAt K "_law_put" sPut)
  (d__law_barred:DefAt K "_law_barred" sBarred)
  (d__law_row:DefAt K "_law_row" sRow)
  (d__law_names:DefAt K "_law_names" sNames)
  (d__law_island:DefAt K "_law_island" sIsland)
  (d__law_plots:DefAt K "_law_plots" s__law_plots)
  (d__law_led:DefAt K "_law_led" s__law_led)
  (d__law_stranger:DefAt K "_law_stranger" s__law_stranger)
  (d__law_odd_plot:DefAt K "_law_odd_plot" s__law_odd_plot)
  (d__law_good_plot:DefAt K "_law_good_plot" s__law_good_plot)
  (d__law_tuple:DefAt K "_law_tuple" s__law_tuple)
  (d__law_said:DefAt K "_law_said" s__law_said)
  (d__law_steps:DefAt K "_law_steps" s__law_steps)
  (d_law:DefAt K "law" s_law)
  (x_NoDitch:ExcAt K "NoDitch" C_NoDitch)
  (x_NoPlot:ExcAt K "NoPlot" C_NoPlot)
  (x_ShoreError:ClsAt K "ShoreError" C_ShoreError)
  (x_NotBeside:InitAt K "NotBeside" "NotBeside.__init__" sInit "at" C_NotBeside fI_NotBeside C_ShoreError)
  (q_NoDitch_NotBeside:PySem.W.subIn K (.ref C_NoDitch) (.ref C_NotBeside)=some false) (n_NoDitch_NotBeside:C_NoDitch≠C_NotBeside)
  (q_NoPlot_NotBeside:PySem.W.subIn K (.ref C_NoPlot) (.ref C_NotBeside)=some false) (n_NoPlot_NotBeside:C_NoPlot≠C_NotBeside)
  (q_NoPlot_NoDitch:PySem.W.subIn K (.ref C_NoPlot) (.ref C_NoDitch)=some false) (n_NoPlot_NoDitch:C_NoPlot≠C_NoDitch)
  (q_NotBeside_ShoreError:PySem.W.subIn K (.ref C_NotBeside) (.ref C_ShoreError)=some true) (n_NotBeside_ShoreError:C_NotBeside≠C_ShoreError)
  (q_NotBeside_NoDitch:PySem.W.subIn K (.ref C_NotBeside) (.ref C_NoDitch)=some false) (n_NotBeside_NoDitch:C_NotBeside≠C_NoDitch)
  (q_NotBeside_NoPlot:PySem.W.subIn K (.ref C_NotBeside) (.ref C_NoPlot)=some false) (n_NotBeside_NoPlot:C_NotBeside≠C_NoPlot)
  (sV:PySem.W.subIn K (.ref C_NotBeside) (.type "ValueError")=some true)
  (z_len:PySem.W.nsIn K mainGlobals "len" = some none)
  (z_range:PySem.W.nsIn K mainGlobals "range" = some none)
  (z_list:PySem.W.nsIn K mainGlobals "list" = some none)
  (z_min:PySem.W.nsIn K mainGlobals "min" = some none)
  (z_isinstance:PySem.W.nsIn K mainGlobals "isinstance" = some none)
  (z_all:PySem.W.nsIn K mainGlobals "all" = some none)
  (z_str:PySem.W.nsIn K mainGlobals "str" = some none)
  (z_ValueError:PySem.W.nsIn K mainGlobals "ValueError" = some none)
  (z_sorted:PySem.W.nsIn K mainGlobals "sorted" = some none)
  (z_set:PySem.W.nsIn K mainGlobals "set" = some none)
  (z_enumerate:PySem.W.nsIn K mainGlobals "enumerate" = some none)
  (z_int:PySem.W.nsIn K mainGlobals "int" = some none)
  (z_bool:PySem.W.nsIn K mainGlobals "bool" = some none)
  (z_tuple:PySem.W.nsIn K mainGlobals "tuple" = some none)
  (z_any:PySem.W.nsIn K mainGlobals "any" = some none)
  (z_dict:PySem.W.nsIn K mainGlobals "dict" = some none)
  (z_sum:PySem.W.nsIn K mainGlobals "sum" = some none)
  (z_max:PySem.W.nsIn K mainGlobals "max" = some none)
  : ∃fd:FuncData,(∀(s:Shared) (v:Value),BindsTo s fd ⟨[v],[]⟩ [("_law_script",v)])/\∀base:Heap,K.In base->base.Ns mainGlobals mg->FnOk P w K mg base CX0 8 fa fd ["_law_script"] (Ie K):=by
 have T:Bl mg:=⟨PySem.W.mg_none_of X G z_len,PySem.W.mg_none_of X G z_range,PySem.W.mg_none_of X G z_list,PySem.W.mg_none_of X G z_min,PySem.W.mg_none_of X G z_isinstance,PySem.W.mg_none_of X G z_all,PySem.W.mg_none_of X G z_str,PySem.W.mg_none_of X G z_ValueError,PySem.W.mg_none_of X G z_sorted,PySem.W.mg_none_of X G z_set,PySem.W.mg_none_of X G z_enumerate,PySem.W.mg_none_of X G z_int,PySem.W.mg_none_of X G z_bool,PySem.W.mg_none_of X G z_tuple,PySem.W.mg_none_of X G z_any,PySem.W.mg_none_of X G z_dict,PySem.W.mg_none_of X G z_sum,PySem.W.mg_none_of X G z_max⟩;obtain⟨f,fd,a,hk,F⟩:=d_law.ex;have e:=hfa.symm.trans (PySem.W.mg_of X G a);cases e;refine⟨fd,?_,λbase hB hG=>?_⟩
 ·obtain⟨oc,od,kV,doc,pm,an,cdv,ct,osl,rfl,lk,hcd⟩:=F.ex;exact λs v=>.of_eq rfl
 ·have FB:Fn P w K mg base CX0 1 "_law_begin" ["_law_script"] (Kj K):=Fn.of X G d__law_begin (λ_ _ _ _ _ _ us hl=>by obtain⟨a,rfl⟩:=L2.len1 hl;rfl) λf fd F=>Xol F T;have FP:FnPick P w K mg base:=Fn.of X G d__law_pick (λ_ _ _ _ _ _ us hl=>by obtain⟨a,b,rfl⟩:=L2.len2 hl;rfl) λf fd F=>Xn7 F T;have FU:Fn P w K mg base CX0 1 "_law_put" ["_law_row_here", "_law_name", "_law_at", "_law_to"] Kk:=Fn.of X G d__law_put (λ_ _ _ _ _ _ us hl=>by obtain⟨a,b,c,d,rfl⟩:=L2.len4 hl;rfl) λf fd F=>Xom F;have FW:Fn P w K mg base CX0 1 "_law_where" ["_law_row_here"] Hi:=Fn.of X G d__law_where (λ_ _ _ _ _ _ us hl=>by obtain⟨a,rfl⟩:=L2.len1 hl;rfl) λf fd F=>Xoe F T;have FO:Fn P w K mg base CX0 1 "_law_word" ["_law_where_here", "_law_one_here", "_law_other"] spWord:=Fn.of X G d__law_word (λ_ _ _ _ _ _ us hl=>by obtain⟨a,b,c,rfl⟩:=L2.len3 hl;rfl) λf fd F=>Xof F T;have FA:Fn P w K mg base CX0 2 "_law_barred" ["_law_row_here", "_law_name"] spBarredN:=Fn.of X G d__law_barred (λ_ _ _ _ _ _ us hl=>by obtain⟨a,b,rfl⟩:=L2.len2 hl;rfl) λf fd F=>Xon F T FW FO;have FR:Fn P w K mg base CX0 3 "_law_row" ["_law_draw", "_law_names_here"] spRowN:=Fn.of X G d__law_row (λ_ _ _ _ _ _ us hl=>by obtain⟨a,b,rfl⟩:=L2.len2 hl;rfl) λf fd F=>Xoo F T FP FU FA;have FN:Fn P w K mg base CX0 2 "_law_names" ["_law_draw", "_law_many"] Kp:=Fn.of X G d__law_names (λ_ _ _ _ _ _ us hl=>by obtain⟨a,b,rfl⟩:=L2.len2 hl;rfl) λf fd F=>Xop F T FP;have FI:Fn P w K mg base CX0 4 "_law_island" ["_law_draw", "_law_most"] spIslandN:=Fn.of X G d__law_island (λ_ _ _ _ _ _ us hl=>by obtain⟨a,b,rfl⟩:=L2.len2 hl;rfl) λf fd F=>Xoq F T FP FN FR;have FK:Fn P w K mg base (CX1 P w) 1 "ask_ditch" ["row", "name"] (spAsk C_NoDitch):=Fn.of X G d_ask_ditch (λ_ _ _ _ _ _ us hl=>by obtain⟨a,b,rfl⟩:=L2.len2 hl;rfl) λf fd F=>Xnm F (PySem.W.mg_of X G x_NoDitch.a) x_NoDitch.e;have FD:Fn P w K mg base CX0 1 "ditches" ["row"] spDitches:=Fn.of X G d_ditches (λ_ _ _ _ _ _ us hl=>by obtain⟨a,rfl⟩:=L2.len1 hl;rfl) λf fd F=>Xnp F T;have FE:Fn P w K mg base (CX1 P w) 2 "ends" ["row", "name"] (Kr C_NoDitch):=Fn.of X G d_ends (λ_ _ _ _ _ _ us hl=>by obtain⟨a,b,rfl⟩:=L2.len2 hl;rfl) λf fd F=>Xnq F T FK;have FSp:Fn P w K mg base CX0 3 "spans" ["row"] spSpans:=Fn.of X G d_spans (λ_ _ _ _ _ _ us hl=>by obtain⟨a,rfl⟩:=L2.len1 hl;rfl) λf fd F=>Xns F FD FE;have FLo:Fn P w K mg base CX0 2 "lie_of" ["here", "there"] Ks:=Fn.of X G d_lie_of (λ_ _ _ _ _ _ us hl=>by obtain⟨a,b,rfl⟩:=L2.len2 hl;rfl) λf fd F=>Xnt F;have FTo:Fn P w K mg base CX0 1 "told" ["names"] (spTold K):=Fn.of X G d_told (λ_ _ _ _ _ _ us hl=>by obtain⟨a,rfl⟩:=L2.len1 hl;rfl) λf fd F=>Xnv F T;have FAl:Fn P w K mg base CX0 1 "allows" ["how", "off"] spAllows:=Fn.of X G d_allows (λ_ _ _ _ _ _ us hl=>by obtain⟨a,b,rfl⟩:=L2.len2 hl;rfl) λf fd F=>Xnx F;have FIp:Fn P w K mg base CX0 4 "is_plot" ["row", "plot"] spIsPlot:=Fn.of X G d_is_plot (λ_ _ _ _ _ _ us hl=>by obtain⟨a,b,rfl⟩:=L2.len2 hl;rfl) λf fd F=>Xny F T FSp FLo FTo FAl;have FS:Fn P w K mg base CX0 1 "_law_stranger" ["_law_row_here"] spStranger:=Fn.of X G d__law_stranger (λ_ _ _ _ _ _ us hl=>by obtain⟨a,rfl⟩:=L2.len1 hl;rfl) λf fd F=>Xou F;have FT:Fn P w K mg base CX0 1 "_law_tuple" ["_law_found"] spTuple:=Fn.of X G d__law_tuple (λ_ _ _ _ _ _ us hl=>by obtain⟨a,rfl⟩:=L2.len1 hl;rfl) λf fd F=>Xoz F T;have FFl:Fn P w K mg base CX0 1 "_law_flip" ["_law_plot", "_law_name"] spFlip:=Fn.of X G d__law_flip (λ_ _ _ _ _ _ us hl=>by obtain⟨a,b,rfl⟩:=L2.len2 hl;rfl) λf fd F=>Xob F T;have FOd:Fn P w K mg base CX0 2 "_law_odd_plot" ["_law_draw", "_law_row_here", "_law_plot"] spOdd:=Fn.of X G d__law_odd_plot (λ_ _ _ _ _ _ us hl=>by obtain⟨a,b,c,rfl⟩:=L2.len3 hl;rfl) λf fd F=>Xov F T FP FS FFl;have FFi:Fn P w K mg base CX0 1 "_law_fits" ["_law_bars_here", "_law_plot"] spFits:=Fn.of X G d__law_fits (λ_ _ _ _ _ _ us hl=>by obtain⟨a,b,rfl⟩:=L2.len2 hl;rfl) λf fd F=>Xoc F;have FBr:Fn P w K mg base CX0 2 "_law_bars" ["_law_row_here"] spBars:=Fn.of X G d__law_bars (λ_ _ _ _ _ _ us hl=>by obtain⟨a,rfl⟩:=L2.len1 hl;rfl) λf fd F=>Xog F T FW FO;have FGo:Fn P w K mg base CX0 3 "_law_good_plot" ["_law_row_here", "_law_plot"] Ky:=Fn.of X G d__law_good_plot (λ_ _ _ _ _ _ us hl=>by obtain⟨a,b,rfl⟩:=L2.len2 hl;rfl) λf fd F=>Xox F T FFi FBr;have FK2:Fn P w K mg base (CX2 P w) 1 "ask_ditch" ["row", "name"] (spAsk C_NoDitch):=Fn.of X G d_ask_ditch (λ_ _ _ _ _ _ us hl=>by obtain⟨a,b,rfl⟩:=L2.len2 hl;rfl) λf fd F=>Xnn F (PySem.W.mg_of X G x_NoDitch.a) x_NoDitch.e;have FAp:Fn P w K mg base (CX2 P w) 5 "ask_plot" ["row", "plot"] (spAskPlot C_NoPlot):=Fn.of X G d_ask_plot (λ_ _ _ _ _ _ us hl=>by obtain⟨a,b,rfl⟩:=L2.len2 hl;rfl) λf fd F=>Xn0 F (PySem.W.mg_of X G x_NoPlot.a) x_NoPlot.e FIp;have FPt:Fn P w K mg base CX0 1 "parting" ["one", "other"] spParting:=Fn.of X G d_parting (λ_ _ _ _ _ _ us hl=>by obtain⟨a,b,rfl⟩:=L2.len2 hl;rfl) λf fd F=>Xn2 F T;have FAx:Fn P w K mg base CX0 2 "across" ["plot", "name"] spAcross:=Fn.of X G d_across (λ_ _ _ _ _ _ us hl=>by obtain⟨a,b,rfl⟩:=L2.len2 hl;rfl) λf fd F=>Xn4 F T FPt;obtain⟨fdI,FIi⟩:=x_NotBeside.m;have FIk:FnOk P w K mg base CX0 1 fI_NotBeside fdI ["self", "at"] (spInit K "at"):=Xnl FIi;have FIb:Binds K fdI ["self", "at"] []:=FIi.binds (λ_ _ _ _ _ _ us hl=>by obtain⟨a,b,rfl⟩:=L2.len2 hl;rfl);have FSp2:Fn P w K mg base (CX2 P w) 5 "stepped" ["row", "plot", "name", "at"] (K8 C_NotBeside):=Fn.of X G d_stepped (λ_ _ _ _ _ _ us hl=>by obtain⟨a,b,c,d,rfl⟩:=L2.len4 hl;rfl) λf fd F=>Xn5 F (PySem.W.mg_of X G x_NotBeside.a) x_NotBeside.e x_NotBeside.k FIk FIb FAx FIp;have FLe:Fn P w K mg base (CX2 P w) 6 "led" ["row", "plot", "steps"] (K9 (⟨C_NoPlot,C_NoDitch,C_NotBeside⟩:LedC)):=Fn.of X G d_led (λ_ _ _ _ _ _ us hl=>by obtain⟨a,b,c,rfl⟩:=L2.len3 hl;rfl) λf fd F=>Xn6 (C:=(⟨C_NoPlot,C_NoDitch,C_NotBeside⟩:LedC)) F T FAp FK2 FSp2;have hK6:LedK K (⟨C_NoPlot,C_NoDitch,C_NotBeside⟩:LedC) C_ShoreError:=⟨x_NotBeside.ef,x_NotBeside.k,Hg x_NotBeside.sb x_NotBeside.sb x_NotBeside.ic x_NotBeside.ty x_NotBeside.ss,Hg x_NoDitch.sb x_NotBeside.sb x_NotBeside.ic x_NotBeside.ty q_NoDitch_NotBeside,Hg x_NoPlot.sb x_NotBeside.sb x_NotBeside.ic x_NotBeside.ty q_NoPlot_NotBeside,x_NoDitch.self,Hg x_NoPlot.sb x_NoDitch.sb x_NoDitch.ic x_NoDitch.ty q_NoPlot_NoDitch,x_NoPlot.self,J7 n_NotBeside_ShoreError x_ShoreError.ic x_ShoreError.ty q_NotBeside_ShoreError,Xo2 sV,Xo3 (J7 n_NotBeside_NoDitch x_NoDitch.ic x_NoDitch.ty q_NotBeside_NoDitch) (J7 n_NotBeside_NoPlot x_NoPlot.ic x_NoPlot.ty q_NotBeside_NoPlot)⟩;have FOn:Fn P w K mg base CX0 2 "_law_one" ["_law_draw", "_law_some"] spOne:=Fn.of X G d__law_one (λ_ _ _ _ _ _ us hl=>by obtain⟨a,b,rfl⟩:=L2.len2 hl;rfl) λf fd F=>Xn9 F T FP;have FPl:Fn P w K mg base CX0 3 "_law_plots" ["_law_row_here"] spPlots:=Fn.of X G d__law_plots (λ_ _ _ _ _ _ us hl=>by obtain⟨a,rfl⟩:=L2.len1 hl;rfl) λf fd F=>Xor F T FFi FBr;have FWy:Fn P w K mg base CX0 2 "_law_ways" ["_law_bars_here", "_law_names_here", "_law_plot"] spWays:=Fn.of X G d__law_ways (λ_ _ _ _ _ _ us hl=>by obtain⟨a,b,c,rfl⟩:=L2.len3 hl;rfl) λf fd F=>Xod F FFl FFi;have FOv:Fn P w K mg base CX0 3 "_law_over" ["_law_row_here", "_law_plot"] spOver:=Fn.of X G d__law_over (λ_ _ _ _ _ _ us hl=>by obtain⟨a,b,rfl⟩:=L2.len2 hl;rfl) λf fd F=>Xoi F T FBr FWy;have FWk:Fn P w K mg base CX0 4 "_law_walked" ["_law_draw", "_law_row_here", "_law_plot", "_law_many"] Lb:=Fn.of X G d__law_walked (λ_ _ _ _ _ _ us hl=>by obtain⟨a,b,c,d,rfl⟩:=L2.len4 hl;rfl) λf fd F=>Xoj F T FP FOv;have FLd:Fn P w K mg base CX0 3 "_law_led" ["_law_row_here", "_law_plot", "_law_steps_here"] spLLed:=Fn.of X G d__law_led (λ_ _ _ _ _ _ us hl=>by obtain⟨a,b,c,rfl⟩:=L2.len3 hl;rfl) λf fd F=>Xos F T FBr FFl FFi;have FSs:Fn P w K mg base CX0 5 "_law_steps" ["_law_draw", "_law_row_here", "_law_plot"] Lc:=Fn.of X G d__law_steps (λ_ _ _ _ _ _ us hl=>by obtain⟨a,b,c,rfl⟩:=L2.len3 hl;rfl) λf fd F=>Xo1 F T FP FOn FWk;have FSd:Fn P w K mg base CX0 7 "_law_said" ["_law_row_here", "_law_plot", "_law_steps_here"] spSaid16:=Fn.of X G d__law_said (λ_ _ _ _ _ _ us hl=>by obtain⟨a,b,c,rfl⟩:=L2.len3 hl;rfl) λf fd F=>by
   obtain⟨fa,fda,hma,hka,hba,hFa⟩:=FLe.ex;exact Xo0 (C:=(⟨C_NoPlot,C_NoDitch,C_NotBeside⟩:LedC)) F T (PySem.W.mg_of X G x_ShoreError.a) (PySem.W.mg_of X G x_NotBeside.a) (PySem.W.mg_of X G x_NoDitch.a) (PySem.W.mg_of X G x_NoPlot.a) hma hka hba hFa hK6
  exact Xo9 F T FB FP FI FPl FOn FSs FLd FS FOd FGo FSd FT
theorem walk{l:PySem.W.OpenLaw}{q:Program}{loose:List Str}{XP:(Str->Option Value)->Heap->Prop}{YP:World->Heap->Prop}{d:DefRec}{K:Params->PySem.W.Frag}(hn:l.most=some 63)(hdf:d.params.defaults=[])
  (hY:∀(w:World) (h:Heap),YP w h->(K w.params).In h)
  (F:∀(w:World) (mg:Str->Option Value) (fa:Addr) (h:Heap),(K w.params).In h->h.Ns mainGlobals mg->mg d.name=some (.ref fa) ->
   ∃fd:FuncData,(∀(s:Shared) (u:Value),BindsTo s fd ⟨[u],[]⟩ [("_law_script",u)])/\∀base:Heap,(K w.params).In base->base.Ns mainGlobals mg->FnOk l.prog w (K w.params) mg base CX0 8 fa fd ["_law_script"] (Ie (K w.params))):
  PySem.W.WalkO q loose XP YP l.row.toRowW d [] (λf vs=>PySem.call f vs):=
 L2.Xhq (n:=63) (k:=8) (x := "_law_script") (CX:=λ_=>CX0) (sp:=λw=>Ie (K w.params)) hn (by decide) hdf ⟨rfl,by decide,by decide,rfl⟩ hY F (λ_ _ a ns hl _ hS=>⟨a,ns,rfl,hS,hl,λ_=>rfl⟩) λ_ _ _ _ _ z=>z
end K16
open PySem PySem.W PyProof.Rows
namespace HD
open PySem PySem.W PySem.Calls PyProof.Rows
abbrev O := Option SharedT
noncomputable abbrev B (a b:O) (c:Bool):O := @Bool.rec (fun _=>O) a b c
noncomputable def go (F:SharedT→Thread→Option (SharedT×Thread)) (ok:Thread→Bool) (n:Nat):SharedT→Thread→O := @Nat.rec (fun _=>SharedT→Thread→O) (fun _ _=>none) (fun _ ih s t=>B (B none (@Option.rec (SharedT×Thread) (fun _=>O) none (fun x=>@Prod.rec SharedT Thread (fun _=>O) ih x) (F s t)) (ok t)) (some s) (through t)) n
theorem go_spec {tb p w m a z}:∀ n s t,go (stepT (denote tb) p w) (stepOk m a) n s t=some z→topRun tb p w m a n s.abs t=some z.abs := by
 intro n
 induction n with
 | zero=>intro s t h;cases h
 | succ n ih=>
  intro s t h
  unfold topRun
  have h':B (B none (@Option.rec (SharedT×Thread) (fun _=>O) none (fun x=>@Prod.rec SharedT Thread (fun _=>O) (go (stepT (denote tb) p w) (stepOk m a) n) x) (stepT (denote tb) p w s t)) (stepOk m a t)) (some s) (through t)=some z := h
  cases ht:through t with
  | true=>rw [ht] at h';cases h';rfl
  | false=>
   cases hk:stepOk m a t with
   | false=>rw [ht,hk] at h';cases h'
   | true=>
    cases hs:stepT (denote tb) p w s t with
    | none=>rw [ht,hk,hs] at h';cases h'
    | some x=>
     rw [ht,hk,hs] at h'
     rw [stepT_spec hs]
     exact ih _ _ h'
noncomputable def tree (P:Params):BT := ((boot_heap P).objs.toList.foldl (fun (x:BT×Nat) o=>(x.1.ins x.2 o,x.2+1)) (.nil,0)).1
theorem tree_abs (P):absHeap (tree P) 11 {}=boot_heap P := by kernel_rfl
theorem boot_is (P):((boot_heap P).isNs mainGlobals,(boot_heap P).objs.size,(boot_heap P).nsMap mainGlobals "__annotations__")=(true,11,some (.ref 6)) := by kernel_rfl
abbrev ck (p:Program) (g h:Heap) (z:Shared) := staticsOk (importedModules p.main.body) g h&&namesBound p h&&gensDone z&&laidKept g h
theorem left {p q loose Xt α} {Yf:Shared→α} {Ya N g} (e:opening p=plainProg p.main.scope.names) (hN:Nat.ble 600 N=true) (f:∀ s,fenceModules? p s=some s)
 (h:∀ w:World,(fun os=>(go (Fast.tw10156331382660048174 (Fast.tw11892475500146522536 Fast.tw14364793385576792824) p w) (Fast.tw6613529449190102663 11 (some (.ref 6))) N ⟨tree w.params,11,{},#[],boot_drawn,boot_toks,os⟩ (topStub p)).map fun z=>(ck p (boot_heap w.params) z.abs.heap z.abs,Fast.tw4187177175401517315 q loose (importedModules p.main.body) Xt g z.abs,Yf z.abs))=fun _=>some (true,openGood q loose,Ya w)):LeftO p q loose Xt Yf Ya N g := fun w=>by
 rw [←Fast.te10156331382660048174,←Fast.te11892475500146522536,←Fast.te14364793385576792824,←Fast.te6613529449190102663,←Fast.te4187177175401517315] at h
 obtain ⟨⟨hp,gs,d,k,os⟩,e1,e2⟩ := Option.map_eq_some_iff.mp (boot_open e hN f w)
 obtain ⟨rfl,rfl,rfl,rfl⟩:hp=boot_heap w.params∧gs=#[]∧d=boot_drawn∧k=boot_toks := by simpa using e2
 obtain ⟨z1,z2,z3⟩:_∧_∧_ := by simpa only [Prod.mk.injEq] using boot_is w.params
 obtain ⟨z,hz,l⟩ := Option.map_eq_some_iff.mp (congrFun (h w) os)
 obtain ⟨l1,l2,l3⟩:_∧_∧_ := by simpa only [Prod.mk.injEq] using l
 have r := go_spec _ _ _ hz
 rw [show (SharedT.mk (tree w.params) 11 {} #[] boot_drawn boot_toks os).abs=⟨boot_heap w.params,#[],boot_drawn,boot_toks,os⟩ by show Shared.mk (absHeap (tree w.params) 11 {}) _ _ _ _=_;rw [tree_abs]] at r
 unfold openEnds
 rw [e1]
 show (topFrom treeTable p w N _).map _=_
 rw [show topFrom treeTable p w N ⟨boot_heap w.params,#[],boot_drawn,boot_toks,os⟩=some z.abs by
  unfold topFrom
  dsimp only
  rw [z1,z2,z3,r]
  show (match ck p (boot_heap w.params) z.abs.heap z.abs with | true=>_ | false=>_)=_
  rw [l1]]
 exact congrArg some (Prod.ext l2 l3)
def isDef:Stmt→Bool
 | .Assign _ (.Constant (.str _) _ _) _=>false
 | _=>true
def q:Program := {PySem.Challenge.pw_shoretold_k16_where_walks_lead with main:={PySem.Challenge.pw_shoretold_k16_where_walks_lead.main with body:=PySem.Challenge.pw_shoretold_k16_where_walks_lead.main.body.filter isDef}}
theorem said:PySem.Challenge.rw_shoretold_k16_where_walks_lead.wellSaid=true := by
 rw [Fast.te9446332074065402090]
 kernel_rfl
end HD
local macro_rules | `(tactic| o_head $H) => `(tactic| refine PySem.W.holds_open (q:=HD.q) (loose:=[]) (Xt:=fun s=>xlAt HD.q [] s&&recOk [] s) (XP:=XL HD.q []) (N:=1000000) ?hl (Hook.of $H) (Hook.keeps $H) (fun s e=>xl_of s (Bool.and_eq_true_iff.mp e).1) XL.keeps (by rfl) (by rfl) (by rfl) (fun s e=>recFacts_of (Bool.and_eq_true_iff.mp e).2) (by rfl) (by assumption) (by decide +kernel) ⟨rfl,rfl,rfl,rfl,rfl,by decide +kernel⟩ ?hw ?hc)
set_option maxRecDepth 100000 in
set_option maxHeartbeats 0 in
theorem PySem.Challenge.cw_shoretold_k16_where_walks_lead_holds : PySem.Challenge.rw_shoretold_k16_where_walks_lead.Holds := by
 w_on
 refine holds_law HD.said fun said=>?_
 k_head
 case hw=>w_witness2
 case hl=>exact HD.left (by kernel_rfl) (by kernel_rfl) (fun s=>by kernel_rfl) (fun w=>by kernel_rfl)
 k_fill
 refine K16.walk (l:=PySem.Challenge.rw_shoretold_k16_where_walks_lead) rfl rfl (λw h Y=>PySem.W.kIn_of Y) ?F
 case F=>
  intro w mg fa h KX G hmg;refine' K16.Xpa KX G hmg ?d_ask_ditch ?d_ditches ?d_ends ?d_spans ?d_lie_of ?d_told ?d_allows ?d_is_plot ?d_ask_plot ?d_parting ?d_across ?d_stepped ?d_led ?d__law_pick ?d__law_one ?d__law_flip ?d__law_fits ?d__law_ways ?d__law_where ?d__law_word ?d__law_bars ?d__law_over ?d__law_walked ?d__law_begin ?d__law_put ?d__law_barred ?d__law_row ?d__law_names ?d__law_island ?d__law_plots ?d__law_led ?d__law_stranger ?d__law_odd_plot ?d__law_good_plot ?d__law_tuple ?d__law_said ?d__law_steps ?d_law ?x_NoDitch ?x_NoPlot ?x_ShoreError ?x_NotBeside ?q_NoDitch_NotBeside ?n_NoDitch_NotBeside ?q_NoPlot_NotBeside ?n_NoPlot_NotBeside ?q_NoPlot_NoDitch ?n_NoPlot_NoDitch ?q_NotBeside_ShoreError ?n_NotBeside_ShoreError ?q_NotBeside_NoDitch ?n_NotBeside_NoDitch ?q_NotBeside_NoPlot ?n_NotBeside_NoPlot ?sV ?z_len ?z_range ?z_list ?z_min ?z_isinstance ?z_all ?z_str ?z_ValueError ?z_sorted ?z_set ?z_enumerate ?z_int ?z_bool ?z_tuple ?z_any ?z_dict ?z_sum ?z_max
  (case d_ask_ditch=>(refine' L2.DefAt.of ?a ?l ?c ?k;(case a=>k_is);(case l=>k_is);(case c=>k_is);(case k=>k_is)))
  (case d_ditches=>(refine' L2.DefAt.of ?a ?l ?c ?k;(case a=>k_is);(case l=>k_is);(case c=>k_is);(case k=>k_is)))
  (case d_ends=>(refine' L2.DefAt.of ?a ?l ?c ?k;(case a=>k_is);(case l=>k_is);(case c=>k_is);(case k=>k_is)))
  (case d_spans=>(refine' L2.DefAt.of ?a ?l ?c ?k;(case a=>k_is);(case l=>k_is);(case c=>k_is);(case k=>k_is)))
  (case d_lie_of=>(refine' L2.DefAt.of ?a ?l ?c ?k;(case a=>k_is);(case l=>k_is);(case c=>k_is);(case k=>k_is)))
  (case d_told=>(refine' L2.DefAt.of ?a ?l ?c ?k;(case a=>k_is);(case l=>k_is);(case c=>k_is);(case k=>k_is)))
  (case d_allows=>(refine' L2.DefAt.of ?a ?l ?c ?k;(case a=>k_is);(case l=>k_is);(case c=>k_is);(case k=>k_is)))
  (case d_is_plot=>(refine' L2.DefAt.of ?a ?l ?c ?k;(case a=>k_is);(case l=>k_is);(case c=>k_is);(case k=>k_is)))
  (case d_ask_plot=>(refine' L2.DefAt.of ?a ?l ?c ?k;(case a=>k_is);(case l=>k_is);(case c=>k_is);(case k=>k_is)))
  (case d_parting=>(refine' L2.DefAt.of ?a ?l ?c ?k;(case a=>k_is);(case l=>k_is);(case c=>k_is);(case k=>k_is)))
  (case d_across=>(refine' L2.DefAt.of ?a ?l ?c ?k;(case a=>k_is);(case l=>k_is);(case c=>k_is);(case k=>k_is)))
  (case d_stepped=>(refine' L2.DefAt.of ?a ?l ?c ?k;(case a=>k_is);(case l=>k_is);(case c=>k_is);(case k=>k_is)))
  (case d_led=>(refine' L2.DefAt.of ?a ?l ?c ?k;(case a=>k_is);(case l=>k_is);(case c=>k_is);(case k=>k_is)))
  (case d__law_pick=>(refine' L2.DefAt.of ?a ?l ?c ?k;(case a=>k_is);(case l=>k_is);(case c=>k_is);(case k=>k_is)))
  (case d__law_one=>(refine' L2.DefAt.of ?a ?l ?c ?k;(case a=>k_is);(case l=>k_is);(case c=>k_is);(case k=>k_is)))
  (case d__law_flip=>(refine' L2.DefAt.of ?a ?l ?c ?k;(case a=>k_is);(case l=>k_is);(case c=>k_is);(case k=>k_is)))
  (case d__law_fits=>(refine' L2.DefAt.of ?a ?l ?c ?k;(case a=>k_is);(case l=>k_is);(case c=>k_is);(case k=>k_is)))
  (case d__law_ways=>(refine' L2.DefAt.of ?a ?l ?c ?k;(case a=>k_is);(case l=>k_is);(case c=>k_is);(case k=>k_is)))
  (case d__law_where=>(refine' L2.DefAt.of ?a ?l ?c ?k;(case a=>k_is);(case l=>k_is);(case c=>k_is);(case k=>k_is)))
  (case d__law_word=>(refine' L2.DefAt.of ?a ?l ?c ?k;(case a=>k_is);(case l=>k_is);(case c=>k_is);(case k=>k_is)))
  (case d__law_bars=>(refine' L2.DefAt.of ?a ?l ?c ?k;(case a=>k_is);(case l=>k_is);(case c=>k_is);(case k=>k_is)))
  (case d__law_over=>(refine' L2.DefAt.of ?a ?l ?c ?k;(case a=>k_is);(case l=>k_is);(case c=>k_is);(case k=>k_is)))
  (case d__law_walked=>(refine' L2.DefAt.of ?a ?l ?c ?k;(case a=>k_is);(case l=>k_is);(case c=>k_is);(case k=>k_is)))
  (case d__law_begin=>(refine' L2.DefAt.of ?a ?l ?c ?k;(case a=>k_is);(case l=>k_is);(case c=>k_is);(case k=>k_is)))
  (case d__law_put=>(refine' L2.DefAt.of ?a ?l ?c ?k;(case a=>k_is);(case l=>k_is);(case c=>k_is);(case k=>k_is)))
  (case d__law_barred=>(refine' L2.DefAt.of ?a ?l ?c ?k;(case a=>k_is);(case l=>k_is);(case c=>k_is);(case k=>k_is)))
  (case d__law_row=>(refine' L2.DefAt.of ?a ?l ?c ?k;(case a=>k_is);(case l=>k_is);(case c=>k_is);(case k=>k_is)))
  (case d__law_names=>(refine' L2.DefAt.of ?a ?l ?c ?k;(case a=>k_is);(case l=>k_is);(case c=>k_is);(case k=>k_is)))
  (case d__law_island=>(refine' L2.DefAt.of ?a ?l ?c ?k;(case a=>k_is);(case l=>k_is);(case c=>k_is);(case k=>k_is)))
  (case d__law_plots=>(refine' L2.DefAt.of ?a ?l ?c ?k;(case a=>k_is);(case l=>k_is);(case c=>k_is);(case k=>k_is)))
  (case d__law_led=>(refine' L2.DefAt.of ?a ?l ?c ?k;(case a=>k_is);(case l=>k_is);(case c=>k_is);(case k=>k_is)))
  (case d__law_stranger=>(refine' L2.DefAt.of ?a ?l ?c ?k;(case a=>k_is);(case l=>k_is);(case c=>k_is);(case k=>k_is)))
  (case d__law_odd_plot=>(refine' L2.DefAt.of ?a ?l ?c ?k;(case a=>k_is);(case l=>k_is);(case c=>k_is);(case k=>k_is)))
  (case d__law_good_plot=>(refine' L2.DefAt.of ?a ?l ?c ?k;(case a=>k_is);(case l=>k_is);(case c=>k_is);(case k=>k_is)))
  (case d__law_tuple=>(refine' L2.DefAt.of ?a ?l ?c ?k;(case a=>k_is);(case l=>k_is);(case c=>k_is);(case k=>k_is)))
  (case d__law_said=>(refine' L2.DefAt.of ?a ?l ?c ?k;(case a=>k_is);(case l=>k_is);(case c=>k_is);(case k=>k_is)))
  (case d__law_steps=>(refine' L2.DefAt.of ?a ?l ?c ?k;(case a=>k_is);(case l=>k_is);(case c=>k_is);(case k=>k_is)))
  (case d_law=>(refine' L2.DefAt.of ?a ?l ?c ?k;(case a=>k_is);(case l=>k_is);(case c=>k_is);(case k=>k_is)))
  (case x_NoDitch=>(refine' ⟨?a,?e,?ga,?gn,?cl,?sb,?so,?sv,?ss,?ic,?ty⟩;(case a=>k_is);(case e=>k_exc);(case ga=>k_is);(case gn=>k_is);(case cl=>k_is);(case sb=>k_is);(case so=>k_is);(case sv=>k_is);(case ss=>k_is);(case ic=>k_is);(case ty=>k_is)))
  (case x_NoPlot=>(refine' ⟨?a,?e,?ga,?gn,?cl,?sb,?so,?sv,?ss,?ic,?ty⟩;(case a=>k_is);(case e=>k_exc);(case ga=>k_is);(case gn=>k_is);(case cl=>k_is);(case sb=>k_is);(case so=>k_is);(case sv=>k_is);(case ss=>k_is);(case ic=>k_is);(case ty=>k_is)))
  (case x_ShoreError=>(refine' ⟨?a,?ic,?ty⟩;(case a=>k_is);(case ic=>k_is);(case ty=>k_is)))
  (case x_NotBeside=>(refine' L2.InitAt.of ?a ?i ?l ?c ?k ?e ?ga ?gn ?cl ?sb ?so ?ss ?ic ?ty ?sa ?no ?mr;(case a=>k_is);(case i=>k_is);(case l=>k_is);(case c=>k_is);(case k=>k_is);(case e=>kernel_rfl);(case ga=>k_is);(case gn=>k_is);(case cl=>k_is);(case sb=>k_is);(case so=>k_is);(case ss=>k_is);(case ic=>k_is);(case ty=>k_is);(case sa=>k_is);(case no=>k_is);(case mr=>kernel_rfl)))
  (case q_NoDitch_NotBeside=>k_is);(case n_NoDitch_NotBeside=>decide)
  (case q_NoPlot_NotBeside=>k_is);(case n_NoPlot_NotBeside=>decide)
  (case q_NoPlot_NoDitch=>k_is);(case n_NoPlot_NoDitch=>decide)
  (case q_NotBeside_ShoreError=>k_is);(case n_NotBeside_ShoreError=>decide)
  (case q_NotBeside_NoDitch=>k_is);(case n_NotBeside_NoDitch=>decide)
  (case q_NotBeside_NoPlot=>k_is);(case n_NotBeside_NoPlot=>decide)
  (case sV=>k_is)
  (case z_len=>k_is);(case z_range=>k_is);(case z_list=>k_is);(case z_min=>k_is);(case z_isinstance=>k_is);(case z_all=>k_is);(case z_str=>k_is);(case z_ValueError=>k_is);(case z_sorted=>k_is);(case z_set=>k_is);(case z_enumerate=>k_is);(case z_int=>k_is);(case z_bool=>k_is);(case z_tuple=>k_is);(case z_any=>k_is);(case z_dict=>k_is);(case z_sum=>k_is);(case z_max=>k_is)
#print axioms PySem.Challenge.cw_shoretold_k16_where_walks_lead_holds
