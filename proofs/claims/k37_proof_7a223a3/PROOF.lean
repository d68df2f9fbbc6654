import PyProof.Rows.All
import Wide.All
import OpenK.AllK
import Wide.FinOn
import Lean
import PyProof.EqAt
import PyProof.EqKinds
import PyProof.TupleCall
import KE.KDictSum
import PyProof.Rows.SortStr
import PyProof.EnumStmt
import PyProof.EnumMake
import PyProof.StrBlockH
import PyProof.ReprStr
import PyProof.StrLawsRepr
import PyProof.FString
import PyProof.DictCompW
import PyProof.P3Eq
import PyProof.P3In
import PyProof.NeData
import PyProof.ReprHeadsTuple
import KE.KSortTup
import PyProof.ZipIter
import KE.KDictLaws
import KE.KItemsList
import PyProof.SetRoads
import PySem.Challenge.RW_shoretold_k37_islands_of_one_shape
set_option bootstrap.genMatcherCode false
noncomputable section
set_option Elab.async false
set_option linter.all false
set_option maxRecDepth 100000
abbrev G3 := @List.length_map
abbrev G4 := @List.getElem?_eq_getElem
abbrev G5 := @Nat.le_refl
abbrev G6 := @List.getElem?_eq_some_iff
abbrev G7 := @Nat.ne_of_lt
abbrev G8 := @Array.length_toList
abbrev G9 := @List.size_toArray
abbrev Ha := @Option.some.inj
abbrev Hb := @List.mem_cons_of_mem
abbrev Hd := @List.getElem?_map
abbrev He := @List.mem_cons
abbrev Hf := @Nat.lt_of_lt_of_le
abbrev Hg := @List.mem_cons_self
abbrev Hh := @Bool.false_ne_true
abbrev Hi := @List.length_append
abbrev Hj := @List.map_append
abbrev Hk := @Int.eq_ofNat_of_zero_le
abbrev Hl := @List.getElem_mem
abbrev Hm := @List.lookup_cons
abbrev Hn := @List.mem_append
abbrev Ho := @List.mem_append_right
abbrev Hq := @List.mem_map
abbrev Hr := @List.getElem?_zip_eq_some
abbrev Hs := @List.mem_singleton
abbrev Ht := @Nat.lt_irrefl
abbrev Hu := @List.length_take
abbrev Hv := @List.map_cons
abbrev Hw := @List.take_succ_eq_append_getElem
abbrev Hx := @Nat.le_trans
abbrev Hy := @List.length_eq_zero_iff
abbrev Hz := @Bool.false_eq_true
abbrev Ia := @List.take_append_drop
abbrev Ib := @List.mem_of_getElem?
abbrev Ic := @List.mem_iff_getElem
abbrev Ie := @Bool.and_eq_true
abbrev Ig := @List.length_reverse
abbrev Ih := @List.mem_map_of_mem
abbrev Ii := @List.nodup_cons
abbrev Ij := @List.length_singleton
abbrev Ik := @Option.isSome_iff_exists
abbrev Il := @List.filter_append
abbrev Im := @List.not_mem_nil
abbrev Io := @List.mem_range
abbrev Ip := @Int.toNat_natCast
abbrev Iq := @Nat.lt_succ_of_lt
abbrev Ir := @List.length_range
abbrev Iu := @Nat.zero_le
abbrev Iv := @List.perm_middle
abbrev Iw := @List.pairwise_cons
abbrev Ix := @List.mem_append_left
abbrev Iy := @Bool.eq_iff_iff
abbrev Iz := @List.find?_cons
abbrev I0 := @List.pairwise_map
abbrev Ja := @List.eraseIdx_eq_take_drop_succ
abbrev Jb := @List.getElem_map
abbrev Jc := @Option.map_eq_some_iff
abbrev Jd := @List.append_nil
abbrev Je := @Option.map_some
abbrev Jf := @List.getElem?_eq_none
abbrev Jg := @List.map_map
abbrev Jh := @List.reverse_perm
abbrev Ji := @List.Perm.refl
abbrev Jj := @List.getElem_inj
abbrev Jk := @List.length_drop
abbrev Jl := @List.any_eq_true
abbrev Jm := @List.all_eq_true
abbrev Jn := @List.take_length
abbrev Jo := @Nat.le_succ
abbrev Jp := @Nat.le_of_lt
abbrev Jq := @Nat.min_eq_left
abbrev Jr := @List.range_succ
abbrev Js := @Nat.not_lt_zero
abbrev Jt := @Int.emod_lt_of_pos
abbrev Ju := @List.take_of_length_le
abbrev Jv := @Array.getElem?_toList
abbrev Jw := @List.length_filter_le
abbrev Jx := @List.mem_iff_getElem?
abbrev Jy := @Int.zero_add
abbrev Jz := @List.ext_getElem
abbrev J0 := @List.filterMap_cons
abbrev J1 := @List.of_mem_zip
abbrev J2 := @List.filter_eq_self
abbrev J3 := @List.map_congr_left
abbrev J4 := @List.countP_map
abbrev J5 := @Int.emod_nonneg
abbrev J6 := @Option.isSome_some
abbrev J7 := @Nat.succ.inj
abbrev J8 := @List.append_assoc
abbrev J9 := @PySem.wpAny_bind
abbrev Ka := @PySem.wpAny_pure
abbrev Kb := @PySem.sizeLine_eq
abbrev Kc := @if_neg
abbrev Kd := @if_pos
abbrev Ke := @decide_eq_true
abbrev Kf := @decide_eq_false
abbrev Kg := @of_decide_eq_true
abbrev Kh := @of_decide_eq_false
abbrev Ki := @PySem.Heap.lt_size
abbrev Kj := @PySem.Heap.get?_push_of_some
abbrev Kk := @PySem.Heap.SameBut.update
namespace L2
open PySem PySem.Spec PyProof.Rows
abbrev Key:=Sum Int Str
def Cn:Key->Value->Bool
 | .inl k,v=>Value.isInt k v
 | .inr x,v=>Value.isStrOf x v
def keyH (w:World):Key->Int
 | .inl k=>hashInt k
 | .inr x=>hashStr w x
theorem B5:∀{k:Key} {v:Value},Cn k v=true->(∃i t,k=Sum.inl i/\v=Value.int i t)\/(∃x t,k=Sum.inr x/\v=Value.str x t)
 | .inl i,v,h=>by
  obtain⟨t,e⟩:=Value.isInt_shape (k:=i) (v:=v) h;exact .inl ⟨i,t,rfl,e⟩
 | .inr x,v,h=>by
  obtain⟨t,e⟩:=Value.isStrOf_shape (x:=x) (v:=v) h;exact .inr ⟨x,t,rfl,e⟩
theorem Xek(i:Int)(t:Tok):Cn (.inl i) (.int i t)=true:=by simp[Cn,Value.isInt]
theorem Xel(x:Str)(t:Tok):Cn (.inr x) (.str x t)=true:=by simp[Cn,Value.isStrOf]
theorem Xem(a b:Int):decide ((Sum.inl a:Key)=Sum.inl b)=(a==b):=by
 by_cases e:a=b
 ·subst e;simp
 ·have h:¬(Sum.inl a:Key)=Sum.inl b:=λq=>e (Sum.inl.inj q);rw[Kf h];exact(beq_eq_false_iff_ne.mpr e).symm
theorem Xen(a b:Str):decide ((Sum.inr a:Key)=Sum.inr b)=decide (a=b):=by
 by_cases e:a=b
 ·subst e;simp
 ·have h:¬(Sum.inr a:Key)=Sum.inr b:=λq=>e (Sum.inr.inj q);rw[Kf h,Kf e]
theorem Xeo(a:Int)(b:Str):decide ((Sum.inl a:Key)=Sum.inr b)=false:=Kf (λq=>nomatch q)
theorem Xep(a:Str)(b:Int):decide ((Sum.inr a:Key)=Sum.inl b)=false:=Kf (λq=>nomatch q)
def A5 (prog:Program) (w:World):PySem.KeyKind prog w Key where
 is:=Cn
 hash:=keyH w
 inj:=λv a b ha hb=>by
  rcases B5 ha with ⟨i,t,rfl,rfl⟩ | ⟨x,t,rfl,rfl⟩
  ·rcases B5 hb with ⟨j,u,rfl,e⟩ | ⟨y,u,rfl,e⟩
   ·injection e with e1 _;rw[e1]
   ·exact nomatch e
  ·rcases B5 hb with ⟨j,u,rfl,e⟩ | ⟨y,u,rfl,e⟩
   ·exact nomatch e
   ·injection e with e1 _;rw[e1]
 byValue:=λk v h=>by
  rcases B5 h with ⟨i,t,rfl,rfl⟩ | ⟨x,t,rfl,rfl⟩<;>rfl
 pyHash:=λhv h=>by
  rcases B5 hv with ⟨i,t,rfl,rfl⟩ | ⟨x,t,rfl,rfl⟩
  ·exact wpAny_pyHash_int h
  ·exact wpAny_pyHash_str h
 eqBool:=λhu hv h=>by
  rcases B5 hu with ⟨i,t,rfl,rfl⟩ | ⟨x,t,rfl,rfl⟩
  ·rcases B5 hv with ⟨j,u,rfl,rfl⟩ | ⟨y,u,rfl,rfl⟩
   ·rw[Xem] at h;exact wpAny_eqBool_int h
   ·rw[Xeo] at h;exact SeqAt.EqAt.int_str i t y u _ _ _ _ h
  ·rcases B5 hv with ⟨j,u,rfl,rfl⟩ | ⟨y,u,rfl,rfl⟩
   ·rw[Xep] at h;exact SeqAt.EqAt.str_int x t j u _ _ _ _ h
   ·rw[Xen] at h;exact wpAny_eqBool_str h
 «strs»:=λk x t v h=>by
  rcases B5 h with ⟨i,u,rfl,e⟩ | ⟨y,u,rfl,e⟩
  ·exact nomatch e
  ·injection e with e1 _
   subst e1;cases v<;>rfl
theorem Xeq(prog:Program)(w:World)(i:Int)(t:Tok):(A5 prog w).is (.inl i) (.int i t)=true:=Xek i t
theorem Xer(prog:Program)(w:World)(x:Str)(t:Tok):(A5 prog w).is (.inr x) (.str x t)=true:=Xel x t
inductive V where
 | non | bl (b:Bool) | int (i:Int) | str (x:Str) | byt (b:Array UInt8) | flt (b:UInt64) | ref (a:Addr) | ty (n:String)
 deriving DecidableEq
def Ag:V->Value->Prop
 | .non,u=>u=Value.none
 | .bl b,u=>u=Value.bool b
 | .int i,u=>∃t,u=Value.int i t
 | .str x,u=>∃t,u=Value.str x t
 | .byt b,u=>∃t,u=Value.bytes b t
 | .flt b,u=>∃t,u=Value.float b t
 | .ref a,u=>u=Value.ref a
 | .ty n,u=>u=Value.type n
abbrev Vals:List V->List Value->Prop:=Paired Ag
theorem Vals.length{xs:List V}{us:List Value}(r:Vals xs us):xs.length=us.length:=Paired.length r
theorem Vals.get:∀{xs:List V} {us:List Value} {i:Nat} {x:V},Vals xs us->xs[i]? = some x->∃u,us[i]? = some u/\Ag x u
 | _,_,_,_,.nil,e=>by simp at e
 | _,_,0,_,.cons r _,e=>by simp at e;subst e;exact⟨_,rfl,r⟩
 | _,_,i+1,x,.cons _ t,e=>by
  obtain⟨u,h1,h2⟩:=Vals.get (i:=i) (x:=x) t (by simpa using e);exact⟨u,by simpa using h1,h2⟩
theorem Vals.set{x:V}{u:Value}(r:Ag x u):∀{xs:List V} {us:List Value} (i:Nat),Vals xs us->Vals (xs.set i x) (us.set i u)
 | _,_,_,.nil=>.nil
 | _,_,0,.cons _ t=>.cons r t
 | _,_,i+1,.cons q t=>.cons q (Vals.set r i t)
theorem Vals.append:∀{xs ys:List V} {us ws:List Value},Vals xs us->Vals ys ws->Vals (xs++ys) (us++ws)
 | _,_,_,_,.nil,s=>s
 | _,_,_,_,.cons r t,s=>.cons r (Vals.append t s)
theorem Vals.take:∀{xs:List V} {us:List Value} (n:Nat),Vals xs us->Vals (xs.take n) (us.take n)
 | _,_,0,_=>.nil
 | _,_,_+1,.nil=>.nil
 | _,_,n+1,.cons r t=>.cons r (Vals.take n t)
theorem Vals.drop:∀{xs:List V} {us:List Value} (n:Nat),Vals xs us->Vals (xs.drop n) (us.drop n)
 | _,_,0,r=>r
 | _,_,_+1,.nil=>.nil
 | _,_,n+1,.cons _ t=>Vals.drop n t
def Bc:Option V->Option Value->Prop
 | some v,some u=>Ag v u
 | none,none=>True
 | _,_=>False
def KV {κ : Type}:List (κ × V)->List (κ × Value)->Prop:=Paired λ(p : κ × V) (q : κ × Value)=>p.1=q.1/\Ag p.2 q.2
def kV:Key->V
 | .inl i=>.int i
 | .inr x=>.str x
inductive HO where
 | lst (xs:List V)
 | tup (xs:List V)
 | dK (kvs:List (Key×V)) | dT (kvs:List (List Key×V))
 | set (S:Int->Bool) (n:Nat)
 | ins (C dx:Addr) (fs:List (Str×V))
 | own (x:Addr)
 | xd (fs:List (Str×V))
 | met (f x:Addr)
 | rng (lo hi:Int)
 | frz (o:Obj) (u:HO)
 | tbl (ps:Array Value)
 | ext (φ : Heap->Prop)
abbrev Hp:=Addr->Option HO
def upd (H:Hp) (a:Addr) (o:HO):Hp:=λb=>if b=a then some o else H b
theorem Ac{H:Hp}{a:Addr}{o:HO}:upd H a o a=some o:=by unfold upd;rw[Kd rfl]
theorem Af{H:Hp}{a b:Addr}{o:HO}(h:b≠a):upd H a o b=H b:=by unfold upd;rw[Kc h]
theorem Xaa{H:Hp}{a b:Addr}{o u:HO}(h:H a=some o)(h':H b=some u)(d:o≠u):a≠b:=by
 intro e;subst e;rw[h] at h';exact d (Ha h')
theorem Aw{H:Hp}{a b:Addr}{o:HO}(h:H a=some o)(h':H b=none):a≠b:=by
 intro e;subst e;rw[h] at h';cases h'
section
variable (P:Program) (w:World)
def Aq (H:Hp) (h:Heap) (a:Addr):HO->Prop
 | .lst xs=>xs.length<=sizeLine/\∃(its:List Value) (n:Nat),Vals xs its/\h.get? a=some {cls:=.type "list",data:=.seq its.toArray n}
 | .tup xs=>xs.length<=sizeLine/\∃its:List Value,Vals xs its/\IsTup h a its.toArray
 | .dK kvs=>kvs.length<=sizeLine/\(a==sysModules)=false/\∃vs,KV kvs vs/\h.DictOf (A5 P w) a vs
 | .dT kvs=>kvs.length<=sizeLine/\(a==sysModules)=false/\∃xs:List (List Key×Addr×Value),
   Paired (λ(p:List Key×V) (q:List Key×Addr×Value)=>p.1=q.1/\H q.2.1=some (.tup (p.1.map kV))/\Ag p.2 q.2.2) kvs xs /\
   ∃o es ep,h.get? a=some o/\o.ExactDict/\o.data = .dict es ep/\es.toList=xs.map (entryOfKey (tupleKind (A5 P w)))/\(xs.map (·.1)).Nodup
 | .set S n=>h.SetOf (intKind P w) a S n
 | .ins C dx fs=>H dx=some (.own a)/\fs.length<=1000/\dx≠a/\h.get? a=some (PySem.W.instObj C dx) /\
   ∃mA,h.Ns1 dx mA/\(∀f,Bc (fs.lookup f) (mA f))/\PySem.Within mA (fs.map (·.1))
 | .own _=>∃o,h.get? a=some o
 | .xd fs=>∃mA,h.Ns1 a mA/\∀f,Bc (fs.lookup f) (mA f)
 | .rng lo hi=>∃t u v,h.get? a=some {cls:=.type "range",data:=.fields #[.int lo t,.int hi u,.int 1 v]}
 | .frz o u=>h.get? a=some o/\Aq H h a u
 | .tbl ps=>h.get? a=some {cls:=.none,data:=.fields ps}
 | .met f x=>h.get? a=some (PySem.W.methodObj (.ref f) (.ref x))
 | .ext φ => φ h/\(∃o,h.get? a=some o)/\∀h1 h2:Heap, φ h1->(∀o,h1.get? a=some o->h2.get? a=some o) -> φ h2
def HOk (H:Hp) (h:Heap):Prop:=∀a o,H a=some o->Aq P w H h a o
end
section
variable {P:Program}{w:World}{H H':Hp}{h h':Heap}{a:Addr}{o:HO}
theorem Aq.lt(x:Aq P w H h a o):a<h.objs.size:=by
 cases o with
 | lst xs=>obtain⟨_,_,_,_,e⟩:=x;exact Ki e
 | tup xs=>obtain⟨_,_,_,p⟩:=x;exact p.lt
 | dK kvs=>obtain⟨_,_,_,_,o,_,_,e,_⟩:=x;exact Ki e
 | dT kvs=>obtain⟨_,_,_,_,o,_,_,e,_⟩:=x;exact Ki e
 | set S n=>obtain⟨o,_,_,_,e,_⟩:=x;exact Ki e
 | ins C dx fs=>obtain⟨_,_,_,e,_⟩:=x;exact Ki e
 | own y=>obtain⟨_,e⟩:=x;exact Ki e
 | xd fs=>obtain⟨_,⟨_,_,_,e,_⟩,_⟩:=x;exact Ki e
 | rng lo hi=>obtain⟨_,_,_,e⟩:=x;exact Ki e
 | frz ob u=>obtain⟨e,_⟩:=x;exact Ki e
 | tbl ps=>exact Ki (show h.get? a=some _ from x)
 | met f y=>exact Ki (show h.get? a=some _ from x)
 | ext φ=>obtain⟨_,⟨_,e⟩,_⟩:=x;exact Ki e
theorem Paired.mapP{α β : Type}{F G : α -> β->Prop}:∀{l₁ : List α} {l₂ : List β},Paired F l₁ l₂->(∀a b,F a b->G a b)->Paired G l₁ l₂
 | _,_,.nil,_=>.nil
 | _,_,.cons r t,f=>.cons (f _ _ r) (Paired.mapP t f)
theorem Aq.stay(x:Aq P w H h a o)(k:∀b u,(b=a\/H b=some (.own a))->h.get? b=some u->h'.get? b=some u)
  (ho:∀b,H b=some (.own a)->H' b=some (.own a)) (ht:∀b xs,H b=some (.tup xs)->H' b=some (.tup xs)):Aq P w H' h' a o:=by
 induction o with
 | lst xs=>obtain⟨z,its,n,r,e⟩:=x;exact⟨z,its,n,r,k _ _ (.inl rfl) e⟩
 | tup xs=>obtain⟨z,its,r,ob,e,c⟩:=x;exact⟨z,its,r,ob,k _ _ (.inl rfl) e,c⟩
 | dK kvs=>obtain⟨z,y,vs,r,ob,es,ep,e,c⟩:=x;exact⟨z,y,vs,r,ob,es,ep,k _ _ (.inl rfl) e,c⟩
 | dT kvs=>
  obtain⟨z,y,xs,r,ob,es,ep,e,c⟩:=x;exact⟨z,y,xs,Paired.mapP r λp q z=>⟨z.1,ht _ _ z.2.1,z.2.2⟩,ob,es,ep,k _ _ (.inl rfl) e,c⟩
 | set S n=>obtain⟨ob,es,ep,t,e,c⟩:=x;exact⟨ob,es,ep,t,k _ _ (.inl rfl) e,c⟩
 | ins C dx fs=>
  obtain⟨d,z,ne,e,mA,⟨od,es,ep,e2,c⟩,r⟩:=x;exact⟨ho _ d,z,ne,k _ _ (.inl rfl) e,mA,⟨od,es,ep,k _ _ (.inr d) e2,c⟩,r⟩
 | own y=>obtain⟨ob,e⟩:=x;exact⟨ob,k _ _ (.inl rfl) e⟩
 | xd fs=>obtain⟨mA,⟨od,es,ep,e,c⟩,r⟩:=x;exact⟨mA,⟨od,es,ep,k _ _ (.inl rfl) e,c⟩,r⟩
 | rng lo hi=>obtain⟨t,u,v,e⟩:=x;exact⟨t,u,v,k _ _ (.inl rfl) e⟩
 | frz ob u ih=>obtain⟨e,q⟩:=x;exact⟨k _ _ (.inl rfl) e,ih q⟩
 | tbl ps=>
  have e:h.get? a=some {cls:=.none,data:=.fields ps}:=x;show h'.get? a=some {cls:=.none,data:=.fields ps};exact k a _ (.inl rfl) e
 | met f y=>
  have e:h.get? a=some (PySem.W.methodObj (.ref f) (.ref y)):=x;show h'.get? a=some (PySem.W.methodObj (.ref f) (.ref y));exact k a _ (.inl rfl) e
 | ext φ=>obtain⟨p,⟨o,e⟩,st⟩:=x;exact⟨st _ _ p λo q=>k _ _ (.inl rfl) q,⟨o,k _ _ (.inl rfl) e⟩,st⟩
theorem HOk.lt(x:HOk P w H h)(e:H a=some o):a<h.objs.size:=(x a o e).lt
theorem HOk.fresh(x:HOk P w H h)(e:h.objs.size<=a):H a=none:=by
 cases q:H a with
 | none=>rfl
 | some u=>exact absurd (Hf (x.lt q) e) (Ht _)
theorem HOk.kept(x:HOk P w H h)(k:∀b u,h.get? b=some u->h'.get? b=some u):HOk P w H h':=λa o e=>
 (x a o e).stay (λb u _ q=>k b u q) (λ_ q=>q) λ_ _ q=>q
theorem HOk.laid(x:HOk P w H h)(k:∀b u,h.get? b=some u->h'.get? b=some u)(hp:h.objs.size<=a)(new:Aq P w (upd H a o) h' a o):HOk P w (upd H a o) h':=λb u e=>by
 have hn:=x.fresh hp;by_cases hb:b=a
 ·subst hb;rw[Ac] at e;cases e;exact new
 ·rw[Af hb] at e;exact(x b u e).stay (λc v _ q=>k c v q) (λc q=>by rw[Af (Aw q hn)];exact q) λc xs q=>by rw[Af (Aw q hn)];exact q
end
def Rd (H:Hp) (a:Addr) (u:HO):Prop:=H a=some u \/ ∃o,H a=some (.frz o u)
theorem Rd.ok{P:Program}{w:World}{H:Hp}{h:Heap}{a:Addr}{u:HO}(r:Rd H a u)(x:HOk P w H h):Aq P w H h a u:=by
 rcases r with r | ⟨o,r⟩
 ·exact x a u r
 ·obtain⟨_,q⟩:=x a _ r;exact q
def Mut:Option HO->Prop
 | some (.lst _)=>True
 | some (.dK _)=>True
 | some (.dT _)=>True
 | some (.set _ _)=>True
 | some (.ins _ _ _)=>True
 | some (.ext _)=>True
 | _=>False
section
variable {P:Program}{w:World}{H:Hp}{h h':Heap}{x e:Addr}{o':HO}
theorem HOk.write(ok:HOk P w H h)(mu:Mut (H x))(he:e=x\/H e=some (.own x))(k:∀b u,b≠e->h.get? b=some u->h'.get? b=some u)(heo:∃u,h'.get? e=some u)
  (new:Aq P w (upd H x o') h' x o'):HOk P w (upd H x o') h':=λb u q=>by
 have nown:∀c y,H c=some (.own y)->c≠x:=λc y r z=>by subst z;rw[r] at mu;exact mu
 have ntup:∀c xs,H c=some (.tup xs)->c≠x:=λc xs r z=>by subst z;rw[r] at mu;exact mu
 by_cases hb:b=x
 ·subst hb;rw[Ac] at q;cases q;exact new
 ·rw[Af hb] at q;by_cases hbe:b=e
  ·have q':H b=some (.own x):=by
    rcases he with z | z
    ·exact absurd (hbe.trans z) hb
    ·rw[hbe];exact z
   rw[q] at q';cases q';obtain⟨v,hv⟩:=heo;exact⟨v,by rw[hbe];exact hv⟩
  ·refine(ok b u q).stay (λc v hc r=>k c v ?_ r) (λc r=>by rw[Af (nown c b r)];exact r) λc xs r=>by rw[Af (ntup c xs r)];exact r
   rcases hc with rfl | hc
   ·exact hbe
   ·rintro rfl;rcases he with z | z
    ·exact nown c b hc z
    ·rw[hc] at z;cases z;exact hb rfl
end
structure Un (fs ex:List Addr) (H H':Hp) (h h':Heap):Prop where
 keep:∀b o,h.get? b=some o->H b=none->b∉fs->b∉ex->h'.get? b=some o
 slot:∀b o,h.get? b=some o->H b=none->b∈fs->b∉ex->∃sl,h'.get? b=some {o with slots:=sl}
 free:∀b o,h.get? b=some o->H b=none->b∉ex->H' b=none
 there:∀b o,h.get? b=some o->b∉ex->∃o',h'.get? b=some o'
 tups:∀b xs,H b=some (.tup xs)->H' b=some (.tup xs)
 frzs:∀b o u,H b=some (.frz o u)->H' b=some (.frz o u)
 tbls:∀b ps,H b=some (.tbl ps)->∃more,H' b=some (.tbl (ps++more))
section
variable {fs fs' ex ex':List Addr}{H H1 H2:Hp}{h h1 h2 h':Heap}{a x e:Addr}{o:HO}
theorem Un.any(u:Un fs ex H H1 h h1){b:Addr}{ob:Obj}(q:h.get? b=some ob)(n:H b=none)(hx:b∉ex):∃sl,h1.get? b=some {ob with slots:=sl}:=by
 by_cases hb:b∈fs
 ·exact u.slot b ob q n hb hx
 ·exact⟨ob.slots,u.keep b ob q n hb hx⟩
theorem Un.kept(k:∀b u,h.get? b=some u->h'.get? b=some u):Un fs ex H H h h':=
 ⟨λb ob q _ _ _=>k b ob q,λb ob q _ _ _=>⟨ob.slots,k b ob q⟩,λ_ _ _ n _=>n,λb ob q _=>⟨ob,k b ob q⟩,λ_ _ q=>q,λ_ _ _ q=>q,λ_ ps q=>⟨#[],by rw[q];simp⟩⟩
theorem Un.refl:Un fs ex H H h h:=Un.kept λ_ _ q=>q
theorem Un.laid(k:∀b u,h.get? b=some u->h'.get? b=some u)(hp:h.objs.size<=a)(hn:H a=none):Un fs ex H (upd H a o) h h' where
 keep:=λb u q _ _ _=>k b u q
 slot:=λb u q _ _ _=>⟨u.slots,k b u q⟩
 free:=λb u q n _=>by rw[Af (G7 (Hf (Ki q) hp))];exact n
 there:=λb u q _=>⟨u,k b u q⟩
 tups:=λb xs q=>by rw[Af (Aw q hn)];exact q
 frzs:=λb u xs q=>by rw[Af (Aw q hn)];exact q
 tbls:=λb ps q=>⟨#[],by rw[Af (Aw q hn),q];simp⟩
theorem Un.write(mu:Mut (H x))(he:e=x\/H e=some (.own x))(k:∀b u,b≠e->h.get? b=some u->h'.get? b=some u)(heo:∃u,h'.get? e=some u):Un fs ex H (upd H x o) h h':=by
 have hx:∀b,H b=none->b≠x:=λb n z=>by subst z;rw[n] at mu;exact mu
 have hb:∀b,H b=none->b≠e:=λb n z=>by
  subst z;rcases he with r | r
  ·exact hx b n r
  ·rw[n] at r;cases r
 have hm:∀b u,H b=some u->¬Mut (some u)->b≠x:=λb u q nm z=>by subst z;rw[q] at mu;exact nm mu
 refine⟨λb u q n _ _=>k b u (hb b n) q,λb u q n _ _=>⟨u.slots,k b u (hb b n) q⟩,λb u q n _=>by rw[Af (hx b n)];exact n,λb u q _=>?_,
  λb xs q=>by rw[Af (hm b _ q λz=>z)];exact q,λb u xs q=>by rw[Af (hm b _ q λz=>z)];exact q,λb ps q=>⟨#[],by rw[Af (hm b _ q λz=>z),q];simp⟩⟩
 by_cases hbe:b=e
 ·subst hbe;exact heo
 ·exact⟨u,k b u hbe q⟩
end
def trk (h:Heap) (H:Hp):List Addr:=(List.range h.objs.size).filter λa=>(H a).isSome
def Cb (h:Heap) (H:Hp):Heap:=PySem.W.hideAll h (trk h H)
theorem Xes(h:Heap)(H:Hp):(Cb h H).objs.size=h.objs.size:=PySem.W.hideAll_size _ _
theorem Xet{h:Heap}{H:Hp}{b:Addr}{o:Obj}(e:h.get? b=some o)(n:H b=none):(Cb h H).get? b=some o:=
 PySem.W.hideAll_get _ e λhm=>by
  have q:(H b).isSome=true:=(List.mem_filter.mp hm).2;rw[n] at q;simp at q
theorem Xeu{h:Heap}{H:Hp}{b:Addr}{o:Obj}(e:(Cb h H).get? b=some o):h.get? b=some o/\H b=none:=by
 have e':h.get? b=some o:=PySem.W.of_hideAll (trk h H) e;refine⟨e',?_⟩;cases q:H b with
 | none=>rfl
 | some x=>
  have hm:b∈trk h H:=List.mem_filter.mpr ⟨Io.mpr (Ki e'),by simp[q]⟩;have z:(Cb h H).get? b=none:=PySem.W.hideAll_none (trk h H) hm;rw[z] at e;cases e
def Xev (g h:Heap) (L:Addr):List (Addr×Obj):=(List.range h.objs.size).filterMap λa=>if a=L\/(g.get? a).isSome=true then none else (h.get? a).map λo=>(a,o)
def rest (g h:Heap) (L d:Addr):List (Addr×Obj):=(Xev g h L).filter λp=>decide (p.1≠d)
structure Mod (K:PySem.W.Frag) (mg:Str->Option Value) (base:Heap):Prop where
 kin:K.In base
 glob:base.Ns mainGlobals mg
 blt:∃mb,base.Ns builtinsNs mb/\∀x:Str,x ≠ "__name__" -> mb x=bootBuiltins x
 nolimit:base.NoLimit
structure Cx where
 prog:Program
 w:World
 K:PySem.W.Frag
 mg:Str->Option Value
 base:Heap
 A:Around
 N:List Str
 s₀ : Shared
 H₀ : Hp
 env:Env
 outer:List Env
 stack:List Env
 ex:List Addr
 fn:Str->Bool
 calm:Bool
 pn:List (Addr×Obj)
 xe:Value->Shared->Prop
def frs (l:List Env):List Addr:=l.filterMap (·.frame)
abbrev Cx.fs (X:Cx):List Addr:=frs X.outer
def Vis (sc:Scope) (x:Str):Prop:=sc.names.lookup x=some .local\/sc.names.lookup x=some .cell\/sc.names.lookup x=some .free
def Loc (sc:Scope) (x:Str):Prop:=sc.names.lookup x=some .local\/sc.names.lookup x=some .cell
def Look (env:Env) (h:Heap) (m:Str->Option Value) (x:Str) (u:Value):Prop:=
 (env.kindOf x=some .local/\m x=some u)\/((env.kindOf x=some .cell\/env.kindOf x=some .free)/\∃c,env.cells.lookup x=some c/\h.IsCell c (some u))
structure Cx.Ok (X:Cx):Prop where
 mod:Mod X.K X.mg X.base
 kind:X.env.scope.kind = .function
 glob:X.env.globals=mainGlobals
 blt:X.env.builtins=builtinsNs
 above:X.s₀.heap.objs.size<=X.env.locals
 inj:∀x y c,X.env.cells.lookup x=some c->X.env.cells.lookup y=some c->x=y
 has:∀x,(X.env.kindOf x=some .cell\/X.env.kindOf x=some .free)->∃c,X.env.cells.lookup x=some c
 cab:∀x c,X.fn x=true->X.env.cells.lookup x=some c->X.s₀.heap.objs.size<=c
 hd:X.calm=true->X.A.handled=none
 frames:X.A.frames=some X.stack
 stk:X.stack=X.outer\/(X.stack=X.env::X.outer/\X.env.frame=some X.env.locals)
 exf:∀b∈X.ex,b≠X.env.locals/\∀x c,X.env.cells.lookup x=some c->c≠b
 bs:∀b o,X.base.get? b=some o->X.s₀.heap.get? b=some o/\X.H₀ b=none
 bsz:X.base.objs.size<=X.s₀.heap.objs.size
 noex:∀b o,X.base.get? b=some o->b∉X.ex
 exfs:∀b∈X.ex,b∉X.fs
 funs:X.s₀.heap.FunFrames X.base X.outer
 frf:∀b∈X.fs,X.H₀ b=none
structure Inv (X:Cx) (pins:List (Addr×Obj)) (σ:List (Option V)) (H:Hp) (s:Shared):Prop where
 ok:X.Ok
 os:s.os=X.s₀.os
 bare:AllBare s.gens
 base:Un X.fs X.ex X.H₀ H X.s₀.heap s.heap
 loc:∃m,s.heap.Ns X.env.locals m/\∀(i:Nat) (x:Str) (v:V),X.N[i]? = some x -> σ[i]? = some (some v)->Vis X.env.scope x->∃u,Ag v u/\Look X.env s.heap m x u
 cell:∀x c,X.env.cells.lookup x=some c->∃v,s.heap.IsCell c v
 free:H X.env.locals=none
 freeC:∀x c,X.env.cells.lookup x=some c->H c=none
 pin:∀p∈X.pn++pins,s.heap.get? p.1=some p.2/\H p.1=none/\p.1≠X.env.locals/\p.1∉X.fs/\∀v,p.2.data ≠ .cell v
 hok:HOk X.prog X.w H s.heap
 len : σ.length=X.N.length
section
variable {X:Cx}{pins:List (Addr×Obj)}{σ:List (Option V)}{H H':Hp}{s:Shared}{h':Heap}
theorem Cx.Ok.nofr(ok:X.Ok){b:Addr}{o:Obj}(e:X.base.get? b=some o):b∉X.fs:=λhb=>by
 have:=(ok.funs.mem hb).1;rw[e] at this;cases this
theorem Inv.bs(I:Inv X pins σ H s):∀b o,X.base.get? b=some o->s.heap.get? b=some o/\H b=none:=λb o e=>
 ⟨I.base.keep b o (I.ok.bs b o e).1 (I.ok.bs b o e).2 (I.ok.nofr e) (I.ok.noex b o e),I.base.free b o (I.ok.bs b o e).1 (I.ok.bs b o e).2 (I.ok.noex b o e)⟩
theorem Inv.bk(I:Inv X pins σ H s):∀b o,X.base.get? b=some o->s.heap.get? b=some o:=λb o e=>(I.bs b o e).1
theorem Inv.mod(I:Inv X pins σ H s):Mod X.K X.mg X.base:=I.ok.mod
theorem Inv.kIn(I:Inv X pins σ H s):X.K.In s.heap:=I.ok.mod.kin.keeps I.bk
theorem Inv.lt(I:Inv X pins σ H s):X.env.locals<s.heap.objs.size:=let ⟨_,hn,_⟩:=I.loc;hn.lt
theorem Inv.sz(I:Inv X pins σ H s):X.s₀.heap.objs.size<=s.heap.objs.size:=Hx I.ok.above (Jp I.lt)
theorem Inv.nofs(I:Inv X pins σ H s){a:Addr}(h:s.heap.objs.size<=a):a∉X.fs:=λhb=>by
 obtain⟨_,o,ho,_⟩:=I.ok.funs.mem hb;exact absurd (Hf (Ki ho) (Hx I.sz h)) (Ht _)
theorem Inv.cne(I:Inv X pins σ H s):∀x c,X.env.cells.lookup x=some c->c≠X.env.locals:=λx c e z=>by
 obtain⟨v,o,ho,hd⟩:=I.cell x c e;obtain⟨m,⟨o',es,ep,ho',hd',_⟩,_⟩:=I.loc;rw[z,ho'] at ho;cases ho;rw[hd'] at hd;cases hd
theorem Inv.funs(I:Inv X pins σ H s):s.heap.FunFrames X.base X.outer:=by
 have all:∀(l:List Env),(∀b∈frs l,b∈X.fs)->X.s₀.heap.FunFrames X.base l->s.heap.FunFrames X.base l:=by
  intro l
  induction l with
  | nil=>intro _ _;trivial
  | cons env r ih=>
   intro hs hl;obtain⟨hk,⟨L,o,hf,hn,ho,hd⟩,hr⟩:=hl;have hL:L∈X.fs:=hs L (by unfold frs;rw[J0,hf];exact Hg);obtain⟨sl,e⟩:=I.base.slot L o ho (I.ok.frf L hL) hL λz=>I.ok.exfs L z hL;exact⟨hk,⟨L,_,hf,hn,e,hd⟩,ih (λb hb=>hs b (by unfold frs;rw[J0,hf];exact Hb _ hb)) hr⟩
 exact all X.outer (λ_ hb=>hb) I.ok.funs
theorem Inv.stack(I:Inv X pins σ H s):s.heap.FunFrames X.base X.stack:=by
 rcases I.ok.stk with e | ⟨e,hf⟩
 ·rw[e];exact I.funs
 ·rw[e];obtain⟨m,hn,_⟩:=I.loc;refine .cons (by rw[I.ok.kind];decide) hf hn ?_ I.funs;exact Heap.get?_none_of_le (Hx I.ok.bsz I.ok.above)
theorem Inv.stkSub(I:Inv X pins σ H s):∀b∈frs X.stack,b∈X.env.locals::X.fs:=λb hb=>by
 rcases I.ok.stk with e | ⟨e,hf⟩
 ·rw[e] at hb;exact Hb _ hb
 ·rw[e] at hb;unfold frs at hb;rw[J0,hf] at hb;exact hb
theorem Inv.stkFree(I:Inv X pins σ H s):∀b∈frs X.stack,H b=none:=λb hb=>by
 rcases He.mp (I.stkSub b hb) with e | hb
 ·rw[e];exact I.free
 ·obtain⟨_,o,ho,_⟩:=I.ok.funs.mem hb;exact I.base.free b o ho (I.ok.frf b hb) λz=>I.ok.exfs b z hb
theorem Inv.step{g':Array GenState}{t':Nat}{d':Drawn}{ch:List Addr}(I:Inv X pins σ H s)
  (hch:∀b∈ch,(b∈X.ex\/X.s₀.heap.objs.size<=b)/\b≠X.env.locals/\(∀x c,X.env.cells.lookup x=some c->c≠b)/\∀p∈X.pn++pins,p.1≠b)
  (keep:∀b o,b≠X.env.locals->b∉X.fs->b∉ch->s.heap.get? b=some o->H b=none->h'.get? b=some o)
  (slot:∀b o,b≠X.env.locals->b∈X.fs->b∉ch->s.heap.get? b=some o->H b=none->∃sl,h'.get? b=some {o with slots:=sl}) (free:∀b o,b∉ch->s.heap.get? b=some o->H b=none->H' b=none)
  (there:∀b o,b∉ch->s.heap.get? b=some o->∃o',h'.get? b=some o')
  (tups:∀b xs,H b=some (.tup xs)->H' b=some (.tup xs)) (frzs:∀b o u,H b=some (.frz o u)->H' b=some (.frz o u)) (tbls:∀b ps,H b=some (.tbl ps)->∃more,H' b=some (.tbl (ps++more)))
  (ns:∀m,s.heap.Ns X.env.locals m->h'.Ns X.env.locals m) (hok:HOk X.prog X.w H' h') (hg:AllBare g'):
  Inv X pins σ H' {s with heap:=h',gens:=g',drawn:=d',toks:=t'}:=by
 have neL:∀b o,X.s₀.heap.get? b=some o->b≠X.env.locals:=λb o e=>G7 (Hf (Ki e) I.ok.above);have neC:∀b o,X.s₀.heap.get? b=some o->b∉X.ex->b∉ch:=λb o e hx hb=>by
  rcases (hch b hb).1 with z | z
  ·exact hx z
  ·exact absurd (Hf (Ki e) z) (Ht _)
 have cellK:∀x c,X.env.cells.lookup x=some c->∀v,s.heap.IsCell c v->h'.IsCell c v:=λx c e v ⟨o,ho,hd⟩=>by
  have nch:c∉ch:=λz=>(hch c z).2.2.1 x c e rfl;by_cases hc:c∈X.fs
  ·obtain⟨sl,q⟩:=slot c o (I.cne x c e) hc nch ho (I.freeC x c e);exact⟨_,q,hd⟩
  ·exact⟨o,keep c o (I.cne x c e) hc nch ho (I.freeC x c e),hd⟩
 refine⟨I.ok,I.os,hg,⟨λb o e n hb hx=>?_,λb o e n hb hx=>?_,λb o e n hx=>?_,λb o e hx=>?_,λb xs e=>tups b xs (I.base.tups b xs e),λb o xs e=>frzs b o xs (I.base.frzs b o xs e),λb ps e=>?_⟩,?_,λx c e=>?_,?_,λx c e=>?_,λp hp=>?_,hok,I.len⟩
 ·exact keep b o (neL b o e) hb (neC b o e hx) (I.base.keep b o e n hb hx) (I.base.free b o e n hx)
 ·obtain⟨sl,e1⟩:=I.base.slot b o e n hb hx;obtain⟨sl',e2⟩:=slot b _ (neL b o e) hb (neC b o e hx) e1 (I.base.free b o e n hx);exact⟨sl',e2⟩
 ·obtain⟨o',e1⟩:=I.base.there b o e hx;exact free b o' (neC b o e hx) e1 (I.base.free b o e n hx)
 ·obtain⟨o',e1⟩:=I.base.there b o e hx;exact there b o' (neC b o e hx) e1
 ·obtain⟨m1,e1⟩:=I.base.tbls b ps e;obtain⟨m2,e2⟩:=tbls b _ e1;exact⟨m1++m2,by rw[e2,Array.append_assoc]⟩
 ·obtain⟨m,hn,hl⟩:=I.loc;refine⟨m,ns m hn,λi x v e1 e2 e3=>?_⟩;obtain⟨u,r,l⟩:=hl i x v e1 e2 e3;refine⟨u,r,?_⟩;rcases l with l | ⟨k,c,e,z⟩
  ·exact .inl l
  ·exact .inr ⟨k,c,e,cellK x c e _ z⟩
 ·obtain⟨v,z⟩:=I.cell x c e;exact⟨v,cellK x c e v z⟩
 ·obtain⟨m,⟨o,_,_,ho,_⟩,_⟩:=I.loc;exact free _ o (λz=>(hch _ z).2.1 rfl) ho I.free
 ·obtain⟨v,o,ho,hd⟩:=I.cell x c e;exact free c o (λz=>(hch c z).2.2.1 x c e rfl) ho (I.freeC x c e)
 ·obtain⟨e,n,ne,nf,d⟩:=I.pin p hp;have nch:p.1∉ch:=λz=>(hch p.1 z).2.2.2 p hp rfl;exact⟨keep p.1 p.2 ne nf nch e n,free p.1 p.2 nch e n,ne,nf,d⟩
theorem Inv.un{t':Nat}(I:Inv X pins σ H s)(u:Un X.fs [] H H' s.heap h')(hok:HOk X.prog X.w H' h'):Inv X pins σ H' {s with heap:=h',toks:=t'}:=by
 obtain⟨m,⟨o,es,ep,ho,r⟩,_⟩:=id I.loc;obtain⟨sl,hL⟩:=u.any ho I.free (by simp);exact I.step (g':=s.gens) (d':=s.drawn) (ch:=[]) (λ_ z=>nomatch z) (λb o _ hb _ e n=>u.keep b o e n hb (by simp)) (λb o _ hb _ e n=>u.slot b o e n hb (by simp)) (λb o _ e n=>u.free b o e n (by simp)) (λb o _ e=>u.there b o e (by simp)) u.tups u.frzs u.tbls (λm' hm=>by
  obtain⟨o',es',ep',ho',r'⟩:=hm;rw[ho] at ho';cases ho';exact⟨_,es',ep',hL,r'⟩) hok I.bare
theorem Inv.call{g':Array GenState}{t':Nat}{d':Drawn}{ch:List Addr}(I:Inv X pins σ H s)(u:Un (frs X.stack) ch H H' s.heap h')(hok:HOk X.prog X.w H' h')(hg:AllBare g')
  (hch:∀b∈ch,(b∈X.ex\/X.s₀.heap.objs.size<=b)/\b≠X.env.locals/\(∀x c,X.env.cells.lookup x=some c->c≠b)/\∀p∈X.pn++pins,p.1≠b):
  Inv X pins σ H' {s with heap:=h',gens:=g',drawn:=d',toks:=t'}:=by
 obtain⟨m,⟨o,es,ep,ho,r⟩,_⟩:=id I.loc;obtain⟨sl,hL⟩:=u.any ho I.free λz=>(hch _ z).2.1 rfl;exact I.step (ch:=ch) hch (λb o hL hb hc e n=>u.keep b o e n (λz=>(He.mp (I.stkSub b z)).elim hL hb) hc) (λb o _ _ hc e n=>u.any e n hc) (λb o hc e n=>u.free b o e n hc) (λb o hc e=>u.there b o e hc) u.tups u.frzs u.tbls (λm' hm=>by
  obtain⟨o',es',ep',ho',r'⟩:=hm;rw[ho] at ho';cases ho';exact⟨_,es',ep',hL,r'⟩) hok hg
theorem Inv.turned{t':Nat}{it:Addr}(I:Inv X pins σ H s)(k:∀b o,b≠it->s.heap.get? b=some o->h'.get? b=some o)(hn:H it=none)(hL:it≠X.env.locals)
  (h1:it∈X.ex\/X.s₀.heap.objs.size<=it) (h2:∀x c,X.env.cells.lookup x=some c->c≠it) (h3:∀p∈X.pn++pins,p.1≠it):Inv X pins σ H {s with heap:=h',toks:=t'}:=by
 have nit:∀b u,H b=some u->b≠it:=λb u e z=>by rw[z,hn] at e;cases e
 refine I.step (g':=s.gens) (d':=s.drawn) (ch:=[it]) (λb hb=>?_) (λb o _ _ hc e _=>k b o (λz=>hc (by simp[z])) e) (λb o _ _ hc e _=>⟨o.slots,k b o (λz=>hc (by simp[z])) e⟩) (λ_ _ _ _ n=>n)
  (λb o hc e=>⟨o,k b o (λz=>hc (by simp[z])) e⟩) (λ_ _ e=>e) (λ_ _ _ e=>e) (λb ps e=>⟨#[],by rw[e];simp⟩) (λm hm=>?_) (λb u e=>?_) I.bare
 ·have e:b=it:=by simpa using hb
  subst e;exact⟨h1,hL,h2,h3⟩
 ·obtain⟨o,es,ep,ho,r⟩:=hm;exact⟨o,es,ep,k _ o (Ne.symm hL) ho,r⟩
 ·refine(I.hok b u e).stay (λc v hc q=>k c v ?_ q) (λ_ q=>q) λ_ _ q=>q;rcases hc with z | z
  ·rw[z];exact nit b u e
  ·exact nit c _ z
theorem Inv.tok(I:Inv X pins σ H s)(t:Nat):Inv X pins σ H {s with toks:=t}:=I.un (h':=s.heap) (t':=t) Un.refl I.hok
theorem Inv.kept{t':Nat}(I:Inv X pins σ H s)(k:∀b u,s.heap.get? b=some u->h'.get? b=some u):Inv X pins σ H {s with heap:=h',toks:=t'}:=I.un (Un.kept k) (I.hok.kept k)
theorem Inv.laid{a:Addr}{o:HO}{t':Nat}(I:Inv X pins σ H s)(k:∀b u,s.heap.get? b=some u->h'.get? b=some u)(hp:s.heap.objs.size<=a)(new:Aq X.prog X.w (upd H a o) h' a o):
  Inv X pins σ (upd H a o) {s with heap:=h',toks:=t'}:=I.un (Un.laid k hp (I.hok.fresh hp)) (I.hok.laid k hp new)
theorem Inv.write{x e:Addr}{o:HO}{t':Nat}(I:Inv X pins σ H s)(mu:Mut (H x))(he:e=x\/H e=some (.own x))(k:∀b u,b≠e->s.heap.get? b=some u->h'.get? b=some u)(heo:∃u,h'.get? e=some u)
  (new:Aq X.prog X.w (upd H x o) h' x o):Inv X pins σ (upd H x o) {s with heap:=h',toks:=t'}:=I.un (Un.write mu he k heo) (I.hok.write mu he k heo new)
theorem Inv.pins_of{pins':List (Addr×Obj)}(I:Inv X pins σ H s)(h:∀p∈pins',s.heap.get? p.1=some p.2/\H p.1=none/\p.1≠X.env.locals/\p.1∉X.fs/\∀v,p.2.data ≠ .cell v):Inv X pins' σ H s:=
 ⟨I.ok,I.os,I.bare,I.base,I.loc,I.cell,I.free,I.freeC,λp hp=>(Hn.mp hp).elim (λz=>I.pin p (Ix _ z)) (h p),I.hok,I.len⟩
theorem Xab{N:List Str}(hN:N.Nodup){i j:Nat}{x:Str}(a:N[i]? = some x)(b:N[j]? = some x):i=j:=by
 obtain⟨h1,e1⟩:=G6.mp a;obtain⟨h2,e2⟩:=G6.mp b;exact(Jj hN).mp (e1.trans e2.symm)
theorem Xac{M:Model}{A:Around}{E:Value->Shared->Prop}{i:Nat}{x:Str}{v:V}{u:Value}{Q:Unit->Shared->Prop}(I:Inv X pins σ H s)(hN:X.N.Nodup)(hi:X.N[i]? = some x)(hx:Loc X.env.scope x)(r:Ag v u)
  (h:∀s',Inv X pins (σ.set i (some v)) H s'->(∃a,Heap.SameBut a s.heap s'.heap/\(a=X.env.locals\/X.env.cells.lookup x=some a))->Q () s') (hf:X.fn x=true\/X.env.scope.names.lookup x=some .local:=by first | exact .inl rfl | exact .inr rfl | assumption):wpAny M A (storeName X.env x u) Q E s:=by
 obtain⟨m,hn,hl⟩:=id I.loc;have hcls:(X.env.scope.kind == .class||(X.env.scope.kind == .module&&X.env.locals != X.env.globals))=false:=by rw[I.ok.kind];rfl
 have hiσ:i < σ.length:=by rw[I.len];exact(G6.mp hi).1
 have cne:=I.cne;have tracked:∀{a:Addr} {h':Heap},(∃o,s.heap.get? a=some o/\H a=none)->Heap.SameBut a s.heap h'->HOk X.prog X.w H h':=λ{a h'} ha hs b ob e=>by
  obtain⟨_,_,hfree⟩:=ha;refine(I.hok b ob e).stay (λc w' hc q=>(hs.2 c ?_).trans q) (λ_ q=>q) λ_ _ q=>q;rintro rfl;rcases hc with rfl | hc
  ·rw[hfree] at e;cases e
  ·rw[hfree] at hc;cases hc
 rcases hx with hk | hk
 ·refine wpAny_storeName_local hk hn (λh' hn' hs=>?_) hcls;obtain⟨oL,_,_,hoL,_⟩:=id hn;refine h _ ⟨I.ok,I.os,I.bare,⟨λb o e n hb hx=>?_,λb o e n hb hx=>?_,I.base.free,λb o e hx=>?_,I.base.tups,I.base.frzs,I.base.tbls⟩,⟨_,hn',λj y v' e1 e2 e3=>?_⟩,λy c e=>?_,I.free,I.freeC,λp hp=>?_,tracked ⟨oL,hoL,I.free⟩ hs,by simpa using I.len⟩ ⟨_,hs,.inl rfl⟩
  ·exact(hs.2 b (G7 (Hf (Ki e) I.ok.above))).trans (I.base.keep b o e n hb hx)
  ·obtain⟨sl,e1⟩:=I.base.slot b o e n hb hx;exact⟨sl,(hs.2 b (G7 (Hf (Ki e) I.ok.above))).trans e1⟩
  ·obtain⟨o',e1⟩:=I.base.there b o e hx;exact⟨o',(hs.2 b (G7 (Hf (Ki e) I.ok.above))).trans e1⟩
  ·by_cases hj:j=i
   ·subst hj;rw[hi] at e1;cases e1;rw[List.getElem?_set_self hiσ] at e2;cases e2;exact⟨u,r,.inl ⟨hk,by simp⟩⟩
   ·rw[List.getElem?_set_ne (Ne.symm hj)] at e2;obtain⟨u',r',q⟩:=hl j y v' e1 e2 e3;refine⟨u',r',?_⟩;rcases q with ⟨k,e⟩ | ⟨k,c,e,z⟩
    ·refine .inl ⟨k,?_⟩;have:y≠x:=λe=>hj (Xab hN e1 (e ▸ hi));simp[this,e]
    ·exact .inr ⟨k,c,e,z.sameBut hs (cne y c e)⟩
  ·obtain⟨w',z⟩:=I.cell y c e;exact⟨w',z.sameBut hs (cne y c e)⟩
  ·obtain⟨e,n,ne,nf,d⟩:=I.pin p hp;exact⟨(hs.2 p.1 ne).trans e,n,ne,nf,d⟩
 ·have hfn:X.fn x=true:=by
   rcases hf with z | z
   ·exact z
   ·rw[z] at hk;cases hk
  obtain⟨c,hc⟩:=I.ok.has x (.inl hk);obtain⟨w',z⟩:=I.cell x c hc;refine wpAny_storeName_cell I.ok.kind hk hc z (λh' hc' hs=>?_);obtain⟨oc,hoc,hocd⟩:=id z;refine h {s with heap:=h'} ⟨I.ok,I.os,I.bare,⟨λb o e n hb hx=>?_,λb o e n hb hx=>?_,I.base.free,λb o e hx=>?_,I.base.tups,I.base.frzs,I.base.tbls⟩,⟨m,hn.sameBut hs (Ne.symm (cne x c hc)),λj y v' e1 e2 e3=>?_⟩,λy c' e=>?_,I.free,I.freeC,λp hp=>?_,tracked ⟨oc,hoc,I.freeC x c hc⟩ hs,by simpa using I.len⟩ ⟨c,hs,.inr hc⟩
  ·exact(hs.2 b (G7 (Hf (Ki e) (I.ok.cab x c hfn hc)))).trans (I.base.keep b o e n hb hx)
  ·obtain⟨sl,e1⟩:=I.base.slot b o e n hb hx;exact⟨sl,(hs.2 b (G7 (Hf (Ki e) (I.ok.cab x c hfn hc)))).trans e1⟩
  ·obtain⟨o',e1⟩:=I.base.there b o e hx;exact⟨o',(hs.2 b (G7 (Hf (Ki e) (I.ok.cab x c hfn hc)))).trans e1⟩
  ·by_cases hj:j=i
   ·subst hj;rw[hi] at e1;cases e1;rw[List.getElem?_set_self hiσ] at e2;cases e2;exact⟨u,r,.inr ⟨.inl hk,c,hc,hc'⟩⟩
   ·rw[List.getElem?_set_ne (Ne.symm hj)] at e2;obtain⟨u',r',q⟩:=hl j y v' e1 e2 e3;refine⟨u',r',?_⟩;rcases q with q | ⟨k,c',e,z'⟩
    ·exact .inl q
    ·refine .inr ⟨k,c',e,z'.sameBut hs ?_⟩;rintro rfl;exact hj (Xab hN e1 (I.ok.inj _ _ _ e hc ▸ hi))
  ·by_cases hcc:c'=c
   ·subst hcc;exact⟨_,hc'⟩
   ·obtain⟨w2,z2⟩:=I.cell y c' e;exact⟨w2,z2.sameBut hs hcc⟩
  ·obtain⟨e,n,ne,nf,d⟩:=I.pin p hp;refine⟨(hs.2 p.1 ?_).trans e,n,ne,nf,d⟩;intro q;rw[q,hoc] at e;have q':oc=p.2:=Ha e;exact d w' (by rw[<-q'];exact hocd)
theorem Xad{M:Model}{A:Around}{E:Value->Shared->Prop}{i:Nat}{x:Str}{v:V}{u:Value}{Q:Unit->Shared->Prop}(I:Inv X pins σ H s)(hN:X.N.Nodup)(hi:X.N[i]? = some x)(hx:Loc X.env.scope x)(r:Ag v u)
  (h:∀s',Inv X pins (σ.set i (some v)) H s'->Q () s') (hf:X.fn x=true\/X.env.scope.names.lookup x=some .local:=by first | exact .inl rfl | exact .inr rfl | assumption):wpAny M A (storeName X.env x u) Q E s:=
 Xac I hN hi hx r (λs' I' _=>h s' I') hf
theorem Inv.call'{s':Shared}{ch:List Addr}(I:Inv X pins σ H s)(ho:s'.os=s.os)(u:Un (frs X.stack) ch H H' s.heap s'.heap)(hok:HOk X.prog X.w H' s'.heap)(hg:AllBare s'.gens)
  (hch:∀b∈ch,(b∈X.ex\/X.s₀.heap.objs.size<=b)/\b≠X.env.locals/\(∀x c,X.env.cells.lookup x=some c->c≠b)/\∀p∈X.pn++pins,p.1≠b):Inv X pins σ H' s':=by
 obtain⟨h',g',d',t',o'⟩:=s';have e:o'=s.os:=ho;subst e;exact I.call (g':=g') (t':=t') (d':=d') u hok hg hch
end
abbrev XK:=Value->Option Addr->Hp->Prop
abbrev St:=List (Option V)
abbrev VK:=V->Hp->Prop
abbrev TE:=St->Hp->VK->Prop
abbrev TT:=St->Hp->(Bool->Hp->Prop)->Prop
abbrev TA:=St->Hp->(List V->Hp->Prop)->Prop
structure Ends where
 nx:St->Hp->Prop
 rt:VK
 bk:St->Hp->Prop:=λ_ _=>False
 ct:St->Hp->Prop:=λ_ _=>False
abbrev TS:=Ends->St->Hp->Prop
def EP (X:Cx) (pins:List (Addr×Obj)) (σ:St) (Q:VK) (u:Value) (s':Shared):Prop:=∃v H',Inv X pins σ H' s'/\Ag v u/\Q v H'
def TP (X:Cx) (pins:List (Addr×Obj)) (σ:St) (Q:Bool->Hp->Prop) (b:Bool) (s':Shared):Prop:=∃H',Inv X pins σ H' s'/\Q b H'
def AP (X:Cx) (pins:List (Addr×Obj)) (σ:St) (Q:List V->Hp->Prop) (us:List Value) (s':Shared):Prop:=∃vs H',Inv X pins σ H' s'/\Vals vs us/\Q vs H'
def SP (X:Cx) (pins:List (Addr×Obj)) (D:Ends) (f:Flow) (s':Shared):Prop:=
 match f with
 | .next=>∃σ' H',Inv X pins σ' H' s'/\D.nx σ' H'
 | .brk=>∃σ' H',Inv X pins σ' H' s'/\D.bk σ' H'
 | .cont=>∃σ' H',Inv X pins σ' H' s'/\D.ct σ' H'
 | .ret u=>∃v σ' H',Inv X pins σ' H' s'/\Ag v u/\D.rt v H'
def PE (X:Cx) (e:Expr) (t:TE):Prop:=
 ∀(pins:List (Addr×Obj)) (s:Shared) (σ:St) (H:Hp) (Q:VK),Inv X pins σ H s->t σ H Q->wpAny (model X.prog X.w) X.A (eval e X.env) (EP X pins σ Q) X.xe s
def PT (X:Cx) (e:Expr) (t:TT):Prop:=
 ∀(pins:List (Addr×Obj)) (s:Shared) (σ:St) (H:Hp) (Q:Bool->Hp->Prop),Inv X pins σ H s->t σ H Q->wpAny (model X.prog X.w) X.A (isTrue e X.env (eval e X.env)) (TP X pins σ Q) X.xe s
def PW (X:Cx) (e:Expr) (t:TT):Prop:=
 ∀(whole:Sem Value) (pins:List (Addr×Obj)) (s:Shared) (σ:St) (H:Hp) (Q:Bool->Hp->Prop),Inv X pins σ H s->t σ H Q->wpAny (model X.prog X.w) X.A (isTrue e X.env whole) (TP X pins σ Q) X.xe s
theorem PW.pt{X:Cx}{e:Expr}{t:TT}(h:PW X e t):PT X e t:=h _
def PA (X:Cx) (es:List Expr) (t:TA):Prop:=
 ∀(pos:Pos) (pins:List (Addr×Obj)) (s:Shared) (σ:St) (H:Hp) (Q:List V->Hp->Prop),Inv X pins σ H s->t σ H Q->wpAny (model X.prog X.w) X.A (spliced (backTo pos (starEach es X.env))) (AP X pins σ Q) X.xe s
def PS (X:Cx) (st:Stmt) (t:TS):Prop:=
 ∀(pins:List (Addr×Obj)) (s:Shared) (σ:St) (H:Hp) (D:Ends),Inv X pins σ H s->t D σ H->wpAny (model X.prog X.w) X.A (exec st X.env) (SP X pins D) X.xe s
def PSs (X:Cx) (st:List Stmt) (t:TS):Prop:=
 ∀(pins:List (Addr×Obj)) (s:Shared) (σ:St) (H:Hp) (D:Ends),Inv X pins σ H s->t D σ H->wpAny (model X.prog X.w) X.A (execs st X.env) (SP X pins D) X.xe s
theorem thn{α : Type}{t:Sem α}{Q Q' : α->Shared->Prop}{M:Model}{A:Around}{E:Value->Shared->Prop}{s:Shared}(h:wpAny M A t Q E s)(hQ:∀a s,Q a s->Q' a s):wpAny M A t Q' E s:=wpAny_mono h hQ λ_ _ x=>x
section
variable {X:Cx}
def Xae (i:Nat):TE:=fun σ H Q=>∃v, σ[i]? = some (some v)/\Q v H
def tC (v:V):TE:=λ_ H Q=>Q v H
theorem Xew{i:Nat}{x:Str}{pos:Pos}(hN:X.N[i]? = some x)(hv:Vis X.env.scope x)(hd:(x==("__debug__" : Str))=false:=by decide)(hcd:(x==("__classdict__" : Str))=false:=by decide):PE X (.Name x pos) (Xae i):=by
 intro pins s σ H Q I h;obtain⟨v,e,h⟩:=h;obtain⟨m,hn,hl⟩:=I.loc;obtain⟨u,r,l⟩:=hl i x v hN e hv;have fin:EP X pins σ Q u s:=⟨v,H,I,r,h⟩;rcases l with ⟨hk,hm⟩ | ⟨hk,c,hc,hcell⟩
 ·exact wpAny_Name (wpAny_loadName_local I.ok.kind hk hn hm fin) hd
 ·rcases hk with hk | hk
  ·exact wpAny_Name (wpAny_loadName_cell I.ok.kind hk hc hcell fin) hd
  ·exact wpAny_Name (wpAny_loadName_free I.ok.kind hk hc hcell fin hcd) hd
theorem Ad{i j pos}:PE X (.Constant (.int i) j pos) (tC (.int i)):=λ_ _ _ H _ I h=>wpAny_Constant_int ⟨.int i,H,I.tok _,⟨_,rfl⟩,h⟩
theorem D0{b j pos}:PE X (.Constant (.bool b) j pos) (tC (.bl b)):=λ_ _ _ H _ I h=>Constant_bool ⟨.bl b,H,I,rfl,h⟩
theorem Bp{j pos}:PE X (.Constant .none j pos) (tC .non):=λ_ _ _ H _ I h=>Constant_none ⟨.non,H,I,rfl,h⟩
theorem Bv{x j pos}:PE X (.Constant (.str x) j pos) (tC (.str x)):=λ_ _ _ H _ I h=>Calls.Constant_str ⟨.str x,H,I.tok _,⟨_,rfl⟩,h⟩
def Gl (X:Cx) (x:Str):Prop:=X.env.kindOf x=some .globalImplicit
theorem Xex{E:Value->Shared->Prop}{pins:List (Addr×Obj)}{s:Shared}{σ:St}{H:Hp}{x:Str}{u:Value}{pos:Pos}{Q:Value->Shared->Prop}(I:Inv X pins σ H s)(hg:Gl X x)(hm:X.mg x=some u)(h:Q u s)
  (hd:(x==("__debug__" : Str))=false:=by decide):wpAny (model X.prog X.w) X.A (eval (.Name x pos) X.env) Q E s:=
 Calls.Name_function_global I.ok.kind hg (Calls.loadGlobal_global (by rw[I.ok.glob];exact I.mod.glob.keeps I.bk) hm h) hd
theorem Dh{E:Value->Shared->Prop}{pins:List (Addr×Obj)}{s:Shared}{σ:St}{H:Hp}{x:Str}{u:Value}{pos:Pos}{Q:Value->Shared->Prop}(I:Inv X pins σ H s)(hg:Gl X x)(hm:X.mg x=none)(hv:bootBuiltins x=some u)(h:Q u s)
  (hn:x ≠ "__name__" := by decide) (hd:(x==("__debug__" : Str))=false:=by decide):wpAny (model X.prog X.w) X.A (eval (.Name x pos) X.env) Q E s:=by
 obtain⟨mb,h1,h2⟩:=I.mod.blt;exact Calls.Name_function_global I.ok.kind hg (Calls.loadGlobal_builtin (by rw[I.ok.glob];exact I.mod.glob.keeps I.bk) hm (by rw[I.ok.blt];exact h1.keeps I.bk) ((h2 x hn).trans hv) h) hd
theorem E3{x:Str}{v:V}{u:Value}{pos:Pos}(hg:Gl X x)(hm:X.mg x=none)(hv:bootBuiltins x=some u)(r:Ag v u)(hn:x ≠ "__name__" := by decide)(hd:(x==("__debug__" : Str))=false:=by decide):PE X (.Name x pos) (tC v):=
 λ_ _ _ H _ I h=>Dh I hg hm hv ⟨v,H,I,r,h⟩ hn hd
def t2I (ta tb:TE) (k:Int->Int->Hp->Prop):St->Hp->Prop:=fun σ H=>ta σ H λx H1=>tb σ H1 λy H2=>∃i j,x = .int i/\y = .int j/\k i j H2
def tMul (ta tb:TE):TE:=fun σ H Q=>t2I ta tb (λi j H2=>(-(2 ^ 64)<i/\i<2 ^ 64)/\Q (.int (i * j)) H2) σ H
variable {a b:Expr}{ta tb:TE}{pos:Pos}
def tIsN (ta:TE):TE:=fun σ H Q=>ta σ H λx H1=>Q (.bl (decide (x = .non))) H1
def tB (t:TE):TT:=fun σ H Q=>t σ H λx H1=>∃c,x = .bl c/\Q c H1
theorem Di{e:Expr}{t:TE}(h:PE X e t)(he:∀whole,isTrue e X.env whole=(do let v <-whole;standAt e.pos;holding [v] (truthy v)):=by intro _;rfl):PT X e (tB t):=by
 intro pins s σ H Q I hw;refine isTrue_plain (thn (h pins s σ H _ I hw) λv s1 ⟨x,H1,I1,r1,q1⟩=>?_) (he _);obtain⟨d,rfl,q⟩:=q1;cases r1;exact wpAny_truthy_bool ⟨H1,I1,q⟩
variable {tA tB':TT}{rest:List Expr}
def tAnd (t u:TT):TT:=fun σ H Q=>t σ H λc H1=>if c=true then u σ H1 Q else Q false H1
def tOr (t u:TT):TT:=fun σ H Q=>t σ H λc H1=>if c=true then Q true H1 else u σ H1 Q
def tNot (t:TT):TT:=fun σ H Q=>t σ H λc H1=>Q (!c) H1
theorem E4(ha:PT X a tA):PW X (.BoolOp .And [a] pos) tA:=by
 intro wh pins s σ H Q I h;refine isTrue_and (thn (ha pins s σ H Q I h) λc s1 e=>?_);cases c with
 | true=>exact isTrue_and_nil e
 | false=>exact e
theorem E5(ha:PT X a tA):PW X (.BoolOp .Or [a] pos) tA:=by
 intro wh pins s σ H Q I h;refine isTrue_or (thn (ha pins s σ H Q I h) λc s1 e=>?_);cases c with
 | false=>exact isTrue_or_nil e
 | true=>exact e
theorem E6(ha:PT X a tA)(hb:PW X (.BoolOp .And (b::rest) pos) tB'):PW X (.BoolOp .And (a::b::rest) pos) (tAnd tA tB'):=by
 intro wh pins s σ H Q I h;refine isTrue_and (thn (ha pins s σ H _ I h) λc s1 ⟨H1,I1,q1⟩=>?_);cases c with
 | true=>exact hb wh pins s1 σ H1 Q I1 q1
 | false=>exact⟨H1,I1,q1⟩
theorem D1(ha:PT X a tA)(hb:PW X (.BoolOp .Or (b::rest) pos) tB'):PW X (.BoolOp .Or (a::b::rest) pos) (tOr tA tB'):=by
 intro wh pins s σ H Q I h;refine isTrue_or (thn (ha pins s σ H _ I h) λc s1 ⟨H1,I1,q1⟩=>?_);cases c with
 | true=>exact⟨H1,I1,q1⟩
 | false=>exact hb wh pins s1 σ H1 Q I1 q1
theorem D2(ha:PT X a tA):PT X (.UnaryOp .Not a pos) (tNot tA):=by
 intro pins s σ H Q I h;exact isTrue_not (ha pins s σ H (λc H1=>Q (!c) H1) I h)
def Xey (ta tb:TE):TE:=fun σ H Q=>ta σ H λx H1=>∃c,x = .bl c/\if c=true then tb σ H1 Q else Q (.bl false) H1
theorem D3{op}{t:TE}(h:PE X a t):PE X (.BoolOp op [a] pos) t:=λpins s σ H Q I hw=>BoolOp_one (h pins s σ H Q I hw)
theorem D4(ha:PE X a ta)(hb:PE X (.BoolOp .And (b::rest) pos) tb):PE X (.BoolOp .And (a::b::rest) pos) (Xey ta tb):=by
 intro pins s σ H Q I h;refine BoolOp_and (thn (ha pins s σ H _ I h) λv s1 ⟨x,H1,I1,r1,q1⟩=>?_);obtain⟨c,rfl,q1⟩:=q1;cases r1;refine wpAny_truthy_bool ?_;cases c with
 | true=>exact hb pins s1 σ H1 Q I1 q1
 | false=>exact⟨.bl false,H1,I1,rfl,q1⟩
def tIf (t:TT) (ta tb:TE):TE:=fun σ H Q=>t σ H λc H1=>if c=true then ta σ H1 Q else tb σ H1 Q
theorem Xaf{c:Expr}(hc:PT X c tA)(ha:PE X a ta)(hb:PE X b tb):PE X (.IfExp c a b pos) (tIf tA ta tb):=by
 intro pins s σ H Q I h;refine wpAny_IfExp (thn (hc pins s σ H _ I h) λd s1 ⟨H1,I1,q1⟩=>?_);cases d with
 | true=>exact ha pins s1 σ H1 Q I1 q1
 | false=>exact hb pins s1 σ H1 Q I1 q1
end
def SqL (K:PySem.W.Frag) (H:Hp) (a:Addr) (xs:List V):Prop:=
 Rd H a (.lst xs) \/
  ∃(o:Obj) (its:Array Value) (n:Nat),K.lookup a=some o/\o.cls = .type "list" /\ o.dict=none/\o.data = .seq its n/\its.size<=sizeLine/\Vals xs its.toList
def SqT (K:PySem.W.Frag) (H:Hp) (a:Addr) (xs:List V):Prop:=
 Rd H a (.tup xs) \/
  ∃(o:Obj) (its:Array Value) (n:Nat),K.lookup a=some o/\o.cls = .type "tuple" /\ o.data = .seq its n/\its.size<=sizeLine/\Vals xs its.toList
def absV:Value->Option V
 | .none=>some .non
 | .bool b=>some (.bl b)
 | .int i _=>some (.int i)
 | .str x _=>some (.str x)
 | .bytes b _=>some (.byt b)
 | .float b _=>some (.flt b)
 | .ref a=>some (.ref a)
 | .type n=>some (.ty n)
 | _=>none
theorem Ag.abs{x:V}{u:Value}(r:Ag x u):absV u=some x:=by
 cases x with
 | non=>cases r;rfl
 | bl _=>cases r;rfl
 | int _=>obtain⟨t,rfl⟩:=r;rfl
 | str _=>obtain⟨t,rfl⟩:=r;rfl
 | byt _=>obtain⟨t,rfl⟩:=r;rfl
 | flt _=>obtain⟨t,rfl⟩:=r;rfl
 | ref _=>cases r;rfl
 | ty _=>cases r;rfl
theorem Ag.inj{x y:V}{u:Value}(r:Ag x u)(q:Ag y u):x=y:=Ha (r.abs.symm.trans q.abs)
theorem Vals.inj:∀{xs ys:List V} {us:List Value},Vals xs us->Vals ys us->xs=ys
 | _,_,_,.nil,.nil=>rfl
 | _,_,_,.cons r t,.cons r' t'=>by rw[r.inj r',Vals.inj t t']
section
variable {X:Cx}{pins:List (Addr×Obj)}{σ:St}{H:Hp}{s:Shared}{a:Addr}{xs ys:List V}
theorem SqL.of{K:PySem.W.Frag}(h:H a=some (.lst xs)):SqL K H a xs:=.inl (.inl h)
theorem SqT.of{K:PySem.W.Frag}(h:H a=some (.tup xs)):SqT K H a xs:=.inl (.inl h)
theorem Inv.list(I:Inv X pins σ H s)(h:SqL X.K H a xs):∃its:List Value,Vals xs its/\PlainL s.heap a its.toArray/\xs.length<=sizeLine:=by
 rcases h with h | ⟨o,its,n,hk,hc,hd,hs,hz,r⟩
 ·obtain⟨z,its,n,r,e⟩:=h.ok I.hok;exact⟨its,r,⟨_,n,e,rfl,rfl,rfl⟩,z⟩
 ·refine⟨its.toList,r,⟨o,n,I.kIn a o hk,hc,hd,by simpa using hs⟩,?_⟩;have e:=r.length;simp only[G8] at e;omega
theorem Inv.tuple(I:Inv X pins σ H s)(h:SqT X.K H a xs):∃its:List Value,Vals xs its/\IsTup s.heap a its.toArray/\xs.length<=sizeLine:=by
 rcases h with h | ⟨o,its,n,hk,hc,hs,hz,r⟩
 ·obtain⟨z,its,r,p⟩:=h.ok I.hok;exact⟨its,r,p,z⟩
 ·refine⟨its.toList,r,⟨o,I.kIn a o hk,hc,n,by simpa using hs⟩,?_⟩;have e:=r.length;simp only[G8] at e;omega
theorem Inv.list_inj(I:Inv X pins σ H s)(h:SqL X.K H a xs)(h':SqL X.K H a ys):xs=ys:=by
 obtain⟨its,r,⟨o,n,e,_,_,d⟩,_⟩:=I.list h;obtain⟨its',r',⟨o',n',e',_,_,d'⟩,_⟩:=I.list h';rw[e] at e';cases e';rw[d] at d';injection d' with d1 _
 have:its=its':=by simpa using congrArg Array.toList d1
 subst this;exact r.inj r'
theorem Inv.tuple_inj(I:Inv X pins σ H s)(h:SqT X.K H a xs)(h':SqT X.K H a ys):xs=ys:=by
 obtain⟨its,r,⟨o,e,_,n,d⟩,_⟩:=I.tuple h;obtain⟨its',r',⟨o',e',_,n',d'⟩,_⟩:=I.tuple h';rw[e] at e';cases e';rw[d] at d';injection d' with d1 _
 have:its=its':=by simpa using congrArg Array.toList d1
 subst this;exact r.inj r'
end
abbrev Cx.wish (X:Cx) (E:Value->Shared->Prop):Cx:={X with xe:=E}
abbrev Cx.nox (X:Cx):Cx:=X.wish λ_ _=>False
theorem Cx.Ok.wish{X:Cx}(ok:X.Ok)(E:Value->Shared->Prop):(X.wish E).Ok:=
 ⟨ok.mod,ok.kind,ok.glob,ok.blt,ok.above,ok.inj,ok.has,ok.cab,ok.hd,ok.frames,ok.stk,ok.exf,ok.bs,ok.bsz,ok.noex,ok.exfs,ok.funs,ok.frf⟩
theorem Cx.Ok.unwish{X:Cx}{E:Value->Shared->Prop}(ok:(X.wish E).Ok):X.Ok:=
 ⟨ok.mod,ok.kind,ok.glob,ok.blt,ok.above,ok.inj,ok.has,ok.cab,ok.hd,ok.frames,ok.stk,ok.exf,ok.bs,ok.bsz,ok.noex,ok.exfs,ok.funs,ok.frf⟩
section
variable {X:Cx}{pins:List (Addr×Obj)}{σ:St}{H:Hp}{s:Shared}{E:Value->Shared->Prop}
theorem Inv.wish(I:Inv X pins σ H s)(E:Value->Shared->Prop):Inv (X.wish E) pins σ H s:=⟨I.ok.wish E,I.os,I.bare,I.base,I.loc,I.cell,I.free,I.freeC,I.pin,I.hok,I.len⟩
theorem Inv.unwish(I:Inv (X.wish E) pins σ H s):Inv X pins σ H s:=⟨I.ok.unwish,I.os,I.bare,I.base,I.loc,I.cell,I.free,I.freeC,I.pin,I.hok,I.len⟩
theorem SP.unwish{D:Ends}{f:Flow}{s':Shared}(h:SP (X.wish E) pins D f s'):SP X pins D f s':=by
 cases f with
 | next=>obtain⟨σ',H',I,q⟩:=h;exact⟨σ',H',I.unwish,q⟩
 | brk=>obtain⟨σ',H',I,q⟩:=h;exact⟨σ',H',I.unwish,q⟩
 | cont=>obtain⟨σ',H',I,q⟩:=h;exact⟨σ',H',I.unwish,q⟩
 | ret u=>obtain⟨v, σ',H',I,r,q⟩:=h;exact⟨v, σ',H',I.unwish,r,q⟩
theorem PSs.nox{st:List Stmt}{t:TS}(h:PSs X.nox st t):PSs X st t:=λpins s σ H D I hw=>
 wpAny_mono (h pins s σ H D (I.wish _) hw) (λ_ _ q=>q.unwish) λ_ _ z=>False.elim z
end
section
variable {X:Cx}{st:Stmt}{rest:List Stmt}{t u:TS}{e:Expr}{te:TE}{pos:Pos}
def Xez:TS:=λD σ H=>D.nx σ H
def E7 (t u:TS):TS:=λD σ H=>t {D with nx:=u D} σ H
theorem A8:PSs X [] Xez:=λ_ _ σ H _ I h=>wpAny_execs_nil ⟨σ,H,I,h⟩
theorem Ae(h1:PS X st t)(h2:PSs X rest u):PSs X (st::rest) (E7 t u):=by
 intro pins s σ H D I h;refine wpAny_execs_cons (thn (h1 pins s σ H {D with nx:=u D} I h) λf s1 q=>?_);cases f with
 | next=>
  obtain⟨σ',H',I',q⟩:=q;exact h2 pins s1 σ' H' D I' q
 | ret v=>exact q
 | brk=>exact q
 | cont=>exact q
theorem Ah(h1:PS X st t):PSs X [st] t:=by
 intro pins s σ H D I h;refine wpAny_execs_cons (thn (h1 pins s σ H D I h) λf s1 q=>?_);cases f with
 | next=>exact wpAny_execs_nil q
 | ret v=>exact q
 | brk=>exact q
 | cont=>exact q
theorem Inv.quiet{pins:List (Addr×Obj)}{σ:St}{H:Hp}{s:Shared}(I:Inv X pins σ H s):interactive X.env=false:=by simp[interactive,I.ok.kind]
def Xe0 (te:TE):TS:=λD σ H=>te σ H λ_ H1=>D.nx σ H1
theorem Xag(he:PE X e te)(hs:swapsWith e none pos.line X.env=pure false:=by rfl):PS X (.Expr e pos) (Xe0 te):=by
 intro pins s σ H D I h;exact wpAny_Expr_any (thn (he pins s σ H _ I h) λv s1 ⟨x,H1,I1,r1,q1⟩=>⟨σ,H1,I1,q1⟩) I.quiet hs
def tRet (te:TE):TS:=λD σ H=>te σ H D.rt
theorem Au(he:PE X e te):PS X (.Return (some e) pos) (tRet te):=by
 intro pins s σ H D I h;exact wpAny_Return_some (thn (he pins s σ H _ I h) λv s1 ⟨x,H1,I1,r1,q1⟩=>⟨x, σ,H1,I1,r1,q1⟩)
def D6 (c:TT) (t u:TS):TS:=λD σ H=>c σ H λb H1=>if b=true then t D σ H1 else u D σ H1
theorem A6{c:Expr}{a b:List Stmt}{tc:TT}(hc:PT X c tc)(ha:PSs X a t)(hb:PSs X b u):PS X (.If c a b pos) (D6 tc t u):=by
 intro pins s σ H D I h;refine wpAny_If (thn (hc pins s σ H _ I h) λd s1 ⟨H1,I1,q1⟩=>?_);cases d with
 | true=>exact ha pins s1 σ H1 D I1 q1
 | false=>exact hb pins s1 σ H1 D I1 q1
def Xkj:TS:=λ_ _ _=>False
end
abbrev TG:=V->St->Hp->(St->Hp->Prop)->Prop
abbrev TGs:=List V->St->Hp->(St->Hp->Prop)->Prop
def PG (X:Cx) (target:Expr) (t:TG):Prop:=
 ∀(pins:List (Addr×Obj)) (s:Shared) (σ:St) (H:Hp) (v:V) (u:Value) (Q:St->Hp->Prop),Inv X pins σ H s->Ag v u->t v σ H Q ->
  wpAny (model X.prog X.w) X.A (assign target X.env u) (λ_ s'=>∃σ' H',Inv X pins σ' H' s'/\Q σ' H') X.xe s
def PGs (X:Cx) (ts:List Expr) (t:TGs):Prop:=
 ∀(pins:List (Addr×Obj)) (s:Shared) (σ:St) (H:Hp) (vs:List V) (us:List Value) (Q:St->Hp->Prop),Inv X pins σ H s->Vals vs us->t vs σ H Q ->
  wpAny (model X.prog X.w) X.A (assignInOrder ((assignEach ts X.env).map (·.2)) us) (λ_ s'=>∃σ' H',Inv X pins σ' H' s'/\Q σ' H') X.xe s
abbrev TSet:=V->V->V->Hp->(Hp->Prop)->Prop
def PSet (X:Cx) (t:TSet):Prop:=
 ∀(pins:List (Addr×Obj)) (s:Shared) (σ:St) (H:Hp) (o i v:V) (ov iv u:Value) (Q:Hp->Prop),Inv X pins σ H s->Ag o ov->Ag i iv->Ag v u->t o i v H Q ->
  wpAny (model X.prog X.w) X.A (setItem ov iv u) (λ_ s'=>∃H',Inv X pins σ H' s'/\Q H') X.xe s
abbrev TIp:=V->V->Hp->VK->Prop
section
variable {X:Cx}{pos:Pos}
def A0 (i:Nat):TG:=λv σ H Q=>Q (σ.set i (some v)) H
theorem A7{i:Nat}{x:Str}(hN:X.N.Nodup)(hi:X.N[i]? = some x)(hx:Loc X.env.scope x)(hf:X.fn x=true\/X.env.scope.names.lookup x=some .local:=by first | exact .inl rfl | exact .inr rfl | assumption):PG X (.Name x pos) (A0 i):=by
 intro pins s σ H v u Q I r h;exact wpAny_assign_Name (Xad I hN hi hx r (λs' I'=>⟨_,H,I',h⟩) hf)
def gNil:TGs:=λvs σ H Q=>vs=[]/\Q σ H
def Xe1 (t:TG) (u:TGs):TGs:=λvs σ H Q=>∃v r,vs=v::r/\t v σ H fun σ' H'=>u r σ' H' Q
theorem Xah:PGs X [] gNil:=by
 intro pins s σ H vs us Q I r h;obtain⟨e,h⟩:=h;subst e;cases r;exact assignInOrder_nil ⟨σ,H,I,h⟩
theorem D7{e:Expr}{es:List Expr}{t:TG}{u:TGs}(h1:PG X e t)(h2:PGs X es u)
  (hs:(assignEach (e::es) X.env).map (·.2)=assign e X.env::(assignEach es X.env).map (·.2):=by rfl):PGs X (e::es) (Xe1 t u):=by
 intro pins s σ H vs us Q I r h;obtain⟨v,vr,e1,h⟩:=h;subst e1;cases r with
 | cons r rr=>
  rw[hs];refine assignInOrder_cons (thn (h1 pins s σ H _ _ _ I r h) λ_ s1 ⟨σ1,H1,I1,q1⟩=>?_);exact h2 pins s1 σ1 H1 _ _ Q I1 rr q1
def Xai (K:PySem.W.Frag) (n:Nat) (t:TGs):TG:=λv σ H Q=>∃a xs,v = .ref a/\SqT K H a xs/\xs.length=n/\t xs σ H Q
theorem Xe2{es:List Expr}{k:Nat}{t:TGs}{n:Nat}(hc:X.calm=true)(h:PGs X es t)
  (hn:(assignEach es X.env).length=n:=by rfl) (hst:(assignEach es X.env).findIdx? (·.1)=none:=by rfl):PG X (.Tuple es k pos) (Xai X.K n t):=by
 intro pins s σ H v u Q I r hw;obtain⟨a,xs,e1,hq,hl,hw⟩:=hw;subst e1;cases r;obtain⟨its,rv,ht,hz⟩:=I.tuple hq;refine assign_Tuple_tuple (I.ok.hd hc) ht (by simp[hn,<-hl,rv.length]) hst λh' hx=>?_;have I1:Inv X pins σ H {s with heap:=h'}:=I.kept (t':=s.toks) λb o e=>hx b o (G7 (Ki e)) e;exact h pins _ σ H xs _ Q I1 (by simpa using rv) hw
def gSub (to ti:TE) (t:TSet):TG:=λv σ H Q=>to σ H λo H1=>ti σ H1 λi H2=>t o i v H2 λH3=>Q σ H3
theorem Cd{o i:Expr}{to ti:TE}{t:TSet}(ho:PE X o to)(hi:PE X i ti)(hs:PSet X t)
  (ha:∀v,assign (.Subscript o i pos) X.env v=(do
   let ov <-holding [v] (eval o X.env)
   let iv <-holding [v,ov] (eval i X.env)
   standAt pos
   holding [v,ov,iv] (setItem ov iv v)
   release [v,ov,iv] []):=by intro _;rfl):PG X (.Subscript o i pos) (gSub to ti t):=by
 intro pins s σ H v u Q I r h;rw[ha];refine J9 (wpAny_holding (thn (ho pins s σ H _ I h) λov s1 ⟨x,H1,I1,r1,q1⟩=>?_));refine J9 (wpAny_holding (thn (hi pins s1 σ H1 _ I1 q1) λiv s2 ⟨y,H2,I2,r2,q2⟩=>?_));refine J9 (wpAny_standAt (J9 (wpAny_holding (thn (hs pins s2 σ H2 x y v ov iv u _ I2 r1 r2 r q2) λ_ s3 ⟨H3,I3,q3⟩=>?_))));exact wpAny_release ⟨σ,H3,I3,q3⟩
def Xaj (te:TE) (g:TG):TS:=λD σ H=>te σ H λx H1=>g x σ H1 D.nx
theorem B6{tg e:Expr}{te:TE}{g:TG}(he:PE X e te)(hg:PG X tg g)(hs:swapsWithSole [tg] e pos.line X.env=pure false:=by rfl)(hw:swappedStores [tg] e X.env=pure none:=by rfl)
  (h1:(assignEach [tg] X.env).map (·.2)=[assign tg X.env]:=by rfl):PS X (.Assign [tg] e pos) (Xaj te g):=by
 intro pins s σ H D I h;refine wpAny_Assign_stores (thn (he pins s σ H _ I h) λv s1 ⟨x,H1,I1,r1,q1⟩=>?_) hs hw;rw[h1];exact thn (hg pins s1 σ H1 x v _ I1 r1 q1) λ_ s2 q=>q
theorem Am{i:Nat}{x:Str}{e:Expr}{te:TE}{pos':Pos}(hN:X.N.Nodup)(hi:X.N[i]? = some x)(hx:Loc X.env.scope x)(he:PE X e te)(hs:swapsWith e (some (.Name x pos')) pos.line X.env=pure false:=by rfl)(hf:X.fn x=true\/X.env.scope.names.lookup x=some .local:=by first | exact .inl rfl | exact .inr rfl | assumption):
  PS X (.Assign [.Name x pos'] e pos) (Xaj te (A0 i)):=by
 intro pins s σ H D I h;refine wpAny_Assign_Name (thn (he pins s σ H _ I h) λv s1 ⟨y,H1,I1,r1,q1⟩=>?_) hs;exact Xad I1 hN hi hx r1 (λs2 I2=>⟨_,H1,I2,q1⟩) hf
def tPar (i j:Nat) (ta:TA):TS:=λD σ H=>ta σ H λvs H1=>∃v w,vs=[v,w]/\D.nx ((σ.set i (some v)).set j (some w)) H1
def tAug (i:Nat) (te:TE) (ti:TIp):TS:=λD σ H=>∃x, σ[i]? = some (some x)/\te σ H λy H1=>ti x y H1 λz H2=>D.nx (σ.set i (some z)) H2
def tAugS (to ti te:TE) (tget:V->V->Hp->VK->Prop) (tip:TIp) (tset:TSet):TS:=λD σ H=>to σ H λo H1=>ti σ H1 λi H2=>tget o i H2 λx H3=>te σ H3 λy H4=>tip x y H4 λz H5=>tset o i z H5 λH6=>D.nx σ H6
def PGet (X:Cx) (t:V->V->Hp->VK->Prop):Prop:=
 ∀(pins:List (Addr×Obj)) (s:Shared) (σ:St) (H:Hp) (o i:V) (ov iv:Value) (Q:VK),Inv X pins σ H s->Ag o ov->Ag i iv->t o i H Q ->
  wpAny (model X.prog X.w) X.A (getItem ov iv) (EP X pins σ Q) X.xe s
def ipI (f:Int->Int->Int):TIp:=λx y H Q=>∃i j,x = .int i/\y = .int j/\Q (.int (f i j)) H
end
section
variable {X:Cx}{pos:Pos}
def Xkk (c:TT) (tb:TS):TS:=λD σ H=>∃W:Nat->St->Hp->Prop,(∃m,W m σ H)/\∀m σ H,W m σ H ->
 c σ H λb H1=>if b=true then ∃N:St->Hp->Prop,(∀σ' H',N σ' H'->∃m',m'<m/\W m' σ' H')/\tb {D with nx:=N,ct:=N,bk:=D.nx} σ H1 else D.nx σ H1
end
structure It where
 go:Nat->Hp->Prop
 yld:Nat->Hp->V->Hp->Prop
 stop:Nat->Hp->Prop
def FpOk (X:Cx) (pins:List (Addr×Obj)) (H:Hp) (b:Addr):Prop:=
 H b=none/\b≠X.env.locals/\b∉X.fs/\(b∈X.ex\/X.s₀.heap.objs.size<=b)/\(∀x c,X.env.cells.lookup x=some c->c≠b)/\∀p∈X.pn++pins,p.1≠b
theorem Inv.fpOk{X:Cx}{pins:List (Addr×Obj)}{σ:St}{H H':Hp}{s:Shared}{b:Addr}(I:Inv X pins σ H s)(hb:s.heap.objs.size<=b)(hn:H' b=none):FpOk X pins H' b:=by
 refine⟨hn,Nat.ne_of_gt (Hf I.lt hb),I.nofs hb,.inr (Hx I.sz hb),λx c e z=>?_,λp hp z=>?_⟩
 ·obtain⟨v,q⟩:=I.cell x c e;exact absurd (Hf q.lt (by rw[z];exact hb)) (Ht _)
 ·exact absurd (Hf (Ki (I.pin p hp).1) (by rw[z];exact hb)) (Ht _)
structure Turn (P:Program) (w:World) (K:PySem.W.Frag) (tg:Expr) (J:It) (fp:List Addr) (it:Addr) (tn:Nat->Heap->Prop):Prop where
 mem:it∈fp
 obj:∀i h,tn i h->∀b∈fp,∃o,h.get? b=some o/\∀v,o.data ≠ .cell v
 keep:∀i h h',tn i h->(∀b∈fp,∀o,h.get? b=some o->h'.get? b=some o)->tn i h'
 item:∀(X:Cx),X.prog=P->X.w=w->X.K=K->X.calm=true->∀(i:Nat) (pins:List (Addr×Obj)) (s:Shared) (σ:St) (H:Hp) (E:Value->Shared->Prop),Inv X pins σ H s->(∀b∈fp,FpOk X pins H b)->tn i s.heap->J.go i H ->
  wpAny (model P w) X.A (pyNext (.ref it)) (λr s1=>∃u,r=some u /\
   wpAny (model P w) X.A (letOwnedTupleGo tg (.ref it) u) (λ_ s2=>∃x H',Inv X pins σ H' s2/\Ag x u/\J.yld i H x H'/\tn (i+1) s2.heap/\∀b∈fp,H' b=none) E s1) E s
 done:∀(X:Cx),X.prog=P->X.w=w->X.K=K->X.calm=true->∀(i:Nat) (pins:List (Addr×Obj)) (s:Shared) (σ:St) (H:Hp) (E:Value->Shared->Prop),Inv X pins σ H s->(∀b∈fp,FpOk X pins H b)->tn i s.heap->J.stop i H ->
  wpAny (model P w) X.A (pyNext (.ref it)) (λr s1=>r=none/\Inv X pins σ H s1) E s
 self:∀(A:Around) (i:Nat) (s:Shared) (Q:Value->Shared->Prop) (E:Value->Shared->Prop),tn i s.heap->Q (.ref it) s->wpAny (model P w) A (pyIter (.ref it)) Q E s
abbrev TI:=St->Hp->(It->Hp->Prop)->Prop
def PIE (X:Cx) (pins:List (Addr×Obj)) (σ:St) (tg:Expr) (R:It->Hp->Prop) (itv:Value) (s2:Shared):Prop:=
 ∃(it:Addr) (fp:List Addr) (tn:Nat->Heap->Prop) (J:It) (H':Hp),itv = .ref it/\Inv X pins σ H' s2/\Turn X.prog X.w X.K tg J fp it tn/\tn 0 s2.heap/\(∀b∈fp,FpOk X pins H' b)/\R J H'
def PI (X:Cx) (tg iter:Expr) (wi:TI):Prop:=
 ∀(pins:List (Addr×Obj)) (s:Shared) (σ:St) (H:Hp) (R:It->Hp->Prop),Inv X pins σ H s->wi σ H R ->
  wpAny (model X.prog X.w) X.A (eval iter X.env) (λv s1=>wpAny (model X.prog X.w) X.A (pyIter v) (PIE X pins σ tg R) X.xe s1) X.xe s
theorem D8{M:Model}{A:Around}{E:Value->Shared->Prop}{s:Shared}{tg:Expr}{it:Addr}{u:Value}{o:Obj}{n:String}{vs:Array Value}{Q:Unit->Shared->Prop}(ho:s.heap.get? it=some o)(hc:o.cls = .type n)(hd:o.data = .fields vs)
    (hn:["enumerate", "zip", "dict_itemiterator", "dict_reverseitemiterator", "odict_iterator", "itertools.zip_longest", "itertools.pairwise"].contains n=false) (hQ:Q () s):wpAny M A (letOwnedTupleGo tg (.ref it) u) Q E s:=by
  unfold letOwnedTupleGo;cases tg<;>first
    | exact Ka hQ
    | (cases u<;>first
        | exact Ka hQ
        | (refine J9 (wpAny_load ho ?_)
           rw[hc,hd];show wpAny M A (if (["enumerate", "zip", "dict_itemiterator", "dict_reverseitemiterator", "odict_iterator", "itertools.zip_longest", "itertools.pairwise"].contains n&&vs[0]? == some (rawInt _))=true then _ else _) Q E s;rw[Kc (by intro h;rw[hn,Bool.false_and] at h;cases h)];exact Ka hQ))
def Itl (K:PySem.W.Frag) (a:Addr):It:=
 ⟨λi H=>∃xs x,SqL K H a xs/\xs[i]? = some x,λi H x H'=>H'=H/\∀xs,SqL K H a xs->xs[i]? = some x,λi H=>∃xs,SqL K H a xs/\xs.length<=i⟩
def Itt (K:PySem.W.Frag) (a:Addr):It:=
 ⟨λi H=>∃xs x,SqT K H a xs/\xs[i]? = some x,λi H x H'=>H'=H/\∀xs,SqT K H a xs->xs[i]? = some x,λi H=>∃xs,SqT K H a xs/\xs.length<=i⟩
def Itr (lo:Int) (n:Nat):It:=⟨λi _=>i<n,λi H x H'=>H'=H/\x = .int (lo+i),λi _=>n<=i⟩
theorem Xe3{P:Program}{w:World}{K:PySem.W.Frag}{tg:Expr}(a it:Addr):Turn P w K tg (Itl K a) [it] it (λi h=>h.IsListIter it a i) where
 mem:=by simp
 obj:=λi h st b hb=>by
  have e:b=it:=by simpa using hb
  subst e;obtain⟨o,e,c,d⟩:=st;exact⟨o,e,λv z=>by rw[d] at z;cases z⟩
 keep:=λi h h' st k=>st.at λo e=>k it (by simp) o e
 item:=by
  intro X hP hw hK hc i pins s σ H E I hf st hg;subst hP hw hK;obtain⟨xs,x,hq,hx⟩:=hg;obtain⟨its,rv,p,hz⟩:=I.list hq;obtain⟨u,hu,ru⟩:=rv.get hx;obtain⟨f0,f1,f2,f3,f4,f5⟩:=hf it (by simp);refine wpAny_pyNext_list_item st p.isList (x:=u) (by simpa using hu) λh' st' sb=>?_;have I1:Inv X pins σ H {s with heap:=h'}:=I.turned (t':=s.toks) (λb o hb e=>(sb.2 b hb).trans e) f0 f1 f3 f4 f5;obtain⟨o,e,c,d⟩:=id st';exact⟨u,rfl,D8 (s:={s with heap:=h'}) e c d (by decide) ⟨x,H,I1,ru,⟨rfl,λys hy=>by rw[I.list_inj hy hq];exact hx⟩,st',λb hb=>(hf b hb).1⟩⟩
 done:=by
  intro X hP hw hK hc i pins s σ H E I hf st hg;subst hP hw hK;obtain⟨xs,hq,hx⟩:=hg;obtain⟨its,rv,p,hz⟩:=I.list hq;obtain⟨f0,f1,f2,f3,f4,f5⟩:=hf it (by simp);have hl:=rv.length;exact wpAny_pyNext_list_end (I.ok.hd hc) st p.isList (by simp;omega) λh' eb=>⟨rfl,I.turned (t':=s.toks) (λb o hb e=>eb b o hb e) f0 f1 f3 f4 f5⟩
 self:=λ_ _ _ _ _ st h=>wpAny_pyIter_listiter st h
theorem Xe4{P:Program}{w:World}{K:PySem.W.Frag}{tg:Expr}(a it:Addr):Turn P w K tg (Itt K a) [it] it (λi h=>h.IsTupleIter it a i) where
 mem:=by simp
 obj:=λi h st b hb=>by
  have e:b=it:=by simpa using hb
  subst e;obtain⟨o,e,c,d⟩:=st;exact⟨o,e,λv z=>by rw[d] at z;cases z⟩
 keep:=λi h h' st k=>st.at λo e=>k it (by simp) o e
 item:=by
  intro X hP hw hK hc i pins s σ H E I hf st hg;subst hP hw hK;obtain⟨xs,x,hq,hx⟩:=hg;obtain⟨its,rv,p,hz⟩:=I.tuple hq;obtain⟨u,hu,ru⟩:=rv.get hx;obtain⟨f0,f1,f2,f3,f4,f5⟩:=hf it (by simp);refine wpAny_pyNext_tuple_item st (show s.heap.IsTuple a its.toArray from p) (x:=u) (by simpa using hu) λh' st' sb=>?_;have I1:Inv X pins σ H {s with heap:=h'}:=I.turned (t':=s.toks) (λb o hb e=>(sb.2 b hb).trans e) f0 f1 f3 f4 f5;obtain⟨o,e,c,d⟩:=id st';exact⟨u,rfl,D8 (s:={s with heap:=h'}) e c d (by decide) ⟨x,H,I1,ru,⟨rfl,λys hy=>by rw[I.tuple_inj hy hq];exact hx⟩,st',λb hb=>(hf b hb).1⟩⟩
 done:=by
  intro X hP hw hK hc i pins s σ H E I hf st hg;subst hP hw hK;obtain⟨xs,hq,hx⟩:=hg;obtain⟨its,rv,p,hz⟩:=I.tuple hq;obtain⟨f0,f1,f2,f3,f4,f5⟩:=hf it (by simp);have hl:=rv.length;exact wpAny_pyNext_tuple_end (I.ok.hd hc) st (show s.heap.IsTuple a its.toArray from p) (by simp;omega) λh' eb=>⟨rfl,I.turned (t':=s.toks) (λb o hb e=>eb b o hb e) f0 f1 f3 f4 f5⟩
 self:=λ_ _ _ _ _ st h=>wpAny_pyIter_tupleiter st h
theorem Xe5{P:Program}{w:World}{K:PySem.W.Frag}{tg:Expr}(it:Addr)(lo:Int)(n:Nat):Turn P w K tg (Itr lo n) [it] it (λi h=>IsRangeIter h it (lo+(i:Nat) * 1) ((n:Int) - (i:Nat)) 1) where
 mem:=by simp
 obj:=λi h st b hb=>by
  have e:b=it:=by simpa using hb
  subst e;exact⟨_,st,λv z=>by
   have z':Data.fields _=Data.cell v:=z;cases z'⟩
 keep:=λi h h' st k=>k it (by simp) _ st
 item:=by
  intro X hP hw hK hc i pins s σ H E I hf st hg;subst hP hw hK;obtain⟨f0,f1,f2,f3,f4,f5⟩:=hf it (by simp);have W:=Walks.range (prog:=X.prog) (w:=X.w) (I.ok.hd hc) it lo 1 n;refine W.item i s _ _ hg st λv h' tk hv st' kk=>?_;obtain⟨t,rfl⟩:=hv;have I1:Inv X pins σ H {s with heap:=h',toks:=tk}:=I.turned (λb o hb e=>kk b o (by simpa using hb) e) f0 f1 f3 f4 f5;refine⟨_,rfl,D8 (s:={s with heap:=h',toks:=tk}) (n := "range_iterator") st' rfl rfl (by decide) ⟨.int (lo+i),H,I1,⟨t,?_⟩,⟨rfl,rfl⟩,st',λb hb=>(hf b hb).1⟩⟩;rw[Int.mul_one]
 done:=by
  intro X hP hw hK hc i pins s σ H E I hf st hg;subst hP hw hK;obtain⟨f0,f1,f2,f3,f4,f5⟩:=hf it (by simp);exact wpAny_pyNext_range_end (I.ok.hd hc) st (by have:n<=i:=hg;omega) λh' eb=>⟨rfl,I.turned (t':=s.toks) (λb o hb e=>eb b o hb e) f0 f1 f3 f4 f5⟩
 self:=λ_ _ _ _ _ st h=>wpAny_pyIter_rangeiter st h
section
variable {X:Cx}{tg:Expr}
def Xe6 (K:PySem.W.Frag) (tl:TE):TI:=fun σ H R=>tl σ H λx H1=>∃a,x = .ref a/\(∃xs,SqL K H1 a xs)/\R (Itl K a) H1
def iTup (K:PySem.W.Frag) (tl:TE):TI:=fun σ H R=>tl σ H λx H1=>∃a,x = .ref a/\(∃xs,SqT K H1 a xs)/\R (Itt K a) H1
theorem Co{l:Expr}{tl:TE}(hl:PE X l tl):PI X tg l (Xe6 X.K tl):=by
 intro pins s σ H R I h;refine thn (hl pins s σ H _ I h) λv s1 ⟨x,H1,I1,r1,q1⟩=>?_;obtain⟨a,e,⟨xs,hq⟩,q⟩:=q1;subst e;cases r1;obtain⟨its,rv,p,hz⟩:=I1.list hq;refine wpAny_pyIter_list p.isList ?_;refine⟨s1.heap.objs.size,[s1.heap.objs.size],_,_,H1,rfl,I1.kept (t':=s1.toks) λb o e=>Kj _ e,Xe3 a _,⟨_,Heap.get?_push_size _ rfl,rfl,rfl⟩,λb hb=>?_,q⟩;have e:b=s1.heap.objs.size:=by simpa using hb
 subst e;exact I1.fpOk (G5 _) (I1.hok.fresh (G5 _))
theorem E8{l:Expr}{tl:TE}(hl:PE X l tl):PI X tg l (iTup X.K tl):=by
 intro pins s σ H R I h;refine thn (hl pins s σ H _ I h) λv s1 ⟨x,H1,I1,r1,q1⟩=>?_;obtain⟨a,e,⟨xs,hq⟩,q⟩:=q1;subst e;cases r1;obtain⟨its,rv,p,hz⟩:=I1.tuple hq;refine wpAny_pyIter_tuple (show s1.heap.IsTuple a its.toArray from p) ?_;refine⟨s1.heap.objs.size,[s1.heap.objs.size],_,_,H1,rfl,I1.kept (t':=s1.toks) λb o e=>Kj _ e,Xe4 a _,⟨_,Heap.get?_push_size _ rfl,rfl,rfl⟩,λb hb=>?_,q⟩;have e:b=s1.heap.objs.size:=by simpa using hb
 subst e;exact I1.fpOk (G5 _) (I1.hok.fresh (G5 _))
theorem Xe7{pins:List (Addr×Obj)}{σ:St}{H:Hp}{s:Shared}{R:It->Hp->Prop}{E:Value->Shared->Prop}{lo hi:Int}{t u v:Tok}{tk:Nat}(I:Inv X pins σ H s)(h1 : -(2 ^ 62)<=lo)(h2:lo<2 ^ 62)(h3 : -(2 ^ 62)<=hi)(h4:hi<2 ^ 62)
  (q:R (Itr lo (hi - lo).toNat) H):wpAny (model X.prog X.w) X.A (pyIter (.ref s.heap.objs.size)) (PIE X pins σ tg R) E {s with heap:=s.heap.push {cls:=.type "range",data:=.fields #[.int lo t,.int hi u,.int 1 v]},toks:=tk}:=by
 refine wpAny_pyIter_range (IsRange.new ..) (small_one h1 h2 h3 h4) ?_;have I1:Inv X pins σ H {s with heap:=s.heap.push {cls:=.type "range",data:=.fields #[.int lo t,.int hi u,.int 1 v]},toks:=tk}:=I.kept λb o e=>Kj _ e;refine⟨(s.heap.push {cls:=.type "range",data:=.fields #[.int lo t,.int hi u,.int 1 v]}).objs.size,[(s.heap.push {cls:=.type "range",data:=.fields #[.int lo t,.int hi u,.int 1 v]}).objs.size],_,_,H,rfl,
  I1.kept (t':=tk) λb o e=>Kj _ e,Xe5 _ lo (hi - lo).toNat,?_,λb hb=>?_,q⟩
 ·have e1:lo+((0:Nat):Int) * 1=lo:=by simp
  have e2:(((hi - lo).toNat:Nat):Int) - ((0:Nat):Int)=Builtin.Range.rangeSize lo hi 1:=by rw[rangeSize_one];split<;>omega
  show IsRangeIter _ _ (lo+((0:Nat):Int) * 1) ((((hi - lo).toNat:Nat):Int) - ((0:Nat):Int)) 1;rw[e1,e2];exact Heap.get?_push_size _ rfl
 ·have e:b=(s.heap.push {cls:=.type "range",data:=.fields #[.int lo t,.int hi u,.int 1 v]}).objs.size:=by simpa using hb
  subst e;exact I1.fpOk (G5 _) (I1.hok.fresh (G5 _))
def Xe8 (ta:TA):TI:=fun σ H R=>ta σ H λvs H1=>∃j:Int,vs=[.int j] /\ -(2 ^ 62)<=j/\j<2 ^ 62/\R (Itr 0 j.toNat) H1
theorem Cp{a:Expr}{ta:TA}{p pos:Pos}(hg:Gl X "range")(hm:X.mg "range" = none)(ha:PA X [a] ta)(hs:starEach [a] X.env=[(false,eval a X.env)]:=by rfl):PI X tg (.Call (.Name "range" p) [a] [] pos) (Xe8 ta):=by
 intro pins s σ H R I h;refine Call_ (Dh I hg hm boot_range (PyProof.Rows.callWith_type1 (thn (ha pos pins s σ H _ I h) λus s1 ⟨vs,H1,I1,r1,q1⟩=>?_) hs rfl));obtain⟨j,e,q1,q2,q⟩:=q1;subst e;cases r1 with
 | cons r rr=>
  cases rr;obtain⟨t,rfl⟩:=r;exact call_range_1 (Xe7 I1 (by omega) (by omega) q1 q2 (by simpa using q))
def tFor (wi:TI) (g:TG) (tb:TS):TS:=λD σ H=>wi σ H λJ H1=>∃W:Nat->Nat->St->Hp->Prop,(∃m,W 0 m σ H1)/\∀i m σ H,W i m σ H ->
 (J.stop i H/\D.nx σ H)\/(J.go i H/\∃N:St->Hp->Prop,(∀σ' H',N σ' H'->∃m',m'<m/\W (i+1) m' σ' H')/\∀x H',J.yld i H x H'->g x σ H' fun σ2 H2=>tb {D with nx:=N,ct:=N,bk:=D.nx} σ2 H2)
def Dj (fp:List Addr) (h:Heap):List (Addr×Obj):=fp.filterMap λb=>(h.get? b).map λo=>(b,o)
theorem D9{fp:List Addr}{h:Heap}{b:Addr}{o:Obj}(hb:b∈fp)(e:h.get? b=some o):(b,o)∈Dj fp h:=List.mem_filterMap.mpr ⟨b,hb,by rw[e];rfl⟩
theorem Xe9{fp:List Addr}{h:Heap}{p:Addr×Obj}(hp:p∈Dj fp h):p.1∈fp/\h.get? p.1=some p.2:=by
 obtain⟨b,hb,e⟩:=List.mem_filterMap.mp hp;cases q:h.get? b with
 | none=>rw[q] at e;cases e
 | some o=>
  rw[q] at e;have e':(b,o)=p:=Ha e;subst e';exact⟨hb,q⟩
theorem Inv.pinned{pins:List (Addr×Obj)}{σ:St}{H:Hp}{s:Shared}{fp:List Addr}(I:Inv X pins σ H s)(hf:∀b∈fp,FpOk X pins H b)(ho:∀b∈fp,∃o,s.heap.get? b=some o/\∀v,o.data ≠ .cell v):Inv X (pins++Dj fp s.heap) σ H s:=
 I.pins_of λp hp=>(Hn.mp hp).elim (λz=>I.pin p (Ho _ z)) λz=>by
  obtain⟨hb,e⟩:=Xe9 z;obtain⟨f0,f1,f2,_⟩:=hf p.1 hb;obtain⟨o,e',d⟩:=ho p.1 hb;rw[e] at e';cases e';exact⟨e,f0,f1,f2,d⟩
theorem Inv.unpinned{pins pl:List (Addr×Obj)}{σ:St}{H:Hp}{s:Shared}(I:Inv X (pins++pl) σ H s):Inv X pins σ H s:=I.pins_of λp hp=>I.pin p (Ho _ (Ix _ hp))
theorem Bq{iter:Expr}{body:List Stmt}{wi:TI}{g:TG}{tb:TS}{pos:Pos}(hp:PassesOwn (model X.prog X.w) X.A X.env X.xe)(hc:X.calm=true)(hi:PI X tg iter wi)(hg:PG X tg g)(hb:PSs X body tb)
  (hs:∀x,foldedSetIterable iter X.env x=pure x:=by intro _;rfl):PS X (.For tg iter body [] pos) (tFor wi g tb):=by
 intro pins s σ H D I h;refine wpAny_For (thn (hi pins s σ H _ I h) λv s1 h1=>thn h1 λitv s2 h2=>?_) hs;obtain⟨it,fp,tn,J,H2,e,I2,T,st2,f2,W,⟨m0,w0⟩,turn⟩:=h2;subst e;have stat:∀{H':Hp},(∀b∈fp,H' b=none)->∀b∈fp,FpOk X pins H' b:=λhn b hb=>⟨hn b hb,(f2 b hb).2⟩;refine codeAny_forLoop_any (λn s'=>∃i σ' H',Inv X pins σ' H' s'/\tn i s'.heap/\(∀b∈fp,H' b=none)/\W i n σ' H') ?_ m0 ⟨0, σ,H2,I2,st2,λb hb=>(f2 b hb).1,w0⟩;rintro n s3 ⟨i, σ3,H3,I3,st3,fr3,w3⟩;rcases turn i n σ3 H3 w3 with ⟨stop,qn⟩ | ⟨go,N,hN,step⟩
 ·refine wpAny_passesOwn hp (thn (T.done X rfl rfl rfl hc i pins s3 σ3 H3 X.xe I3 (stat fr3) st3 stop) λr s4 ⟨hr,I4⟩=>?_);subst hr;exact wpAny_execs_nil ⟨σ3,H3,I4,qn⟩
 ·refine wpAny_passesOwn hp (thn (T.item X rfl rfl rfl hc i pins s3 σ3 H3 X.xe I3 (stat fr3) st3 go) λr s4 ⟨u,hr,h4⟩=>?_);subst hr;refine wpAny_passesOwn hp (thn h4 λ_ s5 ⟨x,H5,I5,r5,y5,st5,fr5⟩=>?_);have I5':=I5.pinned (stat fr5) (T.obj _ _ st5);refine wpAny_passesOwn hp (thn (hg _ s5 σ3 H5 x u _ I5' r5 (step x H5 y5)) λ_ s6 ⟨σ6,H6,I6,q6⟩=>?_);refine wpAny_passesOwn hp (thn (hb _ s6 σ6 H6 _ I6 q6) λf s7 q7=>?_);have again:∀{σ7:St} {H7:Hp},Inv X (pins++Dj fp s5.heap) σ7 H7 s7->N σ7 H7->∃m,m<n/\∃i σ' H',Inv X pins σ' H' s7/\tn i s7.heap/\(∀b∈fp,H' b=none)/\W i m σ' H':=λ{σ7 H7} I7 n7=>by
   obtain⟨m',hm,w7⟩:=hN σ7 H7 n7;refine⟨m',hm,i+1, σ7,H7,I7.unpinned,T.keep _ _ _ st5 λb hb o e=>(I7.pin (b,o) (Ho _ (Ho _ (D9 hb e)))).1,λb hb=>?_,w7⟩;obtain⟨o,e,d⟩:=T.obj _ _ st5 b hb;exact(I7.pin (b,o) (Ho _ (Ho _ (D9 hb e)))).2.1
  cases f with
  | next=>obtain⟨σ7,H7,I7,n7⟩:=q7;exact again I7 n7
  | cont=>obtain⟨σ7,H7,I7,n7⟩:=q7;exact again I7 n7
  | brk=>obtain⟨σ7,H7,I7,q7⟩:=q7;exact⟨σ7,H7,I7.unpinned,q7⟩
  | ret v=>obtain⟨x7, σ7,H7,I7,r7,q7⟩:=q7;exact⟨x7, σ7,H7,I7.unpinned,r7,q7⟩
end
theorem E9{K:PySem.W.Frag}{a:Addr}{xs:List V}{g:TG}{tb:TS}{D:Ends}{σ:St}{H:Hp}(Pv:Nat->St->Hp->Prop)(h0:Pv 0 σ H)(hl:∀i σ H,i<=xs.length->Pv i σ H->SqL K H a xs)
  (hs:∀i x σ H,xs[i]? = some x->Pv i σ H->g x σ H fun σ2 H2=>tb {D with nx:=Pv (i+1),ct:=Pv (i+1),bk:=D.nx} σ2 H2) (hd:∀σ H,Pv xs.length σ H->D.nx σ H):
  ∃W:Nat->Nat->St->Hp->Prop,(∃m,W 0 m σ H)/\∀i m σ H,W i m σ H ->
   ((Itl K a).stop i H/\D.nx σ H)\/((Itl K a).go i H/\∃N:St->Hp->Prop,(∀σ' H',N σ' H'->∃m',m'<m/\W (i+1) m' σ' H')/\∀x H',(Itl K a).yld i H x H'->g x σ H' fun σ2 H2=>tb {D with nx:=N,ct:=N,bk:=D.nx} σ2 H2):=by
 refine⟨λi m σ H=>m=xs.length - i/\i<=xs.length/\Pv i σ H,⟨xs.length,by simp,Iu _,h0⟩,?_⟩;rintro i m σ H ⟨rfl,hi,p⟩;have q:=hl i σ H hi p;by_cases hlt:i<xs.length
 ·refine .inr ⟨⟨xs,xs[i],q,by simp[hlt]⟩,Pv (i+1),fun σ' H' p'=>⟨xs.length - (i+1),by omega,rfl,hlt,p'⟩,λx H' y=>?_⟩;obtain⟨e,y⟩:=y;subst e;exact hs i x σ _ (y xs q) p
 ·have e:i=xs.length:=by omega
  subst e;exact .inl ⟨⟨xs,q,G5 _⟩,hd σ H p⟩
theorem Xak{K:PySem.W.Frag}{a:Addr}{xs:List V}{g:TG}{tb:TS}{D:Ends}{σ:St}{H:Hp}(Pv:Nat->St->Hp->Prop)(h0:Pv 0 σ H)(hl:∀i σ H,i<=xs.length->Pv i σ H->SqT K H a xs)
  (hs:∀i x σ H,xs[i]? = some x->Pv i σ H->g x σ H fun σ2 H2=>tb {D with nx:=Pv (i+1),ct:=Pv (i+1),bk:=D.nx} σ2 H2) (hd:∀σ H,Pv xs.length σ H->D.nx σ H):
  ∃W:Nat->Nat->St->Hp->Prop,(∃m,W 0 m σ H)/\∀i m σ H,W i m σ H ->
   ((Itt K a).stop i H/\D.nx σ H)\/((Itt K a).go i H/\∃N:St->Hp->Prop,(∀σ' H',N σ' H'->∃m',m'<m/\W (i+1) m' σ' H')/\∀x H',(Itt K a).yld i H x H'->g x σ H' fun σ2 H2=>tb {D with nx:=N,ct:=N,bk:=D.nx} σ2 H2):=by
 refine⟨λi m σ H=>m=xs.length - i/\i<=xs.length/\Pv i σ H,⟨xs.length,by simp,Iu _,h0⟩,?_⟩;rintro i m σ H ⟨rfl,hi,p⟩;have q:=hl i σ H hi p;by_cases hlt:i<xs.length
 ·refine .inr ⟨⟨xs,xs[i],q,by simp[hlt]⟩,Pv (i+1),fun σ' H' p'=>⟨xs.length - (i+1),by omega,rfl,hlt,p'⟩,λx H' y=>?_⟩;obtain⟨e,y⟩:=y;subst e;exact hs i x σ _ (y xs q) p
 ·have e:i=xs.length:=by omega
  subst e;exact .inl ⟨⟨xs,q,G5 _⟩,hd σ H p⟩
theorem Cq{lo:Int}{n:Nat}{g:TG}{tb:TS}{D:Ends}{σ:St}{H:Hp}(Pv:Nat->St->Hp->Prop)(h0:Pv 0 σ H)
  (hs:∀i σ H,i<n->Pv i σ H->g (.int (lo+i)) σ H fun σ2 H2=>tb {D with nx:=Pv (i+1),ct:=Pv (i+1),bk:=D.nx} σ2 H2) (hd:∀σ H,Pv n σ H->D.nx σ H):
  ∃W:Nat->Nat->St->Hp->Prop,(∃m,W 0 m σ H)/\∀i m σ H,W i m σ H ->
   ((Itr lo n).stop i H/\D.nx σ H)\/((Itr lo n).go i H/\∃N:St->Hp->Prop,(∀σ' H',N σ' H'->∃m',m'<m/\W (i+1) m' σ' H')/\∀x H',(Itr lo n).yld i H x H'->g x σ H' fun σ2 H2=>tb {D with nx:=N,ct:=N,bk:=D.nx} σ2 H2):=by
 refine⟨λi m σ H=>m=n - i/\i<=n/\Pv i σ H,⟨n,by simp,Iu _,h0⟩,?_⟩;rintro i m σ H ⟨rfl,hi,p⟩;by_cases hlt:i<n
 ·refine .inr ⟨hlt,Pv (i+1),fun σ' H' p'=>⟨n - (i+1),by omega,rfl,hlt,p'⟩,λx H' y=>?_⟩;obtain⟨e,y⟩:=y;subst e y;exact hs i σ _ hlt p
 ·have e:i=n:=by omega
  subst e;exact .inl ⟨G5 _,hd σ H p⟩
abbrev R2:=V->V->Hp->VK->Prop
def OpR (X:Cx) (f:Value->Value->Sem Value) (r:R2):Prop:=
 ∀(pins:List (Addr×Obj)) (s:Shared) (σ:St) (H:Hp) (x y:V) (v u:Value) (Q:VK),Inv X pins σ H s->Ag x v->Ag y u->r x y H Q ->
  wpAny (model X.prog X.w) X.A (f v u) (EP X pins σ Q) X.xe s
def UnR (X:Cx) (f:Value->Sem Value) (r:V->Hp->VK->Prop):Prop:=
 ∀(pins:List (Addr×Obj)) (s:Shared) (σ:St) (H:Hp) (x:V) (v:Value) (Q:VK),Inv X pins σ H s->Ag x v->r x H Q ->
  wpAny (model X.prog X.w) X.A (f v) (EP X pins σ Q) X.xe s
def A9 (X:Cx) (f:Value) (r:List V->Hp->VK->Prop):Prop:=
 ∀(pins:List (Addr×Obj)) (s:Shared) (σ:St) (H:Hp) (xs:List V) (us:List Value) (Q:VK),Inv X pins σ H s->Vals xs us->r xs H Q ->
  wpAny (model X.prog X.w) X.A (call f us) (EP X pins σ Q) X.xe s
def TruR (X:Cx) (r:V->Hp->(Bool->Hp->Prop)->Prop):Prop:=
 ∀(pins:List (Addr×Obj)) (s:Shared) (σ:St) (H:Hp) (x:V) (v:Value) (Q:Bool->Hp->Prop),Inv X pins σ H s->Ag x v->r x H Q ->
  wpAny (model X.prog X.w) X.A (truthy v) (TP X pins σ Q) X.xe s
def tOp (r:R2) (ta tb:TE):TE:=fun σ H Q=>ta σ H λx H1=>tb σ H1 λy H2=>r x y H2 Q
def tUn (r:V->Hp->VK->Prop) (ta:TE):TE:=fun σ H Q=>ta σ H λx H1=>r x H1 Q
def rI (C:Int->Int->Prop) (g:Int->Int->V):R2:=λx y H Q=>∃i j,x = .int i/\y = .int j/\C i j/\Q (g i j) H
def rI0 (g:Int->Int->V):R2:=λx y H Q=>∃i j,x = .int i/\y = .int j/\Q (g i j) H
def rU (g:Int->V):V->Hp->VK->Prop:=λx H Q=>∃i,x = .int i/\Q (g i) H
section
variable {X:Cx}{a b c:Expr}{ta tb tc:TE}{pos:Pos}
theorem binT(ha:PE X a ta)(hb:PE X b tb){pins:List (Addr×Obj)}{s:Shared}{σ:St}{H:Hp}{R:V->V->Hp->Prop}(I:Inv X pins σ H s)
  (h:ta σ H λx H1=>tb σ H1 λy H2=>R x y H2) {Q:Value->Shared->Prop} {f:Value->Value->Sem Value}
  (hf:∀v u s2 x y H2,Inv X pins σ H2 s2->Ag x v->Ag y u->R x y H2->wpAny (model X.prog X.w) X.A (f v u) Q X.xe s2):
  wpAny (model X.prog X.w) X.A (eval a X.env) (λv s₁=>wpAny (model X.prog X.w) X.A (eval b X.env) (λu s₂=>wpAny (model X.prog X.w) X.A (f v u) Q X.xe s₂) X.xe s₁) X.xe s:=by
 refine thn (ha pins s σ H _ I h) λv s1 ⟨x,H1,I1,r1,q1⟩=>?_;refine thn (hb pins s1 σ H1 _ I1 q1) λu s2 ⟨y,H2,I2,r2,q2⟩=>?_;exact hf v u s2 x y H2 I2 r1 r2 q2
theorem Aj{op:Operator}{r:R2}(ho:OpR X (binaryOp op) r)(ha:PE X a ta)(hb:PE X b tb):PE X (.BinOp a op b pos) (tOp r ta tb):=by
 intro pins s σ H Q I h;exact wpAny_BinOp (binT ha hb I h λv u s2 x y H2 I2 rx ry q=>ho pins s2 σ H2 x y v u Q I2 rx ry q)
theorem Xfa{op:UnaryOp}{r:V->Hp->VK->Prop}(ho:UnR X (unaryOp op) r)(ha:PE X a ta):PE X (.UnaryOp op a pos) (tUn r ta):=by
 intro pins s σ H Q I h;exact UnaryOp_ (thn (ha pins s σ H _ I h) λv s1 ⟨x,H1,I1,r1,q1⟩=>ho pins s1 σ H1 x v Q I1 r1 q1)
theorem opI{f:Value->Value->Sem Value}{C:Int->Int->Prop}{g:Int->Int->Int}
  (rule:∀(i j:Int) (t u:Tok) (s:Shared) (Q:Value->Shared->Prop) (E:Value->Shared->Prop),C i j->Q (.int (g i j) s.toks) {s with toks:=s.toks+1}->wpAny (model X.prog X.w) X.A (f (.int i t) (.int j u)) Q E s):
  OpR X f (rI C λi j=>.int (g i j)):=by
 intro pins s σ H x y v u Q I rx ry h;obtain⟨i,j,rfl,rfl,hc,q⟩:=h;obtain⟨t,rfl⟩:=rx;obtain⟨t',rfl⟩:=ry;exact rule i j t t' s _ _ hc ⟨.int (g i j),H,I.tok _,⟨_,rfl⟩,q⟩
theorem Xal{f:Value->Value->Sem Value}{g:Int->Int->Int}
  (rule:∀(i j:Int) (t u:Tok) (s:Shared) (Q:Value->Shared->Prop) (E:Value->Shared->Prop),Q (.int (g i j) s.toks) {s with toks:=s.toks+1}->wpAny (model X.prog X.w) X.A (f (.int i t) (.int j u)) Q E s):
  OpR X f (rI0 λi j=>.int (g i j)):=by
 intro pins s σ H x y v u Q I rx ry h;obtain⟨i,j,rfl,rfl,q⟩:=h;obtain⟨t,rfl⟩:=rx;obtain⟨t',rfl⟩:=ry;exact rule i j t t' s _ _ ⟨.int (g i j),H,I.tok _,⟨_,rfl⟩,q⟩
theorem Ea{f:Value->Value->Sem Value}{g:Int->Int->Bool}
  (rule:∀(i j:Int) (t u:Tok) (s:Shared) (Q:Value->Shared->Prop) (E:Value->Shared->Prop),Q (.bool (g i j)) s->wpAny (model X.prog X.w) X.A (f (.int i t) (.int j u)) Q E s):
  OpR X f (rI0 λi j=>.bl (g i j)):=by
 intro pins s σ H x y v u Q I rx ry h;obtain⟨i,j,rfl,rfl,q⟩:=h;obtain⟨t,rfl⟩:=rx;obtain⟨t',rfl⟩:=ry;exact rule i j t t' s _ _ ⟨.bl (g i j),H,I,rfl,q⟩
def CDiv (i j:Int):Prop:=0<j/\j<1073741824
def CPow (i j:Int):Prop:=0<=j/\j<=1000000/\i.natAbs<2 ^ 64
def CMul (i j:Int):Prop:=(-(2 ^ 64)<i/\i<2 ^ 64)\/(-(2 ^ 64)<j/\j<2 ^ 64)
theorem CMul.ok{i j:Int}(h:CMul i j):IntMulOk i j:=by
 rcases h with ⟨h1,h2⟩ | ⟨h1,h2⟩
 ·exact .of_left (intBits_le_64 h1 h2)
 ·exact .of_right (intBits_le_64 h1 h2)
theorem Bd:OpR X (binaryOp .Add) (rI0 λi j=>.int (i+j)):=Xal λ_ _ _ _ _ _ _ q=>add_int q
theorem Xam:OpR X (binaryOp .Sub) (rI0 λi j=>.int (i - j)):=Xal λ_ _ _ _ _ _ _ q=>sub_int q
theorem Xan:OpR X (binaryOp .Mult) (rI CMul λi j=>.int (i * j)):=opI λ_ _ _ _ _ _ _ hc q=>mul_int q hc.ok
theorem Xao:OpR X (binaryOp .FloorDiv) (rI CDiv λi j=>.int (i / j)):=opI λi j _ _ _ _ _ hc q=>by
 have h1:(0:Int)<j:=hc.1;have h2:j<1073741824:=hc.2;exact floordiv_int (by omega) (by rw[Int.fdiv_eq_ediv_of_nonneg i (by omega)];exact q) (.inl (PyProof.noPylong_small (by omega)))
theorem C1:OpR X (binaryOp .Mod) (rI (λ_ j=>0<j) λi j=>.int (i % j)):=opI λi j _ _ _ _ _ hc q=>by
 have h1:(0:Int)<j:=hc;exact mod_int' (by omega) (by rw[Int.fmod_eq_emod_of_nonneg i (by omega)];exact q)
theorem Xap:OpR X (binaryOp .Pow) (rI CPow λi j=>.int (i ^ j.toNat)):=opI λ_ _ _ _ _ _ _ hc q=>pow_int_small hc.1 hc.2.1 hc.2.2 q
theorem unI{f:Value->Sem Value}{g:Int->Int}
  (rule:∀(i:Int) (t:Tok) (s:Shared) (Q:Value->Shared->Prop) (E:Value->Shared->Prop),Q (.int (g i) s.toks) {s with toks:=s.toks+1}->wpAny (model X.prog X.w) X.A (f (.int i t)) Q E s):
  UnR X f (rU λi=>.int (g i)):=by
 intro pins s σ H x v Q I rx h;obtain⟨i,rfl,q⟩:=h;obtain⟨t,rfl⟩:=rx;exact rule i t s _ _ ⟨.int (g i),H,I.tok _,⟨_,rfl⟩,q⟩
theorem Xfb:UnR X (unaryOp .USub) (rU λi=>.int (-i)):=unI λ_ _ _ _ _ q=>neg_int q
end
def scal:V->V->Bool
 | .non,.non=>true | .non,.int _=>true | .int _,.non=>true | .non,.bl _=>true | .bl _,.non=>true | .non,.str _=>true | .str _,.non=>true
 | .int _,.int _=>true | .bl _,.bl _=>true | .str _,.str _=>true | .byt _,.byt _=>true
 | .int _,.str _=>true | .str _,.int _=>true | .bl _,.str _=>true | .str _,.bl _=>true
 | _,_=>false
def rEq:R2:=λx y H Q=>scal x y=true/\Q (.bl (decide (x=y))) H
def rNe:R2:=λx y H Q=>scal x y=true/\Q (.bl (!decide (x=y))) H
theorem Xaq{i j:Int}:decide (V.int i=V.int j)=(i==j):=by
 rw[Iy];simp
theorem Xar{i j:Bool}:decide (V.bl i=V.bl j)=(i==j):=by
 rw[Iy];simp
theorem Xas{i j:Str}:decide (V.str i=V.str j)=(i==j):=by
 rw[Iy];simp
theorem Xat{i j:Array UInt8}:decide (V.byt i=V.byt j)=(i.toList==j.toList):=by
 rw[Iy];cases i;cases j;simp
section
variable {X:Cx}{a b c:Expr}{ta tb tc:TE}{pos:Pos}
theorem Ax{pins:List (Addr×Obj)}{σ:St}{H:Hp}{s:Shared}{Q:VK}{k k':Bool}(I:Inv X pins σ H s)(q:Q (.bl k) H)(e:k=k'):EP X pins σ Q (.bool k') s:=by
 subst e;exact⟨.bl k,H,I,rfl,q⟩
theorem B0:OpR X (compareOp .Eq) rEq:=by
 intro pins s σ H x y v u Q I rx ry h;obtain⟨hs,q⟩:=h;cases x with
 | non=>
  cases rx;cases y with
  | non=>cases ry;exact PySem.EqNone.eq_none_none (Ax I q (by simp))
  | bl j=>cases ry;exact PySem.EqNone.eq_none_bool (Ax I q (by simp))
  | int j=>obtain⟨t',rfl⟩:=ry;exact PySem.EqNone.eq_none_int (Ax I q (by simp))
  | str j=>obtain⟨t',rfl⟩:=ry;exact PySem.EqNone.eq_none_str (Ax I q (by simp))
  | _=>exact absurd (show false=true from hs) Hh
 | bl i=>
  cases rx;cases y with
  | non=>cases ry;exact PySem.EqNone.eq_bool_none (Ax I q (by simp))
  | bl j=>cases ry;exact eq_bool (Ax I q Xar)
  | str j=>obtain⟨t',rfl⟩:=ry;exact PySem.EqMixed.eq_bool_str (Ax I q (by simp))
  | _=>exact absurd (show false=true from hs) Hh
 | int i=>
  obtain⟨t,rfl⟩:=rx;cases y with
  | non=>cases ry;exact PySem.EqNone.eq_int_none (Ax I q (by simp))
  | int j=>obtain⟨t',rfl⟩:=ry;exact eq_int (Ax I q Xaq)
  | str j=>obtain⟨t',rfl⟩:=ry;exact PySem.EqMixed.eq_int_str (Ax I q (by simp))
  | _=>exact absurd (show false=true from hs) Hh
 | str i=>
  obtain⟨t,rfl⟩:=rx;cases y with
  | non=>cases ry;exact PySem.EqNone.eq_str_none (Ax I q (by simp))
  | bl j=>cases ry;exact PySem.EqMixed.eq_str_bool (Ax I q (by simp))
  | int j=>obtain⟨t',rfl⟩:=ry;exact PySem.EqMixed.eq_str_int (Ax I q (by simp))
  | str j=>obtain⟨t',rfl⟩:=ry;exact eq_str (Ax I q Xas)
  | _=>exact absurd (show false=true from hs) Hh
 | byt i=>
  obtain⟨t,rfl⟩:=rx;cases y with
  | byt j=>obtain⟨t',rfl⟩:=ry;exact PySem.W.eq_bytes (Ax I q Xat)
  | _=>exact absurd (show false=true from hs) Hh
 | _=>cases y<;>exact absurd (show false=true from hs) Hh
theorem Eb:OpR X (compareOp .NotEq) rNe:=by
 intro pins s σ H x y v u Q I rx ry h;obtain⟨hs,q⟩:=h;cases x with
 | non=>
  cases rx;cases y with
  | non=>cases ry;exact PySem.EqNone.ne_none_none (Ax I q (by simp))
  | bl j=>cases ry;exact PySem.EqNone.ne_none_bool (Ax I q (by simp))
  | int j=>obtain⟨t',rfl⟩:=ry;exact PySem.EqNone.ne_none_int (Ax I q (by simp))
  | str j=>obtain⟨t',rfl⟩:=ry;exact PySem.EqNone.ne_none_str (Ax I q (by simp))
  | _=>exact absurd (show false=true from hs) Hh
 | bl i=>
  cases rx;cases y with
  | non=>cases ry;exact PySem.EqNone.ne_bool_none (Ax I q (by simp))
  | bl j=>cases ry;exact ne_bool (Ax I q (congrArg not Xar))
  | str j=>obtain⟨t',rfl⟩:=ry;exact PySem.EqMixed.ne_bool_str (Ax I q (by simp))
  | _=>exact absurd (show false=true from hs) Hh
 | int i=>
  obtain⟨t,rfl⟩:=rx;cases y with
  | non=>cases ry;exact PySem.EqNone.ne_int_none (Ax I q (by simp))
  | int j=>obtain⟨t',rfl⟩:=ry;exact ne_int (Ax I q (congrArg not Xaq))
  | str j=>obtain⟨t',rfl⟩:=ry;exact PySem.EqMixed.ne_int_str (Ax I q (by simp))
  | _=>exact absurd (show false=true from hs) Hh
 | str i=>
  obtain⟨t,rfl⟩:=rx;cases y with
  | non=>cases ry;exact PySem.EqNone.ne_str_none (Ax I q (by simp))
  | bl j=>cases ry;exact PySem.EqMixed.ne_str_bool (Ax I q (by simp))
  | int j=>obtain⟨t',rfl⟩:=ry;exact PySem.EqMixed.ne_str_int (Ax I q (by simp))
  | str j=>obtain⟨t',rfl⟩:=ry;exact ne_str (Ax I q (congrArg not Xas))
  | _=>exact absurd (show false=true from hs) Hh
 | byt i=>
  obtain⟨t,rfl⟩:=rx;cases y with
  | byt j=>obtain⟨t',rfl⟩:=ry;exact PySem.W.ne_bytes (Ax I q (congrArg not Xat))
  | _=>exact absurd (show false=true from hs) Hh
 | _=>cases y<;>exact absurd (show false=true from hs) Hh
theorem Cr:OpR X (compareOp .Lt) (rI0 λi j=>.bl (decide (i<j))):=Ea λ_ _ _ _ _ _ _ q=>lt_int q
theorem Xau:OpR X (compareOp .LtE) (rI0 λi j=>.bl (decide (i<=j))):=Ea λ_ _ _ _ _ _ _ q=>le_int q
theorem Xav:OpR X (compareOp .Gt) (rI0 λi j=>.bl (decide (j<i))):=Ea λ_ _ _ _ _ _ _ q=>gt_int q
theorem Xaw:OpR X (compareOp .GtE) (rI0 λi j=>.bl (decide (j<=i))):=Ea λ_ _ _ _ _ _ _ q=>ge_int q
theorem Fa:OpR X (compareOp .Is) (λx y H Q=>y = .non/\Q (.bl (decide (x = .non))) H):=by
 intro pins s σ H x y v u Q I rx ry h;obtain⟨rfl,q⟩:=h;cases ry;refine is_none_gen (Ax I q ?_);cases x<;>first
  | (cases rx;rfl)
  | (obtain⟨t,rfl⟩:=rx;rfl)
theorem Fb:OpR X (compareOp .IsNot) (λx y H Q=>y = .non/\Q (.bl (!decide (x = .non))) H):=by
 intro pins s σ H x y v u Q I rx ry h;obtain⟨rfl,q⟩:=h;cases ry;refine isnot_none_gen (Ax I q ?_);cases x<;>first
  | (cases rx;rfl)
  | (obtain⟨t,rfl⟩:=rx;rfl)
def isObj:HO->Bool
 | .lst _=>true
 | .ins _ _ _=>true
 | _=>false
theorem Av(b:Expr){op:CmpOp}(h:op ≠ .In:=by decide)(h2:op ≠ .NotIn:=by decide):behindInMarks op b=false:=by
 have e1:(op==CmpOp.In)=false:=by cases op<;>first | rfl | exact absurd rfl h
 have e2:(op==CmpOp.NotIn)=false:=by cases op<;>first | rfl | exact absurd rfl h2
 cases b<;>simp[behindInMarks,e1,e2]
theorem Cs{op:CmpOp}{r:R2}(ho:OpR X (compareOp op) r)(ha:PE X a ta)(hb:PE X b tb)(hm:behindInMarks op b=false):PE X (.Compare a [op] [b] pos) (tOp r ta tb):=by
 intro pins s σ H Q I h;exact wpAny_Compare1 (binT ha hb I h λv u s2 x y H2 I2 rx ry q=>ho pins s2 σ H2 x y v u Q I2 rx ry q) hm
def Xax (t:TE):TT:=fun σ H Q=>t σ H λx H'=>∃k,x = .bl k/\Q k H'
theorem A3{op:CmpOp}{r:R2}(ho:OpR X (compareOp op) r)(ha:PE X a ta)(hb:PE X b tb)(hm:behindInMarks op b=false):PT X (.Compare a [op] [b] pos) (Xax (tOp r ta tb)):=by
 intro pins s σ H Q I h;refine wpAny_isTrue_Compare1 (thn (ha pins s σ H _ I h) λv s1 ⟨x,H1,I1,r1,q1⟩=>thn (hb pins s1 σ H1 _ I1 q1) λu s2 ⟨y,H2,I2,r2,q2⟩=>
  thn (ho pins s2 σ H2 x y v u _ I2 r1 r2 q2) λc s3 ⟨z,H3,I3,r3,k,e,q3⟩=>?_) hm
 subst e;cases r3;exact wpAny_truthy_bool ⟨H3,I3,q3⟩
def Xfc (r r':R2) (ta tb tc:TE):TE:=fun σ H Q=>ta σ H λx H1=>tb σ H1 λy H2=>r x y H2 λz H3=>∃k,z = .bl k /\
 (if k=true then tc σ H3 λw' H4=>r' y w' H4 Q else Q (.bl false) H3)
theorem Xfd{op op':CmpOp}{r r':R2}(ho:OpR X (compareOp op) r)(ho':OpR X (compareOp op') r')(ha:PE X a ta)(hb:PE X b tb)(hc:PE X c tc)
  (hm:lastMarks [op,op'] [b,c]=false:=by with_unfolding_all rfl):PT X (.Compare a [op,op'] [b,c] pos) (Xax (Xfc r r' ta tb tc)):=by
 intro pins s σ H Q I h;refine isTrue_chain (thn (ha pins s σ H _ I h) λv s1 ⟨x,H1,I1,r1,q1⟩=>test_link (thn (hb pins s1 σ H1 _ I1 q1) λu s2 ⟨y,H2,I2,r2,q2⟩=>
  thn (ho pins s2 σ H2 x y v u _ I2 r1 r2 q2) λd s3 ⟨z,H3,I3,r3,k,e,q3⟩=>?_)) hm
 subst e;cases r3;refine wpAny_truthy_bool ?_;cases k with
 | false=>
  obtain⟨k',e',q'⟩:=q3;cases e';exact ite_ff ⟨H3,I3,q'⟩
 | true=>
  refine ite_tt (test_last (thn (hc pins s3 σ H3 _ I3 q3) λw' s4 ⟨z',H4,I4,r4,q4⟩=>thn (ho' pins s4 σ H4 y z' u w' _ I4 r2 r4 q4) λd' s5 ⟨z2,H5,I5,r5,k2,e2,q5⟩=>?_));subst e2;cases r5;exact wpAny_truthy_bool ⟨H5,I5,q5⟩
def TruV (K:PySem.W.Frag) (x:V) (H:Hp) (k:Bool):Prop:=
 match x with
 | .non=>k=false
 | .bl b=>k=b
 | .int i=>k=(i != 0)
 | .str y=>y.length<=sizeLine/\k=((y.length:Int) != 0)
 | .byt y=>y.size<=sizeLine/\k=((y.size:Int) != 0)
 | .ref p=>(∃xs,SqL K H p xs/\k = !xs.isEmpty)\/(∃xs,SqT K H p xs/\k = !xs.isEmpty) \/ ∃kvs,H p=some (.dK kvs)/\k = !kvs.isEmpty
 | _=>False
theorem line63:(sizeLine:Nat)<2 ^ 63:=by rw[Kb];decide
theorem Fc:OpR X (binaryOp .Add) (λx y H Q=>∃i j,x = .str i/\y = .str j/\i.length+j.length<=sizeLine/\Q (.str (i++j)) H):=by
 intro pins s σ H x y v u Q I rx ry h;obtain⟨i,j,rfl,rfl,hz,q⟩:=h;obtain⟨t,rfl⟩:=rx;obtain⟨t',rfl⟩:=ry;exact add_str (λt' tk=>⟨.str (i++j),H,I.tok _,⟨_,rfl⟩,q⟩) hz
theorem Br{x:V}{us:List Value}(r:Vals [x] us):∃u,us=[u]/\Ag x u:=by
 cases r with
 | cons r1 r2=>cases r2;exact⟨_,rfl,r1⟩
theorem vals2{x y:V}{us:List Value}(r:Vals [x,y] us):∃u w',us=[u,w']/\Ag x u/\Ag y w':=by
 cases r with
 | cons r1 r2=>
  cases r2 with
  | cons r3 r4=>cases r4;exact⟨_,_,rfl,r1,r3⟩
theorem Xfe(hc:X.calm=true):A9 X (.builtin "max") (λxs H Q=>∃i j,xs=[.int i,.int j]/\Q (.int (if j > i then j else i)) H):=by
 intro pins s σ H xs us Q I r h;obtain⟨i,j,rfl,q⟩:=h;obtain⟨u,w',rfl,⟨t,rfl⟩,⟨t',rfl⟩⟩:=vals2 r;refine max_two_ints (I.ok.hd hc) λh' tk k=>⟨_,H,I.kept k,?_,q⟩;by_cases hj:j > i
 ·rw[Kd hj,Kd hj];exact⟨_,rfl⟩
 ·rw[Kc hj,Kc hj];exact⟨_,rfl⟩
theorem Xff(hc:X.calm=true):A9 X (.builtin "min") (λxs H Q=>∃i j,xs=[.int i,.int j]/\Q (.int (if j<i then j else i)) H):=by
 intro pins s σ H xs us Q I r h;obtain⟨i,j,rfl,q⟩:=h;obtain⟨u,w',rfl,⟨t,rfl⟩,⟨t',rfl⟩⟩:=vals2 r;refine min_two_ints (I.ok.hd hc) λh' tk k=>⟨_,H,I.kept k,?_,q⟩;by_cases hj:j<i
 ·rw[Kd hj,Kd hj];exact⟨_,rfl⟩
 ·rw[Kc hj,Kc hj];exact⟨_,rfl⟩
theorem Xfg:A9 X (.type "int") (λxs H Q=>(∃i,xs=[.int i]/\Q (.int i) H) \/ ∃k,xs=[.bl k]/\Q (.int (if k then 1 else 0)) H):=by
 intro pins s σ H xs us Q I r h;rcases h with ⟨i,rfl,q⟩ | ⟨k,rfl,q⟩
 ·obtain⟨u,rfl,t,rfl⟩:=Br r;exact call_int_int ⟨.int i,H,I,⟨_,rfl⟩,q⟩
 ·obtain⟨u,rfl,r1⟩:=Br r;cases r1;exact call_int_bool ⟨.int (if k then 1 else 0),H,I.tok _,⟨_,rfl⟩,q⟩
def LenV (K:PySem.W.Frag) (x:V) (H:Hp) (n:Nat):Prop:=
 match x with
 | .str y=>y.length<=sizeLine/\n=y.length
 | .byt y=>y.size<=sizeLine/\n=y.size
 | .ref p=>(∃xs,SqL K H p xs/\n=xs.length) \/ ∃xs,SqT K H p xs/\n=xs.length
 | _=>False
end
structure ObjM (h:Heap) (x dx C:Addr) (mA:Str->Option Value):Prop where
 obj:h.get? x=some (PySem.W.instObj C dx)
 ns:h.Ns1 dx mA
 ne:dx≠x
theorem Xfh{h:Heap}{dx:Addr}{mA:Str->Option Value}(n:h.Ns1 dx mA):∃od,h.get? dx=some od/\∀name,PySem.W.lookIn name od=some (mA name):=by
 obtain⟨o,es,ep,ho,hd,hk,_,hm⟩:=n;refine⟨o,ho,λname=>?_⟩;have e:=hm name;unfold nsFind findBy at e;rw[<-Array.find?_toList] at e;unfold PySem.W.lookIn;rw[hd];dsimp only;split
 ·rename_i y q;rw[q] at e;exact congrArg some e
 ·rename_i q;rw[q] at e;have a:es.toList.any (·.refKey)=false:=by
   rw[List.any_eq_false];intro y hy;obtain⟨z,t,hkey⟩:=hk y (Array.mem_toList_iff.mp hy);simp[DictEntry.refKey,hkey]
  have a':¬es.toList.any (·.refKey)=true:=by rw[a];exact Hh
  rw[Kc a'];exact congrArg some e
theorem ObjM.look{h:Heap}{x dx C:Addr}{mA:Str->Option Value}(I:ObjM h x dx C mA):∃od,PySem.W.InstAt h x (PySem.W.instObj C dx) C (some od)/\∀name,PySem.W.lookIn name od=some (mA name):=
 let ⟨od,ho,hl⟩:=Xfh I.ns
 ⟨od,⟨I.obj,rfl,rfl,ho⟩,hl⟩
section
variable {prog:Program}{w:World}{A:Around}{E:Value->Shared->Prop}{s:Shared}{K:PySem.W.Frag}{x dx C f:Addr}{mA:Str->Option Value}{name:Str}{v:Value}
end
def Fd (f:Str) (v:V):List (Str×V)->List (Str×V)
 | []=>[(f,v)]
 | (g,x)::r=>if g=f then (g,v)::r else (g,x)::Fd f v r
theorem Bc.some_of{v:V}{o:Option Value}(r:Bc (some v) o):∃u,o=some u/\Ag v u:=by
 cases o with
 | none=>exact(show False from r).elim
 | some u=>exact⟨u,rfl,r⟩
theorem Bc.none_of{o:Option Value}(r:Bc none o):o=none:=by
 cases o with
 | none=>rfl
 | some u=>exact(show False from r).elim
section
variable {P:Program}{w:World}{H H':Hp}{h h':Heap}{a C dx:Addr}{fs fs':List (Str×V)}
theorem Xfi(hok:HOk P w H h)(e:H a=some (.ins C dx fs)):∃mA,ObjM h a dx C mA/\(∀f,Bc (fs.lookup f) (mA f))/\PySem.Within mA (fs.map (·.1))/\fs.length<=1000/\H dx=some (.own a):=by
 obtain⟨d,z,ne,ob,mA,n,r,q⟩:=(show Aq P w H h a (.ins C dx fs) from hok a _ e);exact⟨mA,⟨ob,n,ne⟩,r,q,z,d⟩
end
structure Cls (K:PySem.W.Frag) (C:Addr):Prop where
 pg:PySem.W.plainGet K C Str.empty=true
 hd:PySem.W.hasDictIn K C=true
 po:PySem.W.plainOver K C=true
 sa:PySem.W.findIn K (.ref C) "__setattr__" = some (some (.builtin "object.__setattr__"))
theorem Cls.get{K:PySem.W.Frag}{C:Addr}(c:Cls K C)(f:Str):PySem.W.plainGet K C f=true:=c.pg
def Fe (K:PySem.W.Frag) (C:Addr) (f:Str):Prop:=PySem.W.findIn K (.ref C) f=some none
structure Con (K:PySem.W.Frag) (C:Addr) (f:Str) (v:V) (u:Value):Prop where
 at_:PySem.W.findIn K (.ref C) f=some (some u)
 rel:Ag v u
 get:PySem.W.specialIn K u "__get__" = some none
 cp:PySem.W.copiedNames.contains f=false
structure Meth (K:PySem.W.Frag) (C:Addr) (m:Str) (f:Addr):Prop where
 at_:PySem.W.findIn K (.ref C) m=some (some (.ref f))
 fn:PySem.W.isFn K (.ref f)=true
 kp:PySem.W.keepIn K (.ref f)=true
section
variable {X:Cx}{pins:List (Addr×Obj)}{σ:St}{H:Hp}{s:Shared}{a C dx:Addr}{fs:List (Str×V)}{f:Str}{v:V}{A:Around}{E:Value->Shared->Prop}
end
def tFld (K:PySem.W.Frag) (ta:TE) (f:Str):TE:=fun σ H Q=>ta σ H λx H1=>∃a C dx fs v,x = .ref a/\H1 a=some (.ins C dx fs)/\Cls K C/\Fe K C f/\fs.lookup f=some v/\Q v H1
def tCon (K:PySem.W.Frag) (ta:TE) (f:Str):TE:=fun σ H Q=>ta σ H λx H1=>∃a C dx fs v u,x = .ref a/\H1 a=some (.ins C dx fs)/\Cls K C/\Con K C f v u/\fs.lookup f=none/\Q v H1
def sFld (K:PySem.W.Frag) (ta tv:TE) (f:Str):TS:=λD σ H=>tv σ H λy H1=>ta σ H1 λx H2=>∃a C dx fs,x = .ref a/\H2 a=some (.ins C dx fs)/\Cls K C/\Fe K C f/\fs.length<1000 /\
 D.nx σ (upd H2 a (.ins C dx (Fd f y fs)))
def InOp (X:Cx) (op:Operator) (rd:V->V->Hp->VK->Prop):Prop:=
 ∀(pins:List (Addr×Obj)) (s:Shared) (σ:St) (H:Hp) (x y:V) (u v:Value) (Q:VK),Inv X pins σ H s->Ag x u->Ag y v->rd x y H Q->wpAny (model X.prog X.w) X.A (inplaceOp op u v) (EP X pins σ Q) X.xe s
def Xkl (K:PySem.W.Frag) (ta tv:TE) (rd:V->V->Hp->VK->Prop) (f:Str):TS:=λD σ H=>ta σ H λx H1=>∃a C dx fs v,x = .ref a/\H1 a=some (.ins C dx fs)/\Cls K C/\Fe K C f/\fs.lookup f=some v /\
 tv σ H1 λy H2=>rd v y H2 λz H3=>∃dx' fs',H3 a=some (.ins C dx' fs')/\fs'.length<1000/\D.nx σ (upd H3 a (.ins C dx' (Fd f z fs')))
section
variable {X:Cx}{o e value:Expr}{f:Str}{pos pos' tpos:Pos}{ta tv:TE}
end
section
variable {X:Cx}{pins:List (Addr×Obj)}{σ:St}{H:Hp}{s:Shared}{A:Around}{E:Value->Shared->Prop}{Q:Value->Shared->Prop}{c:Value}{b:Bool}
inductive TyOf (K:PySem.W.Frag) (H:Hp):V->Value->Prop where
 | non:TyOf K H .non (.type "NoneType")
 | bl (x:Bool):TyOf K H (.bl x) (.type "bool")
 | int (i:Int):TyOf K H (.int i) (.type "int")
 | str (x:Str):TyOf K H (.str x) (.type "str")
 | flt (x:UInt64):TyOf K H (.flt x) (.type "float")
 | lst {a:Addr} {xs:List V} (e:H a=some (.lst xs)):TyOf K H (.ref a) (.type "list")
 | frz {a:Addr} {o:Obj} {xs:List V} (e:H a=some (.frz o (.lst xs))):TyOf K H (.ref a) (.type "list")
 | tup {a:Addr} {xs:List V} (e:H a=some (.tup xs)):TyOf K H (.ref a) (.type "tuple")
 | dK {a:Addr} {kvs:List (Key×V)} (e:H a=some (.dK kvs)):TyOf K H (.ref a) (.type "dict")
 | dT {a:Addr} {kvs:List (List Key×V)} (e:H a=some (.dT kvs)):TyOf K H (.ref a) (.type "dict")
 | ins {a C dx:Addr} {fs:List (Str×V)} (e:H a=some (.ins C dx fs)) (cl:Cls K C) (ha:PySem.W.findIn K (.ref C) "__class__" = some (some (.builtin "object.__class__")))
   (hn:PySem.W.specialIn K (.builtin "object.__class__") "__get__" = some (some (.builtin "getset_descriptor.__get__"))) (htk:PySem.W.takesIn K (.builtin "object.__class__")=some true)
   (hm:PySem.W.mroIn K C (.type "object")=some true):TyOf K H (.ref a) (.ref C)
theorem Xfj{x:V}{u t:Value}(I:Inv X pins σ H s)(rx:Ag x u)(ty:TyOf X.K H x t)(e:PySem.W.kitOne X.K t c=some b)(h:∀tk,Q (.bool b) {s with toks:=tk}):
  wpAny (model X.prog X.w) A (call (.builtin "isinstance") [u,c]) Q E s:=by
 cases ty with
 | non=>cases (show u=Value.none from rx);exact PySem.W.kia_one PySem.W.kitx_none I.kIn True.intro e (λz=>nomatch z) h
 | bl y=>cases (show u=Value.bool y from rx);exact PySem.W.kia_one PySem.W.kitx_bool I.kIn True.intro e (λz=>nomatch z) h
 | int i=>obtain⟨t,q⟩:=(show ∃t,u=Value.int i t from rx);cases q;exact PySem.W.kia_one PySem.W.kitx_int I.kIn True.intro e (λz=>nomatch z) h
 | str y=>obtain⟨t,q⟩:=(show ∃t,u=Value.str y t from rx);cases q;exact PySem.W.kia_one PySem.W.kitx_str I.kIn True.intro e (λz=>nomatch z) h
 | flt y=>obtain⟨t,q⟩:=(show ∃t,u=Value.float y t from rx);cases q;exact PySem.W.kia_one PySem.W.kitx_float I.kIn True.intro e (λz=>nomatch z) h
 | @lst a xs ea=>
  cases (show u=Value.ref a from rx);obtain⟨_,_,n,_,h1⟩:=(show Aq X.prog X.w H s.heap a (.lst xs) from I.hok a _ ea);exact PySem.W.kia_one PySem.W.kitx_list I.kIn ⟨_,h1,rfl⟩ e (λz=>nomatch z) h
 | @frz a ob xs ea=>
  cases (show u=Value.ref a from rx);obtain⟨_,_,_,n,_,h1⟩:=(show Aq X.prog X.w H s.heap a (.frz ob (.lst xs)) from I.hok a _ ea);exact PySem.W.kia_one PySem.W.kitx_list I.kIn ⟨_,h1,rfl⟩ e (λz=>nomatch z) h
 | @tup a xs ea=>
  cases (show u=Value.ref a from rx);obtain⟨_,_,_,p⟩:=(show Aq X.prog X.w H s.heap a (.tup xs) from I.hok a _ ea);obtain⟨o,h1,h2,_⟩:=p;exact PySem.W.kia_one PySem.W.kitx_tuple I.kIn ⟨o,h1,h2⟩ e (λz=>nomatch z) h
 | @dK a kvs ea=>
  cases (show u=Value.ref a from rx);obtain⟨_,_,vs,_,p⟩:=(show Aq X.prog X.w H s.heap a (.dK kvs) from I.hok a _ ea);obtain⟨o,es,ep,h1,h2,_⟩:=p;exact PySem.W.kia_one PySem.W.kitx_dict I.kIn ⟨o,h1,h2.1⟩ e (λz=>nomatch z) h
 | @dT a kvs ea=>
  cases (show u=Value.ref a from rx);obtain⟨_,_,xs,_,o,es,ep,h1,h2,_⟩:=(show Aq X.prog X.w H s.heap a (.dT kvs) from I.hok a _ ea);exact PySem.W.kia_one PySem.W.kitx_dict I.kIn ⟨o,h1,h2.1⟩ e (λz=>nomatch z) h
 | @ins a C dx fs ea cl ha hn htk hm=>
  cases (show u=Value.ref a from rx);obtain⟨mA,O,_⟩:=Xfi I.hok ea;obtain⟨od,J,_⟩:=O.look;exact PySem.W.kia_one (PySem.W.kitx_own (cl.get _) cl.hd ha hn htk hm) I.kIn J e (λz=>nomatch z) h
end
structure Room (k:Nat) (A:Around):Prop where
 hd:A.handled=none
 dp:A.depth+3 * k+5<recursionLimit
 un:A.units+16 * k+200<cLine
 gd:A.guards=some []
theorem Room.mono{j k:Nat}{A:Around}(r:Room k A)(h:j<=k):Room j A:=⟨r.hd,by have:=r.dp;omega,by have:=r.un;omega,r.gd⟩
theorem Room.deeper{k:Nat}{A:Around}(r:Room (k+1) A)(env:Env):Room k (A.deeper env):=
 ⟨r.hd,by have:=r.dp;show A.depth+1+3 * k+5<_;omega,by have:=r.un;show A.units+3+16 * k+200<_;omega,r.gd⟩
theorem Room.depth{k:Nat}{A:Around}(r:Room k A):A.depth<recursionLimit:=by have:=r.dp;omega
theorem Room.units{k:Nat}{A:Around}(r:Room k A):A.units+64<cLine:=by have:=r.un;omega
def tNil:TA:=λ_ H Q=>Q [] H
def Xfk (ta:TE) (tr:TA):TA:=fun σ H Q=>ta σ H λx H1=>tr σ H1 λxs H2=>Q (x::xs) H2
section
variable {X:Cx}{e:Expr}{es:List Expr}{te:TE}{t:TA}{pos:Pos}
theorem Ab:PA X [] tNil:=λ_ _ _ _ H Q I h=>Calls.spliced_nil ⟨[],H,I,.nil,h⟩
theorem Aa(ha:PE X e te)(hr:PA X es t)(hs:starEach (e::es) X.env=(false,eval e X.env)::starEach es X.env:=by rfl):PA X (e::es) (Xfk te t):=by
 intro pos pins s σ H Q I h;rw[hs];show wpAny _ _ (spliced ((false,eval e X.env)::backTo pos (starEach es X.env))) _ _ s;refine Calls.spliced_cons (thn (ha pins s σ H _ I h) λu s1 ⟨x,H1,I1,r1,q1⟩=>?_);exact thn (hr pos pins s1 σ H1 _ I1 q1) λus s2 ⟨xs,H2,I2,r2,q2⟩=>⟨x::xs,H2,I2,.cons r1 r2,q2⟩
def tTup (t:TA):TE:=fun σ H Q=>t σ H λxs H1=>xs.length<=sizeLine/\∀p,H1 p=none->Q (.ref p) (upd H1 p (.tup xs))
def tLst (t:TA):TE:=fun σ H Q=>t σ H λxs H1=>xs.length<=sizeLine/\∀p,H1 p=none->Q (.ref p) (upd H1 p (.lst xs))
theorem Ct{x1}(h:PA X es t):PE X (.Tuple es x1 pos) (tTup t):=by
 intro pins s σ H Q I hq;refine wpAny_Tuple_spliced (thn (h pos pins s σ H _ I hq) λus s1 ⟨xs,H1,I1,r,z,q⟩=>⟨by rw[<-r.length];exact z,?_⟩);have hf:H1 s1.heap.objs.size=none:=I1.hok.fresh (G5 _);refine⟨.ref s1.heap.objs.size,upd H1 s1.heap.objs.size (.tup xs),I1.laid (t':=s1.toks) (λb u e=>Kj _ e) (G5 _) ?_,rfl,q _ hf⟩;exact⟨z,us,r,⟨_,Heap.get?_push_size _ rfl,rfl,_,rfl⟩⟩
theorem B7(h:PA X es t):PE X (.List es pos) (tLst t):=by
 intro pins s σ H Q I hq;refine wpAny_List_spliced (thn (h pos pins s σ H _ I hq) λus s1 ⟨xs,H1,I1,r,z,q⟩=>⟨by rw[<-r.length];exact z,?_⟩);have hf:H1 s1.heap.objs.size=none:=I1.hok.fresh (G5 _);refine⟨.ref s1.heap.objs.size,upd H1 s1.heap.objs.size (.lst xs),I1.laid (t':=s1.toks) (λb u e=>Kj _ e) (G5 _) ?_,rfl,q _ hf⟩;exact⟨z,us,0,r,Heap.get?_push_size _ rfl⟩
end
abbrev Sp:=List V->Hp->VK->XK->Prop
abbrev CXT:=List Env->Hp->Shared->XK->Value->Shared->Prop
structure Env0 (P:Program) (w:World) (K:PySem.W.Frag) (mg:Str->Option Value) (base:Heap) (A:Around) (outer:List Env) (s:Shared) (H:Hp):Prop where
 frames:A.frames=some outer
 mod:Mod K mg base
 bs:∀b o,base.get? b=some o->s.heap.get? b=some o/\H b=none
 bsz:base.objs.size<=s.heap.objs.size
 funs:s.heap.FunFrames base outer
 frf:∀b∈frs outer,H b=none
 hok:HOk P w H s.heap
 bare:AllBare s.gens
def CE (outer:List Env) (P:Program) (w:World) (H:Hp) (s:Shared) (Q:VK) (u:Value) (s':Shared):Prop:=
 ∃v H',s'.os=s.os/\AllBare s'.gens/\Un (frs outer) [] H H' s.heap s'.heap/\HOk P w H' s'.heap/\Ag v u/\Q v H'
def CR (CX:CXT) (outer:List Env) (P:Program) (w:World) (H:Hp) (s:Shared) (Q:VK) (E:XK) (r:Result) (s':Shared):Prop:=
 match r with
 | .ok (.ret u)=>CE outer P w H s Q u s'
 | .ok _=>False
 | .error e=>CX outer H s E e s'
structure FnOk (P:Program) (w:World) (K:PySem.W.Frag) (mg:Str->Option Value) (base:Heap) (CX:CXT) (k:Nat) (f:Addr) (fd:FuncData) (ps:List Str) (sp:Sp):Prop where
 len:∀vs H Q E,sp vs H Q E->vs.length=ps.length
 run:∀(A:Around) (outer:List Env) (s:Shared) (H:Hp) (args:Args) (us:List Value) (vs:List V) (Q:VK) (E:XK),Room k A->Env0 P w K mg base A outer s H->BindsTo s fd args (ps.zip us)->Vals vs us->sp vs H Q E ->
  codeAny (model P w) A (.call (.ref f) args) (CR CX outer P w H s Q E) s
section
variable {X:Cx}{pins:List (Addr×Obj)}{σ:St}{H:Hp}{s s':Shared}
theorem Inv.env0(I:Inv X pins σ H s):Env0 X.prog X.w X.K X.mg X.base X.A X.stack s H:=
 ⟨I.ok.frames,I.ok.mod,I.bs,Hx I.ok.bsz I.sz,I.stack,I.stkFree,I.hok,I.bare⟩
theorem Inv.after{Q:VK}{u:Value}(I:Inv X pins σ H s)(h:CE X.stack X.prog X.w H s Q u s'):EP X pins σ Q u s':=by
 obtain⟨v,H',os,bare,un,hok,r,q⟩:=h;obtain⟨hh,g,d,t,os'⟩:=s';obtain rfl:os'=s.os:=os;exact⟨v,H',I.call (h':=hh) (g':=g) (d':=d) (t':=t) (ch:=[]) un hok bare (λb z=>absurd z (by simp)),r,q⟩
end
def Xay (sp:Sp) (dvs:List V) (E:XK) (t:TA):TE:=fun σ H Q=>t σ H λvs H1=>sp (vs++dvs) H1 Q E
def tMeth (C:Addr) (m:Str) (sp:Sp) (dvs:List V) (E:XK) (ta:TE) (t:TA):TE:=fun σ H Q=>ta σ H λx H1=>∃a dx fs,x = .ref a/\H1 a=some (.ins C dx fs)/\fs.lookup m=none /\
 t σ H1 λvs H2=>sp (x::(vs++dvs)) H2 Q E
def tMake (C:Addr) (sp:Sp) (dvs:List V) (E:XK) (t:TA):TE:=fun σ H Q=>t σ H λvs H1=>∀x dx,H1 x=none->H1 dx=none->dx≠x ->
 sp (.ref x::(vs++dvs)) (upd (upd H1 dx (.own x)) x (.ins C dx [])) (λv H2=>v = .non/\Q (.ref x) H2) E
def Binds (K:PySem.W.Frag) (fd:FuncData) (ps:List Str) (ds:List Value):Prop:=
 ∀(s:Shared) (us:List Value),K.In s.heap->(us++ds).length=ps.length->BindsTo s fd ⟨us,[]⟩ (ps.zip (us++ds))
theorem Binds.all{K:PySem.W.Frag}{fd:FuncData}{ps:List Str}(h:∀us:List Value,us.length=ps.length->bindArgs fd ⟨us,[]⟩=pure (ps.zip us)):Binds K fd ps []:=λs us _ hl=>by
 rw[Jd] at hl ⊢;exact .of_eq (h us hl)
def Passes (CX:CXT) (X:Cx) (E:XK):Prop:=∀(pins:List (Addr×Obj)) (σ:St) (H:Hp) (s:Shared) (e:Value) (s':Shared),Inv X pins σ H s->CX X.stack H s E e s'->X.xe e s'
section
variable {X:Cx}{CX:CXT}{k:Nat}{f C:Addr}{fd:FuncData}{ps:List Str}{sp:Sp}{dvs:List V}{ds:List Value}{E:XK}{x m:Str}{p pos apos:Pos}{e o:Expr}{es:List Expr}{ta:TE}{t:TA}
theorem Xfl{pins:List (Addr×Obj)}{σ:St}{H:Hp}{s:Shared}{Q:VK}{us:List Value}{vs:List V}(F:FnOk X.prog X.w X.K X.mg X.base CX k f fd ps sp)(hr:Room k X.A)(hb:Binds X.K fd ps ds)(hd:Vals dvs ds)(hx:Passes CX X E)
  (I:Inv X pins σ H s) (r:Vals vs us) (h:sp (vs++dvs) H Q E):wpAny (model X.prog X.w) X.A (call (.ref f) us) (EP X pins σ Q) X.xe s:=by
 have r2:Vals (vs++dvs) (us++ds):=r.append hd;have hl:(us++ds).length=ps.length:=by rw[<-r2.length];exact F.len _ _ _ _ h
 refine wpAny_call (codeAny_mono (F.run X.A X.stack s H ⟨us,[]⟩ (us++ds) (vs++dvs) Q E hr I.env0 (hb s us I.kIn hl) r2 h) λr s' hq=>?_);cases r with
 | error e=>exact hx pins σ H s e s' I hq
 | ok fl=>
  cases fl with
  | ret u=>exact I.after hq
  | next=>exact False.elim hq
  | brk=>exact False.elim hq
  | cont=>exact False.elim hq
theorem Xfm(F:FnOk X.prog X.w X.K X.mg X.base CX k f fd ps sp)(hr:Room k X.A)(hg:Gl X x)(hm:X.mg x=some (.ref f))(hk:PySem.W.keepIn X.K (.ref f)=true)(hb:Binds X.K fd ps ds)(hd:Vals dvs ds)(hx:Passes CX X E)
  (ha:PA X (e::es) t) (hdb:(x==("__debug__" : Str))=false:=by decide) (he:starEach (e::es) X.env=(false,eval e X.env)::starEach es X.env:=by rfl) (hpl:(backTo pos (starEach es X.env)).any (·.1)=false:=by rfl):
  PE X (.Call (.Name x p) (e::es) [] pos) (Xay sp dvs E t):=by
 intro pins s σ H Q I h;refine wpAny_Call_Name_kw (Xex I hg hm ?_ hdb);refine PySem.W.callWith_K (h₀:=X.base) I.ok.mod.kin hk (thn (ha pos pins s σ H _ I h) λus s1 ⟨vs,H1,I1,r,q⟩=>⟨I1.kIn,?_⟩) he hpl;exact Xfl F hr hb hd hx I1 r q
structure Mk (K:PySem.W.Frag) (C f:Addr):Prop where
 makes:PySem.W.makesIn K C=true
 init:PySem.W.findIn K (.ref C) "__init__" = some (some (.ref f))
 fn:PySem.W.isFn K (.ref f)=true
 kp:PySem.W.keepIn K (.ref C)=true
end
def PK (X:Cx) (kws:List Keyword) (t:TA):Prop:=
 ∀(pos:Pos) (pins:List (Addr×Obj)) (s:Shared) (σ:St) (H:Hp) (Q:List V->Hp->Prop),Inv X pins σ H s->t σ H Q->wpAny (model X.prog X.w) X.A (evalAll ((backToKw pos (keywordEach kws X.env)).map (·.2))) (AP X pins σ Q) X.xe s
section
variable {X:Cx}{CX:CXT}{k:Nat}{f C:Addr}{fd:FuncData}{ps ks:List Str}{sp:Sp}{E:XK}{x m:Str}{p pos apos kpos:Pos}{e o:Expr}{es:List Expr}{kws:List Keyword}{te ta:TE}{t tk:TA}{nm:Option Str}
structure KBinds (K:PySem.W.Frag) (fd:FuncData) (ps ks:List Str) (g:List Value->List Value->List Value) (gV:List V->List V->List V):Prop where
 to:∀(s:Shared) (us ws:List Value),K.In s.heap->(g us ws).length=ps.length->BindsTo s fd ⟨us,ks.zip ws⟩ (ps.zip (g us ws))
 rel:∀{vs:List V} {us:List Value} {zs:List V} {ws:List Value},Vals vs us->Vals zs ws->Vals (gV vs zs) (g us ws)
variable {g:List Value->List Value->List Value}{gV:List V->List V->List V}
end
structure FnScope (N P:List Str) (sc:Scope):Prop where
 kind:sc.kind = .function
 co:sc.isCoroutine=false
 gen:sc.isGenerator=false
 nd:N.Nodup
 pre:N.take P.length=P
 par:∀x∈P,sc.names.lookup x=some .local\/sc.names.lookup x=some .cell
 nofree:∀y∈sc.names,y.2 ≠ .free
theorem Xaz{kindOf:Str->Option NameKind}{x:Str}:∀{binds:List (Str×Value)} {m:Str->Option Value},(∀v,(x,v)∉binds)->bindL kindOf binds m x=m x
 | [],_,_=>rfl
 | (n,v)::r,m,h=>by
  unfold bindL;rw[Xaz λw hw=>h w (Hb _ hw)];split
  ·have:x≠n:=by rintro rfl;exact h v Hg
   simp[this]
  ·rfl
theorem Xa0{kindOf:Str->Option NameKind}{x:Str}:∀{binds:List (Str×Value)} {m:Str->Option Value},(∀v,(x,v)∉binds)->bindC kindOf binds m x=m x
 | [],_,_=>rfl
 | (n,v)::r,m,h=>by
  unfold bindC;rw[Xa0 λw hw=>h w (Hb _ hw)];split
  ·rfl
  ·have:x≠n:=by rintro rfl;exact h v Hg
   simp[this]
theorem Xa1{kindOf:Str->Option NameKind}{x:Str}{v:Value}:∀{P:List Str} {vs:List Value} {i:Nat} {m:Str->Option Value},P.Nodup->P[i]? = some x->vs[i]? = some v->kindOf x=some .local ->
  bindL kindOf (P.zip vs) m x=some v
 | [],_,_,_,_,h,_,_=>by simp at h
 | _::_,[],_,_,_,_,h,_=>by simp at h
 | p::P,w::vs,0,m,nd,h1,h2,hk=>by
  simp at h1 h2;subst h1;subst h2;show bindL kindOf ((p,w)::P.zip vs) m p=_;unfold bindL;rw[Xaz λv hv=>(Ii.mp nd).1 (J1 hv).1,Kd hk];simp
 | p::P,w::vs,i+1,m,nd,h1,h2,hk=>by
  show bindL kindOf ((p,w)::P.zip vs) m x=_;unfold bindL;exact Xa1 (i:=i) (Ii.mp nd).2 (by simpa using h1) (by simpa using h2) hk
theorem Xa2{kindOf:Str->Option NameKind}{x:Str}{v:Value}:∀{P:List Str} {vs:List Value} {i:Nat} {m:Str->Option Value},P.Nodup->P[i]? = some x->vs[i]? = some v->kindOf x≠some .local ->
  bindC kindOf (P.zip vs) m x=some v
 | [],_,_,_,_,h,_,_=>by simp at h
 | _::_,[],_,_,_,_,h,_=>by simp at h
 | p::P,w::vs,0,m,nd,h1,h2,hk=>by
  simp at h1 h2;subst h1;subst h2;show bindC kindOf ((p,w)::P.zip vs) m p=_;unfold bindC;rw[Xa0 λv hv=>(Ii.mp nd).1 (J1 hv).1,Kc hk];simp
 | p::P,w::vs,i+1,m,nd,h1,h2,hk=>by
  show bindC kindOf ((p,w)::P.zip vs) m x=_;unfold bindC;exact Xa2 (i:=i) (Ii.mp nd).2 (by simpa using h1) (by simpa using h2) hk
def start (N:List Str) (vs:List V):St:=vs.map some++List.replicate (N.length - vs.length) none
def C2 (CX:CXT) (P:Program) (w:World) (K:PySem.W.Frag) (mg:Str->Option Value) (base:Heap) (N:List Str) (qual:Str) (scope:Scope) (f:Addr) (cd:Value) (A:Around) (outer:List Env) (s:Shared) (H:Hp) (E:XK):Cx where
 prog:=P
 w:=w
 K:=K
 mg:=mg
 base:=base
 A:=A.deeper (envOfC qual scope s.heap.objs.size f cd)
 N:=N
 s₀:=s
 H₀:=H
 env:=envOfC qual scope s.heap.objs.size f cd
 outer:=outer
 stack:=envOfC qual scope s.heap.objs.size f cd::outer
 ex:=[]
 calm:=true
 fn:=λ_=>true
 pn:=[]
 xe:=λe s'=>wpAny (model P w) (A.deeper (envOfC qual scope s.heap.objs.size f cd)) (leaving (envOfC qual scope s.heap.objs.size f cd) e) (λ_ s''=>CX outer H s E e s'') (λe' s''=>CX outer H s E e' s'') s'
theorem Xa3{sc:Scope}{n:Nat}{x:Str}(h:sc.names.lookup x=some .cell):∃c,(cellsFrom n sc.names []).lookup x=some c:=by
 have q:=PySem.W.cellsFrom_some sc.names n [] (.inl h);exact Ik.mp q
theorem Xfn{CX:CXT}{P:Program}{w:World}{K:PySem.W.Frag}{mg:Str->Option Value}{base:Heap}{N ps:List Str}{qual:Str}{scope:Scope}{f:Addr}{cd:Value}{A:Around}{outer:List Env}{s s1:Shared}{H:Hp}{E:XK}{us:List Value}{vs:List V}
  (S:FnScope N ps scope) (hd:A.handled=none) (e0:Env0 P w K mg base A outer s H) (hl:vs.length=ps.length) (r:Vals vs us)
  (x:InCallC s s.heap.objs.size (bindL (envOfC qual scope s.heap.objs.size f cd).kindOf (ps.zip us) λ_=>none) (cellsFrom (s.heap.objs.size+1) scope.names []) (bindC (envOfC qual scope s.heap.objs.size f cd).kindOf (ps.zip us) λ_=>none) s1):
  Inv (C2 CX P w K mg base N qual scope f cd A outer s H E) [] (start N vs) H s1:=by
 have hpl:ps.length<=N.length:=by have:=congrArg List.length S.pre;rw[Hu] at this;omega
 obtain⟨h1,tk,rfl,hk⟩:=x.done;have noA:∀b:Addr,b∉(C2 CX P w K mg base N qual scope f cd A outer s H E).ex:=λb z=>absurd (show b∈([]:List Addr) from z) (by simp);refine⟨⟨e0.mod,S.kind,rfl,rfl,G5 _,λy z c h1 h2=>?_,λy hy=>?_,λy c _ h=>?_,λ_=>hd,Around.frames_deeper e0.frames,.inr ⟨rfl,rfl⟩,λb z=>absurd z (noA b),e0.bs,e0.bsz,λb _ _=>noA b,λb z=>absurd z (noA b),e0.funs,e0.frf⟩,
  rfl,e0.bare,Un.kept hk,⟨_,x.toInCall.ns,λi y v h1 h2 h3=>?_⟩,λy c h=>⟨_,x.cell y c h⟩,e0.hok.fresh (G5 _),λy c h=>?_,λp hp=>absurd (show p∈([]:List (Addr×Obj)) from hp) (by simp),e0.hok.kept hk,?_⟩
 ·exact name_of_addr x.apart (PySem.mem_of_lookup h1) (PySem.mem_of_lookup h2)
 ·have hy:scope.names.lookup y=some .cell\/scope.names.lookup y=some .free:=hy;rcases hy with hy | hy
  ·exact Xa3 hy
  ·exact absurd rfl (S.nofree _ (PySem.mem_of_lookup hy))
 ·exact Jp (x.above y c (PySem.mem_of_lookup h))
 ·have hi:i<vs.length:=by
   unfold start at h2;by_cases hi:i<vs.length
   ·exact hi
   ·rw[List.getElem?_append_right (by simpa using hi)] at h2;rw[List.getElem?_replicate] at h2;split at h2<;>cases h2
  have ha:vs[i]? = some v:=by
   unfold start at h2;rw[List.getElem?_append_left (by simpa using hi),Hd] at h2;cases e:vs[i]? with
   | none=>rw[e] at h2;cases h2
   | some a=>rw[e] at h2;cases h2;rfl
  obtain⟨u,hu,rv⟩:=r.get ha;have hp:ps[i]? = some y:=by
   rw[<-S.pre,List.getElem?_take_of_lt (by omega)];exact h1
  have ndP:ps.Nodup:=by rw[<-S.pre];exact S.nd.sublist (List.take_sublist _ _)
  refine⟨u,rv,?_⟩;rcases S.par y (Ib hp) with k | k
  ·exact .inl ⟨k,Xa1 ndP hp hu k⟩
  ·obtain⟨c,e⟩:=Xa3 (n:=s.heap.objs.size+1) k;refine .inr ⟨.inl k,c,e,?_⟩;have q:=x.cell y c e;rw[Xa2 ndP hp hu (by show scope.names.lookup y≠_;rw[k];decide)] at q;exact q
 ·exact e0.hok.fresh (Jp (x.above y c (PySem.mem_of_lookup h)))
 ·unfold start;show _=N.length;rw[Hi,G3,List.length_replicate];omega
theorem Xfo{CX:CXT}{P:Program}{w:World}{K:PySem.W.Frag}{mg:Str->Option Value}{base:Heap}{k:Nat}{f:Addr}{name qual:Str}{params:Arguments}{body:List Stmt}{scope:Scope}{dV kV doc pm cdv ct oc:Value}{an od:Option Addr}
  {osl:Array (Option Value)} {N ps:List Str} {sp:Sp} (lk:K.lookup f=some ⟨oc,od,.func (PySem.W.fnOf name qual params body scope dV kV doc pm an cdv ct),osl⟩) (hcd:PySem.W.codeIn K cdv qual=true) (S:FnScope N ps scope)
  (len:∀vs H Q E,sp vs H Q E->vs.length=ps.length)
  (hbody:∀(A:Around) (outer:List Env) (s:Shared) (H:Hp) (vs:List V) (Q:VK) (E:XK),Room k (A.deeper (envOfC qual scope s.heap.objs.size f cdv))->sp vs H Q E ->
   ∃t,PSs (C2 CX P w K mg base N qual scope f cdv A outer s H E) body t/\t {nx:=λ_ H'=>Q .non H',rt:=Q} (start N vs) H):
  FnOk P w K mg base CX (k+1) f (PySem.W.fnOf name qual params body scope dV kV doc pm an cdv ct) ps sp:=by
 refine⟨len,λA outer s H args us vs Q E hr e0 hb r hsp=>?_⟩;have hl:=len _ _ _ _ hsp;have KX:K.In s.heap:=e0.mod.kin.keeps λb o e=>(e0.bs b o e).1;have lim:s.heap.NoLimit:=e0.mod.nolimit.keeps λb o e=>(e0.bs b o e).1;have hkind:∀y∈ps.zip us,scope.names.lookup y.1=some .local\/(scope.names.lookup y.1=some .cell/\((cellsFrom (s.heap.objs.size+1) scope.names []).lookup y.1).isSome=true):=λ⟨n,v⟩ hy=>by
  rcases S.par n (J1 hy).1 with q | q
  ·exact .inl q
  ·exact .inr ⟨q,PySem.W.cellsFrom_some _ _ _ (.inl q)⟩
 refine codeAny_call_function hr.depth (KX _ _ lk) rfl S.co S.gen rfl (PySem.W.codeRec_of KX hcd) (hb _ _ _ _ ?_);refine wpAny_newFunctionEnv_cells S.kind hkind λenv he s1 x=>?_;subst he;refine⟨lim.keeps x.toInCall.keep,codeAny_func ?_⟩;obtain⟨t,ht,hq⟩:=hbody A outer s H vs Q E (hr.deeper _) hsp;have I:Inv (C2 CX P w K mg base N qual scope f cdv A outer s H E) [] (start N vs) H s1:=Xfn S hr.hd e0 hl r x;refine wpAny_mono (ht [] s1 (start N vs) H _ I hq) (λfl s' hs=>?_) λe s' hs=>hs;have fin:∀{σ':St} {H':Hp} {v:V} {u:Value},Inv (C2 CX P w K mg base N qual scope f cdv A outer s H E) [] σ' H' s'->Ag v u->Q v H'->CE outer P w H s Q u s':=
  λ{σ' H' v u} J rv q=>⟨v,H',J.os,J.bare,J.base,J.hok,rv,q⟩
 cases fl with
 | ret u=>
  obtain⟨v, σ',H',J,rv,q⟩:=hs;exact fin J rv q
 | next=>
  obtain⟨σ',H',J,q⟩:=hs;exact fin (v:=V.non) (u:=Value.none) J rfl q
 | brk=>
  obtain⟨_,_,_,q⟩:=hs;exact False.elim q
 | cont=>
  obtain⟨_,_,_,q⟩:=hs;exact False.elim q
section
variable {X:Cx}{x:Str}{p pos:Pos}{e:Expr}{es:List Expr}{t:TA}{id T:String}{r:List V->Hp->VK->Prop}
def tCB (r:List V->Hp->VK->Prop) (t:TA):TE:=fun σ H Q=>t σ H λvs H1=>r vs H1 Q
theorem Ar(hc:A9 X (.builtin id) r)(hg:Gl X x)(hm:X.mg x=none)(hv:bootBuiltins x=some (.builtin id))(ha:PA X (e::es) t)(hn:x ≠ "__name__" := by decide)(hdb:(x==("__debug__" : Str))=false:=by decide)
  (he:starEach (e::es) X.env=(false,eval e X.env)::starEach es X.env:=by rfl) (hpl:(backTo pos (starEach es X.env)).any (·.1)=false:=by rfl):PE X (.Call (.Name x p) (e::es) [] pos) (tCB r t):=by
 intro pins s σ H Q I h;refine wpAny_Call_Name_kw (Dh I hg hm hv ?_ hn hdb);exact PyProof.Rows.callWith_builtin1 (thn (ha pos pins s σ H _ I h) λus s1 ⟨vs,H1,I1,r1,q1⟩=>hc pins s1 σ H1 vs us Q I1 r1 q1) he hpl
theorem B8(hc:A9 X (.type T) r)(hg:Gl X x)(hm:X.mg x=none)(hv:bootBuiltins x=some (.type T))(ha:PA X (e::es) t)(hn:x ≠ "__name__" := by decide)(hdb:(x==("__debug__" : Str))=false:=by decide)
  (he:starEach (e::es) X.env=(false,eval e X.env)::starEach es X.env:=by rfl) (hpl:(backTo pos (starEach es X.env)).any (·.1)=false:=by rfl):PE X (.Call (.Name x p) (e::es) [] pos) (tCB r t):=by
 intro pins s σ H Q I h;refine wpAny_Call_Name_kw (Dh I hg hm hv ?_ hn hdb);exact PyProof.Rows.callWith_type1 (thn (ha pos pins s σ H _ I h) λus s1 ⟨vs,H1,I1,r1,q1⟩=>hc pins s1 σ H1 vs us Q I1 r1 q1) he hpl
end
end L2
namespace HT
open PySem PyProof.Rows
def Xfp:List Int->List Int->Bool
 | [],[]=>false
 | [],_::_=>true
 | _::_,[]=>false
 | x::xs,y::ys=>if x=y then Xfp xs ys else decide (x<y)
section
open PySem.SeqAt
open PySem.AutoSeq1 (wpAny_loadPart')
open PySem.MeetsSeq PySem.MeetsSeq2 PySem.MeetsSeq3
end
section
variable {prog:Program}{w:World}{A:Around}{E:Value->Shared->Prop}{s:Shared}
def sIx (n d:Nat):Option Int->Nat
 | none=>d
 | some v=>if v<0 then (v+(n:Int)).toNat else min v.toNat n
theorem sIx_none(n d:Nat):sIx n d none=d:=rfl
theorem sIx_nat(n d k:Nat):sIx n d (some (k:Int))=min k n:=by
 show (if (k:Int)<0 then ((k:Int)+(n:Int)).toNat else min (k:Int).toNat n)=min k n;rw[Kc (by omega),Ip]
end
end HT
namespace L2
open PySem PySem.Spec PyProof.Rows
abbrev TO:=St->Hp->(Option Int->Hp->Prop)->Prop
def PO (X:Cx) (e:Option Expr) (t:TO):Prop:=
 ∀(pins:List (Addr×Obj)) (s:Shared) (σ:St) (H:Hp) (Q:Option Int->Hp->Prop),Inv X pins σ H s->t σ H Q ->
  wpAny (model X.prog X.w) X.A (evalPart e X.env) (λu s'=>∃o H',Inv X pins σ H' s'/\IsPart u o/\Q o H') X.xe s
def Xfq:TO:=λ_ H Q=>Q none H
def Xfr (t:TE):TO:=fun σ H Q=>t σ H λx H1=>∃i,x = .int i/\Q (some i) H1
section
variable {X:Cx}{e:Expr}{te:TE}{lo hi:Option Expr}{tl th:TO}{pos p2:Pos}
theorem Bw:PO X none Xfq:=by
 intro pins s σ H Q I h;rw[evalPart_none];exact Ka ⟨none,H,I,.none,h⟩
theorem Bj(h:PE X e te):PO X (some e) (Xfr te):=by
 intro pins s σ H Q I hw;rw[evalPart_some];refine thn (h pins s σ H _ I hw) λu s1 ⟨x,H1,I1,r1,q1⟩=>?_;obtain⟨i,rfl,q⟩:=q1;obtain⟨t,rfl⟩:=r1;exact⟨some i,H1,I1,.int i t,q⟩
def SlR (X:Cx) (r:V->Option Int->Option Int->Hp->VK->Prop):Prop:=
 ∀(pins:List (Addr×Obj)) (s:Shared) (σ:St) (H:Hp) (x:V) (v vl vu:Value) (lo hi:Option Int) (sl:Addr) (Q:VK),Inv X pins σ H s->Ag x v->s.heap.IsSliceOf sl vl vu .none->IsPart vl lo->IsPart vu hi->r x lo hi H Q ->
  ∃T id,typeLookup (.type T) "__getitem__" = pure (some (.builtin id))/\s.TypeIs v T/\wpAny (model X.prog X.w) X.A (getItem v (.ref sl)) (EP X pins σ Q) X.xe s
def tSl (r:V->Option Int->Option Int->Hp->VK->Prop) (te:TE) (tl th:TO):TE:=fun σ H Q=>te σ H λx H1=>tl σ H1 λl H2=>th σ H2 λu H3=>r x l u H3 Q
theorem Bs{r:V->Option Int->Option Int->Hp->VK->Prop}(hr:SlR X r)(he:PE X e te)(hl:PO X lo tl)(hu:PO X hi th):PE X (.Subscript e (.Slice lo hi none p2) pos) (tSl r te tl th):=by
 intro pins s σ H Q I h;refine Subscript_ (thn (he pins s σ H _ I h) λv s1 ⟨x,H1,I1,r1,q1⟩=>?_);refine wpAny_Slice (thn (hl pins s1 σ H1 _ I1 q1) λvl s2 ⟨l,H2,I2,pl,q2⟩=>thn (hu pins s2 σ H2 _ I2 q2) λvu s3 ⟨u,H3,I3,pu,q3⟩=>?_);rw[evalPart_none];refine Ka ?_;have I4:Inv X pins σ H3 {s3 with heap:=s3.heap.push {cls:=.type "slice",data:=.fields #[vl,vu,.none]} }:=I3.kept (t':=s3.toks) λb ob q=>Kj _ q;obtain⟨T,id,hT,ht,hg⟩:=hr pins {s3 with heap:=s3.heap.push {cls:=.type "slice",data:=.fields #[vl,vu,.none]} } σ H3 x v vl vu l u s3.heap.objs.size Q I4 r1 (Heap.IsSliceOf.new ..) pl pu q3;show wpAny (model X.prog X.w) X.A (subscriptTail e (.Slice lo hi none p2) v (.ref s3.heap.objs.size)) (EP X pins σ Q) X.xe {s3 with heap:=s3.heap.push {cls:=.type "slice",data:=.fields #[vl,vu,.none]} };exact tail_any (ops:=[.ref s3.heap.objs.size,v]) ht hT hg (by with_unfolding_all rfl)
def Bt (xs:List V) (lo hi:Option Int):List V:=(xs.drop (HT.sIx xs.length 0 lo)).take (HT.sIx xs.length xs.length hi - HT.sIx xs.length 0 lo)
theorem Xfs(xs:List V)(lo hi:Option Int):(Bt xs lo hi).length<=xs.length:=by
 unfold Bt;rw[Hu,Jk];omega
def rSlT (K:PySem.W.Frag):V->Option Int->Option Int->Hp->VK->Prop:=λx lo hi H Q=>∃a xs,x = .ref a/\SqT K H a xs /\
 ¬(HT.sIx xs.length 0 lo=0/\HT.sIx xs.length xs.length hi=xs.length)/\∀p,H p=none->Q (.ref p) (upd H p (.tup (Bt xs lo hi)))
def rCatT (K:PySem.W.Frag):R2:=λx y H Q=>∃a b xs ys,x = .ref a/\y = .ref b/\SqT K H a xs/\SqT K H b ys/\xs≠[]/\xs.length+ys.length<=sizeLine /\
 (ys=[]->Q (.ref a) H)/\(ys≠[]->∀p,H p=none->Q (.ref p) (upd H p (.tup (xs++ys))))
end
def ixN (n:Nat) (i:Int):Option Nat:=if 0<=i then (if i<n then some i.toNat else none) else if -(n:Int)<=i then some (i+n).toNat else none
def atI {α : Type} (xs:List α) (i:Int):Option α:=(ixN xs.length i).bind λj=>xs[j]?
theorem Xa4{n:Nat}{i:Int}{j:Nat}(h:ixN n i=some j):seqIndex? i n=some j/\j<n /\ -(n:Int)<=i/\i<n:=by
 unfold ixN at h;by_cases h0:0<=i
 ·rw[Kd h0] at h;by_cases h1:i<n
  ·rw[Kd h1] at h;have e:i.toNat=j:=Ha h;exact⟨by rw[seqIndex_of h0 h1,e],by omega,by omega,h1⟩
  ·rw[Kc h1] at h;cases h
 ·rw[Kc h0] at h;by_cases h1 : -(n:Int)<=i
  ·rw[Kd h1] at h;have e:(i+n).toNat=j:=Ha h;exact⟨by rw[seqIndex_neg (by omega) h1,e],by omega,h1,by omega⟩
  ·rw[Kc h1] at h;cases h
theorem Ff{α : Type}{xs:List α}{i:Int}{v : α}(h:atI xs i=some v):∃j,seqIndex? i xs.length=some j/\xs[j]? = some v/\j<xs.length /\ -(xs.length:Int)<=i/\i<xs.length:=by
 unfold atI at h;cases e:ixN xs.length i with
 | none=>rw[e] at h;cases h
 | some j=>
  rw[e] at h;obtain⟨h1,h2,h3,h4⟩:=Xa4 e;exact⟨j,h1,h,h2,h3,h4⟩
theorem Ci{α : Type}{xs:List α}{j:Nat}{v : α}(h:xs[j]? = some v):atI xs (j:Int)=some v:=by
 have hj:j<xs.length:=(G6.mp h).1;have e:ixN xs.length (j:Int)=some j:=by
  unfold ixN;rw[Kd (by omega),Kd (by omega)];simp
 unfold atI;rw[e];exact h
def Xft (b:Expr):Prop:=∀o i,subscripted b false o i=operate [o,i] (getItem o i)
def IxR (X:Cx) (r:R2):Prop:=
 ∀(value slice:Expr) (pins:List (Addr×Obj)) (s:Shared) (σ:St) (H:Hp) (x y:V) (v u:Value) (Q:VK),Inv X pins σ H s->Ag x v->Ag y u->r x y H Q ->
  subscripted slice false v u=operate [v,u] (getItem v u)->wpAny (model X.prog X.w) X.A (subscriptTail value slice v u) (EP X pins σ Q) X.xe s
def MtR (X:Cx) (id:String) (r:V->List V->Hp->VK->Prop):Prop:=
 ∀(pins:List (Addr×Obj)) (s:Shared) (σ:St) (H:Hp) (x:V) (xs:List V) (v:Value) (us:List Value) (Q:VK),Inv X pins σ H s->Ag x v->Vals xs us->r x xs H Q ->
  wpAny (model X.prog X.w) X.A (call (.builtin id) (v::us)) (EP X pins σ Q) X.xe s
section
variable {X:Cx}{a b:Expr}{ta tb:TE}{pos:Pos}
theorem Ay{r:R2}(hr:IxR X r)(ha:PE X a ta)(hb:PE X b tb)(hs:Xft b):PE X (.Subscript a b pos) (tOp r ta tb):=by
 intro pins s σ H Q I h;exact Subscript_ (binT ha hb I h λv u s2 x y H2 I2 rx ry q=>hr a b pins s2 σ H2 x y v u Q I2 rx ry q (hs _ _))
def Xa5 (K:PySem.W.Frag):R2:=λx y H Q=>∃p xs i v,x = .ref p/\y = .int i/\SqL K H p xs/\atI xs i=some v/\Q v H
def Xa6 (K:PySem.W.Frag):R2:=λx y H Q=>∃p xs i v,x = .ref p/\y = .int i/\SqT K H p xs/\atI xs i=some v/\Q v H
def Xa7:R2:=λx y H Q=>∃z i c,x = .str z/\y = .int i/\z.length<=sizeLine/\atI z.cps.toList i=some c/\Q (.str ⟨#[c]⟩) H
theorem A4:IxR X (Xa5 X.K):=by
 intro value slice pins s σ H x y v u Q I rx ry h hs;obtain⟨p,xs,i,z,rfl,rfl,hq,he,q⟩:=h;cases rx;obtain⟨t,rfl⟩:=ry;obtain⟨its,r,pl,hz⟩:=I.list hq;obtain⟨j,h1,h2,h3,h4,h5⟩:=Ff he;obtain⟨w,ew,rw'⟩:=r.get h2;have hl:=r.length;have hn:=line63;have fin:EP X pins σ Q w s:=⟨z,H,I,rw',q⟩;by_cases h0:0<=i
 ·have hj:i.toNat=j:=by
   rw[seqIndex_of h0 h5] at h1;exact Ha h1
  exact item_listR pl.isList h0 (by omega) (by rw[hj];simpa using ew) fin hs
 ·have hj:(i+(its.toArray.size:Int)).toNat=j:=by
   rw[seqIndex_neg (by omega) h4] at h1;rw[G9,<-hl];exact Ha h1
  exact subscriptTail_builtinR (x:=w) pl.isList.typeIs slot_list_getitem.lookup
   (wpAny_getItem_list_neg (Q:=λr s'=>r=w/\EP X pins σ Q r s') pl.isList (by omega) (by rw[G9]<;>omega) (by omega) (by rw[hj];simpa using ew) ⟨rfl,fin⟩) hs
theorem Fg:IxR X (Xa6 X.K):=by
 intro value slice pins s σ H x y v u Q I rx ry h hs;obtain⟨p,xs,i,z,rfl,rfl,hq,he,q⟩:=h;cases rx;obtain⟨t,rfl⟩:=ry;obtain⟨its,r,pl,hz⟩:=I.tuple hq;obtain⟨j,h1,h2,h3,h4,h5⟩:=Ff he;obtain⟨w,ew,rw'⟩:=r.get h2;have hl:=r.length;have hn:=line63;have fin:EP X pins σ Q w s:=⟨z,H,I,rw',q⟩;exact subscriptTail_builtinR (x:=w) pl.typeIs slot_tuple_getitem.lookup
  (getItem_tuple (j:=j) (Q:=λr s'=>r=w/\EP X pins σ Q r s') pl (by omega) (by omega) (by rw[G9,<-hl];exact h1) (by simpa using ew) ⟨rfl,fin⟩) hs
theorem Xfu:IxR X Xa7:=by
 intro value slice pins s σ H x y v u Q I rx ry h hs;obtain⟨z,i,c,rfl,rfl,hz,he,q⟩:=h;obtain⟨t,rfl⟩:=rx;obtain⟨t',rfl⟩:=ry;obtain⟨j,h1,h2,h3,h4,h5⟩:=Ff he;have hl:z.cps.toList.length=z.length:=by simp[Str.length]
 rw[hl] at h1 h4 h5;have hn:=line63;exact tail_any (typeIs_str s z t) slot_str_getitem.lookup (getItem_str (c:=c) (by
  have e1:decide (i < -(2 ^ 63:Int))=false:=Kf (by omega);have e2:decide (i ≥ 2 ^ 63)=false:=Kf (by omega);rw[e1,e2,Bool.or_false]) (by rw[h1];simpa using h2) ⟨.str ⟨#[c]⟩,H,I.tok _,⟨_,rfl⟩,q⟩) hs
def rIx (K:PySem.W.Frag):R2:=λx y H Q=>Xa5 K x y H Q\/Xa6 K x y H Q\/Xa7 x y H Q
theorem Xfv(its:List Value)(n j:Nat)(u:Value):Obj.mapSeq (·.setIfInBounds j u) {cls:=.type "list",data:=.seq its.toArray n} = {cls:=.type "list",data:=.seq (its.set j u).toArray n}:=by
 simp[Obj.mapSeq]
theorem Inv.lst{pins:List (Addr×Obj)}{σ:St}{H:Hp}{s:Shared}{p:Addr}{xs:List V}(I:Inv X pins σ H s)(h:H p=some (.lst xs)):
  ∃(its:List Value) (n:Nat),Vals xs its/\s.heap.get? p=some {cls:=.type "list",data:=.seq its.toArray n}/\xs.length<=sizeLine:=by
 obtain⟨z,its,n,r,e⟩:=I.hok p _ h;exact⟨its,n,r,e,z⟩
theorem Inv.lstUpd{pins:List (Addr×Obj)}{σ:St}{H:Hp}{s:Shared}{p:Addr}{xs ys:List V}{its its':List Value}{n n':Nat}{f:Obj->Obj}(I:Inv X pins σ H s)(h:H p=some (.lst xs))
  (ho:s.heap.get? p=some {cls:=.type "list",data:=.seq its.toArray n}) (hf:f {cls:=.type "list",data:=.seq its.toArray n} = {cls:=.type "list",data:=.seq its'.toArray n'}) (r:Vals ys its') (hz:ys.length<=sizeLine) (t:Nat):
  Inv X pins σ (upd H p (.lst ys)) {s with heap:=s.heap.update p f,toks:=t}:=by
 have e:(s.heap.update p f).get? p=some {cls:=.type "list",data:=.seq its'.toArray n'}:=by
  rw[Heap.get?_update_self f ho (by rw[hf]<;>rfl),hf]
 refine I.write (x:=p) (e:=p) (by rw[h];trivial) (.inl rfl) (λb u hb q=>(Heap.get?_update_other _ _ (Ne.symm hb)).trans q) ⟨_,e⟩ ?_;exact⟨hz,its',n',r,e⟩
def Xfw:V->V->V->Hp->(Hp->Prop)->Prop:=λo i v H Q=>∃p xs k j,o = .ref p/\i = .int k/\H p=some (.lst xs)/\ixN xs.length k=some j/\Q (upd H p (.lst (xs.set j v)))
theorem Ce:PSet X Xfw:=by
 intro pins s σ H o i v ov iv u Q I ro ri rv h;obtain⟨p,xs,k,j,rfl,rfl,hp,hj,q⟩:=h;cases ro;obtain⟨t,rfl⟩:=ri;obtain⟨its,n,r,ho,hz⟩:=I.lst hp;obtain⟨h1,h2,h3,h4⟩:=Xa4 hj;have hl:=r.length;have hn:=line63;have I':Inv X pins σ (upd H p (.lst (xs.set j v))) {s with heap:=s.heap.update p (Obj.mapSeq (·.setIfInBounds j u))}:=
  I.lstUpd hp ho (Xfv its n j u) (r.set rv j) (by rw[List.length_set];exact hz) s.toks
 by_cases h0:0<=k
 ·have hk:k.toNat=j:=by
   rw[seqIndex_of h0 h4] at h1;exact Ha h1
  exact PySem.W.ki_setAt ho h0 (by omega) (by rw[G9,<-hl];exact h4) (by rw[hk];exact⟨_,I',q⟩)
 ·have hk:(k+(its.toArray.size:Int)).toNat=j:=by
   rw[seqIndex_neg (by omega) h3] at h1;rw[G9,<-hl];exact Ha h1
  exact PySem.W.ki_setBack ho (by omega) (by rw[G9,<-hl];exact h3) (by omega) (by rw[hk];exact⟨_,I',q⟩)
theorem Xfx(lo hi:Option Int)(n:Nat):(sliceBounds lo hi none n).1=((HT.sIx n 0 lo:Nat):Int)/\(sliceBounds lo hi none n).2.1=((HT.sIx n n hi:Nat):Int)/\(sliceBounds lo hi none n).2.2=1:=by
 refine⟨?_,?_,rfl⟩
 ·cases lo with
  | none=>simp[sliceBounds,HT.sIx]
  | some i=>
   simp only[sliceBounds,HT.sIx,Option.getD_none,show (1:Int) > 0 by decide,if_true];by_cases h:i<0
   ·simp only[h,if_true]<;>omega
   ·simp only[h,if_false]<;>omega
 ·cases hi with
  | none=>simp[sliceBounds,HT.sIx]
  | some i=>
   simp only[sliceBounds,HT.sIx,Option.getD_none,show (1:Int) > 0 by decide,if_true];by_cases h:i<0
   ·simp only[h,if_true]<;>omega
   ·simp only[h,if_false]<;>omega
theorem Xfy(its:List Value)(lo hi:Option Int):slicePick its.toArray lo hi none=((its.drop (HT.sIx its.length 0 lo)).take (HT.sIx its.length its.length hi - HT.sIx its.length 0 lo)).toArray:=by
 obtain⟨h1,h2,h3⟩:=Xfx lo hi its.toArray.size;unfold slicePick;rw[h1,h2,h3];simp only[sliceRange_one,pick_run,G9]<;>rfl
def rSlL (K:PySem.W.Frag):V->Option Int->Option Int->Hp->VK->Prop:=λx lo hi H Q=>∃a xs,x = .ref a/\SqL K H a xs/\∀p,H p=none->Q (.ref p) (upd H p (.lst (Bt xs lo hi)))
theorem Bu:SlR X (rSlL X.K):=by
 intro pins s σ H x v vl vu lo hi sl Q I rx hs pl pu h;obtain⟨a,xs,rfl,hx,q⟩:=h;cases rx;obtain⟨its,r,ht,hz⟩:=I.list hx;have hlen:=r.length;refine⟨"list",_,slot_list_getitem.lookup,ht.isList.typeIs,?_⟩;refine wpAny_getItem_list_slice ht.isList hs pl pu .none (by simp) ?_ (by rw[G9]<;>omega);rw[Xfy,<-hlen];refine⟨.ref s.heap.objs.size,_,I.laid (t':=s.toks) (o:=.lst (Bt xs lo hi)) (λb ob q=>Kj _ q) (G5 _) ?_,rfl,q _ (I.hok.fresh (G5 _))⟩;exact⟨Hx (Xfs xs lo hi) hz,_,0,(r.drop (HT.sIx xs.length 0 lo)).take (HT.sIx xs.length xs.length hi - HT.sIx xs.length 0 lo),Heap.get?_push_size _ rfl⟩
def Xa8:V->Bool
 | .non=>true
 | .bl _=>true
 | .int _=>true
 | .str _=>true
 | _=>false
def eqV:V->V->Bool
 | .non,.non=>true
 | .bl a,.bl b=>a==b
 | .bl a,.int b=>(if a then 1 else 0)==b
 | .int a,.bl b=>a==(if b then 1 else 0)
 | .int a,.int b=>a==b
 | .str a,.str b=>a==b
 | _,_=>false
def eqU (x:V) (u:Value):Bool:=match u with
 | .none=>eqV .non x
 | .bool b=>eqV (.bl b) x
 | .int i _=>eqV (.int i) x
 | .str z _=>eqV (.str z) x
 | _=>false
def inV (x:V) (xs:List V):Bool:=xs.any λy=>eqV y x
def rIn (K:PySem.W.Frag) (neg:Bool):R2:=λx y H Q=>∃p xs,y = .ref p/\(SqL K H p xs\/SqT K H p xs)/\Xa8 x=true/\xs.all Xa8=true/\Q (.bl (if neg then !inV x xs else inV x xs)) H
theorem Ba:A9 X (.builtin "len") (λxs H Q=>∃p ys,xs=[.ref p]/\(SqL X.K H p ys\/SqT X.K H p ys)/\Q (.int ys.length) H):=by
 intro pins s σ H xs us Q I r h;obtain⟨p,ys,rfl,hq,q⟩:=h;obtain⟨u,rfl,rx⟩:=Br r;cases rx;have hn:=line63;rcases hq with hq | hq
 ·obtain⟨its,r',pl,hz⟩:=I.list hq;have hlen:=r'.length;exact Calls.call_len_list pl.isList (by simp only[G9]<;>omega) ⟨.int ys.length,H,I.tok _,⟨s.toks+1,by rw[G9,hlen]⟩,q⟩
 ·obtain⟨its,r',pl,hz⟩:=I.tuple hq;have hlen:=r'.length;exact len_tuple pl (by simp only[G9]<;>omega) ⟨.int ys.length,H,I.tok _,⟨s.toks+1,by rw[G9,hlen]⟩,q⟩
theorem Dk:A9 X (.type "list") (λxs H Q=>∃p ys,xs=[.ref p]/\(SqL X.K H p ys\/SqT X.K H p ys)/\∀l,H l=none->Q (.ref l) (upd H l (.lst ys))):=by
 intro pins s σ H xs us Q I r h;obtain⟨p,ys,rfl,hq,q⟩:=h;obtain⟨u,rfl,rx⟩:=Br r;cases rx;have fin:∀(its:List Value),Vals ys its->ys.length<=sizeLine->∀(h':Heap) (c':Nat),(∀b o',s.heap.get? b=some o'->h'.get? b=some o') ->
   h'.get? s.heap.objs.size=some {cls:=.type "list",dict:=none,data:=.seq its.toArray c',slots := #[]}->EP X pins σ Q (.ref s.heap.objs.size) {s with heap:=h'}:=λits r' hz h' c' kp e=>
  ⟨.ref s.heap.objs.size,_,I.laid (t':=s.toks) kp (G5 _) (show Aq X.prog X.w _ h' _ (.lst ys) from ⟨hz,its,c',r',e⟩),rfl,q _ (I.hok.fresh (G5 _))⟩
 rcases hq with hq | hq
 ·obtain⟨its,r',pl,hz⟩:=I.list hq;have hlen:=r'.length;obtain⟨o,ho,hc,n,hd⟩:=pl.isList;exact call_list_seq p (.inl rfl) ho hc hd (λh' c' kp e=>fin its r' hz h' c' kp e) (by simp only[G9]<;>omega)
 ·obtain⟨its,r',pl,hz⟩:=I.tuple hq;have hlen:=r'.length;obtain⟨o,ho,hc,n,hd⟩:=pl;exact call_list_seq p (.inr rfl) ho hc hd (λh' c' kp e=>fin its r' hz h' c' kp e) (by simp only[G9]<;>omega)
def tyV (K:PySem.W.Frag) (T:String) (x:V) (H:Hp):Prop:=match x with
 | .str _=>T = "str"
 | .int _=>T = "int"
 | .ref p=>(T = "list" /\ ∃xs,SqL K H p xs)\/(T = "tuple" /\ ∃o,K.lookup p=some o/\o.cls = .type "tuple" /\ o.dict=none) \/
   (T = "dict" /\ ((∃kvs,H p=some (.dK kvs)) \/ ∃kvs,H p=some (.dT kvs)))\/(T = "set" /\ ∃S n,H p=some (.set S n))
 | _=>False
theorem Xa9{pins:List (Addr×Obj)}{σ:St}{H:Hp}{s:Shared}{T:String}{x:V}{v:Value}(I:Inv X pins σ H s)(r:Ag x v)(ty:tyV X.K T x H):
  s.TypeIs v T/\∀a,v = .ref a->∃ob,s.heap.get? a=some ob/\ob.dict=none:=by
 cases x with
 | str z=>
  obtain⟨t,rfl⟩:=r;cases (show T = "str" from ty);exact⟨typeIs_str s z t,λ_ e=>nomatch e⟩
 | int i=>
  obtain⟨t,rfl⟩:=r;cases (show T = "int" from ty);exact⟨typeIs_int s i t,λ_ e=>nomatch e⟩
 | ref p=>
  cases r;rcases ty with ⟨rfl,xs,hq⟩ | ⟨rfl,o,hk,hc,hd⟩ | ⟨rfl,hk⟩ | ⟨rfl,S,n,hk⟩
  ·obtain⟨its,_,pl,_⟩:=I.list hq;refine⟨pl.isList.typeIs,λa e=>?_⟩;cases e;obtain⟨o,n,e,c,hd,_⟩:=pl;exact⟨o,e,hd⟩
  ·refine⟨⟨o,I.kIn p o hk,hc⟩,λa e=>?_⟩;cases e;exact⟨o,I.kIn _ o hk,hd⟩
  ·have z:∃o,s.heap.get? p=some o/\o.ExactDict:=by
    rcases hk with ⟨kvs,hk⟩ | ⟨kvs,hk⟩
    ·obtain⟨_,_,_,_,o,_,_,e,ex,_⟩:=I.hok p _ hk;exact⟨o,e,ex⟩
    ·obtain⟨_,_,_,_,o,_,_,e,ex,_⟩:=I.hok p _ hk;exact⟨o,e,ex⟩
   obtain⟨o,e,ex⟩:=z;refine⟨⟨o,e,ex.1⟩,λa e2=>?_⟩;cases e2;exact⟨o,e,ex.2.1⟩
  ·obtain⟨o,_,_,_,e,ex,_⟩:=I.hok p _ hk;refine⟨⟨o,e,ex.1⟩,λa e2=>?_⟩;cases e2;exact⟨o,e,ex.2.1⟩
 | _=>exact False.elim ty
def tBM0 (K:PySem.W.Frag) (T:String) (r:V->List V->Hp->VK->Prop) (to:TE):TE:=fun σ H Q=>to σ H λx H1=>tyV K T x H1/\r x [] H1 Q
def tBM (K:PySem.W.Frag) (T:String) (r:V->List V->Hp->VK->Prop) (to:TE) (t:TA):TE:=fun σ H Q=>to σ H λx H1=>tyV K T x H1/\t σ H1 λxs H2=>r x xs H2 Q
variable {o e:Expr}{es:List Expr}{to:TE}{t:TA}{name:Str}{apos cpos:Pos}{T id:String}{r:V->List V->Hp->VK->Prop}
theorem Xba(pa:PlainAttrs T)(slot:Slot T name id)(hty:typeOf (.builtin id)=pure (.type "method_descriptor"))(hm:MtR X id r)(ho:PE X o to)
  (hbase:attributeBase o name X.env (eval o X.env)=eval o X.env:=by rfl) (hline:(apos.endLine==cpos.line)=true:=by rfl):PE X (.Call (.Attribute o name apos) [] [] cpos) (tBM0 X.K T r to):=by
 intro pins s σ H Q I h;refine wpAny_Call_method0_late hbase hline (thn (ho pins s σ H _ I h) λv s1 ⟨x,H1,I1,r1,ty,q1⟩=>?_);obtain⟨h1,h2⟩:=Xa9 I1 r1 ty;exact⟨T,id,pa,slot,hty,h1,h2,Calls.callWith_builtin rfl (PySem.evalArgs_none (hm pins s1 σ H1 x [] v [] Q I1 r1 .nil q1))⟩
theorem Fh(pa:PlainAttrs T)(slot:Slot T name id)(hty:typeOf (.builtin id)=pure (.type "method_descriptor"))(hm:MtR X id r)(ho:PE X o to)(ha:PA X (e::es) t)
  (hbase:attributeBase o name X.env (eval o X.env)=eval o X.env:=by rfl)
  (hfew:((backTo cpos (starEach (e::es) X.env)).all (λx => !x.1)&&(backToKw cpos (keywordEach [] X.env)).all (λx=>x.1.isSome)
   && decide ((e::es).length+([]:List Keyword).length+(if ([]:List Keyword).isEmpty then 0 else 1)<30))=true:=by rfl)
  (hline:(apos.endLine==cpos.line)=true:=by rfl) (hs:starEach (e::es) X.env=(false,eval e X.env)::starEach es X.env:=by rfl) (hplain:(backTo cpos (starEach es X.env)).any (·.1)=false:=by rfl):
  PE X (.Call (.Attribute o name apos) (e::es) [] cpos) (tBM X.K T r to t):=by
 intro pins s σ H Q I h;refine wpAny_Call_method_late hbase hfew hline rfl (thn (ho pins s σ H _ I h) λv s1 ⟨x,H1,I1,r1,ty,q1⟩=>?_);obtain⟨h1,h2⟩:=Xa9 I1 r1 ty;refine⟨T,id,pa,slot,hty,h1,h2,?_⟩;have hA:=ha cpos pins s1 σ H1 _ I1 q1;rw[hs] at hA ⊢;refine Calls.callWith_builtin (by show (false||(backTo cpos (starEach es X.env)).any (·.1))=false;rw[hplain]<;>rfl) (Calls.evalArgs_plain ?_);exact thn hA λus s2 ⟨vs,H2,I2,r2,q2⟩=>hm pins s2 σ H2 x vs v us Q I2 r1 r2 q2
end
def MtM (X:Cx) (id:String) (r:V->List V->Hp->VK->Prop):Prop:=
 ∀(pins:List (Addr×Obj)) (s:Shared) (σ:St) (H:Hp) (x:V) (xs:List V) (v:Value) (us:List Value) (Q:VK),Inv X pins σ H s->Ag x v->Vals xs us->r x xs H Q ->
  wpAny (model X.prog X.w) X.A (call (.builtin id) (v::us)) (EP X pins σ Q) X.xe s
theorem Vals.one:∀{x:V} {us:List Value},Vals [x] us->∃u,us=[u]/\Ag x u
 | _,_,.cons r .nil=>⟨_,rfl,r⟩
theorem Vals.two{x y:V}{us:List Value}(h:Vals [x,y] us):∃u v,us=[u,v]/\Ag x u/\Ag y v:=by
 cases h with
 | cons r t=>
  cases t with
  | cons q z=>cases z;exact⟨_,_,rfl,r,q⟩
theorem Vals.eraseIdx:∀{xs:List V} {us:List Value} (i:Nat),Vals xs us->Vals (xs.eraseIdx i) (us.eraseIdx i)
 | _,_,_,.nil=>.nil
 | _,_,0,.cons _ t=>t
 | _,_,i+1,.cons r t=>.cons r (Vals.eraseIdx i t)
theorem Vals.reverse{xs:List V}{us:List Value}(h:Vals xs us):Vals xs.reverse us.reverse:=by
 induction h with
 | nil=>exact .nil
 | cons r t ih=>rw[List.reverse_cons,List.reverse_cons];exact Vals.append ih (.cons r .nil)
theorem Xbb{α : Type}:∀(l:List α) (i:Nat),(l.eraseIdx i).length<=l.length
 | [],_=>G5 _
 | _::_,0=>Jo _
 | _::r,i+1=>Nat.succ_le_succ (Xbb r i)
section
variable {X:Cx}{pins:List (Addr×Obj)}{σ:St}{H:Hp}{s:Shared}{l b:Addr}{xs ys zs:List V}
theorem Inv.lset{its its':List Value}{n:Nat}{f:Array Value->Array Value}{t':Nat}(I:Inv X pins σ H s)(hH:H l=some (.lst xs))
  (e:s.heap.get? l=some {cls:=.type "list",data:=.seq its.toArray n}) (hf:f its.toArray=its'.toArray) (hv:Vals ys its') (hz:ys.length<=sizeLine):
  Inv X pins σ (upd H l (.lst ys)) {s with heap:=s.heap.update l (Obj.mapSeq f),toks:=t'}:=by
 have q:=PySem.IsL.update e f;rw[hf] at q;refine I.write (x:=l) (e:=l) (by rw[hH];exact trivial) (.inl rfl) (λb' u hb hu=>(Heap.get?_update_other s.heap (Obj.mapSeq f) (Ne.symm hb)).trans hu) ⟨_,q⟩ ?_;exact⟨hz,its',_,hv,q⟩
theorem Inv.lnew{its:List Value}{t':Nat}(I:Inv X pins σ H s)(hv:Vals ys its)(hz:ys.length<=sizeLine):
  Inv X pins σ (upd H s.heap.objs.size (.lst ys)) {s with heap:=s.heap.push {cls:=.type "list",data:=.seq its.toArray},toks:=t'}:=
 I.laid (λ_ _ q=>Kj _ q) (G5 _) ⟨hz,its,0,hv,Heap.get?_push_size _ rfl⟩
theorem Inv.fresh(I:Inv X pins σ H s):H s.heap.objs.size=none:=I.hok.fresh (G5 _)
theorem Inv.lstM(I:Inv X pins σ H s)(hH:H l=some (.lst xs)):xs.length<=sizeLine/\∃(its:List Value) (n:Nat),Vals xs its/\xs.length=its.length/\s.heap.get? l=some {cls:=.type "list",data:=.seq its.toArray n}:=by
 obtain⟨z,its,n,r,e⟩:=I.hok l _ hH;exact⟨z,its,n,r,r.length,e⟩
end
section
variable {X:Cx}
def Xbc:V->List V->Hp->VK->Prop:=λx vs H Q=>∃l xs y,x = .ref l/\vs=[y]/\H l=some (.lst xs)/\xs.length<sizeLine/\Q .non (upd H l (.lst (xs++[y])))
theorem Fi:MtM X "list.append" Xbc:=by
 intro pins s σ H x vs v us Q I rx rv h;obtain⟨l,xs,y,rfl,rfl,hH,hz,q⟩:=h;cases rx;obtain⟨u,rfl,ru⟩:=rv.one;obtain⟨z,its,n,r,hl,e⟩:=I.lstM hH;refine call_meets F.slot_list_append ⟨_,e,rfl⟩ F.entry_list_append (F.args_list_append_2 _ _) (PySem.list_append l its.toArray n u (by rw[G9];omega)) ⟨e,?_⟩;refine⟨.non,_,I.lset (its':=its++[u]) hH e (by simp) (r.append (.cons ru .nil)) ?_,rfl,q⟩;rw[Hi,Ij];omega
def Xfz:V->List V->Hp->VK->Prop:=λx vs H Q=>∃l xs i k y,x = .ref l/\vs=[.int i]/\H l=some (.lst xs) /\ -(2 ^ 63)<=i/\i<2 ^ 63/\seqIndex? i xs.length=some k/\xs[k]? = some y/\Q y (upd H l (.lst (xs.eraseIdx k)))
theorem Xf0:MtM X "list.pop" Xfz:=by
 intro pins s σ H x vs v us Q I rx rv h;obtain⟨l,xs,i,k,y,rfl,rfl,hH,h1,h2,hk,hy,q⟩:=h;cases rx;obtain⟨u,rfl,ru⟩:=rv.one;obtain⟨t,rfl⟩:=ru;obtain⟨z,its,n,r,hl,e⟩:=I.lstM hH;obtain⟨w,hw,rw'⟩:=r.get hy;refine call_meets F.slot_list_pop ⟨_,e,rfl⟩ F.entry_list_pop (F.args_list_pop_2 _ _)
  (MeetsSeq.list_pop_at l its.toArray n i t k w (fitsIndex_both h1 h2) (by rw[G9,<-hl];exact hk) (by rw[<-Jv];exact hw) (by rw[G9];omega)) ⟨e,?_⟩
 refine⟨y,_,I.lset (its':=its.eraseIdx k) hH e ?_ (r.eraseIdx k) ?_,rw',q⟩
 ·show its.toArray.eraseIdxIfInBounds k=(its.eraseIdx k).toArray;rw[List.eraseIdxIfInBounds_toArray]
 ·have:=Xbb xs k;omega
def rCat:R2:=λx y H Q=>∃l b xs zs,x = .ref l/\y = .ref b/\H l=some (.lst xs)/\H b=some (.lst zs)/\xs.length+zs.length<=sizeLine/\∀p,H p=none->Q (.ref p) (upd H p (.lst (xs++zs)))
theorem B1:OpR X (binaryOp .Add) rCat:=by
 intro pins s σ H x y v u Q I rx ry h;obtain⟨l,b,xs,zs,rfl,rfl,hH,hB,hz,q⟩:=h;cases rx;cases ry;obtain⟨z,its,n,r,hl,e⟩:=I.lstM hH;obtain⟨z2,its2,n2,r2,hl2,e2⟩:=I.lstM hB;refine PySem.P.add_list e e2 ?_ (by rw[G9,G9];omega);have ea:its.toArray++its2.toArray=(its++its2).toArray:=by simp
 rw[ea];exact⟨.ref _,_,I.lnew (t':=s.toks) (r.append r2) (by rw[Hi];omega),rfl,q _ I.fresh⟩
def rRep:R2:=λx y H Q=>∃l k xs,x = .ref l/\y = .int k/\H l=some (.lst xs) /\ -(2 ^ 63)<=k/\k<2 ^ 63/\xs.length * k.toNat<=sizeLine /\
 ∀p,H p=none->Q (.ref p) (upd H p (.lst (List.replicate k.toNat xs).flatten))
end
section
variable {prog:Program}{w:World}{A:Around}{E:Value->Shared->Prop}{s:Shared}
end
section
variable {X:Cx}
end
section
variable {κ : Type} [DecidableEq κ]
def An (kvs:List (κ × V)) (k : κ):Option V:=(kvs.find? λkv=>decide (kv.1=k)).map (·.2)
def A1 (kvs:List (κ × V)) (k : κ) (v:V):List (κ × V):=
 if (kvs.any λkv=>decide (kv.1=k))=true then kvs.map (λkv=>if kv.1=k then (kv.1,v) else kv) else kvs++[(k,v)]
def Xbd (kvs:List (κ × V)) (k : κ):List (κ × V):=kvs.filter λkv=>decide (kv.1≠k)
theorem B2{p : κ × V}{r:List (κ × V)}{k : κ}(e:p.1=k):An (p::r) k=some p.2:=by simp[An,Iz,e]
theorem B3{p : κ × V}{r:List (κ × V)}{k : κ}(e:¬p.1=k):An (p::r) k=An r k:=by simp[An,Iz,e]
theorem Cu(k : κ):∀kvs:List (κ × V),(kvs.any λkv=>decide (kv.1=k))=(An kvs k).isSome
 | []=>rfl
 | p::r=>by
  rw[List.any_cons];by_cases e:p.1=k
  ·simp only[B2 e,Ke e,Bool.true_or,J6]
  ·rw[B3 e,Kf e,Bool.false_or];exact Cu k r
theorem Xbe(k j : κ)(y:V):∀kvs:List (κ × V),An (kvs.map λkv=>if kv.1=k then (kv.1,y) else kv) j=(An kvs j).map λx=>if j=k then y else x
 | []=>rfl
 | p::r=>by
  have ih:=Xbe k j y r;rw[Hv];by_cases h:p.1=k
  ·rw[Kd h];by_cases e:p.1=j
   ·rw[B2 (p:=(p.1,y)) e,B2 e,Je,Kd (e.symm.trans h)]
   ·rw[B3 (p:=(p.1,y)) e,B3 e,ih]
  ·rw[Kc h];by_cases e:p.1=j
   ·rw[B2 (p:=p) e,B2 e,Je,Kc (λz=>h (e.trans z))]
   ·rw[B3 (p:=p) e,B3 e,ih]
theorem Xbf(k j : κ)(y:V):∀kvs:List (κ × V),An kvs k=none->An (kvs++[(k,y)]) j=if j=k then some y else An kvs j
 | [],_=>by
  by_cases e:k=j
  ·rw[Kd e.symm];exact B2 (p:=(k,y)) e
  ·rw[Kc (λz=>e z.symm)];exact B3 (p:=(k,y)) e
 | p::r,hn=>by
  rw[List.cons_append];have hk:¬p.1=k:=λz=>by rw[B2 z] at hn;cases hn
  rw[B3 hk] at hn;have ih:=Xbf k j y r hn;by_cases e:p.1=j
  ·rw[B2 e,B2 e,Kc (λz=>hk (e.trans z))]
  ·rw[B3 e,B3 e,ih]
theorem Xbg(kvs:List (κ × V))(k j : κ)(y:V):An (A1 kvs k y) j=if j=k then some y else An kvs j:=by
 unfold A1;by_cases a:(kvs.any λkv=>decide (kv.1=k))=true
 ·rw[Kd a,Xbe];rw[Cu] at a;by_cases e:j=k
  ·obtain⟨x,hx⟩:=Ik.mp a;rw[Kd e,e,hx,Je,Kd rfl]
  ·rw[Kc e];cases An kvs j with
   | none=>rfl
   | some x=>rw[Je,Kc e]
 ·rw[Kc a];refine Xbf k j y kvs ?_;rw[Cu] at a;cases q:An kvs k with
  | none=>rfl
  | some x=>rw[q] at a;exact(a rfl).elim
theorem Ec(kvs:List (κ × V))(k : κ)(v:V):(A1 kvs k v).length<=kvs.length+1:=by
 unfold A1;split
 ·rw[G3];omega
 ·rw[Hi,List.length_cons,List.length_nil];omega
theorem Xbh{kvs:List (κ × V)}{k : κ}(v:V)(h:An kvs k=none):A1 kvs k v=kvs++[(k,v)]:=by
 unfold A1;rw[Cu,h];exact Kc (by decide)
theorem Bc.isSome_eq{o:Option V}{u:Option Value}(r:Bc o u):o.isSome=u.isSome:=by
 cases o with
 | none=>cases u with
  | none=>rfl
  | some _=>exact(show False from r).elim
 | some _=>cases u with
  | none=>exact(show False from r).elim
  | some _=>rfl
theorem Bc.getD{o:Option V}{u:Option Value}{d:V}{d':Value}(r:Bc o u)(rd:Ag d d'):Ag (o.getD d) (u.getD d'):=by
 cases o with
 | none=>cases u with
  | none=>exact rd
  | some _=>exact(show False from r).elim
 | some _=>cases u with
  | none=>exact(show False from r).elim
  | some _=>exact r
theorem KV.val{kvs:List (κ × V)}{vs:List (κ × Value)}(r:KV kvs vs)(k : κ):Bc (An kvs k) (valueAt vs k):=by
 unfold KV at r
 induction r with
 | nil=>exact True.intro
 | @cons p q ps qs h t ih=>
  obtain⟨h1,h2⟩:=h;by_cases e:p.1=k
  ·have e':q.1=k:=h1.symm.trans e;have b:valueAt (q::qs) k=some q.2:=by simp[valueAt,Iz,e']
   rw[B2 e,b];exact h2
  ·have e':¬q.1=k:=λz=>e (h1.trans z);have b:valueAt (q::qs) k=valueAt qs k:=by simp[valueAt,Iz,e']
   rw[B3 e,b];exact ih
theorem KV.any{kvs:List (κ × V)}{vs:List (κ × Value)}(r:KV kvs vs)(k : κ):(kvs.any λkv=>decide (kv.1=k))=vs.any λkv=>decide (kv.1=k):=by
 unfold KV at r
 induction r with
 | nil=>rfl
 | cons h t ih=>rw[List.any_cons,List.any_cons,ih,h.1]
theorem KV.repl{kvs:List (κ × V)}{vs:List (κ × Value)}(r:KV kvs vs)(k : κ){y:V}{u:Value}(ry:Ag y u):
  KV (kvs.map λkv=>if kv.1=k then (kv.1,y) else kv) (vs.map λkv=>if kv.1=k then (kv.1,u) else kv):=by
 unfold KV at r ⊢
 induction r with
 | nil=>exact .nil
 | @cons p q ps qs h t ih=>
  rw[Hv,Hv];refine .cons ?_ ih;obtain⟨h1,h2⟩:=h;by_cases e:p.1=k
  ·rw[Kd e,Kd (h1.symm.trans e)];exact⟨h1,ry⟩
  ·rw[Kc e,Kc (λz=>e (h1.trans z))];exact⟨h1,h2⟩
theorem KV.put{kvs:List (κ × V)}{vs:List (κ × Value)}(r:KV kvs vs)(k : κ){y:V}{u:Value}(ry:Ag y u):KV (A1 kvs k y) (stored vs k u):=by
 unfold A1 stored;rw[r.any k];by_cases e:(vs.any λkv=>decide (kv.1=k))=true
 ·rw[Kd e,Kd e];exact r.repl k ry
 ·rw[Kc e,Kc e];exact Paired.snoc r ⟨rfl,ry⟩
theorem KV.length{kvs:List (κ × V)}{vs:List (κ × Value)}(r:KV kvs vs):kvs.length=vs.length:=Paired.length r
end
theorem Dl{P:Program}{w:World}{k:Key}{u:Value}(r:Ag (kV k) u):(A5 P w).is k u=true:=by
 cases k with
 | inl i=>obtain⟨t,e⟩:=(show ∃t,u=Value.int i t from r);subst e;exact Xeq P w i t
 | inr x=>obtain⟨t,e⟩:=(show ∃t,u=Value.str x t from r);subst e;exact Xer P w x t
theorem Xbi{P:Program}{w:World}:∀{ks:List Key} {us:List Value},Vals (ks.map kV) us->ItemsAre (A5 P w) ks us
 | [],_,r=>by rw[List.map_nil] at r;cases r;exact .nil
 | k::ks,_,r=>by
  rw[Hv] at r;cases r with
  | cons h t=>exact .cons (Dl h) (Xbi t)
abbrev KT (H:Hp):List (List Key×V)->List (List Key×Addr×Value)->Prop:=Paired λp q=>p.1=q.1/\H q.2.1=some (.tup (p.1.map kV))/\Ag p.2 q.2.2
theorem KT.val{H:Hp}{kvs:List (List Key×V)}{xs:List (List Key×Addr×Value)}(r:KT H kvs xs)(k:List Key):Bc (An kvs k) ((atKey xs k).map (·.2)):=by
 induction r with
 | nil=>exact True.intro
 | @cons p q ps qs h t ih=>
  obtain⟨h1,_,h2⟩:=h;by_cases e:p.1=k
  ·have e':q.1=k:=h1.symm.trans e;have b:atKey (q::qs) k=some q.2:=by simp[atKey,Iz,e']
   rw[B2 e,b];exact h2
  ·have e':¬q.1=k:=λz=>e (h1.trans z);have b:atKey (q::qs) k=atKey qs k:=by simp[atKey,Iz,e']
   rw[B3 e,b];exact ih
theorem KT.repl{H:Hp}{kvs:List (List Key×V)}{xs:List (List Key×Addr×Value)}(r:KT H kvs xs)(k:List Key){y:V}{u:Value}(ry:Ag y u):
  KT H (kvs.map λkv=>if kv.1=k then (kv.1,y) else kv) (xs.map (putAt k u)):=by
 induction r with
 | nil=>exact .nil
 | @cons p q ps qs h t ih=>
  rw[Hv,Hv];refine .cons ?_ ih;obtain⟨h1,h2,h3⟩:=h;unfold putAt;by_cases e:p.1=k
  ·rw[Kd e,Kd (h1.symm.trans e)];exact⟨h1,h2,ry⟩
  ·rw[Kc e,Kc (λz=>e (h1.trans z))];exact⟨h1,h2,h3⟩
theorem KT.put{H:Hp}{kvs:List (List Key×V)}{xs:List (List Key×Addr×Value)}(r:KT H kvs xs)(k:List Key){b:Addr}{y:V}{u:Value}(hb:H b=some (.tup (k.map kV)))(ry:Ag y u):
  KT H (A1 kvs k y) (storedH xs k b u):=by
 have e:(kvs.any λkv=>decide (kv.1=k))=(atKey xs k).isSome:=by
  rw[Cu,(r.val k).isSome_eq,Option.isSome_map]
 unfold A1 storedH;rw[e];by_cases q:(atKey xs k).isSome=true
 ·rw[Kd q,Kd q];exact r.repl k ry
 ·rw[Kc q,Kc q];exact Paired.snoc r ⟨rfl,hb,ry⟩
theorem KT.keeps{H H':Hp}{kvs:List (List Key×V)}{xs:List (List Key×Addr×Value)}(r:KT H kvs xs)(ht:∀b ys,H b=some (.tup ys)->H' b=some (.tup ys)):KT H' kvs xs:=
 Paired.mapP r λ_ _ z=>⟨z.1,ht _ _ z.2.1,z.2.2⟩
section
variable {P:Program}{w:World}{H:Hp}{h:Heap}{a:Addr}
theorem Xbj{u:HO}(ok:HOk P w H h)(e:Rd H a u):Aq P w H h a u:=e.ok ok
theorem C3{kvs:List (Key×V)}(ok:HOk P w H h)(e:Rd H a (.dK kvs)):kvs.length<=sizeLine/\(a==sysModules)=false/\∃vs,KV kvs vs/\h.DictOf (A5 P w) a vs:=
 show Aq P w H h a (.dK kvs) from Xbj ok e
theorem C4{kvs:List (Key×V)}(ok:HOk P w H h)(e:H a=some (.dK kvs)):kvs.length<=sizeLine/\(a==sysModules)=false/\∃vs,KV kvs vs/\h.DictOf (A5 P w) a vs:=C3 ok (.inl e)
theorem Ed{ks:List Key}(ok:HOk P w H h)(e:H a=some (.tup (ks.map kV))):(tupleKind (A5 P w)).is h ks a:=by
 obtain⟨_,its,r,o,h1,h2,n,h3⟩:=(show Aq P w H h a (.tup (ks.map kV)) from ok a _ e);exact⟨o,its.toArray,n,h1,h2,h3,by simpa using Xbi r⟩
theorem Dm{kvs:List (List Key×V)}(ok:HOk P w H h)(e:Rd H a (.dT kvs)):kvs.length<=sizeLine/\(a==sysModules)=false /\
  ∃xs,KT H kvs xs/\h.DictOfH (tupleKind (A5 P w)) a xs:=by
 obtain⟨z,y,xs,r,o,es,ep,h1,h2,h3,h4,h5⟩:=(show Aq P w H h a (.dT kvs) from Xbj ok e);refine⟨z,y,xs,r,o,es,ep,h1,h2,h3,h4,λx hx=>?_,h5⟩;have all:∀{l:List (List Key×V)} {m:List (List Key×Addr×Value)},KT H l m->∀x∈m,(tupleKind (A5 P w)).is h x.1 x.2.1:=by
  intro l m q
  induction q with
  | nil=>intro x hx;exact nomatch hx
  | @cons p q ps qs hq t ih=>
   intro x hx;rcases He.mp hx with e | hx
   ·subst e;exact Ed ok (by rw[<-hq.1];exact hq.2.1)
   ·exact ih x hx
 exact all r x hx
theorem Xf1{kvs:List (List Key×V)}(ok:HOk P w H h)(e:H a=some (.dT kvs)):kvs.length<=sizeLine/\(a==sysModules)=false /\
  ∃xs,KT H kvs xs/\h.DictOfH (tupleKind (A5 P w)) a xs:=Dm ok (.inl e)
end
def DGet (H:Hp) (a:Addr) (y:V) (r:Option V):Prop:=
 (∃kvs k,Rd H a (.dK kvs)/\y=kV k/\r=An kvs k) \/ ∃kvs k b,Rd H a (.dT kvs)/\y = .ref b/\H b=some (.tup (k.map kV))/\r=An kvs k
def DPut (H:Hp) (a:Addr) (y v:V) (H':Hp):Prop:=
 (∃kvs k,H a=some (.dK kvs)/\y=kV k/\kvs.length<sizeLine/\H'=upd H a (.dK (A1 kvs k v))) \/
 ∃kvs k b,H a=some (.dT kvs)/\y = .ref b/\H b=some (.tup (k.map kV))/\kvs.length<sizeLine/\H'=upd H a (.dT (A1 kvs k v))
theorem DGet.k{H:Hp}{a:Addr}{kvs:List (Key×V)}{k:Key}(e:H a=some (.dK kvs)):DGet H a (kV k) (An kvs k):=.inl ⟨kvs,k,.inl e,rfl,rfl⟩
theorem DPut.k{H:Hp}{a:Addr}{kvs:List (Key×V)}{k:Key}{v:V}(e:H a=some (.dK kvs))(hl:kvs.length<sizeLine):DPut H a (kV k) v (upd H a (.dK (A1 kvs k v))):=.inl ⟨kvs,k,e,rfl,hl,rfl⟩
section
variable {X:Cx}{pins:List (Addr×Obj)}{σ:St}{H:Hp}{s:Shared}{a:Addr}{y v:V}{u r:Value}{o:Option V}{A:Around}{E:Value->Shared->Prop}
theorem Inv.big(I:Inv X pins σ H s):sysModules<s.heap.objs.size:=by
 have h:mainGlobals<s.heap.objs.size:=(I.mod.glob.keeps I.bk).lt;exact Nat.lt_trans (by decide) h
theorem d_getItem{Q:Value->Shared->Prop}(hu:A.units+1<cLine)(I:Inv X pins σ H s)(g:DGet H a y (some v))(ry:Ag y u)(h:∀w' s',Inv X pins σ H s'->Ag v w'->Q w' s'):
  wpAny (model X.prog X.w) A (getItem (.ref a) u) Q E s:=by
 rcases g with ⟨kvs,k,e,ey,l⟩ | ⟨kvs,k,b,e,ey,eb,l⟩
 ·subst ey;obtain⟨z,hd,vs,rel,dd⟩:=C3 I.hok e;obtain⟨w',hw,rw'⟩:=Bc.some_of (v:=v) (o:=valueAt vs k) (by rw[l];exact rel.val k);exact wpAny_getItem_of (Dl ry) dd.mapOf hw (h w' _ (I.tok _) rw')
 ·subst ey;cases (show u=Value.ref b from ry);obtain⟨z,hd,xs,rel,dd⟩:=Dm I.hok e;obtain⟨w',hw,rw'⟩:=Bc.some_of (v:=v) (o:=(atKey xs k).map (·.2)) (by rw[l];exact rel.val k);obtain⟨p,hp,hp2⟩:=Jc.mp hw;refine wpAny_getItem_heap (tupleKind_room_in1 hu) (Ed I.hok eb) dd hp ?_;rw[hp2];exact h w' _ (I.tok _) rw'
theorem Fj{h':Heap}{t':Nat}{ob:HO}(I:Inv X pins σ H s)(mu:Mut (H a))(hs:Heap.SameBut a s.heap h')(he:∃q,h'.get? a=some q)(new:Aq X.prog X.w (upd H a ob) h' a ob):
  Inv X pins σ (upd H a ob) {s with heap:=h',toks:=t'}:=
 I.write (x:=a) (e:=a) mu (.inl rfl) (λb q hb z=>(hs.2 b hb).trans z) he new
theorem Xbk{P:Program}{w:World}{H':Hp}{h':Heap}{kvs:List (Key×V)}{vs:List (Key×Value)}(z:kvs.length<=sizeLine)(hd:(a==sysModules)=false)(rel:KV kvs vs)(dd:h'.DictOf (A5 P w) a vs):
  Aq P w H' h' a (.dK kvs):=⟨z,hd,vs,rel,dd⟩
theorem Xf2{H':Hp}{Q:Unit->Shared->Prop}(hu:A.units+1<cLine)(I:Inv X pins σ H s)(g:DPut H a y v H')(ry:Ag y u)(rv:Ag v r)(h:∀s',Inv X pins σ H' s'->Q () s'):
  wpAny (model X.prog X.w) A (setItem (.ref a) u r) Q E s:=by
 rcases g with ⟨kvs,k,e,ey,l,eH⟩ | ⟨kvs,k,b,e,ey,eb,l,eH⟩
 ·subst ey eH;obtain⟨z,hd,vs,rel,dd⟩:=C4 I.hok e;have hz:vs.length<=sizeLine:=by rw[<-rel.length];exact z
  have hl:(A1 kvs k v).length<=sizeLine:=by have:=Ec kvs k v;omega
  refine wpAny_setItem_pairs (hsz:=hz) (Dl ry) dd λh' dd' hs=>h _ ?_;have he:∃q,h'.get? a=some q:=let ⟨q,_,_,hq,_⟩:=dd'; ⟨q,hq⟩;exact Fj I (by rw[e];exact True.intro) hs he (Xbk hl hd (rel.put k rv) dd')
 ·subst ey eH;cases (show u=Value.ref b from ry);obtain⟨z,hd,xs,rel,dd⟩:=Xf1 I.hok e;have hz:xs.length<=sizeLine:=by rw[<-Paired.length rel];exact z
  have hl:(A1 kvs k v).length<=sizeLine:=by have:=Ec kvs k v;omega
  refine wpAny_setItem_heap (hsz:=hz) (tupleKind_room_in1 hu) (Ed I.hok eb) dd λh' dd' hs=>h _ ?_;obtain⟨q,es,ep,hq,h2,h3,h4,_,h5⟩:=dd';refine Fj I (by rw[e];exact True.intro) hs ⟨q,hq⟩ ⟨hl,hd,_,(rel.put k eb rv).keeps λc ys ec=>?_,q,es,ep,hq,h2,h3,h4,h5⟩;rw[Af (Xaa ec e (λz=>nomatch z))];exact ec
end
section
variable {X:Cx}{pins:List (Addr×Obj)}{σ:St}{H:Hp}{s:Shared}{a:Addr}{kvs:List (Key×V)}{k:Key}{u:Value}{A:Around}{E:Value->Shared->Prop}
theorem Xf3{Q:Value->Shared->Prop}(I:Inv X pins σ H s)(e:Rd H a (.dK kvs))(h:∀t s',Inv X pins σ H s'->Q (.int kvs.length t) s'):wpAny (model X.prog X.w) A (call (.builtin "len") [.ref a]) Q E s:=by
 obtain⟨z,hd,vs,rel,dd⟩:=C3 I.hok e;refine call_len_dict hd dd (by rw[<-rel.length];rw[Kb] at z;omega) ?_;rw[<-rel.length];exact h _ _ (I.tok _)
end
def Xbl (i:Expr):Prop:=∀ov iv,subscripted i false ov iv=operate [ov,iv] (getItem ov iv)
theorem Xf4{prog:Program}{w:World}{A:Around}{E:Value->Shared->Prop}{s:Shared}{env:Env}{value slice:Expr}{pos:Pos}{T id:String}{Q:Value->Shared->Prop}
  (hl:typeLookup (.type T) "__getitem__" = pure (some (.builtin id))) (hs:Xbl slice)
  (h:wpAny (model prog w) A (eval value env) (λo s₁=>wpAny (model prog w) A (eval slice env) (λi s₂=>s₂.TypeIs o T/\wpAny (model prog w) A (getItem o i) Q E s₂) E s₁) E s):
  wpAny (model prog w) A (eval (.Subscript value slice pos) env) Q E s:=by
 refine Subscript_ (wpAny_mono h (λo s₁ h₁=>wpAny_mono h₁ (λi s₂ h₂=>?_) λ_ _ x=>x) λ_ _ x=>x);obtain⟨hT,h₂⟩:=h₂;unfold subscriptTail;refine J9 ?_;rw[getitemInPython_of_ne hT.not_modules];refine J9 (wpAny_specialOf hT hl ?_);have fin:wpAny (model prog w) A (subscripted slice false o i) (λr s₃=>wpAny (model prog w) A (letTemporaryGo value o r >>= λ_=>pure r) Q E s₃) E s₂:=by
  rw[hs o i];exact wpAny_operating (wpAny_mono h₂ (λr s₃ h₃=>J9 (wpAny_letTemporaryGo (Ka h₃))) λ_ _ x=>x)
 first
  | exact Ka (J9 fin)
  | exact J9 (Ka (J9 fin))
  | exact J9 fin
theorem Xf5{X:Cx}{pins:List (Addr×Obj)}{σ:St}{H:Hp}{s:Shared}{a:Addr}{y:V}{o:Option V}(I:Inv X pins σ H s)(g:DGet H a y o):s.TypeIs (.ref a) "dict" := by
 rcases g with ⟨kvs,k,e,_,_⟩ | ⟨kvs,k,b,e,_,_,_⟩
 ·obtain⟨_,_,vs,_,dd⟩:=C3 I.hok e;exact dd.typeIs
 ·obtain⟨_,_,xs,_,dd⟩:=Dm I.hok e;exact dd.typeIs
def Xf6 (td ty:TE):TE:=fun σ H Q=>td σ H λx H1=>ty σ H1 λy H2=>∃a v,x = .ref a/\DGet H2 a y (some v)/\Q v H2
def tDIn (ty td:TE):TE:=fun σ H Q=>ty σ H λy H1=>td σ H1 λx H2=>∃a o,x = .ref a/\DGet H2 a y o/\Q (.bl o.isSome) H2
def Xf7 (td ty tv:TE):TS:=λD σ H=>tv σ H λv H1=>td σ H1 λx H2=>ty σ H2 λy H3=>∃a H4,x = .ref a/\DPut H3 a y v H4/\D.nx σ H4
def sDAug (td ty tv:TE) (rd:V->V->Hp->VK->Prop):TS:=λD σ H=>td σ H λx H1=>ty σ H1 λy H2=>∃a v,x = .ref a/\DGet H2 a y (some v) /\
 tv σ H2 λy2 H3=>rd v y2 H3 λz H4=>∃H5,DPut H4 a y z H5/\D.nx σ H5
def sDDel (td ty:TE):TS:=λD σ H=>td σ H λx H1=>ty σ H1 λy H2=>∃a kvs k,x = .ref a/\H2 a=some (.dK kvs)/\y=kV k/\(An kvs k).isSome=true/\D.nx σ (upd H2 a (.dK (Xbd kvs k)))
section
variable {X:Cx}{o i e value:Expr}{pos pos' tpos:Pos}{td ty tv:TE}
theorem C5(hu:X.A.units+1<cLine)(ho:PE X o td)(hi:PE X i ty)(hs:Xbl i):PE X (.Subscript o i pos) (Xf6 td ty):=by
 intro pins s σ H Q I h;refine Xf4 PySem.F.slot_dict_getitem.lookup hs (thn (ho pins s σ H _ I h) λu s1 ⟨x,H1,I1,rx,q1⟩=>thn (hi pins s1 σ H1 _ I1 q1) λiv s2 ⟨y,H2,I2,ry,a,v,ex,g,q2⟩=>?_);subst ex;obtain rfl:u=Value.ref a:=rx;exact⟨Xf5 I2 g,d_getItem hu I2 g ry λw' s3 I3 rw'=>⟨v,H2,I3,rw',q2⟩⟩
theorem Fk(hu:X.A.units+1<cLine)(ho:PE X o td)(hi:PE X i ty)(hv:PE X value tv)(hs:swapsWith value (some (.Subscript o i pos')) pos.line X.env=pure false):
  PS X (.Assign [.Subscript o i pos'] value pos) (Xf7 td ty tv):=by
 intro pins s σ H D I h;refine wpAny_Assign_Subscript (thn (hv pins s σ H _ I h) λr s1 ⟨v,H1,I1,rv,q1⟩=>thn (ho pins s1 σ H1 _ I1 q1) λu s2 ⟨x,H2,I2,rx,q2⟩=>thn (hi pins s2 σ H2 _ I2 q2) λiv s3 ⟨y,H3,I3,ry,a,H4,ex,g,q3⟩=>?_) hs;subst ex;obtain rfl:u=Value.ref a:=rx;exact Xf2 hu I3 g ry rv λs4 I4=>⟨σ,H4,I4,q3⟩
end
theorem Xf8{P:Program}{w:World}{H:Hp}(h:Heap)(hb:sysModules<h.objs.size):Aq P w H (h.push {cls:=.type "dict",data:=.dict #[]}) h.objs.size (.dK []):=
 ⟨Iu _,beq_eq_false_iff_ne.mpr (Ne.symm (G7 hb)),[],.nil,Heap.DictOf.new h⟩
def Xf9:TE:=λ_ H Q=>∀p,H p=none->Q (.ref p) (upd H p (.dK []))
section
variable {X:Cx}{pos:Pos}
theorem Ee:PE X (.Dict [] [] pos) Xf9:=λpins s σ H Q I h=>
 wpAny_Dict_empty ⟨.ref s.heap.objs.size,_,I.laid (a:=s.heap.objs.size) (o:=.dK []) (t':=s.toks) (λ_ _ q=>Kj _ q) (G5 _) (Xf8 s.heap I.big),rfl,h _ (I.hok.fresh (G5 _))⟩
end
def Xbm:List (TE×TE)->St->Hp->(List (V×V)->Hp->Prop)->Prop
 | [],_,H,Q=>Q [] H
 | (tk,tv)::r, σ,H,Q=>tk σ H λx H1=>tv σ H1 λy H2=>Xbm r σ H2 λps H3=>Q ((x,y)::ps) H3
def Xga (kvs more:List (Key×V)):List (Key×V):=more.foldl (λacc kv=>A1 acc kv.1 kv.2) kvs
def tDisp (trs:List (TE×TE)):TE:=fun σ H Q=>∀p,H p=none->Xbm trs σ (upd H p (.dK [])) λps H2=>H2 p=some (.dK [])/\∃kvs:List (Key×V),ps=kvs.map (λkv=>(kV kv.1,kv.2))/\kvs.length<=15/\Q (.ref p) (upd H2 p (.dK (Xga [] kvs)))
structure M1 (X:Cx) (o:Expr) (m:Str) (apos:Pos) (e:Expr) (cpos:Pos):Prop where
 base:attributeBase o m X.env (eval o X.env)=eval o X.env
 few:((backTo cpos (starEach [e] X.env)).all (λx => !x.1)&&(backToKw cpos (keywordEach [] X.env)).all (λx=>x.1.isSome)
  && decide (([e]:List Expr).length+([]:List Keyword).length+(if ([]:List Keyword).isEmpty then 0 else 1)<30))=true
 line:(apos.endLine==cpos.line)=true
 trees:backTo cpos (starEach [e] X.env)=[(false,eval e X.env)]
structure M2 (X:Cx) (o:Expr) (m:Str) (apos:Pos) (e f:Expr) (cpos:Pos):Prop where
 base:attributeBase o m X.env (eval o X.env)=eval o X.env
 few:((backTo cpos (starEach [e,f] X.env)).all (λx => !x.1)&&(backToKw cpos (keywordEach [] X.env)).all (λx=>x.1.isSome)
  && decide (([e,f]:List Expr).length+([]:List Keyword).length+(if ([]:List Keyword).isEmpty then 0 else 1)<30))=true
 line:(apos.endLine==cpos.line)=true
 trees:backTo cpos (starEach [e,f] X.env)=[(false,eval e X.env),(false,eval f X.env)]
def IsD (H:Hp) (a:Addr):Prop:=(∃kvs,Rd H a (.dK kvs)) \/ ∃kvs,Rd H a (.dT kvs)
theorem Xbn{X:Cx}{pins:List (Addr×Obj)}{σ:St}{H:Hp}{s:Shared}{a:Addr}(I:Inv X pins σ H s)(d:IsD H a):
  s.TypeIs (.ref a) "dict" /\ (∀b,Value.ref a = .ref b->∃ob,s.heap.get? b=some ob/\ob.dict=none)/\(a==sysModules)=false:=by
 rcases d with ⟨kvs,e⟩ | ⟨kvs,e⟩
 ·obtain⟨_,hd,vs,_,dd⟩:=C3 I.hok e;refine⟨dd.typeIs,λb q=>?_,hd⟩;cases q;obtain⟨ob,_,_,h1,h2,_⟩:=dd;exact⟨ob,h1,h2.2.1⟩
 ·obtain⟨_,hd,xs,_,dd⟩:=Dm I.hok e;refine⟨dd.typeIs,λb q=>?_,hd⟩;cases q;obtain⟨ob,_,_,h1,h2,_⟩:=dd;exact⟨ob,h1,h2.2.1⟩
section
variable {X:Cx}{pins:List (Addr×Obj)}{σ:St}{H:Hp}{s:Shared}{a:Addr}{y d:V}{u r:Value}{o:Option V}{A:Around}{E:Value->Shared->Prop}
theorem Xgb{Q:Value->Shared->Prop}(hu:A.units+1<cLine)(I:Inv X pins σ H s)(g:DGet H a y o)(ry:Ag y u)(rd:Ag d r)(h:∀w' s',Inv X pins σ H s'->Ag (o.getD d) w'->Q w' s'):
  wpAny (model X.prog X.w) A (call (.builtin "dict.get") [.ref a,u,r]) Q E s:=by
 rcases g with ⟨kvs,k,e,ey,l⟩ | ⟨kvs,k,b,e,ey,eb,l⟩
 ·subst ey;obtain⟨z,hd,vs,rel,dd⟩:=C3 I.hok e;refine call_meetsIn PySem.F.slot_dict_get dd.typeIs PySem.F.entry_dict_get (PySem.F.args_dict_get_3 _ _ _) (meets_dict_get_default (A5 X.prog X.w) a (Dl ry) hd r) ⟨_,dd.mapOf,h _ _ (I.tok _) ?_⟩;rw[l];exact(rel.val k).getD rd
 ·subst ey;cases (show u=Value.ref b from ry);obtain⟨z,hd,xs,rel,dd⟩:=Dm I.hok e;refine call_meetsIn PySem.F.slot_dict_get dd.typeIs PySem.F.entry_dict_get (PySem.F.args_dict_get_3 _ _ _) (meetsH_dict_get_default (tupleKind (A5 X.prog X.w)) a b hd r) ⟨tupleKind_room_in1 hu,k,xs,Ed I.hok eb,dd,h _ _ (I.tok _) ?_⟩;rw[l];exact(rel.val k).getD rd
end
def Xgc (td ty tx:TE):TE:=fun σ H Q=>td σ H λx H1=>∃a,x = .ref a/\IsD H1 a/\ty σ H1 λy H2=>tx σ H2 λz H3=>∃o,DGet H3 a y o/\Q (o.getD z) H3
def Xkm (td ty:TE):TE:=fun σ H Q=>td σ H λx H1=>∃a,x = .ref a/\IsD H1 a/\ty σ H1 λy H2=>∃kvs k v,H2 a=some (.dK kvs)/\y=kV k/\An kvs k=some v/\Q v (upd H2 a (.dK (Xbd kvs k)))
section
variable {X:Cx}{o e f:Expr}{apos cpos:Pos}{td ty tx:TE}
theorem Xbo(hu:X.A.units+1<cLine)(ho:PE X o td)(he:PE X e ty)(hf:PE X f tx)(m:M2 X o "get" apos e f cpos):PE X (.Call (.Attribute o "get" apos) [e,f] [] cpos) (Xgc td ty tx):=by
 intro pins s σ H Q I h;refine wpAny_Call_method m.base m.few m.line PySem.F.plainAttrs_dict PySem.F.slot_dict_get PySem.F.type_dict_get (thn (ho pins s σ H _ I h) λu s1 ⟨x,H1,I1,rx,a,ex,d,q1⟩=>?_);subst ex;obtain rfl:u=Value.ref a:=rx;obtain⟨t1,t2,_⟩:=Xbn I1 d;refine⟨t1,t2,?_⟩;rw[m.trees];refine Calls.callWith_builtin rfl (Calls.evalArgs_plain (Calls.spliced_cons (thn (he pins s1 σ H1 _ I1 q1) λiv s2 ⟨y,H2,I2,ry,q2⟩=>
  Calls.spliced_cons (thn (hf pins s2 σ H2 _ I2 q2) λfv s3 ⟨z,H3,I3,rz,ov,g,q3⟩=>Calls.spliced_nil ?_))))
 exact Xgb hu I3 g ry rz λw' s4 I4 rw'=>⟨_,H3,I4,rw',q3⟩
end
section
variable {X:Cx}{pins:List (Addr×Obj)}{σ:St}{H:Hp}{s:Shared}{a:Addr}{kvs:List (Key×V)}{A:Around}{E:Value->Shared->Prop}
end
section
variable {X:Cx}{pins:List (Addr×Obj)}{σ:St}{H:Hp}{s:Shared}{a:Addr}{y:V}{u:Value}{A:Around}{E:Value->Shared->Prop}
end
end L2
namespace Att
open PySem PySem.W PySem.Calls PyProof.Rows
theorem Xgd{P:Params}{h:Heap}:∀(ns:List Int) (vs:List Value),WellAll P h vs (ns.map WData.int)->IntsAre vs ns:=by
 intro ns
 induction ns with
 | nil=>
  intro vs w;rw[List.map_nil] at w;cases w;exact .nil
 | cons n ns ih=>
  intro vs w;rw[Hv] at w;cases w with
  | cons a b=>
   cases a;exact .cons _ _ (ih _ b)
theorem Xge{l:OpenLaw}{n:Nat}(hn:l.most=some n){P:Params}{h:Heap}{args:List WData}{vals:List Value}
  (hpre:l.row.toRowW.claim.pre args=true) (hwl:WellAll P h vals args):
  ∃a vs ns,vals=[Value.ref a]/\args=[WData.list (ns.map WData.int)]/\h.get? a=some {cls:=.type "list",data:=.seq vs.toArray}/\IntsAre vs ns/\ns.length<=n:=by
 have hsh:WShape.hasAll [] args [.list .int]=true:=(pre_splitW hpre).1;have hc:l.pre.holds [] {args:=args}=true:=(pre_splitW hpre).2;obtain⟨d,r,rfl,h1,h2⟩:=hasAllW_cons hsh;obtain rfl:=hasAllW_nil h2;obtain⟨xs,rfl,h3⟩:=hasW_list h1;obtain⟨ns,rfl⟩:=items_int h3;have hlen:ns.length<=n:=by
  unfold OpenLaw.pre at hc;have h4:(WTm.not (.lt (.lit (.int (n:Int))) (.len (.arg 0)))).holds [] {args:=[.list (ns.map .int)]}=true:=by
   have h4:=(holds_andW hc).1;rw[hn] at h4;exact h4
  have h5:=condW_of h4 (w_not (w_lt w_lit (w_len_list (w_arg rfl))));rw[G3] at h5;refine Nat.le_of_not_lt λq=>?_;have q':(n:Int)<((ns.length:Nat):Int):=by omega
  first
   | (rw[Ke q'] at h5;exact absurd h5 (by decide))
   | (simp at h5;omega)
 cases hwl with
 | cons w1 w2=>
  cases w2;cases w1 with
  | list ho hall=>exact⟨_,_,ns,rfl,rfl,ho,Xgd ns _ hall,hlen⟩
theorem Xgf(l:OpenLaw)(args:List WData):l.row.toRowW.claim.post args (.bool true) args=true:=
 postW_of (r:=l.row.toRowW) (X:=(true==true))
  (show WShape.has [] (.bool true) .bool=true by first | rfl | decide | simp[WShape.has,WShape.arms,WShape.armsAll])
  (show (WTm.eq .res (.lit (.bool true))).value [] {args:=args,res:=some (.bool true),after:=args}=some (.bool (true==true)) from w_eq_bool (w_res rfl) w_lit) rfl
theorem attach_call{l:OpenLaw}{n:Nat}{q:Program}{loose:List Str}{XP:(Str->Option Value)->Heap->Prop}{YP:World->Heap->Prop}{d:DefRec}
  (hn:l.most=some n) (hdf:d.params.defaults=[])
  (call:∀(w:World) (s₀ s₁ : Shared) (mg mb:Str->Option Value) (fa:Addr) (o:Obj) (pm cd doc:Value) (a:Addr) (vs:List Value) (ns:List Int),
   Ground q loose [] XP w s₀ mg mb s₁.heap->YP w s₁.heap ->
   s₁.heap.get? fa=some o->o.data = .func (docDef d.name d.params d.body d.scope pm cd doc)->s₁.heap.CodeRec cd d.name->mg d.name=some (.ref fa) ->
   s₁.heap.get? a=some {cls:=.type "list",data:=.seq vs.toArray}->IntsAre vs ns->ns.length<=n->s₁.gens = #[] ->
   codeAny (model l.prog w) callerA (.call (.ref fa) ⟨[.ref a],[]⟩) (λr s'=>r = .ok (.ret (.bool true))/\OldK s₁.heap s'.heap/\s'.os=s₁.os/\AllBare s'.gens) s₁):
  WalkO q loose XP YP l.row.toRowW d [] (λf vs=>PySem.call f vs):=by
 intro w s₀ s₁ mg mb G Y fa o pm cd doc dV kV ho hd hcd hD hmg hg args vals as hpre hlay hrd hwl hlo;obtain rfl:dV = .none:=Dflts.none hD hdf;obtain rfl:kV = .none:=Dflts.noKw hD;obtain⟨a,vs,ns,rfl,rfl,hobj,hints,hlen⟩:=Xge hn hpre hwl;refine enter_call (codeAny_mono (call w s₀ s₁ mg mb fa o pm cd doc a vs ns G Y ho (fd_plain hd) hcd hmg hobj hints hlen hg) λr s' hq=>?_);obtain⟨rfl,h2,h3,h4⟩:=hq;exact⟨.inl ⟨.bool true,.bool true,[],rfl,λ_=>rfl,.bool true,Xgf l _,λ_=>⟨List.Pairwise.nil,λ_ hm=>(nomatch hm)⟩⟩,h2,h3,h4⟩
section
variable {prog:Program}{w:World}{A:Around}{E:Value->Shared->Prop}{s:Shared}{K:Frag}
def ledger (h:Heap) (L d:Addr):List (Addr×Obj):=(List.range h.objs.size).filterMap λa=>if a=L\/a=d then none else (h.get? a).map λo=>(a,o)
end
end Att
namespace L2
open PySem PySem.Spec PyProof.Rows
theorem Xbp:∀{vs:List Value} {ns:List Int},IntsAre vs ns->Vals (ns.map V.int) vs
 | _,_,.nil=>.nil
 | _,_,.cons n t h=>.cons ⟨t,rfl⟩ (Xbp h)
def Only (H:Hp):Prop:=∀b,H b=none \/ ∃o xs,H b=some (.frz o (.lst xs))
theorem Xgg{P:Program}{w:World}{K:PySem.W.Frag}{mg mb:Str->Option Value}{CX:CXT}{k:Nat}{fa a:Addr}{fd:FuncData}{x:Str}{sp:Sp}{s₁ : Shared}{vs:List Value}{ns:List Int}
  (KX:K.In s₁.heap) (hns:s₁.heap.Ns mainGlobals mg) (hb:s₁.heap.Ns builtinsNs mb) (hbb:∀x:Str,x ≠ "__name__" -> mb x=bootBuiltins x) (hlim:s₁.heap.NoLimit) (hg:s₁.gens = #[])
  (ha:s₁.heap.get? a=some {cls:=.type "list",data:=.seq vs.toArray}) (hi:IntsAre vs ns) (hl:ns.length<=sizeLine) (hr:Room k callerA)
  (F:∀base:Heap,K.In base->base.Ns mainGlobals mg->FnOk P w K mg base CX k fa fd [x] sp) (hbind:∀(s:Shared) (u:Value),BindsTo s fd ⟨[u],[]⟩ [(x,u)])
  (hsp:∀H:Hp,Only H->SqL K H a (ns.map V.int)->sp [.ref a] H (λv _=>v = .bl true) λ_ _ _=>False)
  (hCX:∀H e s',CX [] H s₁ (λ_ _ _=>False) e s'->False):
  codeAny (model P w) callerA (.call (.ref fa) ⟨[.ref a],[]⟩) (λr s'=>r = .ok (.ret (.bool true))/\OldK s₁.heap s'.heap/\s'.os=s₁.os/\AllBare s'.gens) s₁:=by
 have rv:=Xbp hi;have lenV:=hi.length;have core:∀H:Hp,Only H->SqL K H a (ns.map V.int)->HOk P w H s₁.heap->(∀b,H b≠none->b=a)->(H a≠none->K.lookup a=none) ->
   codeAny (model P w) callerA (.call (.ref fa) ⟨[.ref a],[]⟩) (λr s'=>r = .ok (.ret (.bool true))/\OldK s₁.heap s'.heap/\s'.os=s₁.os/\AllBare s'.gens) s₁:=by
  intro H hO hS hok hA hK;have base_of:∀{b:Addr} {o:Obj},s₁.heap.get? b=some o->H b=none->(Cb s₁.heap H).get? b=some o:=λe n=>Xet e n;have noA:∀{b:Addr} {o:Obj} {es:Array DictEntry} {ep:Nat},s₁.heap.get? b=some o->o.data = .dict es ep->H b=none:=λ{b o es ep} e d=>by
   cases q:H b with
   | none=>rfl
   | some u=>
    have e':b=a:=hA b (by rw[q];simp);subst e';rw[ha] at e;cases e;have d':Data.seq vs.toArray _=Data.dict es ep:=d;cases d'
  have nsK:∀{b:Addr} {m:Str->Option Value},s₁.heap.Ns b m->(Cb s₁.heap H).Ns b m:=λ{b m} ⟨o,es,ep,e,d,r⟩=>⟨o,es,ep,base_of e (noA e d),d,r⟩;have hKb:K.In (Cb s₁.heap H):=λb o e=>base_of (KX b o e) (by
   cases q:H b with
   | none=>rfl
   | some u=>
    have e':b=a:=hA b (by rw[q];simp);subst e';rw[hK (by rw[q];simp)] at e;cases e)
  have hM:Mod K mg (Cb s₁.heap H):=⟨hKb,nsK hns,⟨mb,nsK hb,hbb⟩,let ⟨mc,h1,h2⟩:=hlim; ⟨mc,nsK h1,h2⟩⟩;have e0:Env0 P w K mg (Cb s₁.heap H) callerA [] s₁ H:=⟨rfl,hM,λb o e=>Xeu e,Nat.le_of_eq (Xes _ _),trivial,λb hb=>absurd (show b∈([]:List Addr) from hb) (by simp),hok,.of_eq hg⟩;refine codeAny_mono ((F _ hKb (nsK hns)).run callerA [] s₁ H ⟨[.ref a],[]⟩ [.ref a] [.ref a] _ _ hr e0 (hbind s₁ (.ref a)) (.cons rfl .nil) (hsp H hO hS)) λr s' h=>?_;cases r with
  | error e=>exact(hCX H e s' h).elim
  | ok fl=>
   cases fl with
   | next=>exact False.elim h
   | brk=>exact False.elim h
   | cont=>exact False.elim h
   | ret u=>
    obtain⟨v,H',os,bare,un,hok',r',q⟩:=h;have q':v = .bl true:=q;subst q';obtain rfl:u=Value.bool true:=r';refine⟨rfl,OldK.of_keep λb o e=>?_,os,bare⟩;cases q:H b with
    | none=>exact un.keep b o e q (by intro z;exact absurd (show b∈([]:List Addr) from z) (by simp)) (by simp)
    | some u=>
     rcases hO b with z | ⟨ob,xs,z⟩
     ·rw[q] at z;cases z
     ·have z2:=un.frzs b ob _ z;obtain⟨e1,_⟩:=hok b _ z;obtain⟨e2,_⟩:=hok' b _ z2;rw[e] at e1;cases e1;exact e2
 cases hk:K.lookup a with
 | some o=>
  have e:=KX a o hk;rw[ha] at e;cases e;refine core (λ_=>none) (λ_=>.inl rfl) (.inr ⟨_,vs.toArray,_,hk,rfl,rfl,rfl,by rw[G9,lenV];exact hl,by simpa using rv⟩) (λb u z=>by have z':(none:Option HO)=some u:=z;cases z') (λb z=>absurd rfl z) λz=>absurd rfl z
 | none=>
  refine core (λb=>if b=a then some (.frz {cls:=.type "list",data:=.seq vs.toArray} (.lst (ns.map V.int))) else none) (λb=>?_) (.inl (.inr ⟨{cls:=.type "list",data:=.seq vs.toArray},Kd rfl⟩)) (λb u z=>?_) (λb z=>?_) λ_=>hk
  ·by_cases hb:b=a
   ·exact .inr ⟨_,_,Kd hb⟩
   ·exact .inl (Kc hb)
  ·by_cases hb:b=a
   ·have z':=(Kd hb).symm.trans z;cases z';subst hb;exact⟨ha,by rw[G3];exact hl,vs,_,rv,ha⟩
   ·have z':=(Kc hb).symm.trans z;cases z'
  ·by_cases hb:b=a
   ·exact hb
   ·exact absurd (Kc hb) z
abbrev KOf {K:PySem.W.Frag} {h:Heap} (_:K.In h):PySem.W.Frag:=K
theorem Xgh{l:PySem.W.OpenLaw}{n k:Nat}{q:Program}{loose:List Str}{XP:(Str->Option Value)->Heap->Prop}{YP:World->Heap->Prop}{d:DefRec}{K:Params->PySem.W.Frag}{CX:World->CXT}{sp:World->Sp}{x:Str}
  (hn:l.most=some n) (hn2:n<=sizeLine) (hdf:d.params.defaults=[]) (hr:Room k callerA)
  (hY:∀(w:World) (h:Heap),YP w h->(K w.params).In h)
  (F:∀(w:World) (mg:Str->Option Value) (fa:Addr) (h:Heap),(K w.params).In h->h.Ns mainGlobals mg->mg d.name=some (.ref fa) ->
   ∃fd:FuncData,(∀(s:Shared) (u:Value),BindsTo s fd ⟨[u],[]⟩ [(x,u)]) /\
    ∀base:Heap,(K w.params).In base->base.Ns mainGlobals mg->FnOk l.prog w (K w.params) mg base (CX w) k fa fd [x] (sp w))
  (hsp:∀(w:World) (H:Hp) (a:Addr) (ns:List Int),ns.length<=n->Only H->SqL (K w.params) H a (ns.map V.int)->sp w [.ref a] H (λv _=>v = .bl true) λ_ _ _=>False)
  (hCX:∀(w:World) (H:Hp) (s:Shared) (e:Value) (s':Shared),CX w [] H s (λ_ _ _=>False) e s'->False):
  PySem.W.WalkO q loose XP YP l.row.toRowW d [] (λf vs=>PySem.call f vs):=by
 refine Att.attach_call hn hdf λw s₀ s₁ mg mb fa o pm cd doc a vs ns G Y ho hd hcd hmg hobj hints hlen hg=>?_;have KX:=hY w _ Y;obtain⟨fd,hb,hF⟩:=F w mg fa _ KX G.T.g hmg;exact Xgg KX G.T.g G.T.b G.T.builtins G.T.nolimit hg hobj hints (Hx hlen hn2) hr hF hb (λH hO hS=>hsp w H a ns hlen hO hS) λH e s'=>hCX w H s₁ e s'
def Xkn (s:Stmt) (j:Nat):Stmt:=match s with
 | .ClassDef _ _ _ body _ _ _ _ _ _ _=>body.getD j (.Pass ⟨0,0,0,0⟩)
 | _=>.Pass ⟨0,0,0,0⟩
def C6 (s:Stmt):Arguments:=match s with
 | .FunctionDef _ a _ _ _ _ _ _ _ _=>a
 | _=>{posonlyargs:=[],args:=[],vararg:=none,kwonlyargs:=[],kw_defaults:=[],kwarg:=none,defaults:=[]}
def Cv (s:Stmt):List Stmt:=match s with
 | .FunctionDef _ _ b _ _ _ _ _ _ _=>b
 | _=>[]
def defScope (s:Stmt):Scope:=match s with
 | .FunctionDef _ _ _ _ _ _ sc _ _ _=>sc
 | _=>{kind:=.function,names:=[],isGenerator:=false,isCoroutine:=false}
abbrev CX0:CXT:=λ_ _ _ _ _ _=>False
abbrev E0:XK:=λ_ _ _=>False
theorem Ak{X:Cx}:Passes CX0 X E0:=λ_ _ _ _ _ _ _ h=>h.elim
structure Fun (K:PySem.W.Frag) (x qual:Str) (st:Stmt) (f:Addr) (fd:FuncData):Prop where
 ex:∃(oc:Value) (od:Option Addr) (kV doc pm:Value) (an:Option Addr) (cdv ct:Value) (osl:Array (Option Value)),
  fd=PySem.W.fnOf x qual (C6 st) (Cv st) (defScope st) .none kV doc pm an cdv ct/\K.lookup f=some ⟨oc,od,.func fd,osl⟩/\PySem.W.codeIn K cdv qual=true
 kp:PySem.W.keepIn K (.ref f)=true
section
variable {P:Program}{w:World}{K:PySem.W.Frag}{mg:Str->Option Value}{base:Heap}
theorem Fun.ok{x qual:Str}{st:Stmt}{f:Addr}{fd:FuncData}{N ps:List Str}{k:Nat}{sp:Sp}(F:Fun K x qual st f fd)(S:FnScope N ps (defScope st))(len:∀vs H Q E,sp vs H Q E->vs.length=ps.length)
  (hbody:∀(cdv:Value) (A:Around) (outer:List Env) (s:Shared) (H:Hp) (vs:List V) (Q:VK) (E:XK),Room k (A.deeper (envOfC qual (defScope st) s.heap.objs.size f cdv))->sp vs H Q E ->
   ∃t,PSs (C2 CX0 P w K mg base N qual (defScope st) f cdv A outer s H E).nox (Cv st) t/\t {nx:=λ_ H'=>Q .non H',rt:=Q} (start N vs) H):FnOk P w K mg base CX0 (k+1) f fd ps sp:=by
 obtain⟨oc,od,kV,doc,pm,an,cdv,ct,osl,rfl,lk,hcd⟩:=F.ex;refine Xfo lk hcd S len λA outer s H vs Q E hr hsp=>?_;obtain⟨t,h,q⟩:=hbody cdv A outer s H vs Q E hr hsp;exact⟨t,h.nox,q⟩
theorem Fun.binds{x qual:Str}{st:Stmt}{f:Addr}{fd:FuncData}{ps:List Str}(F:Fun K x qual st f fd)
  (h:∀(kV doc pm:Value) (an:Option Addr) (cdv ct:Value) (us:List Value),us.length=ps.length->bindArgs (PySem.W.fnOf x qual (C6 st) (Cv st) (defScope st) .none kV doc pm an cdv ct) ⟨us,[]⟩=pure (ps.zip us)):Binds K fd ps []:=by
 obtain⟨oc,od,kV,doc,pm,an,cdv,ct,osl,rfl,lk,hcd⟩:=F.ex;exact .all (h kV doc pm an cdv ct)
theorem Xgi{x qual:Str}{st:Stmt}{f:Addr}{oc:Value}{od an:Option Addr}{osl:Array (Option Value)}{kV doc pm cdv ct:Value}(l:K.lookup f=some ⟨oc,od,.func (PySem.W.fnOf x qual (C6 st) (Cv st) (defScope st) .none kV doc pm an cdv ct),osl⟩)
  (c:PySem.W.codeIn K cdv qual=true) (k:PySem.W.keepIn K (.ref f)=true):Fun K x qual st f (PySem.W.fnOf x qual (C6 st) (Cv st) (defScope st) .none kV doc pm an cdv ct):=⟨⟨oc,od,kV,doc,pm,an,cdv,ct,osl,rfl,l,c⟩,k⟩
end
theorem Dn{A:Around}{k:Nat}(hr:Room k A):A.units+1<cLine:=Nat.lt_of_le_of_lt (Nat.add_le_add_left (by decide:1<=64) _) hr.units
section
variable {X:Cx}
theorem pv(i:Nat){x:Str}{pos:Pos}(hN:X.N[i]? = some x:=by rfl)(hv:Vis X.env.scope x:=by first | exact Or.inl rfl | exact Or.inr (Or.inl rfl) | exact Or.inr (Or.inr rfl))(hd:(x==("__debug__" : Str))=false:=by decide)
  (hcd:(x==("__classdict__" : Str))=false:=by decide):PE X (.Name x pos) (Xae i):=Xew hN hv hd hcd
end
theorem B4{A B:Prop}(h:B):if false=true then A else B:=by
 rw[Kc Hh];exact h
theorem Bk{A B:Prop}(h:A):if true=true then A else B:=by
 rw[Kd rfl];exact h
def Same (H H':Hp):Prop:=∀b o,H b=some o->H' b=some o
theorem Same.refl(H:Hp):Same H H:=λ_ _ h=>h
theorem Same.trans{H H1 H2:Hp}(a:Same H H1)(b:Same H1 H2):Same H H2:=λc o h=>b c o (a c o h)
theorem Same.free{H H':Hp}(e:Same H H'){l:Addr}(h:H' l=Option.none):H l=Option.none:=by
 cases q:H l with
 | none=>rfl
 | some o=>
  rw[e l o q] at h;cases h
section
variable {X:Cx}
theorem Xgj:A9 X (.builtin "len") (λxs H Q=>∃a kvs,xs=[V.ref a]/\H a=some (.dK kvs)/\Q (.int kvs.length) H):=by
 intro pins s σ H xs us Q I r h;obtain⟨a,kvs,rfl,ha,q⟩:=h;obtain⟨u,rfl,ru⟩:=Br r;cases ru;exact Xf3 I (.inl ha) λt s' I'=>⟨.int kvs.length,H,I',⟨t,rfl⟩,q⟩
end
section
variable {κ : Type} [DecidableEq κ]
theorem Xgk{kvs:List (κ × V)}{k : κ}(h:An kvs k=none):¬k∈kvs.map (·.1):=by
 intro m;obtain⟨p,hp,e⟩:=Hq.mp m;have q:(kvs.any λkv=>decide (kv.1=k))=true:=Jl.mpr ⟨p,hp,Ke e⟩;rw[Cu,h] at q;exact absurd q (by simp)
theorem nd_snoc:∀{l:List κ} {k : κ},l.Nodup->¬k∈l->(l++[k]).Nodup
 | [],k,_,_=>by simp
 | a::r,k,h,hk=>by
  obtain⟨h1,h2⟩:=Ii.mp h;show (a::(r++[k])).Nodup;refine Ii.mpr ⟨λm=>?_,nd_snoc h2 λm=>hk (He.mpr (Or.inr m))⟩;rcases Hn.mp m with q | q
  ·exact h1 q
  ·exact hk (He.mpr (Or.inl (Hs.mp q).symm))
theorem Xgl{kvs:List (κ × V)}{k : κ}(v:V)(hn:(kvs.map (·.1)).Nodup)(h:An kvs k=none):((A1 kvs k v).map (·.1)).Nodup:=by
 rw[Xbh v h,Hj];exact nd_snoc hn (Xgk h)
end
def Bh (env:Env):List (Str×NameKind)->List (Str×Addr)->List (Str×Addr)
 | [],cs=>cs
 | (n,k)::r,cs=>if k == .free then Bh env r ((n,(env.cells.lookup n).getD 0)::cs) else Bh env r cs
theorem Fl{env:Env}:∀(names:List (Str×NameKind)) (cs:List (Str×Addr)),(∀x∈names,x.2 = .free->∃c,env.cells.lookup x.1=some c) ->
  (forIn names cs fun (x : Str × NameKind) r => (if (x.2 == .free) = true then do let c <- cellOf env x.1; pure (ForInStep.yield ((x.1, c) :: r)) else pure (ForInStep.yield r) : Sem (ForInStep (List (Str × Addr))))) = pure (Bh env names cs)
 | [],cs,_=>rfl
 | (n,k)::r,cs,h=>by
  rw[List.forIn_cons];cases hk:(k==NameKind.free) with
  | true=>
   have hk':k = .free:=by simpa using hk
   obtain⟨c,hc⟩:=h (n,k) Hg hk';have e1:cellOf env n=pure c:=by unfold cellOf;rw[hc]
   simp only[hk,if_true,e1,pure_bind];rw[Fl r _ λx hx=>h x (Hb _ hx)];show _=pure (if (k==NameKind.free)=true then _ else _);rw[hk,Kd rfl,hc];rfl
  | false=>
   simp only[hk,Hz,if_false,pure_bind];rw[Fl r _ λx hx=>h x (Hb _ hx)];show _=pure (if (k==NameKind.free)=true then _ else _);rw[hk,Kc Hh]
theorem Xbq{scope:Scope}{env:Env}(h:∀x∈scope.names,x.2 = .free->∃c,env.cells.lookup x.1=some c):closureFor scope env=pure (Bh env scope.names []):=by
 have e:=Fl scope.names [] h
 have q : closureFor scope env = (forIn scope.names [] fun (x : Str × NameKind) r => (if (x.2 == .free) = true then do let c <- cellOf env x.1; pure (ForInStep.yield ((x.1, c) :: r)) else pure (ForInStep.yield r) : Sem (ForInStep (List (Str × Addr))))) >>= fun cs => pure cs := rfl
 rw[q,e];rfl
theorem Fm{env:Env}{x:Str}{c:Addr}:∀(names:List (Str×NameKind)) (cs:List (Str×Addr)),(∀x∈names,x.2 = .free->∃c,env.cells.lookup x.1=some c) ->
  (Bh env names cs).lookup x=some c->cs.lookup x=some c\/env.cells.lookup x=some c
 | [],cs,_,h=>.inl h
 | (n,k)::r,cs,hf,h=>by
  unfold Bh at h;split at h
  ·rename_i hk;rcases Fm r _ (λx hx=>hf x (Hb _ hx)) h with q | q
   ·rw[Hm] at q;split at q
    ·rename_i e;have e':x=n:=by simpa using e
     subst e';obtain⟨c',hc⟩:=hf (x,k) Hg (by simpa using hk);have hc':env.cells.lookup x=some c':=hc;rw[hc'] at q ⊢;exact .inr q
    ·exact .inl q
   ·exact .inr q
  ·exact Fm r _ (λx hx=>hf x (Hb _ hx)) h
theorem Fo{env:Env}{x:Str}:∀(names:List (Str×NameKind)) (cs:List (Str×Addr)),((cs.lookup x).isSome=true\/(x,NameKind.free)∈names)->((Bh env names cs).lookup x).isSome=true
 | [],cs,h=>by
  rcases h with h | h
  ·exact h
  ·cases h
 | (n,k)::r,cs,h=>by
  unfold Bh;split
  ·refine Fo r _ ?_;rw[Hm];rcases h with h | h
   ·left;split
    ·rfl
    ·exact h
   ·rcases He.mp h with e | h
    ·left;cases e;simp
    ·exact .inr h
  ·rename_i hk;refine Fo r _ ?_;rcases h with h | h
   ·exact .inl h
   ·rcases He.mp h with e | h
    ·cases e;exact absurd rfl hk
    ·exact .inr h
theorem Xbr{env:Env}{x:Str}{k':NameKind}:∀{names:List (Str×NameKind)},
  (names.map λ(n,k)=>if (k==NameKind.free&&env.scope.kind == .function&&env.kindOf n==some .cell) then (n,NameKind.cell) else (n,k)).lookup x=some k'->∃k,names.lookup x=some k/\(k'=k\/k = .free)
 | [],h=>by simp at h
 | (n,k)::r,h=>by
  have ih := @Xbr env x k' r;have h':List.lookup x ((if (k==NameKind.free&&env.scope.kind == .function&&env.kindOf n==some .cell)=true then (n,NameKind.cell) else (n,k))::_)=_:=h;rw[Hm];by_cases hc:(k==NameKind.free&&env.scope.kind == .function&&env.kindOf n==some .cell)=true
  ·rw[Kd hc,Hm] at h';cases hx:x==n with
   | true=>
    have hk:k = .free:=by
     simp only[Ie,beq_iff_eq] at hc;exact hc.1.1
    exact⟨k,rfl,.inr hk⟩
   | false=>
    rw[hx] at h';exact ih h'
  ·rw[Kc hc,Hm] at h';cases hx:x==n with
   | true=>
    rw[hx] at h';exact⟨k,rfl,.inl (Ha h').symm⟩
   | false=>
    rw[hx] at h';exact ih h'
theorem Fp:∀(names:List (Str×NameKind)) (h:Heap) (acc:List (Str×Addr)) (x:Str) (c:Addr),(cellsFrom h.objs.size names acc).lookup x=some c ->
  (h.objs.size<=c/\(x,NameKind.cell)∈names/\(pushCells h names).IsCell c none)\/acc.lookup x=some c
 | [],_,_,_,_,e=>.inr e
 | (name,kind)::r,h,acc,x,c,e=>by
  unfold cellsFrom at e;unfold pushCells;by_cases hk:(kind==NameKind.cell)=true
  ·rw[Kd hk] at e ⊢;have hk':kind = .cell:=by simpa using hk
   have sz:(h.push {cls:=.type "cell",data:=.cell none}).objs.size=h.objs.size+1:=Heap.size_push ..;rw[<-sz] at e;rcases Fp r _ _ x c e with ⟨a1,a2,a3⟩ | a
   ·exact .inl ⟨by omega,Hb _ a2,a3⟩
   ·rw[Hm] at a;cases hx:x==name with
    | true=>
     rw[hx] at a;cases a;have:x=name:=by simpa using hx
     subst this;refine .inl ⟨G5 _,by rw[hk'];exact Hg,?_⟩;exact⟨_,pushCells_keeps r _ _ _ (Heap.get?_push_size _ rfl),rfl⟩
    | false=>rw[hx] at a;exact .inr a
  ·rw[Kc hk] at e ⊢;rcases Fp r h acc x c e with ⟨a1,a2,a3⟩ | a
   ·exact .inl ⟨a1,Hb _ a2,a3⟩
   ·exact .inr a
theorem Fq:∀(names:List (Str×NameKind)) (n:Nat) (acc:List (Str×Addr)),(∀x y c,acc.lookup x=some c->acc.lookup y=some c->x=y)->(∀x c,acc.lookup x=some c->c<n) ->
  ∀x y c,(cellsFrom n names acc).lookup x=some c->(cellsFrom n names acc).lookup y=some c->x=y
 | [],_,_,h,_=>h
 | (name,kind)::r,n,acc,h,hb=>by
  unfold cellsFrom;by_cases hk:(kind==NameKind.cell)=true
  ·rw[Kd hk];refine Fq r (n+1) _ (λx y c e1 e2=>?_) (λx c e=>?_)
   ·rw[Hm] at e1 e2;cases hx:x==name with
    | true=>
     cases hy:y==name with
     | true=>rw[beq_iff_eq.mp hx,beq_iff_eq.mp hy]
     | false=>
      rw[hx] at e1;rw[hy] at e2;cases e1;exact absurd (hb y _ e2) (Ht _)
    | false=>
     cases hy:y==name with
     | true=>
      rw[hx] at e1;rw[hy] at e2;cases e2;exact absurd (hb x _ e1) (Ht _)
     | false=>rw[hx] at e1;rw[hy] at e2;exact h x y c e1 e2
   ·rw[Hm] at e;cases hx:x==name with
    | true=>rw[hx] at e;cases e;exact Nat.lt_succ_self _
    | false=>rw[hx] at e;exact Iq (hb x c e)
  ·rw[Kc hk];exact Fq r n acc h hb
theorem Fr{env:Env}{x:Str}{c:Addr}:∀(names:List (Str×NameKind)) (cs:List (Str×Addr)),(Bh env names cs).lookup x=some c->cs.lookup x=some c\/(x,NameKind.free)∈names
 | [],cs,h=>.inl h
 | (n,k)::r,cs,h=>by
  unfold Bh at h;split at h
  ·rename_i hk;have hk':k = .free:=by simpa using hk
   rcases Fr r _ h with q | q
   ·rw[Hm] at q;cases hx:x==n with
    | true=>
     have:x=n:=by simpa using hx
     subst this;exact .inr (by rw[hk'];exact Hg)
    | false=>rw[hx] at q;exact .inl q
   ·exact .inr (Hb _ q)
  ·rcases Fr r _ h with q | q
   ·exact .inl q
   ·exact .inr (Hb _ q)
theorem Xgm{M:Model}{A:Around}{E:Value->Shared->Prop}{s:Shared}{scope:Scope}{globals:Addr}{closure:List (Str×Addr)}{qual:Str}{outer:Env}{Q:Env->Shared->Prop}
  (h:Q (newEnv scope s.heap.objs.size globals (cellsFrom (s.heap.objs.size+1) scope.names closure) qual none .none (some outer) builtinsNs) {s with heap:=pushCells (s.heap.push {cls:=.type "dict",data:=.dict #[]}) scope.names}):
  wpAny M A (newFunctionEnv scope globals closure [] qual none .none (some outer)) Q E s:=by
 simp only[newFunctionEnv,J6,if_true];refine J9 (wpAny_alloc ?_);refine J9 (wpAny_layCells _ (λname kind cells=>by cases hkc:kind==NameKind.cell<;>simp[hkc]) _ _ _ _ ?_);rw[show ({s with heap:=s.heap.push {cls:=.type "dict",data:=.dict #[]} }:Shared).heap.objs.size=s.heap.objs.size+1 from Heap.size_push ..];refine J9 ?_;rw[List.forIn_nil];exact Ka (Ka h)
def Dp (X:Cx) (scope:Scope) (s0:Shared):List (Str×Addr):=cellsFrom (s0.heap.objs.size+1) scope.names (Bh X.env scope.names [])
def Cx.comp (X:Cx) (N:List Str) (scope:Scope) (s0:Shared) (H0:Hp) (ex:List Addr):Cx where
 prog:=X.prog
 w:=X.w
 K:=X.K
 mg:=X.mg
 base:=X.base
 A:=X.A
 N:=N
 s₀:=s0
 H₀:=H0
 env:=compEnvC scope (Dp X scope s0) s0.heap.objs.size X.env
 outer:=X.stack
 stack:=X.stack
 ex:=ex
 fn:=λx=>decide (scope.names.lookup x=some .cell)
 calm:=X.calm
 pn:=[]
 xe:=λ_ _=>False
def Be (cap:List (Option Nat)) (σ:St):St:=cap.map λo=>o.bind λj=>(σ[j]?).join
structure CompScope (X:Cx) (N:List Str) (cap:List (Option Nat)) (scope:Scope):Prop where
 kind:scope.kind = .function
 uniq:∀y∈scope.names,scope.names.lookup y.1=some y.2
 free:∀y∈scope.names,y.2 = .free->X.env.kindOf y.1=some .cell\/X.env.kindOf y.1=some .free
 len:cap.length=N.length
 cap:∀(i:Nat) (x:Str) (j:Nat),N[i]? = some x->cap[i]? = some (some j)->X.N[j]? = some x/\scope.names.lookup x=some .free
def PIfs (X:Cx) (ifs:List Expr) (t:TT):Prop:=
 ∀(pins:List (Addr×Obj)) (s:Shared) (σ:St) (H:Hp) (Q:Bool->Hp->Prop),Inv X pins σ H s->t σ H Q ->
  wpAny (model X.prog X.w) X.A (forIn ifs true fun c r => if r = true then do let ok <- isTrue c X.env (eval c X.env); pure (ForInStep.yield ok) else pure (ForInStep.yield r)) (TP X pins σ Q) X.xe s
def Xbs:TT:=λ_ H Q=>Q true H
theorem Dq{X:Cx}:PIfs X [] Xbs:=λ_ _ _ H _ I h=>wpAny_tests_nil ⟨H,I,h⟩
theorem Xbt{X:Cx}{c:Expr}{t:TT}(h:PT X c t):PIfs X [c] t:=λpins s σ H Q I hw=>wpAny_tests_one (h pins s σ H Q I hw)
def C7 (cap:List (Option Nat)) (g:TG) (tt:TT) (te:TE) (J:It) (σ:St) (H1:Hp) (F:Addr->Hp->Prop):Prop:=
 ∀D,H1 D=none->∃W:Nat->Nat->St->Hp->Prop,(∃m,W 0 m (Be cap σ) (upd H1 D (.lst [])))/\∀i m σ1 H2,W i m σ1 H2 ->
  (J.stop i H2/\F D H2)\/(J.go i H2/\∀x H3,J.yld i H2 x H3->g x σ1 H3 fun σ2 H4=>tt σ2 H4 λb H5=>
   if b=true then te σ2 H5 λy H6=>∃ys,H6 D=some (.lst ys)/\ys.length<sizeLine/\∃m',m'<m/\W (i+1) m' σ2 (upd H6 D (.lst (ys++[y])))
   else ∃m',m'<m/\W (i+1) m' σ2 H5)
theorem Xbu{env:Env}{x:Str}:∀{names:List (Str×NameKind)} {k:NameKind},names.lookup x=some k ->
  (names.map λ(n,k)=>if (k==NameKind.free&&env.scope.kind == .function&&env.kindOf n==some .cell) then (n,NameKind.cell) else (n,k)).lookup x=some (if (k==NameKind.free&&env.scope.kind == .function&&env.kindOf x==some .cell) then NameKind.cell else k)
 | [],_,h=>by simp at h
 | (n,q)::r,k,h=>by
  have ih := @Xbu env x r k;show List.lookup x ((if (q==NameKind.free&&env.scope.kind == .function&&env.kindOf n==some .cell)=true then (n,NameKind.cell) else (n,q))::_)=_;rw[Hm] at h;cases hx:x==n with
  | true=>
   rw[hx] at h;cases h;have:x=n:=by simpa using hx
   subst this;by_cases hc:(q==NameKind.free&&env.scope.kind == .function&&env.kindOf x==some .cell)=true
   ·rw[Kd hc,Kd hc,Hm,hx]
   ·rw[Kc hc,Kc hc,Hm,hx]
  | false=>
   rw[hx] at h;by_cases hc:(q==NameKind.free&&env.scope.kind == .function&&env.kindOf n==some .cell)=true
   ·rw[Kd hc,Hm,hx];exact ih h
   ·rw[Kc hc,Hm,hx];exact ih h
section
variable {X:Cx}{N:List Str}{cap:List (Option Nat)}{scope:Scope}{pins:List (Addr×Obj)}{σ:St}{H H':Hp}{s s':Shared}{fp:List Addr}
theorem Fs(C:CompScope X N cap scope)(ok:X.Ok):∀x∈scope.names,x.2 = .free->∃c,X.env.cells.lookup x.1=some c:=λx hx hf=>ok.has x.1 (C.free x hx hf)
theorem Ef(C:CompScope X N cap scope)(ok:X.Ok){x:Str}{c:Addr}(h:(Bh X.env scope.names []).lookup x=some c):X.env.cells.lookup x=some c:=by
 rcases Fm scope.names [] (Fs C ok) h with q | q
 ·simp at q
 ·exact q
theorem Xbv(C:CompScope X N cap scope)(ok:X.Ok){x:Str}(h:scope.names.lookup x=some .free):∃c,(Bh X.env scope.names []).lookup x=some c:=
 Ik.mp (Fo scope.names [] (.inr (PySem.mem_of_lookup h)))
theorem Xbw(C:CompScope X N cap scope)(ok:X.Ok){h:Heap}(hz:h.objs.size=s.heap.objs.size+1){x:Str}{c:Addr}(e:(Dp X scope s).lookup x=some c):
  (s.heap.objs.size<c/\scope.names.lookup x=some .cell/\(pushCells h scope.names).IsCell c none)\/(scope.names.lookup x=some .free/\X.env.cells.lookup x=some c):=by
 unfold Dp at e;rw[<-hz] at e;rcases Fp scope.names h _ x c e with ⟨a1,a2,a3⟩ | a
 ·exact .inl ⟨by omega,C.uniq _ a2,a3⟩
 ·refine .inr ⟨?_,Ef C ok a⟩;rcases Fr scope.names [] a with q | q
  ·simp at q
  ·exact C.uniq _ q
theorem Xgn(C:CompScope X N cap scope)(I:Inv X pins σ H s)(hf:∀b∈fp,FpOk X pins H b)(hfl:∀b∈fp,b<s.heap.objs.size){tk:Nat}:
  Inv (X.comp N scope s H fp) [] (Be cap σ) H {s with heap:=pushCells (s.heap.push {cls:=.type "dict",data:=.dict #[]}) scope.names,toks:=tk}:=by
 have hC:H s.heap.objs.size=none:=I.hok.fresh (G5 _);have hz:(s.heap.push {cls:=.type "dict",data:=.dict #[]}).objs.size=s.heap.objs.size+1:=Heap.size_push ..;have hns:(pushCells (s.heap.push {cls:=.type "dict",data:=.dict #[]}) scope.names).Ns s.heap.objs.size λ_=>none:=(Heap.Ns.new s.heap (.type "dict")).keeps (pushCells_keeps _ _);have hk:∀b o,s.heap.get? b=some o->(pushCells (s.heap.push {cls:=.type "dict",data:=.dict #[]}) scope.names).get? b=some o:=λb o e=>pushCells_keeps _ _ b o (Kj _ e);have look:∀{x c},(X.comp N scope s H fp).env.cells.lookup x=some c->_:=λ{x c} h=>Xbw (s:=s) C I.ok hz h;have clt:∀x c,X.env.cells.lookup x=some c->c<s.heap.objs.size:=λx c h=>by
  obtain⟨v,q⟩:=I.cell x c h;exact q.lt
 have kind:∀x k,(relabel scope X.env).names.lookup x=some k->k = .cell\/k = .free->scope.names.lookup x=some .cell\/scope.names.lookup x=some .free:=λx k e hk=>by
  obtain⟨k0,e0,z⟩:=Xbr e;rcases z with z | z
  ·rw[<-z] at e0;rcases hk with q | q
   ·rw[q] at e0;exact .inl e0
   ·rw[q] at e0;exact .inr e0
  ·rw[z] at e0;exact .inr e0
 refine⟨⟨I.ok.mod,C.kind,I.ok.glob,I.ok.blt,G5 _,?inj,λx hx=>?has,λx c h e=>?cab,I.ok.hd,I.ok.frames,.inl rfl,λb hb=>⟨G7 (hfl b hb),λx c h=>?exf⟩,
   I.bs,Hx I.ok.bsz I.sz,λb o e hb=>?noex,λb hb hs=>?exfs,I.stack,I.stkFree⟩,
  rfl,I.bare,Un.kept hk,⟨_,hns,λi x v h1' h2 h3=>?loc⟩,λx c h=>?cell,hC,λx c h=>?freeC,λp hp=>absurd (show p∈([]:List (Addr×Obj)) from hp) (by simp),I.hok.kept hk,?len⟩
 case inj=>
  refine Fq scope.names _ _ (λx y c e1 e2=>I.ok.inj x y c (Ef C I.ok e1) (Ef C I.ok e2)) λx c e=>Iq (clt x c (Ef C I.ok e))
 case has=>
  have hx':(relabel scope X.env).names.lookup x=some .cell\/(relabel scope X.env).names.lookup x=some .free:=hx;refine Ik.mp (PySem.W.cellsFrom_some scope.names _ _ ?_);rcases (hx'.elim (λq=>kind x _ q (.inl rfl)) λq=>kind x _ q (.inr rfl)) with q | q
  ·exact .inl q
  ·obtain⟨c,hc⟩:=Xbv C I.ok q;exact .inr (by rw[hc];rfl)
 case cab=>
  have h:scope.names.lookup x=some .cell:=Kg h;rcases look e with ⟨a,_⟩ | ⟨a,_⟩
  ·exact Jp a
  ·rw[h] at a;cases a
 case exf=>
  rcases look h with ⟨a,_⟩ | ⟨_,a⟩
  ·exact λz=>Ht _ (Nat.lt_trans a (by rw[z];exact hfl b hb))
  ·exact(hf b hb).2.2.2.2.1 x c a
 case noex=>
  obtain⟨_,_,_,z,_⟩:=hf b hb;rcases z with z | z
  ·exact I.ok.noex b o e z
  ·exact absurd (Hf (Ki e) (Hx I.ok.bsz z)) (Ht _)
 case exfs=>
  obtain⟨_,f1,f2,_⟩:=hf b hb;rcases He.mp (I.stkSub b hs) with e | e
  ·exact f1 e
  ·exact f2 e
 case loc=>
  have h2':(cap.map λo=>o.bind λj=>(σ[j]?).join)[i]? = some (some v):=h2;rw[Hd] at h2';cases hc:cap[i]? with
  | none=>rw[hc] at h2';cases h2'
  | some o=>
   rw[hc] at h2';cases o with
   | none=>cases h2'
   | some j=>
    have h2'':(σ[j]?).join=some v:=Ha h2';have hσ : σ[j]? = some (some v):=by
     cases hj : σ[j]? with
     | none=>rw[hj] at h2'';cases h2''
     | some o=>rw[hj] at h2'';exact congrArg some h2''
    obtain⟨hN,hfr⟩:=C.cap i x j h1' hc;obtain⟨m,hn,hl⟩:=I.loc;have hkind:X.env.kindOf x=some .cell\/X.env.kindOf x=some .free:=C.free (x,.free) (PySem.mem_of_lookup hfr) rfl;obtain⟨u,r,l⟩:=hl j x v hN hσ (by rcases hkind with q | q;exact .inr (.inl q);exact .inr (.inr q));refine⟨u,r,.inr ⟨?_,?_⟩⟩
    ·show (relabel scope X.env).names.lookup x=some .cell\/(relabel scope X.env).names.lookup x=some .free;have:=Xbu (env:=X.env) hfr;have e:(relabel scope X.env).names.lookup x=_:=this;rw[e];split
     ·exact .inl rfl
     ·exact .inr rfl
    ·obtain⟨c,hcl⟩:=Xbv C I.ok hfr;obtain⟨c2,hc2⟩:=Ik.mp (PySem.W.cellsFrom_some scope.names (s.heap.objs.size+1) (Bh X.env scope.names []) (x:=x) (.inr (by rw[hcl];rfl)));rcases look (x:=x) (c:=c2) hc2 with ⟨_,a,_⟩ | ⟨_,a⟩
     ·rw[hfr] at a;cases a
     ·rcases l with ⟨k,_⟩ | ⟨_,c',e,z⟩
      ·rcases hkind with q | q
       ·rw[k] at q;cases q
       ·rw[k] at q;cases q
      ·rw[a] at e;cases e;obtain⟨o,ho,hd⟩:=z;exact⟨c2,hc2,o,hk c2 o ho,hd⟩
 case cell=>
  rcases look h with ⟨_,_,a⟩ | ⟨_,a⟩
  ·exact⟨none,a⟩
  ·obtain⟨v,o,ho,hd⟩:=I.cell x c a;exact⟨v,o,hk c o ho,hd⟩
 case freeC=>
  rcases look h with ⟨a,_⟩ | ⟨_,a⟩
  ·exact I.hok.fresh (Jp a)
  ·exact I.freeC x c a
 case len=>
  show (cap.map _).length=N.length;rw[G3,C.len]
end
def Xgo (cap:List (Option Nat)) (wi:TI) (g:TG) (tt:TT) (te:TE):TE:=fun σ H Q=>wi σ H λJ H1=>C7 cap g tt te J σ H1 λD H2=>Q (.ref D) H2
def Xgp (i:Nat) (cap:List (Option Nat)) (wi:TI) (g:TG) (tt:TT) (te:TE):TS:=λD σ H=>wi σ H λJ H1=>C7 cap g tt te J σ H1 λl H2=>D.nx (σ.set i (some (.ref l))) H2
theorem Aq.there{P:Program}{w:World}{H:Hp}{h:Heap}{a:Addr}{o:HO}(x:Aq P w H h a o):∃u,h.get? a=some u:=by
 cases o with
 | lst xs=>obtain⟨_,_,_,_,e⟩:=x;exact⟨_,e⟩
 | tup xs=>obtain⟨_,_,_,o,e,_⟩:=x;exact⟨_,e⟩
 | dK kvs=>obtain⟨_,_,_,_,o,_,_,e,_⟩:=x;exact⟨_,e⟩
 | dT kvs=>obtain⟨_,_,_,_,o,_,_,e,_⟩:=x;exact⟨_,e⟩
 | set S n=>obtain⟨o,_,_,_,e,_⟩:=x;exact⟨_,e⟩
 | ins C dx fs=>obtain⟨_,_,_,e,_⟩:=x;exact⟨_,e⟩
 | own y=>exact x
 | xd fs=>obtain⟨_,⟨_,_,_,e,_⟩,_⟩:=x;exact⟨_,e⟩
 | rng lo hi=>obtain⟨_,_,_,e⟩:=x;exact⟨_,e⟩
 | frz ob u=>obtain⟨e,_⟩:=x;exact⟨_,e⟩
 | tbl ps=>exact⟨_,(show h.get? a=some _ from x)⟩
 | met f y=>exact⟨_,(show h.get? a=some _ from x)⟩
 | ext φ=>obtain⟨_,e,_⟩:=x;exact e
structure Flown (P:Program) (w:World) (outer:List Env) (H:Hp) (hc:Heap) (H':Hp) (ex C:Addr) (B:Heap) (a0:Value) (h:Heap):Prop where
 un:Un (frs outer) [] H H' hc h
 hok:HOk P w H' h
 fly:Heap.FlyingW B outer ex (.ref C) a0 h
 inB:∀b o,h.get? b=some o->b∉frs outer->((∃o',hc.get? b=some o')\/H' b≠none)->B.get? b=some o
 frf:∀b∈frs outer,H' b=none
def CX1 (P:Program) (w:World):CXT:=λouter H s E e s'=>
 ∃ex C H' B a0,e = .ref ex/\s'.os=s.os/\AllBare s'.gens/\Flown P w outer H s.heap H' ex C B a0 s'.heap/\E (.ref C) none H'
section
variable {P:Program}{w:World}{K:PySem.W.Frag}{mg:Str->Option Value}{base:Heap}{N:List Str}{qual:Str}{scope:Scope}{f:Addr}{cd:Value}{A:Around}{outer:List Env}{s:Shared}{H:Hp}{E:XK}
def Leaves (X:Cx) (E:XK):Prop:=∀(pins:List (Addr×Obj)) (σ:St) (H:Hp) (s:Shared) (h':Heap) (ex C:Addr) (args:List Value),
 Inv X pins σ H s->Heap.MadeExcOf s.heap h' ex (.ref C) args->E (.ref C) none H->X.xe (.ref ex) {s with heap:=h'}
end
abbrev bmV:List Value:=[.type "ValueError",.type "Exception",.type "BaseException",.type "object"]
abbrev Cx.re (X:Cx) (pn:List (Addr×Obj)) (A:Around) (c:Bool) (E:Value->Shared->Prop):Cx:={X with pn:=pn,A:=A,calm:=c,xe:=E}
section
variable {X:Cx}{pins pins' pn:List (Addr×Obj)}{σ:St}{H:Hp}{s:Shared}{A:Around}{c:Bool}{E:Value->Shared->Prop}
end
def excP (ex C:Addr) (h:Heap):Prop:=∃o vs,h.get? ex=some o/\o.cls = .ref C/\o.data = .fields vs
def ExcO (ex C:Addr):HO:=.ext (excP ex C)
def Cx.tryC (X:Cx) (pn:List (Addr×Obj)) (R:Addr->St->Hp->Prop):Cx:=X.re pn X.A X.calm λe s1=>
 ∃σ Hc sc,Inv (X.re pn X.A X.calm λ_ _=>True) [] σ Hc sc/\CX1 X.prog X.w X.stack Hc sc (λc _ H1=>∃C,c = .ref C/\R C σ H1) e s1
def Cx.suite (X:Cx) (pn:List (Addr×Obj)) (ex:Addr):Cx:=X.re pn (X.A.mark (some (.ref ex))) false λ_ _=>False
section
variable {X:Cx}{pn:List (Addr×Obj)}{R:Addr->St->Hp->Prop}{k:Nat}{f:Addr}{fd:FuncData}{ps:List Str}{sp:Sp}{dvs:List V}{ds:List Value}{x:Str}{p pos:Pos}{e:Expr}{es:List Expr}{t:TA}
end
section
variable {X:Cx}{pos np hpos:Pos}{body:List Stmt}{b0:Stmt}{suite:List Stmt}{n x:Str}{i:Nat}{Cc:Addr}{tb:(Addr->St->Hp->Prop)->TS}{th:TS}
def tTry (K:PySem.W.Frag) (i:Nat) (Cc:Addr) (tb:(Addr->St->Hp->Prop)->TS) (th:TS):TS:=λD σ H=>∃R:Addr->St->Hp->Prop,tb R D σ H/\∀C σ1 H1,R C σ1 H1->PySem.W.exmOne K (.ref C) (.ref Cc)=some true /\
 ∀ex,H1 ex=none->th {nx:=fun σ2 H2=>D.nx (σ2.set i none) H2,rt:=D.rt,bk:=fun σ2 H2=>D.bk (σ2.set i none) H2,ct:=fun σ2 H2=>D.ct (σ2.set i none) H2} (σ1.set i (some (.ref ex))) (upd H1 ex (ExcO ex C))
end
section
variable {X:Cx}{pos p2:Pos}{e:Expr}{te:TE}
def tRev (K:PySem.W.Frag) (te:TE):TE:=fun σ H Q=>te σ H λx H1=>∃a xs,x = .ref a/\SqL K H1 a xs/\∀p,H1 p=none->Q (.ref p) (upd H1 p (.lst xs.reverse))
theorem Eg{k:Nat}{p3 p4:Pos}(he:PE X e te):PE X (.Subscript e (.Slice none none (some (.UnaryOp .USub (.Constant (.int 1) k p3) p4)) p2) pos) (tRev X.K te):=by
 intro pins s σ H Q I h;refine Subscript_ (thn (he pins s σ H _ I h) λv s1 ⟨x,H1,I1,r1,q1⟩=>?_);have hstep:PE X (.UnaryOp .USub (.Constant (.int 1) k p3) p4) (tUn (rU λi=>.int (-i)) (tC (.int 1))):=Xfa Xfb Ad;refine wpAny_Slice ?_;rw[evalPart_none];refine Ka (Ka ?_);rw[evalPart_some];refine thn (hstep pins s1 σ H1 (λy H2=>y = .int (-1)/\H2=H1) I1 ⟨1,rfl,rfl,rfl⟩) λu s2 ⟨y,H2,I2,r2,ey,eH⟩=>?_;subst ey eH;obtain⟨t,rfl⟩:=r2;obtain⟨a,xs,ex,hx,q⟩:=q1;subst ex;cases r1;obtain⟨its,r,ht,hz⟩:=I2.list hx;have I4:Inv X pins σ H2 {s2 with heap:=s2.heap.push {cls:=.type "slice",data:=.fields #[.none,.none,.int (-1) t]} }:=I2.kept (t':=s2.toks) λb ob q=>Kj _ q;obtain⟨its4,r4,ht4,hz4⟩:=I4.list hx;have hlen:=r4.length;refine tail_any (ops:=[.ref a,.ref s2.heap.objs.size]) ht4.isList.typeIs slot_list_getitem.lookup (wpAny_getItem_list_slice ht4.isList (Heap.IsSliceOf.new ..) .none .none (.int (-1) t) (by simp) ?_ (by rw[G9]<;>omega)) (by with_unfolding_all rfl);rw[PySem.W.krv_pick];refine⟨.ref _,_,I4.laid (t':=s2.toks) (o:=.lst xs.reverse) (λb ob q=>Kj _ q) (G5 _) ?_,rfl,q _ (I4.hok.fresh (G5 _))⟩;exact⟨by rw[Ig];exact hz4,_,0,Vals.reverse r4,Heap.get?_push_size _ rfl⟩
def Xgq (K:PySem.W.Frag) (n:Nat) (t:TGs):TG:=λv σ H Q=>∃a xs,v = .ref a/\SqL K H a xs/\xs.length=n/\t xs σ H Q
theorem Xgr{es:List Expr}{k:Nat}{t:TGs}{n:Nat}(hc:X.calm=true)(h:PGs X es t)
  (hn:(assignEach es X.env).length=n:=by rfl) (hst:(assignEach es X.env).findIdx? (·.1)=none:=by rfl):PG X (.Tuple es k pos) (Xgq X.K n t):=by
 intro pins s σ H v u Q I r hw;obtain⟨a,xs,e1,hq,hl,hw⟩:=hw;subst e1;cases r;obtain⟨its,rv,ht,hz⟩:=I.list hq;rw[assign_Tuple];refine J9 (wpAny_standAt ?_);unfold unpack;have hlen:(assignEach es X.env).length=its.toArray.size:=by rw[hn,<-hl,G9];exact rv.length
 rw[hlen,hst];refine J9 (wpAny_holding (PySem.W.kun_itemsOf (I.ok.hd hc) ht.isList λh' hx=>?_));have I1:Inv X pins σ H {s with heap:=h'}:=I.kept (t':=s.toks) λb o e=>hx b o (G7 (Ki e)) e;exact h pins _ σ H xs _ Q I1 (by simpa using rv) hw
def repS (z:Str) (n:Nat):Str:=⟨(List.replicate n z.cps).foldl (· ++ ·) #[]⟩
theorem Xgs(z:Str):repS z 1=z:=by
 obtain⟨c⟩:=z;show (⟨(#[]:Array Nat)++c⟩:Str)=⟨c⟩;rw[Array.empty_append]
theorem Xbx(z:Array Nat):∀(n:Nat) (a:Array Nat),((List.replicate n z).foldl (· ++ ·) a).size=a.size+n * z.size
 | 0,a=>by simp
 | n+1,a=>by
  rw[List.replicate_succ,List.foldl_cons,Xbx z n,Array.size_append,Nat.succ_mul];omega
theorem Ft(z:Str)(n:Nat):(repS z n).length=n * z.length:=by
 have e:=Xbx z.cps n #[];show ((List.replicate n z.cps).foldl (· ++ ·) #[]).size=n * z.cps.size;simpa using e
theorem Xgt{z:Str}(h:z.length=0)(n:Nat):repS z n=z:=by
 have e:=Ft z n;rw[h,Nat.mul_zero] at e;generalize repS z n=y at e;obtain⟨c⟩:=z;obtain⟨d⟩:=y;have h':c.size=0:=h;have e':d.size=0:=e;rw[Array.size_eq_zero_iff] at h' e';rw[h',e']
theorem Xgu:OpR X (binaryOp .Mult) (λx y H Q=>∃z n,x = .str z/\y = .int n/\0<=n/\n<=1000/\z.length<=1000/\Q (.str (repS z n.toNat)) H):=by
 intro pins s σ H x y v u Q I rx ry h;obtain⟨z,n,rfl,rfl,h0,h1,hz,q⟩:=h;obtain⟨t,rfl⟩:=rx;obtain⟨t',rfl⟩:=ry;have hle:z.length * n.toNat<=1000 * 1000:=Nat.mul_le_mul hz (by omega);refine PySem.P.mul_str ?_ (λhn hz1=>?_) (λhn hz1=>?_) ?_
 ·have h2:¬n < -(2 ^ 63:Int):=by omega
  have h3:¬n ≥ 2 ^ 63:=by omega
  rw[Kf h2,Kf h3];rfl
 ·have h4:(1000:Int)<=(2 ^ 63 - 1) / n:=by
   refine(Int.le_ediv_iff_mul_le (by omega)).mpr ?_;have:(1000:Int) * n<=1000 * 1000:=by omega
   omega
  omega
 ·show Builtin.Str.tooLong _=false;unfold Builtin.Str.tooLong
  first
   | (refine Kf ?_;have:=hle;rw[Kb];omega)
   | (simp;omega)
 ·by_cases hn:n<1
  ·rw[Kd hn];have:n=0:=by omega
   subst this;exact⟨by decide,.str Str.empty,H,I.tok _,⟨_,rfl⟩,q⟩
  ·rw[Kc hn];by_cases hc:(n==1||z.length==0)=true
   ·rw[Kd hc];have e:repS z n.toNat=z:=by
     rcases Bool.or_eq_true_iff.mp hc with e | e
     ·have e':n=1:=by simpa using e
      subst e';exact Xgs z
     ·exact Xgt (by simpa using e) _
    rw[e] at q;exact⟨.str z,H,I,⟨_,rfl⟩,q⟩
   ·rw[Kc hc];refine⟨?_,.str (repS z n.toNat),H,I.tok _,⟨_,rfl⟩,q⟩;show (repS z n.toNat).length<=sizeLine;rw[Ft,Nat.mul_comm,Kb];omega
theorem Xby:X.calm=true->A9 X (.builtin "all") (λxs H Q=>∃(a:Addr) (bs:List Bool),xs=[.ref a]/\H a=some (.lst (bs.map V.bl))/\Q (.bl (bs.all id)) H):=by
 intro hc pins s σ H xs us Q I r h;obtain⟨a,bs,rfl,ha,q⟩:=h;obtain⟨u,rfl,ru⟩:=Br r;cases ru;obtain⟨its,rv,p,hz⟩:=I.list (SqL.of ha);have hl:=rv.length;rw[G3] at hl;refine call_all_walk (wpAny_pyIter_list p.isList ?_);have hlt:a≠s.heap.objs.size:=by
  obtain⟨o,ho,_⟩:=p.isList;exact G7 (Ki ho)
 refine⟨s.heap.objs.size,_,_,_,_,_,λj=>bs.getD j false,rfl,Walks.list (A:=X.A.in1) (show X.A.in1.handled=none from I.ok.hd hc) s.heap.objs.size a hlt its.toArray,⟨⟨_,Heap.get?_push_size _ rfl,rfl,rfl⟩,p.isList.push _⟩,λi v s' Q' E' hP hQ=>?_,λh' tk k=>?_⟩
 ·have hv:its[i]? = some v:=by simpa using hP
  have hi:i<its.length:=(G6.mp hv).1;have g:(bs.map V.bl)[i]? = some (.bl (bs[i]'(by omega))):=by
   rw[Hd,G4 (by omega)];rfl
  obtain⟨u,hu,ru⟩:=rv.get g;rw[hv] at hu;cases hu;cases ru;have e:bs.getD i false=bs[i]'(by omega):=by simp[List.getD,(by omega:i<bs.length)]
  have hQ':Q' (bs.getD i false) s':=hQ;rw[e] at hQ';exact wpAny_truthy_bool hQ'
 ·refine⟨.bl (bs.all id),H,I.kept (t':=tk) λb o e=>k b o (λz=>?_) (Kj _ e),?_,q⟩
  ·have z':b=s.heap.objs.size:=by simpa using z
   exact absurd (Ki e) (by rw[z'];exact Ht _)
  ·show Value.bool _=Value.bool _;congr 1;rw[G9,<-hl];rw[Iy,Jm,Jm];constructor
   ·intro hx b hb;obtain⟨j,hj,rfl⟩:=Ic.mp hb;have:=hx j (Io.mpr hj);simpa [List.getD,hj] using this
   ·intro hx j hj;have hj':=Io.mp hj;have:=hx _ (Hl hj');simpa [List.getD,hj'] using this
end
def Itd (d:Addr) (o:Obj) (kvs:List (Key×V)):It:=
 ⟨λi H=>H d=some (.frz o (.dK kvs))/\i<kvs.length,λi H x H'=>H'=H/\∃p,kvs[i]? = some p/\x=kV p.1,λi H=>H d=some (.frz o (.dK kvs))/\kvs.length<=i⟩
theorem Xgv{P:Program}{w:World}{k:Key}{u:Value}(h:(A5 P w).is k u=true):Ag (kV k) u:=by
 rcases B5 (show Cn k u=true from h) with ⟨i,t,rfl,rfl⟩ | ⟨x,t,rfl,rfl⟩
 ·exact⟨t,rfl⟩
 ·exact⟨t,rfl⟩
theorem Xbz:∀{kvs:List (Key×V)} {vs:List (Key×Value)} {i:Nat} {p:Key×V},KV kvs vs->kvs[i]? = some p->∃u,vs[i]? = some (p.1,u)
 | _,_,_,_,.nil,e=>by simp at e
 | _,_,0,p,.cons (b:=b) r _,e=>by
  simp at e;subst e;obtain⟨k,u⟩:=b;obtain⟨r1,r2⟩:=r;exact⟨u,by simp only[List.getElem?_cons_zero,Option.some.injEq,Prod.mk.injEq];exact⟨r1.symm,trivial⟩⟩
 | _,_,i+1,p,.cons _ t,e=>by
  obtain⟨u,h⟩:=Xbz (i:=i) t (by simpa using e);exact⟨u,by simpa using h⟩
theorem Fu{P:Program}{w:World}{K:PySem.W.Frag}{tg:Expr}(d it:Addr)(o:Obj)(es:Array DictEntry)(ep:Nat)(hd:o.data = .dict es ep)(kvs:List (Key×V))(hne:d≠it):
  Turn P w K tg (Itd d o kvs) [it] it (λi h=>h.IsKeyIter it d i kvs.length ep) where
 mem:=by simp
 obj:=λi h st b hb=>by
  have e:b=it:=by simpa using hb
  subst e;obtain⟨o,e,c,d⟩:=st;exact⟨o,e,λv z=>by rw[d] at z;cases z⟩
 keep:=λi h h' st k=>by
  obtain⟨o,e,r⟩:=st;exact⟨o,k it (by simp) o e,r⟩
 item:=by
  intro X hP hw hK hc i pins s σ H E I hf st hg;subst hP hw hK;obtain⟨hH,hi⟩:=hg;obtain⟨ho,hz,hm,vs,rv,o',es',ep',ho',hex,hd',r'⟩:=I.hok d _ hH;rw[ho] at ho';cases ho';rw[hd] at hd';cases hd';have hlen:kvs.length=vs.length:=Paired.length rv;obtain⟨f0,f1,f2,f3,f4,f5⟩:=hf it (by simp);have hp:kvs[i]? = some (kvs[i]'hi):=G4 hi;obtain⟨u,hu⟩:=Xbz rv hp;rw[hlen] at st;refine wpAny_pyNext_dict_item (knd:=A5 X.prog X.w) st ⟨o,es,ho,hex,hd,r'⟩ hu λkey h' hk st' sb=>?_;have I1:Inv X pins σ H {s with heap:=h'}:=I.turned (t':=s.toks) (λb o hb e=>(sb.2 b hb).trans e) f0 f1 f3 f4 f5;obtain⟨o2,e2,c2,d2⟩:=id st';refine⟨key,rfl,D8 (s:={s with heap:=h'}) e2 c2 d2 (by decide) ⟨_,H,I1,Xgv hk,⟨rfl,_,hp,rfl⟩,?_,λb hb=>(hf b hb).1⟩⟩;rw[hlen];exact st'
 done:=by
  intro X hP hw hK hc i pins s σ H E I hf st hg;subst hP hw hK;obtain⟨hH,hi⟩:=hg;obtain⟨ho,hz,hm,vs,rv,o',es',ep',ho',hex,hd',r'⟩:=I.hok d _ hH;rw[ho] at ho';cases ho';rw[hd] at hd';cases hd';have hlen:kvs.length=vs.length:=Paired.length rv;obtain⟨f0,f1,f2,f3,f4,f5⟩:=hf it (by simp);rw[hlen] at st;exact wpAny_pyNext_dict_end (knd:=A5 X.prog X.w) (I.ok.hd hc) st ⟨o,es,ho,hex,hd,r'⟩ (Jf (by omega)) λh' eb=>⟨rfl,I.turned (t':=s.toks) (λb o hb e=>eb b o hb e) f0 f1 f3 f4 f5⟩
 self:=λA i s Q E st h=>by
  refine wpAny_pyIter_slot st.typeIs PySem.F.slot_dict_keyiterator_iter (wpAny_call_entry PySem.F.slot_dict_keyiterator_iter st.typeIs PySem.F.entry_dict_keyiterator_iter ?_ (PySem.F.args_dict_keyiterator_iter_1 _));show wpAny _ _ (ret (.ref it)) _ _ s;exact Ka ⟨_,rfl, "dict_keyiterator",_,st.typeIs,PySem.F.slot_dict_keyiterator_next.lookup,h⟩
section
variable {X:Cx}{tg:Expr}
theorem Inv.freeze{pins:List (Addr×Obj)}{σ:St}{H:Hp}{s:Shared}{d:Addr}{kvs:List (Key×V)}{o:Obj}(I:Inv X pins σ H s)(hH:H d=some (.dK kvs))(ho:s.heap.get? d=some o):Inv X pins σ (upd H d (.frz o (.dK kvs))) s:=by
 have ne:∀{b:Addr} {u:HO},H b=some u->(HO.dK kvs≠u)->b≠d:=λ{b u} e n=>Xaa e hH (λz=>n z.symm);refine⟨I.ok,I.os,I.bare,⟨I.base.keep,I.base.slot,λb ob e n hx=>?_,I.base.there,λb xs e=>?_,λb ob u e=>?_,λb ps e=>?_⟩,I.loc,I.cell,?_,λx c e=>?_,λp hp'=>?_,λb ob e=>?_,I.len⟩
 ·have q:=I.base.free b ob e n hx;rw[Af (λz=>by rw[z,hH] at q;cases q)];exact q
 ·have q:=I.base.tups b xs e;rw[Af (ne q (by simp))];exact q
 ·have q:=I.base.frzs b ob u e;rw[Af (ne q (by simp))];exact q
 ·obtain⟨more,q⟩:=I.base.tbls b ps e;exact⟨more,by rw[Af (ne q (by simp))];exact q⟩
 ·rw[Af (λz=>by have:=I.free;rw[z,hH] at this;cases this)];exact I.free
 ·have q:=I.freeC x c e;rw[Af (λz=>by rw[z,hH] at q;cases q)];exact q
 ·obtain⟨e,n,r⟩:=I.pin p hp';exact⟨e,by rw[Af (λz=>by rw[z,hH] at n;cases n)];exact n,r⟩
 ·by_cases hb:b=d
  ·subst hb;rw[Ac] at e;cases e;exact⟨ho,(I.hok b _ hH).stay (λ_ _ _ q=>q) (λc q=>by rw[Af (ne q (by simp))];exact q) λc xs q=>by rw[Af (ne q (by simp))];exact q⟩
  ·rw[Af hb] at e;exact(I.hok b ob e).stay (λ_ _ _ q=>q) (λc q=>by rw[Af (ne q (by simp))];exact q) λc xs q=>by rw[Af (ne q (by simp))];exact q
def Xgw (tl:TE):TI:=fun σ H R=>tl σ H λx H1=>∃d kvs,x = .ref d/\H1 d=some (.dK kvs)/\∀o,R (Itd d o kvs) (upd H1 d (.frz o (.dK kvs)))
theorem Xgx{l:Expr}{tl:TE}(hl:PE X l tl):PI X tg l (Xgw tl):=by
 intro pins s σ H R I h;refine thn (hl pins s σ H _ I h) λv s1 ⟨x,H1,I1,r1,q1⟩=>?_;obtain⟨d,kvs,e,hH,q⟩:=q1;subst e;cases r1;obtain⟨hz,hm,vs,rv,o,es,ep,ho,hex,hd,r⟩:=I1.hok d _ hH;have hlen:kvs.length=vs.length:=Paired.length rv;refine wpAny_pyIter_dict (knd:=A5 X.prog X.w) hm ⟨o,es,ho,hex,hd,r⟩ ?_;have I2:=I1.freeze hH ho;refine⟨s1.heap.objs.size,[s1.heap.objs.size],_,_,_,rfl,I2.kept (t':=s1.toks) λb o e=>Kj _ e,Fu d _ o es ep hd kvs (G7 (Ki ho)),⟨_,Heap.get?_push_size _ rfl,rfl,by rw[hlen];rfl⟩,λb hb=>?_,q o⟩;have e:b=s1.heap.objs.size:=by simpa using hb
 subst e;exact I2.fpOk (G5 _) (I2.hok.fresh (G5 _))
end
def PJ (X:Cx) (es:List Expr) (t:St->Hp->(Hp->Prop)->Prop):Prop:=
 ∀(out:Str) (pins:List (Addr×Obj)) (s:Shared) (σ:St) (H:Hp) (Q:Hp->Prop),Inv X pins σ H s->t σ H Q->out.length+5000 * es.length<=sizeLine ->
  wpAny (model X.prog X.w) X.A (joinParts out (evalEach es X.env)) (λu s'=>∃z tk H',u = .str z tk/\Inv X pins σ H' s'/\Q H') X.xe s
section
variable {X:Cx}{es:List Expr}{t:St->Hp->(Hp->Prop)->Prop}{e:Expr}{te:TE}{pos:Pos}
theorem Xgy(a b:Str):(a++b).length=a.length+b.length:=strLen_append a b
end
end L2
namespace L2
open PySem PySem.Spec PyProof.Rows PySem.Calls Builtin Builtin.ObjectAttr Builtin.Getset_descriptor
structure ExcF (K:PySem.W.Frag) (C:Addr):Prop where
 ga:PySem.W.findIn K (.ref C) "__getattribute__" = some (some (.builtin "BaseException.__getattribute__"))
 gn:PySem.W.findIn K (.ref C) "__getattr__" = some none
 cl:PySem.W.findIn K (.ref C) "__class__" = some (some (.builtin "object.__class__"))
 sb:PySem.W.subIn K (.ref C) (.type "BaseException")=some true
 so:PySem.W.subIn K (.ref C) (.type "object")=some true
 ic:(PySem.W.clsIn K C).isSome=true
section
variable {prog:Program}{w:World}{A:Around}{E:Value->Shared->Prop}{K:PySem.W.Frag}{C a:Addr}{h:Heap}{g:Array GenState}{d:Drawn}{t:Nat}{os:OsState}
end
end L2
namespace L2
open PySem PySem.Spec PyProof.Rows
def Fv:V->Option Value
 | .ty n=>some (.type n)
 | .ref a=>some (.ref a)
 | _=>none
theorem Xgz{c:V}{u v:Value}(r:Ag c u)(h:Fv c=some v):u=v:=by
 cases c with
 | ty n=>cases r;exact Ha h
 | ref a=>cases r;exact Ha h
 | _=>cases h
section
variable {X:Cx}
theorem Fw:A9 X (.builtin "isinstance") (λxs H Q=>∃x c t cv b,xs=[x,c]/\TyOf X.K H x t/\Fv c=some cv/\PySem.W.kitOne X.K t cv=some b/\Q (.bl b) H):=by
 intro pins s σ H xs us Q I r h;obtain⟨x,c,t,cv,b,rfl,ty,hc,e,q⟩:=h;obtain⟨u,v,rfl,ru,rv⟩:=r.two;have:=Xgz rv hc;subst this;exact Xfj I ru ty e λtk=>⟨.bl b,H,I.tok _,rfl,q⟩
end
def wN (n:Nat) (Pv:Nat->St->Hp->Prop):Nat->Nat->St->Hp->Prop:=λi m σ H=>m=n - i/\i<=n/\Pv i σ H
theorem wput{n i:Nat}{Pv:Nat->St->Hp->Prop}{σ:St}{H:Hp}{D:Addr}{y:V}{ys:List V}(hi:i<n)(hD:H D=some (.lst ys))(hl:ys.length<sizeLine)(p:Pv (i+1) σ (upd H D (.lst (ys++[y])))):
  ∃ys,H D=some (.lst ys)/\ys.length<sizeLine/\∃m',m'<n - i/\wN n Pv (i+1) m' σ (upd H D (.lst (ys++[y]))):=⟨ys,hD,hl,n - (i+1),by omega,rfl,hi,p⟩
theorem wskip{n i:Nat}{Pv:Nat->St->Hp->Prop}{σ:St}{H:Hp}(hi:i<n)(p:Pv (i+1) σ H):∃m',m'<n - i/\wN n Pv (i+1) m' σ H:=⟨n - (i+1),by omega,rfl,hi,p⟩
theorem Dr{cap:List (Option Nat)}{g:TG}{tt:TT}{te:TE}{J:It}{σ:St}{H1:Hp}{F:Addr->Hp->Prop}(n:Nat)(vs:Nat->V)(Pv:Addr->Nat->St->Hp->Prop)
  (h0:∀D,H1 D=none->Pv D 0 (Be cap σ) (upd H1 D (.lst [])))
  (hgo:∀D i σ2 H2,H1 D=none->i<n->Pv D i σ2 H2->J.go i H2/\∀x H3,J.yld i H2 x H3->H3=H2/\x=vs i)
  (hst:∀D σ2 H2,H1 D=none->Pv D n σ2 H2->J.stop n H2)
  (step:∀D i σ1 H2,H1 D=none->i<n->Pv D i σ1 H2->g (vs i) σ1 H2 fun σ2 H4=>tt σ2 H4 λb H5=>
   if b=true then te σ2 H5 λy H6=>∃ys,H6 D=some (.lst ys)/\ys.length<sizeLine/\∃m',m'<n - i/\wN n (Pv D) (i+1) m' σ2 (upd H6 D (.lst (ys++[y])))
   else ∃m',m'<n - i/\wN n (Pv D) (i+1) m' σ2 H5)
  (hd:∀D σ2 H2,H1 D=none->Pv D n σ2 H2->F D H2):C7 cap g tt te J σ H1 F:=by
 intro D hD;refine⟨wN n (Pv D),⟨n,by simp,Iu _,h0 D hD⟩,?_⟩;rintro i m σ1 H2 ⟨rfl,hi,p⟩;by_cases hlt:i<n
 ·obtain⟨h1,h2⟩:=hgo D i σ1 H2 hD hlt p;refine .inr ⟨h1,λx H3 y=>?_⟩;obtain⟨e1,e2⟩:=h2 x H3 y;subst e1 e2;exact step D i σ1 _ hD hlt p
 ·have e:i=n:=by omega
  subst e;exact .inl ⟨hst D σ1 H2 hD p,hd D σ1 H2 hD p⟩
theorem Eh{K:PySem.W.Frag}{a:Addr}{xs:List V}{H:Hp}{i:Nat}(h:SqL K H a xs)(hi:i<xs.length):(Itl K a).go i H/\∀x H3,(Itl K a).yld i H x H3->H3=H/\x=xs.getD i .non:=
 ⟨⟨xs,xs[i],h,by simp[hi]⟩,λx H3 ⟨e,y⟩=>⟨e,by have:=y xs h;simp[List.getD,this]⟩⟩
theorem Ei{K:PySem.W.Frag}{a:Addr}{xs:List V}{H:Hp}(h:SqL K H a xs):(Itl K a).stop xs.length H:=⟨xs,h,G5 _⟩
theorem Xg0{K:PySem.W.Frag}{a:Addr}{xs:List V}{H:Hp}{i:Nat}(h:SqT K H a xs)(hi:i<xs.length):(Itt K a).go i H/\∀x H3,(Itt K a).yld i H x H3->H3=H/\x=xs.getD i .non:=
 ⟨⟨xs,xs[i],h,by simp[hi]⟩,λx H3 ⟨e,y⟩=>⟨e,by have:=y xs h;simp[List.getD,this]⟩⟩
theorem Xg1{K:PySem.W.Frag}{a:Addr}{xs:List V}{H:Hp}(h:SqT K H a xs):(Itt K a).stop xs.length H:=⟨xs,h,G5 _⟩
theorem Xb0{d:Addr}{o:Obj}{kvs:List (Key×V)}{H:Hp}{i:Nat}(h:H d=some (.frz o (.dK kvs)))(hi:i<kvs.length):(Itd d o kvs).go i H/\∀x H3,(Itd d o kvs).yld i H x H3->H3=H/\x=(kvs.map λp=>kV p.1).getD i .non:=
 ⟨⟨h,hi⟩,λx H3 ⟨e,p,hp,y⟩=>⟨e,by rw[y];simp[List.getD,hp]⟩⟩
theorem Xb1{d:Addr}{o:Obj}{kvs:List (Key×V)}{H:Hp}(h:H d=some (.frz o (.dK kvs))):(Itd d o kvs).stop kvs.length H:=⟨h,G5 _⟩
end L2
namespace L2
open PySem PySem.Spec PyProof.Rows PySem.Calls
theorem Xg2(t:SetTable)(n:Nat):(t.orStandIn n).led=t.led:=by
 unfold SetTable.orStandIn;split
 ·rfl
 ·rfl
theorem Xg3(t:SetTable)(es:Array (Int×Value))(k:Int)(x:Value):(layNew t es k x).2.1.led=t.led:=by
 unfold layNew;split
 ·exact Xg2 _ _
 ·rfl
theorem Xg4{mask finger moves:Nat}{led plain:Bool}{hs:Array Int}{t:SetTable}{o:Array Nat}(h:SetTable.laid mask finger moves led plain hs=some (t,o)):t.led=led/\t.plain=plain:=by
 unfold SetTable.laid at h;cases q:SetTable.layClean mask hs with
 | none=>rw[q] at h;cases h
 | some ow=>
  rw[q] at h;cases h;exact⟨rfl,rfl⟩
theorem Xg5(t:SetTable)(es:Array (Int×Value))(n:Nat)(hp:t.plain=false):(relayAll t es n).2.1.led=t.led/\(relayAll t es n).2.1.plain=false:=by
 unfold relayAll;split
 ·rename_i t' o e;obtain⟨e1,e2⟩:=Xg4 e;dsimp only;split
  ·exact⟨e1,e2.trans hp⟩
  ·exact⟨rfl,rfl⟩
 ·exact⟨rfl,rfl⟩
def Bf (w:World):Bool:=w.params.followText "set-order"
def SSet (P:Program) (w:World) (h:Heap) (a:Addr) (ks:List Str):Prop:=
 ∃o es ep t ls,h.get? a=some o/\o.ExactSet/\o.data = .set es ep t/\ElemsOf (PySem.strKind P w) es.toList/\StrsAre (es.toList.map (·.2)) ls/\ls.Perm ks/\es.size<scanBound/\t.fits es.size=true/\t.led = !Bf w/\(t.plain=true->es.size=0)
theorem Xb2{l1 l2:List (Int×Value)}{ls:List Str}(p:l1.Perm l2)(h:StrsAre (l2.map (·.2)) ls):∃ls',StrsAre (l1.map (·.2)) ls'/\ls'.Perm ls:=by
 refine⟨(l1.map (·.2)).map strOf,strsAre_map _ (λv hv=>?_),?_⟩
 ·exact h.all v ((p.map (·.2)).mem_iff.mp hv)
 ·rw[<-h.strs];exact(p.map (·.2)).map strOf
theorem Xg6{vs:List Value}{ls:List Str}{x:Str}{t:Tok}(h:StrsAre vs ls):StrsAre (vs++[.str x t]) (ls++[x]):=by
 induction h with
 | nil=>exact .cons x t .nil
 | cons y u _ ih=>exact .cons y u ih
section
variable {P:Program}{w:World}{A:Around}{E:Value->Shared->Prop}{s:Shared}{a:Addr}{ks:List Str}
theorem SSet.stay{h h':Heap}(S:SSet P w h a ks)(k:∀o,h.get? a=some o->h'.get? a=some o):SSet P w h' a ks:=by
 obtain⟨o,es,ep,t,ls,ho,r⟩:=S;exact⟨o,es,ep,t,ls,k o ho,r⟩
theorem Xg7{vs:List (Int×Value)}{ls:List Str}(h:StrsAre (vs.map (·.2)) ls){x:Str}:x∈ls ↔ ∃e∈vs,(PySem.strKind P w).is x e.2=true:=by
 rw[<-h.strs];constructor
 ·intro hx;obtain⟨v,hv,rfl⟩:=Hq.mp hx;obtain⟨e,he,rfl⟩:=Hq.mp hv;obtain⟨y,t,q⟩:=h.all e.2 hv;refine⟨e,he,?_⟩;rw[q];exact strKind_is P w y t
 ·rintro ⟨e,he,q⟩;obtain⟨t,e2⟩:=Value.isStrOf_shape q;exact Hq.mpr ⟨e.2,Hq.mpr ⟨e,he,rfl⟩,by rw[e2];rfl⟩
theorem Xb3{o:Obj}{es:Array (Int×Value)}{ep:Nat}{t:SetTable}{h:Heap}(ho:h.get? a=some o)(hex:o.ExactSet)(hd:o.data = .set es ep t){es':Array (Int×Value)}{t':SetTable}{ls:List Str}
  (hel:ElemsOf (PySem.strKind P w) es'.toList) (hs:StrsAre (es'.toList.map (·.2)) ls) (hp:ls.Perm ks) (hb:es'.size<scanBound) (hf:t'.fits es'.size=true) (hl:t'.led = !Bf w) (hpl:t'.plain=false):
  (h.update a (Obj.putSet es' t')).get? a=some {o with data:=.set es' (ep+1) t'}/\SSet P w (h.update a (Obj.putSet es' t')) a ks:=by
 have g:=Heap.get?_update_self (Obj.putSet es' t') ho (by rw[putSet_of es' t' hd];rfl);rw[putSet_of es' t' hd] at g;exact⟨g,_,es',ep+1,t',ls,g,hex,rfl,hel,hs,hp,hb,hf,hl,λz=>by rw[hpl] at z;cases z⟩
theorem Xb4{g:Bool->Sem Unit}(hg:∀(b:Bool) (s1:Shared) (Q':Unit->Shared->Prop),Q' () s1->wpAny (model P w) A (g b) Q' E s1)
    {o:Obj} {es:Array (Int×Value)} {ep:Nat} {t:SetTable} (ho:s.heap.get? a=some o) (hex:o.ExactSet) (hd:o.data = .set es ep t) {es1:Array (Int×Value)} {t2:SetTable} {ls:List Str}
    (hel:ElemsOf (PySem.strKind P w) es1.toList) (hs:StrsAre (es1.toList.map (·.2)) ls) (hp:ls.Perm ks) (hb:es1.size<scanBound) (hf:t2.fits es1.size=true) (hl:t2.led = !Bf w) (hpl:t2.plain=false) {wd:Bool} {R:Option Bool->Shared->Prop}
    (h:∀h',Heap.SameBut a s.heap h'->SSet P w h' a ks->R (some true) {s with heap:=h'}):
    wpAny (model P w) A (do
        storeSet a es1 t2
        if (!wd && t2.tooFull) = true then do g (relayAll t2 es1 (SetTable.grown es1.size)).2.2
                                              storeSet a (relayAll t2 es1 (SetTable.grown es1.size)).1 (relayAll t2 es1 (SetTable.grown es1.size)).2.1
                                              pure (some true)
        else pure (some true)) R E s:=by
  refine J9 (wpAny_storeSet_of ho hd ?_ (fits_of_scanBound hb));obtain⟨g1,S1⟩:=Xb3 (P:=P) (w:=w) ho hex hd hel hs hp hb hf hl hpl;have sb:=Kk s.heap a (Obj.putSet es1 t2);split
  . have pp:=relayAll_perm t2 es1 (SetTable.grown es1.size);have ff:=relayAll_fits t2 es1 (SetTable.grown es1.size);obtain⟨fl1,fl2⟩:=Xg5 t2 es1 (SetTable.grown es1.size) hpl;generalize relayAll t2 es1 (SetTable.grown es1.size)=R3 at pp ff fl1 fl2 ⊢;obtain⟨es3,t3,gv⟩:=R3;dsimp only at pp ff fl1 fl2 ⊢;obtain⟨ls3,s3,p3⟩:=Xb2 pp hs;have z:es3.size=es1.size:=by rw[<-G8,pp.length_eq,G8]
    refine J9 (hg _ _ _ ?_);refine J9 (wpAny_storeSet_of g1 rfl ?_ (fits_of_scanBound (by rw[z];exact hb)));obtain⟨_,S3⟩:=Xb3 (P:=P) (w:=w) (ks:=ks) g1 hex rfl (hel.perm pp) s3 (p3.trans hp) (by rw[z];exact hb) ff (fl1.trans hl) fl2;exact Ka (h _ (sb.trans (Kk _ a _)) S3)
  . exact Ka (h _ sb S1)
theorem Xg8{x:Str}{tk:Tok}{Q:Bool->Shared->Prop}(S:SSet P w s.heap a ks)(hr:ks.length+1<scanBound)
  (h:∀b h',Heap.SameBut a s.heap h'->SSet P w h' a (if x∈ks then ks else ks++[x])->Q b {s with heap:=h'}):
  wpAny (model P w) A (setAddHashed a (.str x tk) ((PySem.strKind P w).hash x)) Q E s:=by
 obtain⟨o,es,ep,t,ls,ho,hex,hd,hel,hs,hp,hb,hf,hl,hpl⟩:=S;have hlen:es.size=ks.length:=by
  have:=hs.length;rw[G3,G8] at this;rw[this,hp.length_eq]
 have hkey:(PySem.strKind P w).is x (.str x tk)=true:=strKind_is P w x tk;have hin:x∈ks ↔ ∃e∈es.toList,(PySem.strKind P w).is x e.2=true:=hp.mem_iff.symm.trans (Xg7 hs);unfold setAddHashed setAddHashedIn;refine wpAny_holding (J9 (wpAny_setState_of ho hd hf ?_));dsimp only;rw[byScan_of (knd:=PySem.strKind P w) rfl hb hel];simp only[↓reduceIte];unfold setAddByScan;refine J9 (J9 (wpAny_rule (J9 (wpAny_setScan_of hkey ho hd hf hel ?_))));cases hf1:List.findIdx? (λe=>(PySem.strKind P w).is x e.2) es.toList with
 | some j=>
  dsimp only;obtain⟨hj,hpj,_⟩:=List.findIdx?_eq_some_iff_getElem.mp hf1;have hx:x∈ks:=hin.mpr ⟨es.toList[j],Hl hj,hpj⟩;refine Ka (Ka ?_);have:=h false s.heap (Heap.SameBut.refl a s.heap) (by rw[Kd hx];exact⟨o,es,ep,t,ls,ho,hex,hd,hel,hs,hp,hb,hf,hl,hpl⟩);exact this
 | none=>
  dsimp only;have hx:x∉ks:=λz=>by
   obtain⟨e,he,q⟩:=hin.mp z;have:=List.findIdx?_eq_none_iff.mp hf1 e he;rw[q] at this;cases this
  have gw:∀(b:Bool) (s1:Shared) (Q':Unit->Shared->Prop),Q' () s1->wpAny (model P w) A (match b with | true=>rule "set.scan.the-table-gave-way" | false=>pure ()) Q' E s1:=λb s1 Q' q=>by
   cases b with
   | true=>exact wpAny_rule q
   | false=>exact Ka q
  have pp:=layNew_perm t es ((PySem.strKind P w).hash x) (.str x tk);have ff:=layNew_fits t es ((PySem.strKind P w).hash x) (.str x tk);have fl:=Xg3 t es ((PySem.strKind P w).hash x) (.str x tk);generalize layNew t es ((PySem.strKind P w).hash x) (.str x tk)=R at pp ff fl ⊢;obtain⟨es1,t1,wd,gv⟩:=R;dsimp only at pp ff fl ⊢;rw[Array.toList_push] at pp;have el1:=(hel.push hkey rfl).perm pp;have st0:StrsAre ((es.toList++[((PySem.strKind P w).hash x,Value.str x tk)]).map (·.2)) (ls++[x]):=by
   rw[Hj];exact Xg6 hs
  obtain⟨ls1,st1,p1⟩:=Xb2 pp st0;have z1:es1.size=ks.length+1:=by
   rw[<-G8,pp.length_eq,Hi,G8,hlen];rfl
  have p2:ls1.Perm (ks++[x]):=p1.trans (hp.append_right _);rw[Kc hx] at h;refine J9 (gw _ _ _ ?_);split
  ·refine J9 ?_;rw[hashByValue_scannable 8 (x:=Value.str x tk) rfl];refine Ka ?_;refine Xb4 (ks:=ks++[x]) gw ho hex hd el1 st1 p2 (by rw[z1];exact hr) (SetTable.fits_plain_off ff) (fl.trans hl) rfl (λh' sb S'=>?_);dsimp only;exact Ka (h true h' sb S')
  ·rename_i np;refine J9 (Ka ?_);simp only[↓reduceIte];refine Xb4 (ks:=ks++[x]) gw ho hex hd el1 st1 p2 (by rw[z1];exact hr) ff (fl.trans hl) (by cases q:t1.plain with | false=>rfl | true=>exact absurd q np) (λh' sb S'=>?_);dsimp only;exact Ka (h true h' sb S')
end
def dd1 (acc:List Str) (x:Str):List Str:=if x∈acc then acc else acc++[x]
def ddup (ss:List Str):List Str:=ss.foldl dd1 []
theorem Xb5(ss:List Str)(x:Str):ddup (ss++[x])=dd1 (ddup ss) x:=by
 unfold ddup;rw[List.foldl_append];rfl
theorem Fx{p:List Str->List Str->Prop}(h0:p [] [])(h1:∀ss x,p ss (ddup ss)->p (ss++[x]) (dd1 (ddup ss) x))(ss:List Str):p ss (ddup ss):=by
 have go:∀n ss,ss.length=n->p ss (ddup ss):=by
  intro n
  induction n with
  | zero=>
   intro ss e;rw[Hy.mp e];exact h0
  | succ n ih=>
   intro ss e;have hne:ss≠[]:=λz=>by rw[z] at e;cases e
   have e2:=List.dropLast_concat_getLast hne;rw[<-e2,Xb5];exact h1 _ _ (ih _ (by rw[List.length_dropLast,e];rfl))
 exact go _ ss rfl
theorem Xb6(ss:List Str):∀x,x∈ddup ss↔x∈ss:=by
 refine Fx (p:=λss d=>∀x,x∈d↔x∈ss) (λx=>Iff.rfl) (λss y ih x=>?_) ss;unfold dd1;split
 ·rename_i hy;rw[ih,Hn,Hs];constructor
  ·exact .inl
  ·rintro (z | z)
   ·exact z
   ·rw[z];exact(ih y).mp hy
 ·rw[Hn,Hn,ih]
theorem Xb7(ss:List Str):(ddup ss).Nodup:=by
 refine Fx (p:=λ_ d=>d.Nodup) List.nodup_nil (λss y ih=>?_) ss;unfold dd1;split
 ·exact ih
 ·rename_i hy;exact List.nodup_append.mpr ⟨ih,by simp,λa ha b hb=>by rw[Hs.mp hb];exact λz=>hy (z ▸ ha)⟩
theorem Ej(ss:List Str):(ddup ss).length<=ss.length:=by
 refine Fx (p:=λss d=>d.length<=ss.length) (G5 _) (λss y ih=>?_) ss;unfold dd1;rw[Hi,Ij];split
 ·omega
 ·rw[Hi,Ij];omega
section
variable {P:Program}{w:World}{A:Around}{E:Value->Shared->Prop}{s:Shared}
theorem Xb8{R:Result->Shared->Prop}{I:Addr}{fp wr:List Addr}{G:Array GenState->Array GenState->Prop}{Pv:Nat->Value->Prop}{St:Nat->Shared->Prop}(ss:List Str)(W:WalksS P w A.in1 I fp wr G ss.length Pv St)(S:Addr)(nS:S∉fp)
  (hval:∀i v,Pv i v->∃t,v = .str (ss.getD i "") t) (hb:ss.length+1<scanBound):
  ∀(k i:Nat) (s:Shared),ss.length - i=k->i<=ss.length->St i s->SSet P w s.heap S (ddup (ss.take i))->(∀s',Moved (S::wr) G s s'->SSet P w s'.heap S (ddup ss)->R (.ok (.ret .none)) s') ->
   codeAny (model P w) A (.builtin "set.update.loop" ⟨[.ref S,.ref I],[]⟩) R s:=by
 have nw:S∉wr:=λz=>nS (W.sub _ z);have up:∀b∈wr,b∈S::wr:=λb z=>Hb _ z;intro k
 induction k with
 | zero=>
  intro i s e hi st hS hR;have:i=ss.length:=by omega
  subst this;rw[Jn] at hS;refine codeAny_builtin F.entry_set_update_loop ?_;rw[Around.under_plainId F.plain_set_update_loop _];show wpAny _ A.in1 (pyNext (.ref I) >>= λ_=>_) _ _ s;refine J9 (W.done s _ _ st λs' mv=>?_);show wpAny _ A.in1 (ret Value.none) _ _ s';exact Ka (hR s' (mv.mono up) (hS.stay λo z=>mv.heap S o nw z))
 | succ k ih=>
  intro i s e hi st hS hR;have lt:i<ss.length:=by omega
  refine codeAny_builtin F.entry_set_update_loop ?_;rw[Around.under_plainId F.plain_set_update_loop _];show wpAny _ A.in1 (pyNext (.ref I) >>= λ_=>_) _ _ s;refine J9 (W.item i s _ _ lt st λv s' hP st' mv=>?_);obtain⟨t,rfl⟩:=hval i v hP;have hS':=hS.stay λo z=>mv.heap S o nw z;show wpAny _ A.in1 (holding [Value.str (ss.getD i "") t] (setAdd S (.str (ss.getD i "") t)) >>= λ_=>_) _ _ s';refine J9 (wpAny_holding ?_);unfold setAdd;refine wpAny_holding (J9 ((PySem.strKind P w).pyHash (k:=ss.getD i "") (strKind_is P w _ t) ?_));have hl1:(ddup (ss.take i)).length<=i:=Hx (Ej _) (by rw[Hu];omega);refine Xg8 (s:={s' with toks:=s'.toks+1}) hS' (by omega) λb h' sb S2=>?_;have e3:ddup (ss.take (i+1))=dd1 (ddup (ss.take i)) (ss.getD i ""):=by
   rw[Hw lt,Xb5];congr 1;simp[List.getD,lt]
  have S3:SSet P w h' S (ddup (ss.take (i+1))):=by rw[e3];exact S2
  refine Ka ⟨plainId_quiet F.plain_set_update_loop _,ih (i+1) _ (by omega) lt (W.frame _ s' _ _ st' (Jo _) λb hb o q=>?_) S3 λs'' mv2 S4=>?_⟩
  ·rw[sb.2 b (λz=>nS (z ▸ hb))];exact q
  ·refine hR s'' (Moved.trans W.gtrans ((mv.mono up).then_heap (Jo _) λb o hb q=>?_) mv2) S4;rw[sb.2 b (λz=>hb (z ▸ Hg))];exact q
inductive Src (h:Heap) (l:Addr) (items:Array Value):Prop
 | lst:h.IsList l items->Src h l items
 | tup:h.IsTuple l items->Src h l items
theorem Xg9(a:Value){Q:Value->Shared->Prop}(h:Q (.ref s.heap.objs.size) {s with heap:=s.heap.push {cls:=.type "set",dict:=none,data:=.set #[] 0 (.fresh 0 0 (!Bf w))} }):
    codeAny (model P w) A (.call (.builtin "set.__new__") ⟨[.type "set",a],[]⟩) (wants Q E) s:=by
  refine codeAny_of_tree ?_
  show wpAny _ A.in1 (do checkBuiltinCall "set.__new__" ⟨[.type "set",a],[]⟩
                         again (.builtin "set.__new__" ⟨[.type "set",a],[]⟩)) _ _ s
  refine J9 (wpAny_of_eq (PySem.F.newCall_set_1 a) (Ka ⟨plainId_quiet PySem.F.plain_set_new _,codeAny_builtin PySem.F.entry_set_new ?_⟩));rw[Around.under_plainId PySem.F.plain_set_new _];unfold Builtin.«set.__new__» Builtin.Frozenset.newClass;have q:=sub_set_self;obtain⟨hp,g,d,tk,os⟩:=s;dsimp only
  wp_walk
  refine wpAny_askSetting (Ka ?_);dsimp only;simp only[newObj];exact J9 (wpAny_alloc (Ka (Ka h)))
end
end L2
set_option maxHeartbeats 3200000
namespace L2
open PySem PySem.Spec PyProof.Rows PySem.Calls
section
variable {P:Program}{w:World}{A:Around}{E:Value->Shared->Prop}{s:Shared}
abbrev Cj (w:World):Obj:={cls:=.type "set",dict:=none,data:=.set #[] 0 (.fresh 0 0 (!Bf w))}
theorem Xha{h:Heap}{a:Addr}(g:h.get? a=some (Cj w)):SSet P w h a []:=
 ⟨_, #[],0,_,[],g,⟨rfl,rfl,rfl⟩,rfl,λe he=>by simp at he,.nil,.nil,by decide,rfl,rfl,λ_=>rfl⟩
theorem Xhb{l S:Addr}{items:Array Value}{ss:List Str}{R:Unit->Shared->Prop}(hh:A.handled=none)(src:Src s.heap l items)(hs:StrsAre items.toList ss)(hb:ss.length+1<scanBound)(hS:SSet P w s.heap S [])(hlS:l≠S)
  (hTS:∀(Q:Bool->Shared->Prop),Q false s->wpAny (model P w) A (Builtin.Frozenset.isAnySet (.ref l)) Q E s)
  (h:∀(h':Heap) (tk:Nat),SSet P w h' S (ddup ss)->(∀b o,b≠S->s.heap.get? b=some o->h'.get? b=some o)->R () {s with heap:=h',toks:=tk}):
  wpAny (model P w) A (Builtin.Frozenset.updateFrom "set.__init__" S (.ref l)) R E s:=by
 have hlen:items.size=ss.length:=by
  have:=hs.length
  rwa [G8] at this
 have hval:∀(i:Nat) (v:Value),items[i]? = some v->∃t,v = .str (ss.getD i "") t:=λi v q=>by
  have q':items.toList[i]? = some v:=by rw[Jv];exact q
  obtain⟨x,t,rfl⟩:=hs.all v (Ib q');refine⟨t,?_⟩;congr 1;rw[<-hs.strs];simp[List.getD,Hd,q,strOf]
 obtain⟨oS,_,_,_,_,gS,_⟩:=id hS;have ltS:=Ki gS;unfold Builtin.Frozenset.updateFrom;refine J9 (hTS _ ?_);simp only[Hz,if_false];cases src with
 | lst hl=>
  have hll:l<s.heap.objs.size:=by obtain⟨o,g,_⟩:=hl;exact Ki g
  refine J9 (wpAny_typeOf (T := "list") hl.typeIs ?_);have ne:(Value.type "list" == Value.type "dict")=false:=by decide
  simp only[ne,Hz,if_false];refine J9 (wpAny_pyIter_list hl ?_);refine J9 (wpAny_runValue ?_);have nI:S∉[s.heap.objs.size,l]:=by simp only[He,Im,or_false,not_or];exact⟨G7 ltS,hlS.symm⟩
  have W:=(Walks.list (prog:=P) (w:=w) (A:=A.in1) (by simp[hh]) s.heap.objs.size l (G7 hll) items).toS;rw[hlen] at W;refine Xb8 ss W S nI hval hb _ 0 _ rfl (Iu _) ⟨⟨_,Heap.get?_push_size _ rfl,rfl,rfl⟩,hl.push _⟩ (hS.stay λo q=>Kj _ q) λs' mv S'=>?_;rw[Moved.eq_with mv];refine Ka (h s'.heap s'.toks S' λb o nb q=>mv.heap b o (λz=>?_) (Kj _ q));rcases He.mp z with z | z
  ·exact nb z
  ·exact absurd (Ki q) (by rw[Hs.mp z];exact Ht _)
 | tup hl=>
  have hll:l<s.heap.objs.size:=by obtain⟨o,g,_⟩:=hl;exact Ki g
  refine J9 (wpAny_typeOf (T := "tuple") hl.typeIs ?_);have ne:(Value.type "tuple" == Value.type "dict")=false:=by decide
  simp only[ne,Hz,if_false];refine J9 (wpAny_pyIter_tuple hl ?_);refine J9 (wpAny_runValue ?_);have nI:S∉[s.heap.objs.size,l]:=by simp only[He,Im,or_false,not_or];exact⟨G7 ltS,hlS.symm⟩
  have W:=(Walks.tuple (prog:=P) (w:=w) (A:=A.in1) (by simp[hh]) s.heap.objs.size l (G7 hll) items).toS;rw[hlen] at W;refine Xb8 ss W S nI hval hb _ 0 _ rfl (Iu _) ⟨⟨_,Heap.get?_push_size _ rfl,rfl,rfl⟩,hl.push _⟩ (hS.stay λo q=>Kj _ q) λs' mv S'=>?_;rw[Moved.eq_with mv];refine Ka (h s'.heap s'.toks S' λb o nb q=>mv.heap b o (λz=>?_) (Kj _ q));rcases He.mp z with z | z
  ·exact nb z
  ·exact absurd (Ki q) (by rw[Hs.mp z];exact Ht _)
theorem Src.push{h:Heap}{l:Addr}{items:Array Value}(x:Src h l items)(o:Obj):Src (h.push o) l items:=by
 cases x with
 | lst y=>exact .lst (y.push o)
 | tup y=>exact .tup (y.push o)
theorem Src.any{l:Addr}{items:Array Value}(x:Src s.heap l items){Q:Bool->Shared->Prop}(q:Q false s):wpAny (model P w) A (Builtin.Frozenset.isAnySet (.ref l)) Q E s:=by
 cases x with
 | lst y=>
  obtain⟨o,g,c,n,d⟩:=y;obtain⟨oc,od,odt,os⟩:=o;simp only at c d;subst c d;have h1:=PySem.F.sub_list_set;have h2:=PySem.F.sub_list_frozenset;unfold Builtin.Frozenset.isAnySet
  wp_walk
  exact q
 | tup y=>
  obtain⟨o,g,c,n,d⟩:=y;obtain⟨oc,od,odt,os⟩:=o;simp only at c d;subst c d;have h1:isSubtype (.type "tuple") (.type "set")=pure false:=by rw[isSubtype_type];kernel_rfl
  have h2:isSubtype (.type "tuple") (.type "frozenset")=pure false:=by rw[isSubtype_type];kernel_rfl
  unfold Builtin.Frozenset.isAnySet
  wp_walk
  exact q
theorem Src.lt{h:Heap}{l:Addr}{items:Array Value}(x:Src h l items):l<h.objs.size:=by
 cases x with
 | lst y=>obtain⟨o,g,_⟩:=y;exact Ki g
 | tup y=>obtain⟨o,g,_⟩:=y;exact Ki g
theorem Xhc{l:Addr}{items:Array Value}{ss:List Str}{Q:Value->Shared->Prop}(hh:A.handled=none)(src:Src s.heap l items)(hs:StrsAre items.toList ss)(hb:ss.length+1<scanBound)
  (h:∀(h':Heap) (tk:Nat),SSet P w h' s.heap.objs.size (ddup ss)->(∀b o,s.heap.get? b=some o->h'.get? b=some o)->Q (.ref s.heap.objs.size) {s with heap:=h',toks:=tk}):
  wpAny (model P w) A (call (.type "set") [.ref l]) Q E s:=by
 obtain⟨c,tl,hmro⟩:=PySem.F.called_set.mro;have hmade:=PySem.F.called_set.made;have hsub:=PySem.F.called_set.sub;refine wpAny_call (codeAny_of_tree ?_);show wpAny _ _ (callAny (.type "set") _) _ _ s;refine Ka ⟨Code.quiet_builtin _ (by decide +kernel),codeAny_builtin PySem.F.entry_type_call ?_⟩;rw[Around.under_plain (weight_type_call_type "set" [.ref l] []) rfl];have f1:=PySem.F.called_set.notType;have f2:=PySem.F.called_set.canCreate;have f3:=PySem.F.typeCall_set_1 (.ref l)
 repeat (any_goals (first | assumption | wp_step))
 refine codeAny_mono (Xg9 (.ref l) (E:=E) (Q:=λobj s1=>obj = .ref s.heap.objs.size/\s1 = {s with heap:=s.heap.push (Cj w)}) ⟨rfl,rfl⟩) λr s1 hr=>?_;cases r with
 | error e=>exact hr
 | ok fl=>
  cases fl with
  | ret obj=>
   obtain⟨rfl,rfl⟩:=hr;have gS:(s.heap.push (Cj w)).get? s.heap.objs.size=some (Cj w):=Heap.get?_push_size _ rfl;have hT:Shared.TypeIs {s with heap:=s.heap.push (Cj w)} (.ref s.heap.objs.size) "set" := ⟨_,gS,rfl⟩;have f4:=PySem.F.called_set.init.lookup;have f5:=PySem.F.called_set.init.bind (.ref s.heap.objs.size)
   repeat (any_goals (first | assumption | wp_step))
   refine codeAny_mono (codeAny_call_builtin (R:=wants (λr s2=>r = .none/\∃h' tk,s2 = {s with heap:=h',toks:=tk}/\SSet P w h' s.heap.objs.size (ddup ss)/\∀b o,s.heap.get? b=some o->h'.get? b=some o) E)
    PySem.F.called_set.init.plain PySem.F.entry_set_init (check_set_init_1 hT ?_)) λr2 s2 hr2=>?_
   ·have src':=src.push (Cj w);have lt:=src.lt;unfold Builtin.«set.__init__» noKeywords;generalize hU:Builtin.Frozenset.updateFrom=U
    wp_walk
    subst hU;refine Xhb (s:={s with heap:=s.heap.push (Cj w)}) (by simp[hh]) src' hs hb (Xha gS) (G7 lt) (λQ q=>Src.any (s:={s with heap:=s.heap.push (Cj w)}) src' q) λh' tk S' kk=>?_;exact Ka ⟨rfl,h',tk,rfl,S',λb o q=>kk b o (G7 (Ki q)) (Kj _ q)⟩
   ·cases r2 with
    | error e=>exact hr2
    | ok fl2=>
     cases fl2 with
     | ret r=>
      obtain⟨rfl,h',tk,rfl,S',kk⟩:=hr2
      repeat (any_goals (first | assumption | wp_step))
      exact h _ _ S' kk
     | _=>exact hr2.elim
  | _=>exact hr.elim
end
namespace SF
theorem sIter:Slot "set" "__iter__" "set.__iter__" := PySem.F.slot_set_iter
theorem eIter:entryFor table "set.__iter__" = some Builtin.«frozenset.__iter__»:=entryFor_alias (id' := "frozenset.__iter__") (by kernel_rfl) rfl (by decide +kernel) (by kernel_rfl)
theorem sNext:Slot "set_iterator" "__next__" "set_iterator.__next__" := .of (owner := "set_iterator") (n := "__next__") (by rw[typeLookup_type,builtinLookup_eq_fast];kernel_rfl) (by decide +kernel) (by decide +kernel) (by decide +kernel) (by first | exact .inl (by decide +kernel) | exact .inr (by decide +kernel)) (by rw[isSubtype_type];kernel_rfl)
theorem eNext:entryFor table "set_iterator.__next__" = some Builtin.«set_iterator.__next__»:=entryFor_of_tree (by kernel_rfl)
theorem aNext(a:Value):argsOk "set_iterator.__next__" ⟨[a],[]⟩:=by unfold argsOk;kernel_rfl
end SF
theorem Fy{α : Type}:∀(xs:List α) (i:Nat) (hi:i<xs.length),(xs[i]::xs.eraseIdx i).Perm xs
 | x::xs,0,_=>Ji _
 | x::xs,i+1,hi=>by
  have ih:=Fy xs i (by simpa using hi);rw[List.eraseIdx_cons_succ,List.getElem_cons_succ];exact(List.Perm.swap x _ _).trans (ih.cons x)
theorem Xhd{α : Type}(next:Nat->Nat):∀(n k:Nat) (left:List α) (out:Array α),left.length=n->(pickOrder.go next n k left out).toList.Perm (out.toList++left):=by
 intro n
 induction n with
 | zero=>
  intro k left out e;rw[Hy.mp e,Jd];exact Ji _
 | succ n ih=>
  intro k left out e;have hlt:next k % left.length<left.length:=Nat.mod_lt _ (by omega);unfold pickOrder.go;rw[G4 hlt];dsimp only;refine(ih _ _ _ (by rw[List.length_eraseIdx_of_lt hlt,e];rfl)).trans ?_;rw[Array.toList_push,J8];exact(Fy left _ hlt).append_left _
theorem Xhe{α : Type}(next:Nat->Nat)(xs:Array α):(pickOrder next xs).toList.Perm xs.toList:=by
 have:=Xhd next xs.size 0 xs.toList #[] (by simp);simpa [pickOrder] using this
section
variable {P:Program}{w:World}{A:Around}{E:Value->Shared->Prop}{s:Shared}
theorem Xhf{src:Source}{n:Nat}{Q:Nat->Shared->Prop}(hn:n≠0)(h:∀i d,i<n->Q i {s with drawn:=d}):wpAny (model P w) A (choose src n) Q E s:=by
 intro Γ p hΓ;exact⟨hn,h _ _ (Nat.mod_lt _ (Nat.pos_of_ne_zero hn))⟩
theorem Xhg{α : Type}:∀(n:Nat) (xs:List α) (s:Shared) (Q:List α->Shared->Prop),xs.length=n->(∀os d,os.Perm xs->Q os {s with drawn:=d})->wpAny (model P w) A (drawOrder n xs) Q E s:=by
 intro n
 induction n with
 | zero=>
  intro xs s Q e h;rw[Hy.mp e] at h ⊢;unfold drawOrder;exact Ka (h [] s.drawn (Ji _))
 | succ n ih=>
  intro xs s Q e h;cases xs with
  | nil=>cases e
  | cons y ys=>
   unfold drawOrder;refine J9 (Xhf (by simp) λi d hi=>?_);rw[G4 hi];dsimp only;refine J9 (ih _ _ _ (by rw[List.length_eraseIdx_of_lt hi,e];rfl) λos d' hp=>?_);exact Ka (h _ d' ((hp.cons _).trans (Fy _ i hi)))
def SAt (h:Heap) (a:Addr) (es:Array (Int×Value)) (ep:Nat) (t:SetTable):Prop:=∃o,h.get? a=some o/\o.ExactSet/\o.data = .set es ep t/\t.fits es.size=true
theorem Xhh{a:Addr}{es:Array (Int×Value)}{ep:Nat}{t:SetTable}{Q:Bool->Shared->Prop}(hs:SAt s.heap a es ep t)(h:Q (!Bf w&&(!t.plain&&decide (es.size > 1))) s):wpAny (model P w) A (setDrawn a) Q E s:=by
 obtain⟨o,ho,hex,hd,hf⟩:=hs;unfold setDrawn setsByText;refine J9 (wpAny_setState_of ho hd hf ?_);dsimp only;refine J9 (J9 (wpAny_askSetting (Ka ?_)));exact Ka h
abbrev itO (f0:Value) (i:Nat) (a:Addr) (n ep:Nat):Obj:={cls:=.type "set_iterator",data:=.fields #[f0,.int i 0,.ref a,.int n 0,.int ep 0]}
inductive Ord (w:World) (h:Heap) (a:Addr) (es:Array (Int×Value)) (ep:Nat) (t:SetTable) (f0:Value) (i:Nat):List Value->Prop
 | txt:Bf w=true->f0 = .int 0 0->Ord w h a es ep t f0 i ((pickOrder (w.params.setOrder a ep) es).toList.map (·.2))
 | drw (p:Addr) (os:List Nat):Bf w=false->os.Perm (List.range es.size)->f0 = .ref p->(∃n,h.get? p=some ⟨.type "tuple",none,.seq (os.map λj=>Value.int (j:Nat) 0).toArray n, #[]⟩)->Ord w h a es ep t f0 i (os.map λj=>((es[j]?).map (·.2)).getD .none)
 | one (sl:Nat):Bf w=false->t.led=true->es.size<=1->f0 = .int sl 0->(i=0->sl=0)->(∀j,i=1->t.place[0]? = some j->sl=j+1)->Ord w h a es ep t f0 i (es.toList.map (·.2))
theorem Xhi{a:Addr}{es:Array (Int×Value)}{ep:Nat}{t:SetTable}{Q:Value->Shared->Prop}(hs:SAt s.heap a es ep t)(hb:es.size<scanBound)(hl:t.led = !Bf w)(hp:t.plain=true->es.size=0)
    (h:∀(f0:Value) (vs:List Value) (h1:Heap) (d:Drawn),(∀b o,s.heap.get? b=some o->h1.get? b=some o)->h1.objs.size<=s.heap.objs.size+1->s.heap.objs.size<=h1.objs.size->(∀p,f0 = .ref p->p<h1.objs.size)->Ord w (h1.push (itO f0 0 a es.size ep)) a es ep t f0 0 vs ->
      vs.Perm (es.toList.map (·.2))->Q (.ref h1.objs.size) {s with heap:=h1.push (itO f0 0 a es.size ep),drawn:=d}):
    wpAny (model P w) A (pyIter (.ref a)) Q E s:=by
  obtain⟨o,ho,hex,hd,hf⟩:=id hs;have hT:s.TypeIs (.ref a) "set" := ⟨o,ho,hex.1⟩;refine wpAny_pyIter_slot hT SF.sIter (wpAny_call_entry SF.sIter hT SF.eIter ?_ (PySem.F.args_set_iter_1 _));unfold Builtin.«frozenset.__iter__» Builtin.Frozenset.slot0 slotArgs;simp only[List.isEmpty_nil,Bool.not_true,Hz, ↓reduceIte,bind_assoc,List.length_nil,bne_self_eq_false];unfold Builtin.Frozenset.addrOf Builtin.Frozenset.sizeOf;refine J9 (Ka ?_);dsimp only;refine J9 (Ka ?_);refine J9 (J9 (wpAny_setEntries_of ho hd hf (Ka ?_)));refine J9 (Xhh hs ?_);have fin:∀(f0:Value) (vs:List Value) (h1:Heap) (d:Drawn),(∀b o,s.heap.get? b=some o->h1.get? b=some o)->h1.objs.size<=s.heap.objs.size+1->s.heap.objs.size<=h1.objs.size->(∀p,f0 = .ref p->p<h1.objs.size)->Ord w (h1.push (itO f0 0 a es.size ep)) a es ep t f0 0 vs->vs.Perm (es.toList.map (·.2)) ->
      wpAny (model P w) A.in1 (do let r <-newFields "set_iterator" [f0,rawInt 0,.ref a,rawInt es.size,rawInt ep]
                                  ret r) (λfin s'=>∃r,fin = .done (.ret r)/\∃T v,s'.TypeIs r T/\typeLookup (.type T) (Str.ofString "__next__")=pure (some v)/\Q r s') E {s with heap:=h1,drawn:=d}:=λf0 vs h1 d k1 k2 k3 k4 k5 k6=>
    J9 (wpAny_newObj_type (Ka ⟨_,rfl, "set_iterator",_,⟨_,Heap.get?_push_size _ rfl,rfl⟩,SF.sNext.lookup,h f0 vs h1 d k1 k2 k3 k4 k5 k6⟩))
  by_cases hc:(!Bf w&&(!t.plain&&decide (es.size > 1)))=true
  . rw[Kd hc];simp only[Ie,Bool.not_eq_true',decide_eq_true_eq] at hc;obtain⟨c1,c2,c3⟩:=hc;refine J9 (Xhg _ _ _ _ Ir λos d po=>?_);have hol:os.length=es.size:=by rw[po.length_eq,Ir]
    refine J9 (wpAny_newTuple ?_ (by rw[G3,hol];exact fits_of_scanBound hb));refine J9 (wpAny_setEpoch_of (Kj _ ho) hd hf ?_);refine fin _ _ _ d (λb o q=>Kj _ q) (by rw[size_push'];exact G5 _) (by rw[size_push'];exact Jo _) (λp e=>by cases e;rw[size_push'];exact Nat.lt_succ_self _) (.drw s.heap.objs.size os c1 po rfl ⟨0,Kj _ (Heap.get?_push_size _ rfl)⟩) ?_;have e:(os.map λj=>((es[j]?).map (·.2)).getD Value.none).Perm ((List.range es.size).map λj=>((es[j]?).map (·.2)).getD Value.none):=po.map _;refine e.trans ?_;have e2:((List.range es.size).map λj=>((es[j]?).map (·.2)).getD Value.none)=es.toList.map (·.2):=by
      apply List.ext_getElem?;intro i;have q:es.toList[i]? = es[i]?:=Jv;rw[Hd,Hd,q];by_cases hi:i<es.size
      . rw[List.getElem?_range hi,Je,getElem?_pos es i hi];rfl
      . rw[Jf (by simpa using hi),getElem?_neg es i hi];rfl
    rw[e2]
  . rw[Kc hc];refine J9 (Ka ?_);refine J9 (wpAny_setEpoch_of ho hd hf ?_);cases hw:Bf w with
    | true=>exact fin _ _ _ s.drawn (λb o q=>q) (Jo _) (G5 _) (λp e=>by cases e) (.txt hw rfl) ((Xhe _ es).map _)
    | false=>
      have h1:es.size<=1:=by
        cases hpl:t.plain with
        | true=>rw[hp hpl];exact Iu _
        | false=>
          simp only[hw,hpl,Bool.not_false,Bool.true_and,decide_eq_true_eq] at hc;omega
      exact fin _ _ _ s.drawn (λb o q=>q) (Jo _) (G5 _) (λp e=>by cases e) (.one 0 hw (by rw[hl,hw];rfl) h1 rfl (λ_=>rfl) (λj e=>by cases e)) (Ji _)
end
end L2
namespace L2
open PySem PySem.Spec PyProof.Rows PySem.Calls
section
variable {P:Program}{w:World}{A:Around}{E:Value->Shared->Prop}{s:Shared}{I a:Addr}{es:Array (Int×Value)}{ep:Nat}{t:SetTable}
def ItS (w:World) (I a:Addr) (es:Array (Int×Value)) (ep:Nat) (t:SetTable) (vs:List Value) (fp:Option Addr) (i:Nat) (h:Heap):Prop:=
 ∃f0,h.get? I=some (itO f0 i a es.size ep)/\Ord w h a es ep t f0 i vs/\SAt h a es ep t/\(∀p,f0 = .ref p->fp=some p)
theorem Xb9{i:Nat}{f0:Value}{Q:Fin->Shared->Prop}(hI:s.heap.get? I=some (itO f0 i a es.size ep))(hS:SAt s.heap a es ep t)
  (h1:∀sl,f0 = .int sl 0->wpAny (model P w) A (do
   match <-setNext a sl.toNat i ep with
   | some (x,next)=>setField (.ref I) 0 (rawInt next);setField (.ref I) 1 (rawInt ((i:Int)+1));ret x
   | none=>setField (.ref I) 2 .none;raiseNew (<-newExc (.type "StopIteration") [])) Q E s)
  (h2:∀p,f0 = .ref p->wpAny (model P w) A (do
   let some places <-seqItems? (.ref p) | unsupported "internal:set_iterator"
   match places[i]? with
   | some (.int place _)=>let x <-setNextDrawn a place.toNat ep;setField (.ref I) 1 (rawInt ((i:Int)+1));ret x
   | some _=>unsupported "internal:set_iterator"
   | none=>setField (.ref I) 0 (rawInt 0);setField (.ref I) 2 .none;raiseNew (<-newExc (.type "StopIteration") [])) Q E s)
  (hf:(∃sl,f0 = .int sl 0) \/ ∃p,f0 = .ref p):wpAny (model P w) A (Builtin.«set_iterator.__next__» ⟨[.ref I],[]⟩) Q E s:=by
 obtain⟨o,ho,hex,hd,hft⟩:=id hS;unfold Builtin.«set_iterator.__next__» slotArgs;simp only[List.isEmpty_nil,Bool.not_true,Hz, ↓reduceIte,bind_assoc,List.length_nil,bne_self_eq_false];refine J9 (Ka ?_);dsimp only;refine J9 (wpAny_fieldsOf hI rfl ?_);dsimp only;refine J9 (wpAny_setEntries_of ho hd hft ?_);rw[Kc (by simp)];rcases hf with ⟨sl,rfl⟩ | ⟨p,rfl⟩
 ·exact h1 sl rfl
 ·exact h2 p rfl
theorem Ek{h:Heap}{f0 x:Value}{i j n:Nat}(hI:h.get? I=some (itO f0 i a n ep))(k:Nat)(v:Value):
  (h.update I (Obj.mapFields (·.setIfInBounds k v))).get? I=some {cls:=.type "set_iterator",data:=.fields ((#[f0,.int i 0,.ref a,.int n 0,.int ep 0]:Array Value).setIfInBounds k v)}:=
 Heap.get?_update_self _ hI rfl
theorem SAt.at{h h':Heap}(x:SAt h a es ep t)(k:∀o,h.get? a=some o->h'.get? a=some o):SAt h' a es ep t:=by
 obtain⟨o,ho,r⟩:=x;exact⟨o,k o ho,r⟩
theorem Xca{sl i:Nat}{Q:Option (Value×Nat)->Shared->Prop}(hw:Bf w=true)(hS:SAt s.heap a es ep t)(h:Q (((pickOrder (w.params.setOrder a ep) es)[i]?).map λe=>(e.2,sl)) s):wpAny (model P w) A (setNext a sl i ep) Q E s:=by
 obtain⟨o,ho,hex,hd,hf⟩:=id hS;unfold setNext setsByText;refine J9 (wpAny_setState_of ho hd hf ?_);dsimp only;refine J9 (J9 (wpAny_askSetting (Ka ?_)));rw[Kd (show (model P w).w.params.followText "set-order" = true from hw),Kc (by simp)];unfold setWalk setsByText;refine J9 (J9 (wpAny_setState_of ho hd hf ?_));dsimp only;refine J9 (J9 (wpAny_askSetting (Ka ?_)));rw[Kd (show (model P w).w.params.followText "set-order" = true from hw)];exact J9 (wpAny_askSetting (Ka (Ka h)))
theorem Xcb{sl i:Nat}{Q:Option (Value×Nat)->Shared->Prop}(hw:Bf w=false)(hl:t.led=true)(h1:es.size<=1)(hS:SAt s.heap a es ep t)
  (h:Q (match es[SetTable.below t.place sl]?,t.place[SetTable.below t.place sl]? with | some (_,x),some j=>some (x,j+1) | _,_=>none) s):wpAny (model P w) A (setNext a sl i ep) Q E s:=by
 obtain⟨o,ho,hex,hd,hf⟩:=id hS;unfold setNext setsByText;refine J9 (wpAny_setState_of ho hd hf ?_);dsimp only;refine J9 (J9 (wpAny_askSetting (Ka ?_)));rw[Kc (show ¬(model P w).w.params.followText "set-order" = true from by show ¬Bf w=true;rw[hw];decide)];have d1:(!t.plain&&decide (es.size > 1))=false:=by rw[Kf (by omega),Bool.and_false]
 refine wpAny_ite_split (λz=>?_) (λ_=>?_)
 ·have z':(!t.plain&&decide (es.size > 1))=true:=z;rw[d1] at z';cases z'
 refine J9 ?_;have m1:(!t.led && !es.isEmpty)=false:=by rw[hl];rfl
 refine wpAny_ite_split (λz=>?_) (λ_=>Ka (Ka h));have z':(!t.led && !es.isEmpty)=true:=z;rw[m1] at z';cases z'
theorem Xhj{t:SetTable}(h:t.place.size<=1):SetTable.below t.place 0=0:=by
 generalize t.place=pl at *;obtain⟨l⟩:=pl
 match l,h with
 | [],_=>rfl
 | [x],_=>simp[SetTable.below,SetTable.below.go]
theorem Xhk{t:SetTable}{j:Nat}(h:t.place.size<=1)(hj:t.place[0]? = some j):SetTable.below t.place (j+1)=1:=by
 generalize t.place=pl at *;obtain⟨l⟩:=pl
 match l,h,hj with
 | [x],_,hj=>
  have:x=j:=by simpa using hj
  subst this;simp[SetTable.below,SetTable.below.go]
theorem Xcc{n:Nat}(h:t.fits n=true):t.place.size=n:=by
 unfold SetTable.fits at h;simp only[Ie,beq_iff_eq] at h;exact h.1
end
section
variable {P:Program}{w:World}{A:Around}{E:Value->Shared->Prop}{s:Shared}{I a:Addr}{es:Array (Int×Value)}{ep:Nat}{t:SetTable}{vs:List Value}{fp:Option Addr}
theorem Ord.cases0{h:Heap}{f0:Value}{i:Nat}(x:Ord w h a es ep t f0 i vs):(∃sl:Int,f0 = .int sl 0) \/ ∃p,f0 = .ref p:=by
 cases x with
 | txt _ e=>exact .inl ⟨0,e⟩
 | drw p os _ _ e _=>exact .inr ⟨p,e⟩
 | one sl _ _ _ e _ _=>exact .inl ⟨sl,e⟩
theorem Xhl{i:Nat}{Q:Option Value->Shared->Prop}(st:ItS w I a es ep t vs fp i s.heap)(hi:i<vs.length)(hl:vs.length=es.size)(nIa:a≠I)(nIp:∀p,fp=some p->p≠I)
  (hQ:∀h',ItS w I a es ep t vs fp (i+1) h'->Heap.SameBut I s.heap h'->Q (some vs[i]) {s with heap:=h'}):wpAny (model P w) A (pyNext (.ref I)) Q E s:=by
 obtain⟨f0,hI,hO,hS,hp⟩:=st;have hT:s.TypeIs (.ref I) "set_iterator" := ⟨_,hI,rfl⟩;unfold pyNext;refine J9 (wpAny_attempt (wpAny_callSpecial?_slot (name:=Str.ofString "__next__") hT SF.sNext (wpAny_call_entry SF.sNext hT SF.eNext ?_ (SF.aNext _))));have e1:((i:Int)+1)=((i+1:Nat):Int):=by omega
 have fin:∀(E':Value->Shared->Prop) (nx:Nat),Ord w ((s.heap.update I (Obj.mapFields (·.setIfInBounds 0 (rawInt nx)))).update I (Obj.mapFields (·.setIfInBounds 1 (rawInt ((i:Int)+1))))) a es ep t (.int nx 0) (i+1) vs ->
   wpAny (model P w) A.in1 (do
    setField (.ref I) 0 (rawInt nx)
    setField (.ref I) 1 (rawInt ((i:Int)+1))
    ret vs[i]) (λfin s'=>∃r,fin = .done (.ret r)/\wpAny (model P w) A (pure (some r)) Q E s') E' s:=λE' nx O=>by
  refine J9 (wpAny_setField hI rfl (by simp) ?_);refine J9 (wpAny_setField (Ek (x:=.none) (j:=0) hI 0 (rawInt nx)) rfl (by simp) ?_);have g:=Heap.get?_update_self (Obj.mapFields (·.setIfInBounds 1 (rawInt ((i:Int)+1)))) (Ek (x:=.none) (j:=0) hI 0 (rawInt nx)) rfl;refine Ka ⟨_,rfl,Ka (hQ _ ⟨_,g.trans ?_,O,hS.at λo q=>?_,λp z=>by cases z⟩ ((Kk ..).trans (Kk ..)))⟩
  ·rw[e1];rfl
  ·rw[((Kk s.heap I _).trans (Kk _ I _)).2 a nIa];exact q
 refine Xb9 hI hS (λsl e=>?_) (λp e=>?_) hO.cases0
 ·subst e;cases hO with
  | txt hw e=>
   cases e;have hi2:i<(pickOrder (w.params.setOrder a ep) es).size:=by simpa using hi
   refine J9 (Xca hw hS ?_);rw[getElem?_pos _ i hi2];have ev:((pickOrder (w.params.setOrder a ep) es).toList.map (·.2))[i]=((pickOrder (w.params.setOrder a ep) es)[i]).2:=by simp
   have f:=λE'=>fin E' 0 (.txt hw rfl);rw[ev] at f;exact f _
  | drw p os _ _ e _=>cases e
  | one sl' hw hld h1 e hz ho=>
   cases e;obtain⟨_,_,_,_,hft⟩:=id hS;have hps:=Xcc hft;have i0:i=0:=by
    have:i<es.size:=by rw[<-hl];exact hi
    omega
   subst i0;have z0:=hz rfl;subst z0;have he:0<es.size:=by rw[<-hl];exact hi
   have hpl:0<t.place.size:=by rw[hps];exact he
   refine J9 (Xcb hw hld h1 hS ?_);have b0:SetTable.below t.place ((0:Nat):Int).toNat=0:=Xhj (by rw[hps];exact h1);rw[b0,getElem?_pos es 0 he,getElem?_pos t.place 0 hpl];have ev:(es.toList.map (·.2))[0]=(es[0]).2:=by simp
   have f:=λE'=>fin E' (t.place[0]+1) (.one (t.place[0]+1) hw hld h1 rfl (λz=>by cases z) (λj _ q=>by rw[getElem?_pos t.place 0 hpl] at q;cases q;rfl));rw[ev] at f;exact f _
 ·subst e;cases hO with
  | txt hw e=>cases e
  | one sl' hw hld h1 e hz ho=>cases e
  | drw p' os hw hp2 e htp=>
   cases e;obtain⟨n,htp⟩:=htp;have hil:i<os.length:=by simpa using hi
   have hos:os[i]<es.size:=Io.mp (hp2.mem_iff.mp (Hl hil));refine J9 (wpAny_seqItems htp rfl ?_);have g:((os.map λj=>Value.int (j:Nat) 0).toArray)[i]? = some (.int ((os[i]:Nat):Int) 0):=by simp[hil]
   dsimp only;rw[g];dsimp only;obtain⟨o,ho,hex,hd,hft⟩:=id hS;unfold setNextDrawn;refine J9 (J9 (wpAny_setState_of ho hd hft ?_));dsimp only;rw[Kc (by simp),show ((os[i]:Nat):Int).toNat=os[i] from Ip _,getElem?_pos es _ hos];refine Ka ?_;refine J9 (wpAny_setField hI rfl (by simp) ?_);have ev:(os.map λj=>((es[j]?).map (·.2)).getD Value.none)[i]=(es[os[i]]).2:=by simp[hos]
   have g2:=Ek (x:=.none) (j:=0) hI 1 (rawInt ((i:Int)+1));have nI2:p≠I:=nIp p (hp p rfl);have q:=hQ (s.heap.update I (Obj.mapFields (·.setIfInBounds 1 (rawInt ((i:Int)+1))))) ⟨_,g2.trans (by rw[e1];rfl),.drw p os hw hp2 rfl ⟨n,?_⟩,hS.at λo q=>?_,λp' z=>hp p' z⟩ (Kk ..)
   ·rw[ev] at q;exact Ka ⟨_,rfl,Ka q⟩
   ·rw[(Kk s.heap I _).2 p nI2];exact htp
   ·rw[(Kk s.heap I _).2 a nIa];exact q
end
section
variable {P:Program}{w:World}{A:Around}{E:Value->Shared->Prop}{s:Shared}{I a:Addr}{es:Array (Int×Value)}{ep:Nat}{t:SetTable}{vs:List Value}{fp:Option Addr}
theorem Xcd{α : Type}{h0:Heap}{Q : α->Shared->Prop}{E':Value->Shared->Prop}(hh:A.handled=none)
  (k:∀e h',(∀b o,s.heap.get? b=some o->h'.get? b=some o)->Shared.TypeIs {s with heap:=h'} e "StopIteration" -> E' e {s with heap:=h'}):
  wpAny (model P w) A (do raiseNew (<-newExc (.type "StopIteration") []):Sem α) Q E' s:=by
 refine J9 ?_;simp only[newExc,newTuple];refine J9 (wpAny_newObj_type ?_ (by size_fits));refine J9 (m:=firstArgMember _ _) (wpAny_of_eq (a:=Value.none) (by first | rfl | (simp only[firstArgMember];rfl)) ?_);refine wpAny_newObj_type ?_ (by size_fits);simp only[raiseNew];refine J9 (wpAny_handled ?_);rw[hh];refine J9 (Ka (wpAny_throw ?_));exact k _ _ (λb o q=>Kj _ (Kj _ q)) ⟨_,Heap.get?_push_size _ rfl,rfl⟩
theorem Xhm{Q:Option Value->Shared->Prop}(hh:A.handled=none)(st:ItS w I a es ep t vs fp vs.length s.heap)(hl:vs.length=es.size)
    (hQ:∀h',(∀b o,b≠I->s.heap.get? b=some o->h'.get? b=some o)->Q none {s with heap:=h'}):wpAny (model P w) A (pyNext (.ref I)) Q E s:=by
  obtain⟨f0,hI,hO,hS,hp⟩:=st;have hT:s.TypeIs (.ref I) "set_iterator" := ⟨_,hI,rfl⟩;unfold pyNext;refine J9 (wpAny_attempt (wpAny_callSpecial?_slot (name:=Str.ofString "__next__") hT SF.sNext (wpAny_call_entry SF.sNext hT SF.eNext ?_ (SF.aNext _))));have hh1:A.in1.handled=none:=hh;have stp:∀(e:Value) (h':Heap),(∀b o,b≠I->s.heap.get? b=some o->h'.get? b=some o)->Shared.TypeIs {s with heap:=h'} e "StopIteration" ->
      wpAny (model P w) A (do if <-isInstance e (.type "StopIteration") then pure none else throw e) Q E {s with heap:=h'}:=λe h' k ty=>
    J9 (wpAny_isInstance (T := "StopIteration") (b:=true) ty isSubtype_stop (Ka (hQ h' k)))
  have keep1:∀(f:Obj->Obj) b o,b≠I->s.heap.get? b=some o->(s.heap.update I f).get? b=some o:=λf b o nb q=>by
    rw[(Kk s.heap I f).2 b nb];exact q
  have fin:∀(Q':PySem.Fin->Shared->Prop),wpAny (model P w) A.in1 (do
        setField (.ref I) 2 .none
        raiseNew (<-newExc (.type "StopIteration") [])) Q' (λe s'=>wpAny (model P w) A (do if <-isInstance e (.type "StopIteration") then pure none else throw e) Q E s') s:=λQ'=>by
    refine J9 (wpAny_setField hI rfl (by simp) ?_);refine Xcd (h0:=s.heap) (s:={s with heap:=s.heap.update I (Obj.mapFields (·.setIfInBounds 2 Value.none))}) hh1 λe h' k ty=>?_;exact stp e h' (λb o nb q=>k b o (keep1 _ b o nb q)) ty
  refine Xb9 hI hS (λsl e=>?_) (λp e=>?_) hO.cases0
  . subst e;cases hO with
    | txt hw e=>
      cases e;refine J9 (Xca hw hS ?_);rw[getElem?_neg _ _ (by simp)];exact fin _
    | drw p os _ _ e _=>cases e
    | one sl' hw hld h1 e hz ho=>
      cases e;obtain⟨_,_,_,_,hft⟩:=id hS;have hps:=Xcc hft;refine J9 (Xcb hw hld h1 hS ?_);have hn:es[SetTable.below t.place ((sl':Nat):Int).toNat]? = none:=by
        rw[Ip];by_cases h0:es.size=0
        . exact getElem?_neg _ _ (by omega)
        . have e1:es.size=1:=by omega
          have hpl:0<t.place.size:=by rw[hps,e1];decide
          have:=ho t.place[0] (by rw[hl,e1]) (getElem?_pos t.place 0 hpl);rw[this,Xhk (by rw[hps];exact h1) (getElem?_pos t.place 0 hpl)];exact getElem?_neg _ _ (by omega)
      rw[hn];exact fin _
  . subst e;cases hO with
    | txt hw e=>cases e
    | one sl' hw hld h1 e hz ho=>cases e
    | drw p' os hw hp2 e htp=>
      cases e;obtain⟨n,htp⟩:=htp;refine J9 (wpAny_seqItems htp rfl ?_);dsimp only;rw[getElem?_neg _ _ (by simp)];dsimp only;refine J9 (wpAny_setField hI rfl (by simp) ?_);refine J9 (wpAny_setField (Ek (x:=.none) (j:=0) hI 0 (rawInt 0)) rfl (by simp) ?_);refine Xcd (h0:=s.heap) (s:={s with heap:=(s.heap.update I (Obj.mapFields (·.setIfInBounds 0 (rawInt 0)))).update I (Obj.mapFields (·.setIfInBounds 2 Value.none))}) hh1 λe h' k ty=>?_;refine stp e h' (λb o nb q=>k b o ?_) ty;show ((s.heap.update I _).update I _).get? b=some o;rw[(Kk _ I _).2 b nb];exact keep1 _ b o nb q
end
namespace SF
theorem sSelf:Slot "set_iterator" "__iter__" "set_iterator.__iter__" := .of (owner := "set_iterator") (n := "__iter__") (by rw[typeLookup_type,builtinLookup_eq_fast];kernel_rfl) (by decide +kernel) (by decide +kernel) (by decide +kernel) (by first | exact .inl (by decide +kernel) | exact .inr (by decide +kernel)) (by rw[isSubtype_type];kernel_rfl)
theorem eSelf:entryFor table "set_iterator.__iter__" = some Builtin.«dict_keyiterator.__iter__»:=entryFor_alias (id' := "dict_keyiterator.__iter__") (by kernel_rfl) rfl (by decide +kernel) (by kernel_rfl)
theorem aSelf(a:Value):argsOk "set_iterator.__iter__" ⟨[a],[]⟩:=by unfold argsOk;kernel_rfl
end SF
section
variable {P:Program}{w:World}{A:Around}{E:Value->Shared->Prop}{s:Shared}{I a:Addr}{es:Array (Int×Value)}{ep:Nat}{t:SetTable}{vs:List Value}{fp:Option Addr}{ks:List Str}
theorem ItS.at{i:Nat}{h h':Heap}(x:ItS w I a es ep t vs fp i h)(k:∀b∈I::a::fp.toList,∀o,h.get? b=some o->h'.get? b=some o):ItS w I a es ep t vs fp i h':=by
 obtain⟨f0,h1,h2,h3,h4⟩:=x;refine⟨f0,k I (by simp) _ h1,?_,h3.at λo q=>k a (by simp) o q,h4⟩;cases h2 with
 | txt e1 e2=>exact .txt e1 e2
 | drw p os e1 e2 e3 e4=>
  obtain⟨n,e4⟩:=e4;exact .drw p os e1 e2 e3 ⟨n,k p (by rw[h4 p e3];simp) _ e4⟩
 | one sl e1 e2 e3 e4 e5 e6=>exact .one sl e1 e2 e3 e4 e5 e6
theorem Xhn(hh:A.handled=none)(hl:vs.length=es.size)(nIa:a≠I)(nIp:∀p,fp=some p->p≠I):Walks P w A I (I::a::fp.toList) [I] vs.length (λi v=>vs[i]? = some v) (ItS w I a es ep t vs fp) where
 sub:=λb hb=>by simp at hb;simp[hb]
 frame:=λ_ _ _ st hk=>st.at hk
 item:=λi s Q E hi st hQ=>by
  refine Xhl st hi hl nIa nIp λh' st' sb=>?_;exact hQ vs[i] h' s.toks (by simp[hi]) st' λb o hb e=>by rw[sb.2 b (λz=>hb (by simp[z]))];exact e
 done:=λs Q E st hQ=>Xhm hh st hl λh' k=>hQ h' s.toks λb o hb e=>k b o (λz=>hb (by simp[z])) e
 self:=λi s Q E st hQ=>by
  obtain⟨f0,h1,_⟩:=st;have hT:s.TypeIs (.ref I) "set_iterator" := ⟨_,h1,rfl⟩;refine wpAny_pyIter_slot hT SF.sSelf (wpAny_call_entry SF.sSelf hT SF.eSelf ?_ (SF.aSelf _));show wpAny _ _ (ret (.ref I)) _ _ s;exact Ka ⟨_,rfl, "set_iterator",_,hT,SF.sNext.lookup,hQ⟩
theorem Xho{r:Addr}{Q:Bool->Shared->Prop}(hT:s.TypeIs (.ref r) "set")(h:Q false s):wpAny (model P w) A (Builtin.List.listLengthHint (.ref r)) Q E s:=by
 unfold Builtin.List.listLengthHint;refine J9 (wpAny_specialOf hT PySem.F.slot_set_len.lookup ?_);generalize hid:("set.__len__" : String)=id0
 wp_delta
 rw[show splitId id0=some ("set", "__len__") from by subst hid;decide +kernel];subst hid;refine J9 (wpAny_isInstance (T := "set") (b:=true) hT (by rw[isSubtype_type];kernel_rfl) ?_);refine wpAny_ite_split (λz=>absurd z (by decide)) (λ_=>?_);refine wpAny_ite_split (λ_=>?_) (λz=>absurd (by decide +kernel) z);exact J9 (wpAny_typeOf hT (Ka h))
end
end L2
namespace L2
open PySem PySem.Spec PyProof.Rows PySem.Calls
section
variable {P:Program}{w:World}{A:Around}{E:Value->Shared->Prop}{s:Shared}{a:Addr}{ks:List Str}
theorem Xhp{R:Result->Shared->Prop}{S:Addr}{res:Value}{c0:Nat}(hh:A.handled=none)(hs:SSet P w s.heap a ks)(nS:S≠a)(gS:s.heap.get? S=some {cls:=.type "list",data:=.seq #[] c0})
  (hR:∀s' acc c vs ls,(∀b o,b≠S->s.heap.get? b=some o->s'.heap.get? b=some o)->s'.os=s.os->s'.gens=s.gens->s'.heap.get? S=some {cls:=.type "list",dict:=none,data:=.seq acc c,slots := #[]}->acc.toList=vs->StrsAre vs ls->ls.Perm ks->R (.ok (.ret res)) s'):
  wpAny (model P w) A.in1 (Builtin.List.listExtendWith (.ref S) (.ref a) res)
   (λfin s'=>match fin with | .done f=>R (.ok f) s' | .again c'=>c'.quiet=true/\codeAny (model P w) A c' R s') (λe s'=>R (.error e) s') s:=by
 obtain⟨o,es,ep,t,ls0,ho,hex,hd,hel,hst,hpm,hb,hf,hl,hpl⟩:=id hs;have hT:s.TypeIs (.ref a) "set" := ⟨o,ho,hex.1⟩;have la:=Ki ho;have lS:=Ki gS;unfold Builtin.List.listExtendWith;refine J9 (wpAny_typeOf (T := "set") hT ?_);have n1:Builtin.List.listSameRef (.ref S) (.ref a)=false:=by simp[Builtin.List.listSameRef,nS]
 have n2:(Value.type "set" == Value.type "list")=false:=by decide
 have n3:(Value.type "set" == Value.type "tuple")=false:=by decide
 simp only[n1,n2,n3,Bool.or_false,Hz,if_false];refine J9 (Xhi ⟨o,ho,hex,hd,hf⟩ hb hl hpl λf0 vs h1 d k1 z1 z2 kp O pv=>?_);have hvl:vs.length=es.size:=by rw[pv.length_eq,G3,G8]
 have nI:∀b,b<h1.objs.size->b≠h1.objs.size:=λb q=>G7 q;have kI:∀b o,s.heap.get? b=some o->(h1.push (itO f0 0 a es.size ep)).get? b=some o:=λb o q=>Kj _ (k1 b o q);obtain⟨fp,hfp⟩:∃fp:Option Addr,(∀p,f0 = .ref p->fp=some p)/\∀p,fp=some p->p≠h1.objs.size/\p≠S:=by
  cases f0 with
  | ref p=>
   refine⟨some p,⟨λq e=>(by cases e;rfl),λq e=>?_⟩⟩;cases e;refine⟨G7 (kp p rfl),λz=>?_⟩;subst z;cases O with
   | drw p' os _ _ e ht=>
    cases e;obtain⟨n,ht⟩:=ht;rw[kI _ _ gS] at ht;have hc:=congrArg Obj.cls (Ha ht);exact absurd hc (by simp)
   | txt _ e=>cases e
   | one _ _ _ _ e _ _=>cases e
  | _=>exact⟨none,⟨λq e=>(by cases e),λq e=>(by cases e)⟩⟩
 have st0:ItS w h1.objs.size a es ep t vs fp 0 (h1.push (itO f0 0 a es.size ep)):=⟨f0,Heap.get?_push_size _ rfl,O,⟨o,kI _ _ ho,hex,hd,hf⟩,hfp.1⟩;have W:=Xhn (P:=P) (w:=w) (A:=A.in1) (I:=h1.objs.size) (a:=a) (es:=es) (ep:=ep) (t:=t) (vs:=vs) (fp:=fp) hh hvl (G7 (Hf la z2)) (λp e=>(hfp.2 p e).1);have nSf:S∉h1.objs.size::a::fp.toList:=by
  simp only[He,not_or];refine⟨G7 (Hf lS z2),nS,λz=>?_⟩;cases hfq:fp with
  | none=>rw[hfq] at z;simp at z
  | some p=>
   rw[hfq] at z;have:S=p:=by simpa using z
   exact(hfp.2 p hfq).2 this.symm
 have key:∀(h:Heap) (c1:Nat),ItS w h1.objs.size a es ep t vs fp 0 h->(∀b o,b≠S->s.heap.get? b=some o->h.get? b=some o)->h.get? S=some {cls:=.type "list",data:=.seq #[] c1} ->
   codeAny (model P w) A (.builtin "list.extend.loop" ⟨[.ref S,.ref h1.objs.size,res],[]⟩) R {s with heap:=h,drawn:=d}:=by
  intro h c1 hst1 hk gS1;refine codeAny_extend_loopS W.toS (by rw[hvl];exact fits_of_scanBound hb) S nSf res vs.length 0 _ #[] c1 rfl (Iu _) hst1 gS1 (ItemsOf.nil _) λs' acc c hm gS' hacc=>?_;have hav:acc.toList=vs:=by
   apply List.ext_getElem?;intro i;by_cases hi:i<vs.length
   ·have hi2:i<acc.size:=by rw[hacc.1];exact hi
    have:=hacc.2 i acc[i] (getElem?_pos acc i hi2);rw[this];simp[hi2]
   ·rw[Jf (by rw[G8,hacc.1];omega),Jf (by omega)]
  have hls:StrsAre vs (vs.map strOf):=strsAre_map vs λv hv=>hst.all v (pv.mem_iff.mp hv);refine hR s' acc c vs (vs.map strOf) (λb o nb q=>hm.heap b o (λz=>?_) (hk b o nb q)) hm.os hm.gens gS' hav hls ?_
  ·rcases He.mp z with z | z
   ·exact nb z
   ·exact absurd (Hf (Ki q) z2) (by rw[Hs.mp z];exact Ht _)
  ·have:=pv.map strOf;rw[hst.strs] at this;exact this.trans hpm
 have gS1:=kI _ _ gS;have hT1:Shared.TypeIs {s with heap:=h1.push (itO f0 0 a es.size ep),drawn:=d} (.ref a) "set" := ⟨o,kI _ _ ho,hex.1⟩;refine J9 (wpAny_holding (Xho hT1 ?_));refine wpAny_ite_split (λ_=>?_) (λ_=>Ka ⟨plainId_quiet PySem.F.plain_extend_loop _,key _ c0 st0 (λb o _ q=>kI b o q) gS1⟩);refine J9 (wpAny_rule (J9 ?_));show wpAny _ _ (updateSeq S (·.push .none) >>= λ_=>updateSeq S (·.pop)) _ _ _;refine J9 (wpAny_updateSeq gS1 rfl ?_);have gS2:=Heap.get?_update_self (Obj.mapSeq (·.push Value.none)) gS1 rfl;refine wpAny_updateSeq (hz:=by seq_fits) gS2 rfl ?_;have gS3:=Heap.get?_update_self (Obj.mapSeq (·.pop)) gS2 rfl;have other:∀b,b≠S->(((h1.push (itO f0 0 a es.size ep)).update S (Obj.mapSeq (·.push Value.none))).update S (Obj.mapSeq (·.pop))).get? b=(h1.push (itO f0 0 a es.size ep)).get? b:=λb nb=>
  (Heap.get?_update_other _ _ (Ne.symm nb)).trans (Heap.get?_update_other _ _ (Ne.symm nb))
 refine Ka ⟨plainId_quiet PySem.F.plain_extend_loop _,key _ _ (st0.at λb hb2 o q=>?_) (λb o nb q=>?_) gS3⟩
 ·rw[other b (λz=>nSf (z ▸ hb2))];exact q
 ·rw[other b nb];exact kI b o q
theorem Xhq{R:List Value->Shared->Prop}(hh:A.handled=none)(hs:SSet P w s.heap a ks)
    (h:∀s' vs ls,(∀b o,s.heap.get? b=some o->s'.heap.get? b=some o)->s'.os=s.os->s'.gens=s.gens->StrsAre vs ls->ls.Perm ks->R vs s'):wpAny (model P w) A (collect (.ref a)) R E s:=by
  have la:a<s.heap.objs.size:=by obtain⟨o,_,_,_,_,g,_⟩:=hs;exact Ki g
  unfold collect;refine J9 (wpAny_runValue (codeAny_builtin entry_proto_collect' ?_));rw[Around.under_plainId PySem.F.plain_proto_collect _];show wpAny _ A.in1 (newList [] >>= λl=>again (.builtin "list.__iadd__" ⟨[l,Value.ref a],[]⟩)) _ _ s;refine J9 (wpAny_newObj_type ?_);refine Ka ⟨plainId_quiet PySem.F.plain_list_iadd _,codeAny_builtin entry_list_iadd' ?_⟩;rw[Around.under_plainId PySem.F.plain_list_iadd _];have gS:(s.heap.push {cls:=.type "list",data:=.seq ([]:List Value).toArray}).get? s.heap.objs.size=some {cls:=.type "list",data:=.seq #[] 0}:=Heap.get?_push_size _ rfl;show wpAny _ A.in1 (Builtin.List.listExtendWith (.ref s.heap.objs.size) (.ref a) (.ref s.heap.objs.size)) _ _ _;have key:=Xhp (A:=A) (s:={s with heap:=s.heap.push {cls:=.type "list",data:=.seq ([]:List Value).toArray} }) (S:=s.heap.objs.size) (res:=.ref s.heap.objs.size)
    (R:=λq s'=>∃acc c vs ls,q = .ok (.ret (.ref s.heap.objs.size))/\(∀b o,s.heap.get? b=some o->s'.heap.get? b=some o)/\s'.os=s.os/\s'.gens=s.gens/\s'.heap.get? s.heap.objs.size=some {cls:=.type "list",dict:=none,data:=.seq acc c,slots := #[]}/\acc.toList=vs/\StrsAre vs ls/\ls.Perm ks)
    hh (hs.stay λo q=>Kj _ q) (Nat.ne_of_gt la) gS (λs' acc c vs ls k e1 e2 g e3 e4 e5=>⟨acc,c,vs,ls,rfl,λb o q=>k b o (G7 (Ki q)) (Kj _ q),e1,e2,g,e3,e4,e5⟩)
  have done:∀(q:Result) (s':Shared),(∃acc c vs ls,q = .ok (.ret (.ref s.heap.objs.size))/\(∀b o,s.heap.get? b=some o->s'.heap.get? b=some o)/\s'.os=s.os/\s'.gens=s.gens/\s'.heap.get? s.heap.objs.size=some {cls:=.type "list",dict:=none,data:=.seq acc c,slots := #[]}/\acc.toList=vs/\StrsAre vs ls/\ls.Perm ks) ->
      wants (λv s2=>wpAny (model P w) A (match v with
        | .ref l=>(do match (<-load l).data with
                        | .seq xs _=>pure xs.toList
                        | _=>unsupported "internal:collect")
        | _=>unsupported "internal:collect") R E s2) E q s':=λq s' ⟨acc,c,vs,ls,e0,k,e1,e2,g,e3,e4,e5⟩=>by
    subst e0;show wpAny _ A (load s.heap.objs.size >>= _) _ _ s';refine J9 (wpAny_load g ?_);refine Ka ?_;rw[e3];exact h s' vs ls k e1 e2 e4 e5
  refine wpAny_mono key (λfin s' x=>?_) λe s' x=>?_
  . cases fin with
    | done f=>exact done _ _ x
    | again c1=>exact⟨x.1,codeAny_mono x.2 λq s2 y=>done q s2 y⟩
  . obtain⟨_,_,_,_,e',_⟩:=x;cases e'
end
section
variable {X:Cx}{pins:List (Addr×Obj)}{σ:St}{H:Hp}{s s':Shared}
theorem Inv.moved(I:Inv X pins σ H s)(k:∀b u,s.heap.get? b=some u->s'.heap.get? b=some u)(ho:s'.os=s.os)(hg:s'.gens=s.gens):Inv X pins σ H s':=by
 have J:=I.kept (h':=s'.heap) (t':=s'.toks) k;exact⟨J.ok,ho.trans I.os,by rw[hg];exact I.bare,J.base,J.loc,J.cell,J.free,J.freeC,J.pin,J.hok,J.len⟩
theorem Inv.laidM{a:Addr}{o:HO}(I:Inv X pins σ H s)(k:∀b u,s.heap.get? b=some u->s'.heap.get? b=some u)(ho:s'.os=s.os)(hg:s'.gens=s.gens)(hp:s.heap.objs.size<=a)(new:Aq X.prog X.w (upd H a o) s'.heap a o):Inv X pins σ (upd H a o) s':=by
 have J:=I.laid (h':=s'.heap) (t':=s'.toks) k hp new;exact⟨J.ok,ho.trans I.os,by rw[hg];exact I.bare,J.base,J.loc,J.cell,J.free,J.freeC,J.pin,J.hok,J.len⟩
end
section
variable {P:Program}{w:World}{A:Around}{E:Value->Shared->Prop}{s:Shared}{ks:List Str}
theorem Xhr{r:Addr}{Q:Value->Shared->Prop}(h64:ks.length<64)
  (hc:∀(R:List Value->Shared->Prop),(∀s' vs ls,(∀b o,s.heap.get? b=some o->s'.heap.get? b=some o)->s'.os=s.os->s'.gens=s.gens->StrsAre vs ls->ls.Perm ks->R vs s')->wpAny (model P w) A.in1 (collect (.ref r)) R E s)
  (h:∀(s1 s':Shared) (vs:List Value) (ls:List Str) (e:Nat),(∀b o,s.heap.get? b=some o->s1.heap.get? b=some o)->s1.os=s.os->s1.gens=s.gens->(∀b o,s1.heap.get? b=some o->s'.heap.get? b=some o)->s'.os=s1.os->s'.gens=s1.gens->s'.heap.get? s1.heap.objs.size=some (seqObj "list" vs.toArray e)->StrsAre vs ls->ls.Perm ks->sortedS ls=true->Q (.ref s1.heap.objs.size) s'):
  wpAny (model P w) A (call (.builtin "sorted") [.ref r]) Q E s:=by
 refine Calls.call_function_entry kind_sorted plain_sorted entry_sorted (args_sorted1 _) ?_;unfold Builtin.«sorted»;refine J9 (m:=checkCount "sorted" 1 1 _) (Ka ?_);refine J9 (hc _ λs1 vs ls k1 o1 g1 st p=>?_);have hl:vs.length<64:=by rw[st.length,p.length_eq];exact h64
 refine J9 (wpAny_newList ?_ (by rw[Kb];omega));have gL:(s1.heap.push (seqObj "list" vs.toArray 0)).get? s1.heap.objs.size=some (seqObj "list" vs.toArray 0):=Heap.get?_push_size _ rfl;refine J9 (wpAny_holding (wpAny_call_entry (s:={s1 with heap:=s1.heap.push (seqObj "list" vs.toArray 0)}) slot_list_sort ⟨_,gL,rfl⟩ entry_list_sort (list_sort_treeK strKind_oneLt gL st.keysOf (λa b rest e=>keyKind_strs (by rw[<-e];exact st)) hl λst' pp so=>⟨_,rfl,?_⟩) (args_list_sort _)));obtain⟨ls',a1,a2,a3⟩:=sorted_out_str st pp so;obtain⟨e,he⟩:=sortedHeap_at (out:=(arrOf st').map (·.2)) gL;refine Ka ⟨_,rfl,h s1 _ ((arrOf st').map (·.2)).toList ls' e k1 o1 g1 (λb o q=>?_) rfl rfl he a1 (a2.trans p) a3⟩;have lt:=Ki q;show (sortedHeap (s1.heap.push (seqObj "list" vs.toArray 0)) s1.heap.objs.size vs ((arrOf st').map (·.2))).get? b=some o;rw[sortedHeap_old (G7 lt) (by rw[size_push'];exact Iq lt)];exact Kj _ q
end
def Bm (P:Program) (w:World) (a:Addr) (ks:List Str):HO:=.ext λh=>SSet P w h a ks
theorem Xce{ss:List Str}{vs:List Value}(h:StrsAre vs ss):Vals (ss.map V.str) vs:=by
 induction h with
 | nil=>exact .nil
 | cons x t _ ih=>exact .cons ⟨t,rfl⟩ ih
theorem Fz:∀{ss:List Str} {vs:List Value},Vals (ss.map V.str) vs->StrsAre vs ss
 | [],_,r=>by cases r;exact .nil
 | x::ss,_,r=>by
  cases r with
  | cons r1 r2=>
   obtain⟨t,rfl⟩:=r1;exact .cons x t (Fz r2)
section
variable {X:Cx}
theorem Xcf:X.calm=true->A9 X (.type "set") (λxs H Q=>∃p ss,xs=[.ref p]/\(SqL X.K H p (ss.map V.str)\/SqT X.K H p (ss.map V.str))/\ss.length+1<scanBound/\∀a,H a=none->Q (.ref a) (upd H a (Bm X.prog X.w a (ddup ss)))):=by
 intro hcalm pins s σ H xs us Q I r h;obtain⟨p,ss,rfl,hq,hb,q⟩:=h;obtain⟨u,rfl,rx⟩:=Br r;cases rx;obtain⟨its,r',src⟩:∃its:List Value,Vals (ss.map V.str) its/\Src s.heap p its.toArray:=by
  rcases hq with hq | hq
  ·obtain⟨its,r',pl,_⟩:=I.list hq;exact⟨its,r',.lst pl.isList⟩
  ·obtain⟨its,r',pl,_⟩:=I.tuple hq;exact⟨its,r',.tup pl⟩
 refine Xhc (I.ok.hd hcalm) src (Fz r') hb λh' tk S k=>?_;refine⟨.ref s.heap.objs.size,_,I.laidM (s':={s with heap:=h',toks:=tk}) k rfl rfl (G5 _) ?_,rfl,q _ (I.hok.fresh (G5 _))⟩;exact⟨S,by obtain⟨o,_,_,_,_,g,_⟩:=S;exact⟨o,g⟩,λh1 h2 S1 kk=>S1.stay kk⟩
theorem Xhs{pins:List (Addr×Obj)}{σ:St}{H:Hp}{s s1 s':Shared}{Q:VK}{vs:List Value}{ls ks:List Str}{e:Nat}(I:Inv X pins σ H s)(h64:ks.length<64)(k1:∀b o,s.heap.get? b=some o->s1.heap.get? b=some o)(o1:s1.os=s.os)(g1:s1.gens=s.gens)
  (k2:∀b o,s1.heap.get? b=some o->s'.heap.get? b=some o) (o2:s'.os=s1.os) (g2:s'.gens=s1.gens) (he:s'.heap.get? s1.heap.objs.size=some (seqObj "list" vs.toArray e)) (st:StrsAre vs ls) (p:ls.Perm ks)
  (q:∀l,H l=none->Q (.ref l) (upd H l (.lst (ls.map V.str)))):EP X pins σ Q (.ref s1.heap.objs.size) s':=by
 have I1:=I.moved k1 o1 g1;refine⟨.ref s1.heap.objs.size,_,I1.laidM k2 o2 g2 (G5 _) (show Aq X.prog X.w _ s'.heap _ (.lst (ls.map V.str)) from ⟨?_,vs,e,Xce st,he⟩),rfl,q _ (I1.hok.fresh (G5 _))⟩;rw[G3,p.length_eq,Kb];omega
theorem Xcg:X.calm=true->A9 X (.builtin "sorted") (λxs H Q=>∃a ks,xs=[.ref a]/\H a=some (Bm X.prog X.w a ks)/\ks.length<64/\∀l ls,H l=none->ls.Perm ks->sortedS ls=true->Q (.ref l) (upd H l (.lst (ls.map V.str)))):=by
 intro hcalm pins s σ H xs us Q I r h;obtain⟨a,ks,rfl,ha,h64,q⟩:=h;obtain⟨u,rfl,rx⟩:=Br r;cases rx;obtain⟨S,_⟩:=(show Aq X.prog X.w H s.heap a (.ext λh=>SSet X.prog X.w h a ks) from I.hok a _ ha);refine Xhr h64 (λR k=>Xhq (by show X.A.in1.handled=none;simp[I.ok.hd hcalm]) S k) λs1 s' vs ls e k1 o1 g1 k2 o2 g2 he st p so=>?_;exact Xhs I h64 k1 o1 g1 k2 o2 g2 he st p λl hl=>q l ls hl p so
end
def Ite (K:PySem.W.Frag) (a:Addr):It:=
 ⟨λi H=>∃xs x,SqL K H a xs/\xs[i]? = some x,λi H x H'=>∃tp,x = .ref tp/\H tp=none/\∀xs,SqL K H a xs->∃y,xs[i]? = some y/\H'=upd H tp (.tup [.int i,y]),λi H=>∃xs,SqL K H a xs/\xs.length<=i⟩
section
variable {X:Cx}{es:List Expr}{t:St->Hp->(Hp->Prop)->Prop}{e:Expr}{te:TE}{pos:Pos}
def tJRep (te:TE) (t:St->Hp->(Hp->Prop)->Prop):St->Hp->(Hp->Prop)->Prop:=fun σ H Q=>te σ H λx H1=>∃z,x = .str z/\z.length<=400/\(∀c∈z.cps.toList,c<16 ^ 8)/\t σ H1 Q
def rSlS:V->Option Int->Option Int->Hp->VK->Prop:=λx lo hi H Q=>∃z,x = .str z/\lo=none/\(∃j,hi=some j)/\z.length<=1000/\Q (.str (Txt.slice z lo hi)) H
end
end L2
set_option maxHeartbeats 4000000
namespace L2
open PySem PySem.Spec PyProof.Rows
def leS (x y:Str):Prop:=x.cps.toList<=y.cps.toList
theorem Xht{x y:Str}(h:x.cps.toList=y.cps.toList):x=y:=by
 obtain⟨⟨a⟩⟩:=x;obtain⟨⟨b⟩⟩:=y;have:a=b:=h;rw[this]
theorem Xch{x y:Str}(h:leS x y)(g:leS y x):x=y:=Xht (List.le_antisymm h g)
theorem Xci{x y z:Str}(h:leS x y)(g:leS y z):leS x z:=List.le_trans h g
theorem Xcj(x y:Str):leS x y\/leS y x:=List.le_total _ _
def ltS (x y:Str):Prop:=x.cps.toList<y.cps.toList
instance (x y:Str):Decidable (ltS x y):=inferInstanceAs (Decidable (x.cps.toList<y.cps.toList))
instance (x y:Str):Decidable (leS x y):=inferInstanceAs (Decidable (x.cps.toList<=y.cps.toList))
theorem Xhu(x:Str):¬ltS x x:=List.lt_irrefl _
theorem Xhv{x y z:Str}(h:ltS x y)(g:ltS y z):ltS x z:=List.lt_trans h g
theorem Xhw{x y:Str}:¬ltS x y↔leS y x:=List.not_lt
theorem ltS_of{x y:Str}(h:leS x y)(n:x≠y):ltS x y:=by
 by_cases q:ltS x y
 ·exact q
 ·exact absurd (Xch h (Xhw.mp q)) n
theorem Xhx{x y:Str}(h:ltS x y):x≠y:=λe=>Xhu y (e ▸ h)
theorem Xck:∀(l:List Str) (p:Str),risingS p l=true->(p::l).Pairwise leS
 | [],p,_=>by simp
 | x::r,p,h=>by
  have h':(!ltCps x.cps.toList p.cps.toList&&risingS x r)=true:=h;rw[Ie,ltCps_eq] at h';have ih:=Xck r x h'.2;have hpx:leS p x:=by
   have:=h'.1;simp only[Bool.not_eq_true',decide_eq_false_iff_not] at this;exact this
  refine Iw.mpr ⟨λy hy=>?_,ih⟩;rcases He.mp hy with e | e
  ·rw[e];exact hpx
  ·exact Xci hpx ((Iw.mp ih).1 y e)
theorem Xhy:∀(l:List Str),sortedS l=true->l.Pairwise leS
 | [],_=>by simp
 | x::r,h=>Xck r x h
theorem Xcl:∀{a b:List Str},a.Perm b->a.Pairwise leS->b.Pairwise leS->a=b
 | [],b,p,_,_=>by rw[List.nil_perm.mp p]
 | x::a,[],p,_,_=>by have:=p.length_eq;simp at this
 | x::a,y::b,p,ha,hb=>by
  obtain⟨a1,a2⟩:=Iw.mp ha;obtain⟨b1,b2⟩:=Iw.mp hb;have e:x=y:=by
   have hx:x∈y::b:=p.mem_iff.mp Hg;have hy:y∈x::a:=p.mem_iff.mpr Hg;rcases He.mp hx with e | hx
   ·exact e
   ·rcases He.mp hy with e | hy
    ·exact e.symm
    ·exact Xch (a1 y hy) (b1 x hx)
  subst e;rw[Xcl (List.Perm.cons_inv p) a2 b2]
def srt (l:List Str):List Str:=l.mergeSort λx y=>decide (leS x y)
theorem El(l:List Str):(srt l).Perm l:=List.mergeSort_perm ..
theorem Xhz(l:List Str):(srt l).Pairwise leS:=by
 have h:=List.pairwise_mergeSort (le:=λx y=>decide (leS x y)) (λa b c h1 h2=>Ke (Xci (Kg h1) (Kg h2)))
  (λa b=>by rcases Xcj a b with h | h<;>simp[h]) l
 exact h.imp λh=>Kg h
theorem Xcm{ls ks:List Str}(p:ls.Perm ks)(h:sortedS ls=true):ls=srt ks:=Xcl (p.trans (El ks).symm) (Xhy _ h) (Xhz _)
theorem Xh0{l:List Str}{x:Str}:x∈srt l↔x∈l:=(El l).mem_iff
def dit (row:List Str):List Str:=srt (ddup row)
theorem F0{row:List Str}{x:Str}:x∈dit row↔x∈row:=Xh0.trans (Xb6 row x)
theorem F1(row:List Str):(dit row).Nodup:=(El _).nodup_iff.mpr (Xb7 row)
theorem Xh1(row:List Str):(dit row).length<=row.length:=by
 have:=(El (ddup row)).length_eq;have h:=Ej row;unfold dit;omega
theorem Xcn{a b:List Str}(ha:a.Nodup)(hb:b.Nodup)(h:∀x,x∈a↔x∈b):a.Perm b:=(List.perm_ext_iff_of_nodup ha hb).mpr h
structure Fn (P:Program) (w:World) (K:PySem.W.Frag) (mg:Str->Option Value) (base:Heap) (CX:CXT) (k:Nat) (x:Str) (ps:List Str) (sp:Sp):Prop where
 ex:∃f fd,mg x=some (.ref f)/\PySem.W.keepIn K (.ref f)=true/\Binds K fd ps []/\FnOk P w K mg base CX k f fd ps sp
section
variable {X:Cx}{CX:CXT}{k:Nat}{ps:List Str}{sp:Sp}{E:XK}{x:Str}{p pos:Pos}{e:Expr}{es:List Expr}{t:TA}
theorem Al(F:Fn X.prog X.w X.K X.mg X.base CX k x ps sp)(hr:Room k X.A)(hg:Gl X x)(hx:Passes CX X E)
  (ha:PA X (e::es) t) (hdb:(x==("__debug__" : Str))=false:=by decide) (he:starEach (e::es) X.env=(false,eval e X.env)::starEach es X.env:=by rfl) (hpl:(backTo pos (starEach es X.env)).any (·.1)=false:=by rfl):
  PE X (.Call (.Name x p) (e::es) [] pos) (Xay sp [] E t):=by
 obtain⟨f,fd,hm,hk,hb,hF⟩:=F.ex;exact Xfm hF hr hg hm hk hb .nil hx ha hdb he hpl
theorem Xh2{st:Stmt}{rest:List Stmt}{D:Ends}{σ:St}{H:Hp}(P:St->Hp->Prop)(h2:∃u,PSs X rest u/\∀σ' H',P σ' H'->u D σ' H')
  (h1:∀nx,(∀σ' H',P σ' H'->nx σ' H')->∃t,PS X st t/\t {D with nx:=nx} σ H):∃t,PSs X (st::rest) t/\t D σ H:=by
 obtain⟨u,hu,ru⟩:=h2;obtain⟨t,ht,rt⟩:=h1 (u D) ru;exact⟨E7 t u,Ae ht hu,rt⟩
end
theorem Ap{c:Bool}{A B:Prop}(h1:c=true->A)(h2:c=false->B):if c=true then A else B:=by
 cases c with
 | true=>exact Bk (h1 rfl)
 | false=>exact B4 (h2 rfl)
theorem Same.upd{H H':Hp}{a:Addr}{o:HO}(s:Same H H')(h:H a=none):Same H (upd H' a o):=λb u e=>by
 rw[Af (Aw e h)];exact s b u e
theorem ku{H:Hp}{b p:Addr}{o u:HO}(h:H b=some o)(hp:H p=none):upd H p u b=some o:=by
 rw[Af (Aw h hp)];exact h
theorem Same.step{H H1:Hp}{p:Addr}{o:HO}(s:Same H H1)(hp:H1 p=none):Same H (L2.upd H1 p o):=s.upd (s.free hp)
theorem Same.go{H H1:Hp}{p q:Addr}{o:HO}(s:Same H H1)(hp:H1 p=none)(hq:L2.upd H1 p o q=none):Same H (L2.upd H1 p o):=s.step hp
theorem Ds{α : Type}(f : α->V)(xs:List α)(b:Nat)(hb:b<=xs.length):Bt (xs.map f) none (some (b:Int))=(xs.take b).map f:=by
 unfold Bt;rw[HT.sIx_none,List.drop_zero,HT.sIx_nat,G3,List.map_take,Nat.sub_zero,Jq hb]
theorem C8{α : Type}(f : α->V)(xs:List α)(a:Nat)(ha:a<=xs.length):Bt (xs.map f) (some (a:Int)) none=(xs.drop a).map f:=by
 unfold Bt;rw[HT.sIx_none,HT.sIx_nat,G3,Jq ha,List.map_drop];exact Ju (by rw[Jk,G3];omega)
theorem Xh3{α : Type}(f : α->V)(xs:List α)(a b:Nat)(hab:a<=b)(hb:b<=xs.length):Bt (xs.map f) (some (a:Int)) (some (b:Int))=((xs.drop a).take (b - a)).map f:=by
 unfold Bt;rw[HT.sIx_nat,HT.sIx_nat,G3,Jq hb,Jq (Hx hab hb),List.map_take,List.map_drop]
def Xco (fsc:Scope) (fN N:List Str) (cap:List (Option Nat)) (scope:Scope):Bool:=
 (scope.names.all λy=>decide (scope.names.lookup y.1=some y.2)) &&
 (scope.names.all λy=>decide (y.2 ≠ .free)||decide (fsc.names.lookup y.1=some .cell)||decide (fsc.names.lookup y.1=some .free))&&decide (cap.length=N.length) &&
 ((List.range N.length).all λi=>match cap[i]?,N[i]? with
  | some (some j),some x=>decide (fN[j]? = some x)&&decide (scope.names.lookup x=some .free)
  | _,_=>true)
theorem CompScope.of{X:Cx}{N:List Str}{cap:List (Option Nat)}{scope:Scope}(fsc:Scope)(fN:List Str)(h1:X.env.scope=fsc)(h2:X.N=fN)(hk:scope.kind = .function)(h:Xco fsc fN N cap scope=true):CompScope X N cap scope:=by
 unfold Xco at h;simp only[Ie,Jm,Bool.or_eq_true,decide_eq_true_eq] at h;obtain⟨⟨⟨a1,a3⟩,a4⟩,a5⟩:=h;refine⟨hk,a1,λy hy e=>?_,a4,λi x j hN hc=>?_⟩
 ·show X.env.scope.names.lookup y.1=some .cell\/X.env.scope.names.lookup y.1=some .free;rw[h1];rcases a3 y hy with (z | z) | z
  ·exact absurd e z
  ·exact .inl z
  ·exact .inr z
 ·have hi:i<N.length:=(G6.mp hN).1;have q:=a5 i (Io.mpr hi);rw[hc,hN] at q;simp only[Ie,decide_eq_true_eq] at q;rw[h2];exact q
section
variable {X:Cx}
theorem Xh4(K:PySem.W.Frag)(h:X.K=K):A9 X (.builtin "isinstance") (λxs H Q=>∃x c t cv b,xs=[x,c]/\TyOf K H x t/\Fv c=some cv/\PySem.W.kitOne K t cv=some b/\Q (.bl b) H):=by subst h;exact Fw
theorem Xh5(K:PySem.W.Frag)(h:X.K=K):A9 X (.builtin "len") (λxs H Q=>∃p ys,xs=[.ref p]/\(SqL K H p ys\/SqT K H p ys)/\Q (.int ys.length) H):=by subst h;exact Ba
end
theorem Xcp{cap:List (Option Nat)}{tt:TT}{te:TE}{J:It}{σ:St}{H1:Hp}{F:Addr->Hp->Prop}{j:Nat}(n:Nat)(hn:n<sizeLine)(vs:Nat->V)(ok:Nat->Bool)(ys:Nat->V)
  (hgo:∀i H2,i<n->Same H1 H2->J.go i H2/\∀x H3,J.yld i H2 x H3->H3=H2/\x=vs i)
  (hst:∀H2,Same H1 H2->J.stop n H2)
  (tst:∀i H2 Q,i<n->Same H1 H2->(∀H',Same H2 H'->Q (ok i) H')->tt ((Be cap σ).set j (some (vs i))) H2 Q)
  (step:∀i H2 Q,i<n->ok i=true->Same H1 H2->(∀H',Same H2 H'->Q (ys i) H')->te ((Be cap σ).set j (some (vs i))) H2 Q)
  (hd:∀D H2,H1 D=none->Same H1 H2->H2 D=some (.lst (((List.range n).filter ok).map ys))->F D H2):C7 cap (A0 j) tt te J σ H1 F:=by
 refine Dr n vs (λD i σ2 H2=>(∀v, σ2.set j v=(Be cap σ).set j v)/\Same H1 H2/\H2 D=some (.lst (((List.range i).filter ok).map ys))) ?_ ?_ ?_ ?_ ?_
 ·intro D hD;exact⟨λ_=>rfl,(Same.refl H1).step hD,Ac⟩
 ·rintro D i σ2 H2 hD hi ⟨_,s2,_⟩;exact hgo i H2 hi s2
 ·rintro D σ2 H2 hD ⟨_,s2,_⟩;exact hst H2 s2
 ·rintro D i σ2 H2 hD hi ⟨e,s2,hb⟩;show tt (σ2.set j (some (vs i))) H2 _;rw[e];refine tst i H2 _ hi s2 λH3 s3=>?_;have s13:=s2.trans s3;have hb3:=s3 _ _ hb;have hss:∀v,((Be cap σ).set j (some (vs i))).set j v=(Be cap σ).set j v:=λv=>by rw[List.set_set]
  have hl:(((List.range i).filter ok).map ys).length<=i:=by
   rw[G3];exact Hx (Jw ..) (by rw[Ir];omega)
  refine Ap (λhk=>?_) (λhk=>?_)
  ·refine step i H3 _ hi hk s13 λH4 s4=>?_;refine wput hi (s4 _ _ hb3) (by omega) ⟨hss,λb u e'=>?_,?_⟩
   ·rw[Af (Aw e' hD)];exact s4 _ _ (s13 b u e')
   ·rw[Ac,Jr,Il,Hj];simp[hk]
  ·refine wskip hi ⟨hss,s13,?_⟩;rw[hb3,Jr,Il,Hj];simp[hk]
 ·rintro D σ2 H2 hD ⟨_,s2,hb⟩;exact hd D H2 hD s2 hb
theorem Xcq{cap:List (Option Nat)}{te:TE}{J:It}{σ:St}{H1:Hp}{F:Addr->Hp->Prop}{j:Nat}(n:Nat)(hn:n<sizeLine)(vs:Nat->V)(ys:Nat->V)
  (hgo:∀i H2,i<n->Same H1 H2->J.go i H2/\∀x H3,J.yld i H2 x H3->H3=H2/\x=vs i)
  (hst:∀H2,Same H1 H2->J.stop n H2)
  (step:∀i H2 Q,i<n->Same H1 H2->(∀H',Same H2 H'->Q (ys i) H')->te ((Be cap σ).set j (some (vs i))) H2 Q)
  (hd:∀D H2,H1 D=none->Same H1 H2->H2 D=some (.lst ((List.range n).map ys))->F D H2):C7 cap (A0 j) Xbs te J σ H1 F:=
 Xcp n hn vs (λ_=>true) ys hgo hst (λi H2 Q _ _ k=>k H2 (Same.refl _)) (λi H2 Q hi _ s k=>step i H2 Q hi s k) λD H2 hD s e=>hd D H2 hD s (by rw[e,J2.mpr (λ_ _=>rfl)])
structure DefAt (K:PySem.W.Frag) (x:Str) (st:Stmt):Prop where
 ex:∃f fd,PySem.W.nsIn K mainGlobals x=some (some (.ref f))/\PySem.W.keepIn K (.ref f)=true/\Fun K x x st f fd
theorem DefAt.of{K:PySem.W.Frag}{x:Str}{st:Stmt}{f:Addr}{oc:Value}{od an:Option Addr}{osl:Array (Option Value)}{kV doc pm cdv ct:Value}(a:PySem.W.nsIn K mainGlobals x=some (some (.ref f)))
  (l:K.lookup f=some ⟨oc,od,.func (PySem.W.fnOf x x (C6 st) (Cv st) (defScope st) .none kV doc pm an cdv ct),osl⟩) (c:PySem.W.codeIn K cdv x=true) (k:PySem.W.keepIn K (.ref f)=true):DefAt K x st:=
 ⟨⟨f,_,a,k,Xgi l c k⟩⟩
theorem Fn.of{P:Program}{w:World}{K:PySem.W.Frag}{h:Heap}{mg:Str->Option Value}{base:Heap}{CX:CXT}{k:Nat}{x:Str}{st:Stmt}{ps:List Str}{sp:Sp}(X:K.In h)(G:h.Ns mainGlobals mg)(D:DefAt K x st)
  (hb:∀(kV doc pm:Value) (an:Option Addr) (cdv ct:Value) (us:List Value),us.length=ps.length->bindArgs (PySem.W.fnOf x x (C6 st) (Cv st) (defScope st) .none kV doc pm an cdv ct) ⟨us,[]⟩=pure (ps.zip us))
  (ok:∀f fd,Fun K x x st f fd->FnOk P w K mg base CX k f fd ps sp):Fn P w K mg base CX k x ps sp:=by
 obtain⟨f,fd,a,hk,F⟩:=D.ex;exact⟨⟨f,fd,PySem.W.mg_of X G a,hk,F.binds hb,ok f fd F⟩⟩
structure ExcAt (K:PySem.W.Frag) (x:Str) (C:Addr):Prop where
 a:PySem.W.nsIn K mainGlobals x=some (some (.ref C))
 e:PySem.W.excIn K C bmV "ValueError.__new__" = true
 ga:PySem.W.findIn K (.ref C) "__getattribute__" = some (some (.builtin "BaseException.__getattribute__"))
 gn:PySem.W.findIn K (.ref C) "__getattr__" = some none
 cl:PySem.W.findIn K (.ref C) "__class__" = some (some (.builtin "object.__class__"))
 sb:PySem.W.subIn K (.ref C) (.type "BaseException")=some true
 so:PySem.W.subIn K (.ref C) (.type "object")=some true
 sv:PySem.W.subIn K (.ref C) (.type "ValueError")=some true
 ss:PySem.W.subIn K (.ref C) (.ref C)=some true
 ic:PySem.W.isClsIn K C=true
 ty:PySem.W.typeIn K (.ref C)=some (.type "type")
section
variable {K:PySem.W.Frag}{x:Str}{C:Addr}
end
structure ClsAt (K:PySem.W.Frag) (x:Str) (C:Addr):Prop where
 a:PySem.W.nsIn K mainGlobals x=some (some (.ref C))
 ic:PySem.W.isClsIn K C=true
 ty:PySem.W.typeIn K (.ref C)=some (.type "type")
theorem Xh6{X:Cx}{pos:Pos}{es:List Expr}{k:Nat}{t:TGs}(K:PySem.W.Frag)(n:Nat)(hK:X.K=K)(hc:X.calm=true)(h:PGs X es t)
  (hn:(assignEach es X.env).length=n:=by rfl) (hst:(assignEach es X.env).findIdx? (·.1)=none:=by rfl):PG X (.Tuple es k pos) (Xai K n t):=by
 subst hK;exact Xe2 hc h hn hst
abbrev TM:=St->Hp->(St->Hp->Prop)->Prop
def PM (X:Cx) (m:Sem Unit) (t:TM):Prop:=∀(pins:List (Addr×Obj)) (s:Shared) (σ:St) (H:Hp) (Q:St->Hp->Prop),Inv X pins σ H s->t σ H Q ->
 wpAny (model X.prog X.w) X.A m (λ_ s'=>∃σ' H',Inv X pins σ' H' s'/\Q σ' H') X.xe s
def C9 (e:Expr) (d:Nat) (tg iter:Expr) (ifs:List Expr) (act:Sem Unit) (it acc:Value) (env:Env):Sem Fin:=do
 standAt iter.pos
 match <-pyNext it with
 | none=>pure (.done .next)
 | some v=>
  letOwnedTupleGo tg it v
  assign tg env v
  let mut ok:=true
  for c in ifs do
   if ok then ok <-isTrue c env (eval c env)
  if ok then act
  again (.compLoop e d it acc env)
structure Cm (e:Expr):Prop where
 den1 : ∀ (P : Program) (w : World) (d : Nat) (it acc : Value) (env : Env), (model P w).den (.compLoop e d it acc env) = (compTurn e d it acc env).onRaise (fun x => do noteFrame x env; theTreesLotGoes x)
 den2 : ∀ (P : Program) (w : World) (d : Nat) (it acc : Value) (env : Env), (model P w).den (.compStart e d it acc env) = (compStart e d it acc env).onRaise (fun x => do noteFrame x env; standAt theWindowsPlace)
 und1:∀(A:Around) (d:Nat) (it acc:Value) (env:Env),A.under (.compLoop e d it acc env)=A
 und2:∀(A:Around) (d:Nat) (it acc:Value) (env:Env),A.under (.compStart e d it acc env)=A
theorem Xcr{elt:Expr}{gs:List Comprehension}{sc:Scope}{p:Pos}:Cm (.ListComp elt gs sc p):=⟨λ_ _ _ _ _ _=>rfl,λ_ _ _ _ _ _=>rfl,λ_ _ _ _ _=>rfl,λ_ _ _ _ _=>rfl⟩
def tLp (g:TG) (tt:TT) (tm:TM) (J:It) (σ:St) (H1:Hp) (F:St->Hp->Prop):Prop:=
 ∃W:Nat->Nat->St->Hp->Prop,(∃m,W 0 m σ H1)/\∀i m σ1 H2,W i m σ1 H2 ->
  (J.stop i H2/\F σ1 H2)\/(J.go i H2/\∀x H3,J.yld i H2 x H3->g x σ1 H3 fun σ2 H4=>tt σ2 H4 λb H5=>
   if b=true then tm σ2 H5 fun σ3 H6=>∃m',m'<m/\W (i+1) m' σ3 H6 else ∃m',m'<m/\W (i+1) m' σ2 H5)
section
variable {Y:Cx}{e tg iter:Expr}{d:Nat}{ifs:List Expr}{act:Sem Unit}{acc:Value}{g:TG}{tt:TT}{tm:TM}{pins:List (Addr×Obj)}{σ:St}{H:Hp}{s:Shared}{J:It}{fp:List Addr}{it:Addr}{tn:Nat->Heap->Prop}{F:St->Hp->Prop}{R:Result->Shared->Prop}
theorem Xh7(cm:Cm e)(hx:Y.xe=λ_ _=>False)(hc:Y.calm=true)(eq:compTurn e d (.ref it) acc Y.env=C9 e d tg iter ifs act (.ref it) acc Y.env)(hg:PG Y tg g)(ht:PIfs Y ifs tt)(hm:PM Y act tm)
  (I:Inv Y pins σ H s) (T:Turn Y.prog Y.w Y.K tg J fp it tn) (h0:tn 0 s.heap) (hf:∀b∈fp,FpOk Y pins H b) (hb:tLp g tt tm J σ H F) (fin:∀σ' H' s',Inv Y pins σ' H' s'->F σ' H'->R (.ok .next) s'):
  codeAny (model Y.prog Y.w) Y.A (.compLoop e d (.ref it) acc Y.env) R s:=by
 obtain⟨W,⟨m0,w0⟩,turn⟩:=hb;have stat:∀{H':Hp},(∀b∈fp,H' b=none)->∀b∈fp,FpOk Y pins H' b:=λhn b hb=>⟨hn b hb,(hf b hb).2⟩;refine codeAny_loop rfl (λn s'=>∃i σ1 H2,Inv Y pins σ1 H2 s'/\tn i s'.heap/\(∀b∈fp,H2 b=none)/\W i n σ1 H2) (λn s' hI=>?_) m0 ⟨0, σ,H,I,h0,λb hb=>(hf b hb).1,w0⟩;obtain⟨i, σ1,H2,I',st',fr',w'⟩:=hI;rw[cm.den1,cm.und1];refine wpAny_noted ?_;rw[eq];have no:∀{α : Type} {t:Sem α} {Q : α->Shared->Prop} {E':Value->Shared->Prop} {s₁ : Shared},wpAny (model Y.prog Y.w) Y.A t Q Y.xe s₁->wpAny (model Y.prog Y.w) Y.A t Q E' s₁:=λh=>wpAny_mono h (λ_ _ q=>q) λ_ _ z=>by rw[hx] at z;exact z.elim
 unfold C9;rcases turn i n σ1 H2 w' with ⟨stop,q⟩ | ⟨go,step⟩
 ·refine J9 (wpAny_standAt (J9 (thn (T.done Y rfl rfl rfl hc i pins s' σ1 H2 _ I' (stat fr') st' stop) λr s1 ⟨hr,I1⟩=>?_)));subst hr;exact Ka (fin σ1 H2 s1 I1 q)
 ·refine J9 (wpAny_standAt (J9 (thn (T.item Y rfl rfl rfl hc i pins s' σ1 H2 _ I' (stat fr') st' go) λr s1 ⟨u,hr,h4⟩=>?_)));subst hr;refine J9 (thn h4 λ_ s5 ⟨x,H5,I5,r5,y5,st5,fr5⟩=>?_);have I5':=I5.pinned (stat fr5) (T.obj _ _ st5);refine J9 (thn (no (hg _ s5 σ1 H5 x u _ I5' r5 (step x H5 y5))) λ_ s6 ⟨σ6,H6,I6,q6⟩=>?_);refine J9 (thn (no (ht _ s6 σ6 H6 _ I6 q6)) λb s7 ⟨H7,I7,q7⟩=>?_);have again:∀{s8:Shared} {σ8:St} {H8:Hp},Inv Y (pins++Dj fp s5.heap) σ8 H8 s8->(∃m',m'<n/\W (i+1) m' σ8 H8)->∃m,m<n/\∃i σ1 H2,Inv Y pins σ1 H2 s8/\tn i s8.heap/\(∀b∈fp,H2 b=none)/\W i m σ1 H2:=λ{s8 σ8 H8} I8 ⟨m',hm,w8⟩=>by
   refine⟨m',hm,i+1, σ8,H8,I8.unpinned,T.keep _ _ _ st5 λb hb o e=>(I8.pin (b,o) (Ho _ (Ho _ (D9 hb e)))).1,λb hb=>?_,w8⟩;obtain⟨o,e,d⟩:=T.obj _ _ st5 b hb;exact(I8.pin (b,o) (Ho _ (Ho _ (D9 hb e)))).2.1
  cases b with
  | false=>
   rw[Kc Hh] at q7;exact Ka ⟨rfl,again I7 q7⟩
  | true=>
   rw[Kd rfl] at q7;exact J9 (thn (no (hm _ s7 σ6 H7 _ I7 q7)) λ_ s8 ⟨σ8,H8,I8,q8⟩=>Ka ⟨rfl,again I8 q8⟩)
theorem Xh8{prog:Program}{w:World}{A:Around}{env:Env}{itv:Value}{cl:Comprehension}(cm:Cm e)(hcl:(clausesOf e)[d]? = some cl)(has:cl.is_async=0)
  (h0:codeAny (model prog w) A (.compLoop e d itv acc env) R s)
  (h:wpAny (model prog w) A (pyIter itv) (λit' s'=>codeAny (model prog w) A (.compLoop e d it' acc env) R s') (notedBy (model prog w) A env λx s'=>R (.error x) s') s):
  codeAny (model prog w) A (.compStart e d itv acc env) R s:=by
 refine codeAny_of_tree ?_;rw[cm.den2,cm.und2];refine wpAny_notedAt ?_;unfold compStart;rw[hcl];have e1:(Option.elim (some cl) false λx=>x.is_async != 0)=false:=by
  show (cl.is_async != 0)=false;rw[has];rfl
 rw[e1,Kc Hh];show wpAny _ A (ask >>= _) _ _ s;refine J9 (wpAny_askSetting (wpAny_ite ?_));split
 ·first
   | exact J9 (Ka (Ka (And.intro rfl h0)))
   | exact Ka (And.intro rfl h0)
 ·first
   | exact J9 (wpAny_rule (J9 (wpAny_standAt (J9 (wpAny_mono h (λit' s' h'=>Ka (And.intro rfl h')) λ_ _ x=>x)))))
   | (refine J9 (wpAny_rule ?_);show wpAny _ _ (standAt cl.iter.pos >>= _) _ _ s;exact J9 (wpAny_standAt (J9 (wpAny_mono h (λit' s' h'=>Ka (And.intro rfl h')) λ_ _ x=>x))))
end
def Xh9 (te:TE) (D:Addr):TM:=fun σ H Q=>te σ H λy H6=>∃ys,H6 D=some (.lst ys)/\ys.length<sizeLine/\Q σ (upd H6 D (.lst (ys++[y])))
theorem Xcs{Y:Cx}{elt:Expr}{te:TE}{D:Addr}(he:PE Y elt te):PM Y (do let _ <-call (.builtin "list.append") [.ref D,<-eval elt Y.env]) (Xh9 te D):=by
 intro pins s σ H Q I h;refine J9 (thn (he pins s σ H _ I h) λyv s8 ⟨y,H8,I8,r8,ys,hD,hlt,q8⟩=>?_);exact J9 (thn (Fi (X:=Y) _ s8 σ H8 (.ref D) [y] (.ref D) [yv] (λ_ H9=>Q σ H9) I8 rfl (.cons r8 .nil) ⟨_,ys,y,rfl,rfl,hD,hlt,q8⟩) λ_ s9 ⟨_,H9,I9,_,q9⟩=>Ka ⟨σ,H9,I9,q9⟩)
def mFor (wi:TI) (g:TG) (tt:TT) (tm:TM):TM:=fun σ H Q=>wi σ H λJ H1=>tLp g tt tm J σ H1 Q
def Xct (cap:List (Option Nat)) (o0:Addr->HO) (g:TG) (tt:TT) (tm:Addr->TM) (J:It) (σ:St) (H1:Hp) (F:Addr->Hp->Prop):Prop:=
 ∀D,H1 D=none->tLp g tt (tm D) J (Be cap σ) (upd H1 D (o0 D)) λ_ H2=>F D H2
def Xcu (cap:List (Option Nat)) (o0:HO) (g:TG) (tt:TT) (tm:Addr->TM) (J:It) (σ:St) (H1:Hp) (F:Addr->Hp->Prop):Prop:=
 ∀D,H1 D=none->tLp g tt (tm D) J (Be cap σ) (upd H1 D o0) λ_ H2=>F D H2
section
variable {X:Cx}{N:List Str}{cap:List (Option Nat)}{scope:Scope}{e tg iter:Expr}{ifs:List Expr}{g:TG}{tt:TT}{tm:Addr->TM}{E:Value->Shared->Prop}{newAcc:Sem Value}{ob:Obj}{o0:HO}{o1:Addr->HO}{act:Addr->Env->Sem Unit}
theorem Xcv(C:CompScope X N cap scope)(hcalm:X.calm=true)(cm:Cm e)(hcl:(clausesOf e)[0]? = some ⟨tg,iter,ifs,0⟩)
  (hnew:∀(s:Shared) (Q:Value->Shared->Prop) (E':Value->Shared->Prop),Q (.ref s.heap.objs.size) {s with heap:=s.heap.push ob}->wpAny (model X.prog X.w) X.A newAcc Q E' s)
  (hlay:∀pins σ H s,Inv X pins σ H s->Inv X pins σ (upd H s.heap.objs.size (o1 s.heap.objs.size)) {s with heap:=s.heap.push ob})
  (heq:∀it D env,compTurn e 0 it (.ref D) env=C9 e 0 tg iter ifs (act D env) it (.ref D) env)
  (hg:∀s0 H0 ex,PG (X.comp N scope s0 H0 ex) tg g) (ht:∀s0 H0 ex,PIfs (X.comp N scope s0 H0 ex) ifs tt) (hm:∀D s0 H0 ex,PM (X.comp N scope s0 H0 ex) (act D (X.comp N scope s0 H0 ex).env) (tm D))
  {pins:List (Addr×Obj)} {σ:St} {H:Hp} {s:Shared} {J:It} {fp:List Addr} {it:Addr} {tn:Nat->Heap->Prop} {F:Addr->Hp->Prop} {RR:Value->Addr->Result->Shared->Prop}
  (I:Inv X pins σ H s) (T:Turn X.prog X.w X.K tg J fp it tn) (h0:tn 0 s.heap) (hf:∀b∈fp,FpOk X pins H b) (hb:Xct cap o1 g tt tm J σ H F)
  (fin:∀D L H' s' m,Inv X pins σ H' s'->FpOk X pins H' L->s'.heap.Ns L m->F D H'->RR (.ref D) L (.ok .next) s'):
  wpAny (model X.prog X.w) X.A newAcc (λacc s₃=>wpAny (model X.prog X.w) X.A (newFunctionEnv scope X.env.globals (Bh X.env scope.names []) [] X.env.qual none .none (some X.env)) (λcenv s₄=>
   codeAny (model X.prog X.w) X.A (.compStart e 0 (.ref it) acc {cenv with scope:=relabel scope X.env}) (RR acc cenv.locals) s₄) E s₃) E s:=by
 have hDn:H s.heap.objs.size=none:=I.hok.fresh (G5 _);have lp:=hb s.heap.objs.size hDn;have flt:∀b∈fp,b<s.heap.objs.size:=λb hb=>by
  obtain⟨o,e,_⟩:=T.obj _ _ h0 b hb;exact Ki e
 refine hnew s _ _ (Xgm ?_);have I3:Inv X pins σ (upd H s.heap.objs.size (o1 s.heap.objs.size)) {s with heap:=s.heap.push ob}:=hlay pins σ H s I;generalize e3:({s with heap:=s.heap.push ob}:Shared)=s3 at I3;have es3:s3.heap=s.heap.push ob:=by rw[<-e3]
 have hsz:s3.heap.objs.size=s.heap.objs.size+1:=by rw[es3,Heap.size_push]
 have hf3:∀b∈fp,FpOk X pins (upd H s.heap.objs.size (o1 s.heap.objs.size)) b:=λb hb=>by
  obtain⟨f0,f⟩:=hf b hb;exact⟨by rw[Af (G7 (flt b hb))];exact f0,f⟩
 have flt3:∀b∈fp,b<s3.heap.objs.size:=λb hb=>by rw[hsz];exact Iq (flt b hb)
 have hk:∀b o,s3.heap.get? b=some o->(pushCells (s3.heap.push {cls:=.type "dict",data:=.dict #[]}) scope.names).get? b=some o:=λb o e=>pushCells_keeps _ _ b o (Kj _ e);have IY:=Xgn (tk:=s3.toks) C I3 hf3 flt3;generalize eY:X.comp N scope s3 (upd H s.heap.objs.size (o1 s.heap.objs.size)) fp=Y at IY;have hz3:(s3.heap.push {cls:=.type "dict",data:=.dict #[]}).objs.size=s3.heap.objs.size+1:=Heap.size_push ..;have hst1:tn 0 (pushCells (s3.heap.push {cls:=.type "dict",data:=.dict #[]}) scope.names):=T.keep _ _ _ h0 λb hb o e=>hk b o (by rw[es3];exact Kj _ e);have fY:∀{H':Hp},(∀b∈fp,H' b=none)->∀b∈fp,FpOk Y [] H' b:=λ{H'} hn b hb=>by
  subst eY;obtain⟨_,f1,f2,_,f4,_⟩:=hf3 b hb;refine⟨hn b hb,G7 (flt3 b hb),λz=>?_,.inl hb,λx c h=>?_,λp hp=>absurd (show p∈([]:List (Addr×Obj)) from hp) (by simp)⟩
  ·rcases He.mp (I3.stkSub b z) with e | e
   ·exact f1 e
   ·exact f2 e
  ·rcases Xbw (s:=s3) C I3.ok hz3 h with ⟨a,_⟩ | ⟨_,a⟩
   ·exact λz=>Ht _ (Nat.lt_trans a (by rw[z];exact flt3 b hb))
   ·exact f4 x c a
 have loop:∀s4:Shared,s4 = {s3 with heap:=pushCells (s3.heap.push {cls:=.type "dict",data:=.dict #[]}) scope.names} ->
   codeAny (model X.prog X.w) X.A (.compLoop e 0 (.ref it) (.ref s.heap.objs.size) (compEnvC scope (Dp X scope s3) s3.heap.objs.size X.env))
    (RR (.ref s.heap.objs.size) s3.heap.objs.size) s4:=by
  rintro s4 rfl;have pP:Y.prog=X.prog:=by subst eY;rfl
  have pW:Y.w=X.w:=by subst eY;rfl
  have pK:Y.K=X.K:=by subst eY;rfl
  have pC:Y.calm=true:=by subst eY;exact hcalm
  have pA:Y.A=X.A:=by subst eY;rfl
  have pE:Y.env=compEnvC scope (Dp X scope s3) s3.heap.objs.size X.env:=by subst eY;rfl
  have pX:Y.xe=λ_ _=>False:=by subst eY;rfl
  have T':Turn Y.prog Y.w Y.K tg J fp it tn:=by rw[pP,pW,pK];exact T
  have go:=Xh7 (Y:=Y) (acc:=.ref s.heap.objs.size) (pins:=[]) (R:=RR (.ref s.heap.objs.size) s3.heap.objs.size) cm pX pC (heq _ _ _) (by subst eY;exact hg _ _ _) (by subst eY;exact ht _ _ _) (show PM Y (act s.heap.objs.size Y.env) (tm s.heap.objs.size) by subst eY;exact hm _ _ _ _)
   IY T' hst1 (fY λb hb=>(hf3 b hb).1) lp ?_
  ·rw[pP,pW,pA,pE] at go;exact go
  ·intro σ' H2 s1 I1 q;have IX:Inv X pins σ H2 s1:=by
    subst eY;refine I3.call' (ch:=fp) I1.os I1.base I1.hok I1.bare λb hb=>?_;obtain⟨_,f1,_,f3,f4,f5⟩:=hf3 b hb;exact⟨f3,f1,f4,f5⟩
   have hL:H2 s3.heap.objs.size=none:=by
    have z:=I1.free;rw[pE] at z;exact z
   obtain⟨m,hm,_⟩:=I1.loc;rw[pE] at hm;exact fin s.heap.objs.size s3.heap.objs.size H2 s1 m IX (I3.fpOk (G5 _) hL) hm q
 have lp:=loop _ rfl;have T1:=T.self;subst e3;exact Xh8 cm hcl rfl lp (T1 X.A 0 _ _ _ hst1 lp)
structure AccA (X:Cx) (newAcc:Sem Value) (ob:Obj) (o1:Addr->HO):Prop where
 new:∀(s:Shared) (Q:Value->Shared->Prop) (E':Value->Shared->Prop),Q (.ref s.heap.objs.size) {s with heap:=s.heap.push ob}->wpAny (model X.prog X.w) X.A newAcc Q E' s
 lay:∀pins σ H s,Inv X pins σ H s->Inv X pins σ (upd H s.heap.objs.size (o1 s.heap.objs.size)) {s with heap:=s.heap.push ob}
structure Acc (X:Cx) (newAcc:Sem Value) (ob:Obj) (o0:HO):Prop where
 new:∀(s:Shared) (Q:Value->Shared->Prop) (E':Value->Shared->Prop),Q (.ref s.heap.objs.size) {s with heap:=s.heap.push ob}->wpAny (model X.prog X.w) X.A newAcc Q E' s
 lay:∀pins σ H s,Inv X pins σ H s->Inv X pins σ (upd H s.heap.objs.size o0) {s with heap:=s.heap.push ob}
theorem Xcw:Acc X (newList []) {cls:=.type "list",data:=.seq ([]:List Value).toArray} (.lst []):=⟨λs Q E' h=>wpAny_newObj_type h,λpins σ H s I=>I.lnew (t':=s.toks) .nil (Iu _)⟩
def Xia (cap:List (Option Nat)) (o0:Addr->HO) (wi:TI) (g:TG) (tt:TT) (tm:Addr->TM):TE:=fun σ H Q=>wi σ H λJ H1=>Xct cap o0 g tt tm J σ H1 λD H2=>Q (.ref D) H2
theorem Xib{wi:TI}{pos:Pos}{gens:List Comprehension}(ac:AccA X newAcc ob o1)(he:eval e X.env=comprehension e scope X.env pos newAcc false (eval iter X.env))(hcls:clausesOf e=⟨tg,iter,ifs,0⟩::gens)
  (C:CompScope X N cap scope) (hcalm:X.calm=true) (cm:Cm e) (hi:PI X tg iter wi)
  (heq:∀it D env,compTurn e 0 it (.ref D) env=C9 e 0 tg iter ifs (act D env) it (.ref D) env)
  (hg:∀s0 H0 ex,PG (X.comp N scope s0 H0 ex) tg g) (ht:∀s0 H0 ex,PIfs (X.comp N scope s0 H0 ex) ifs tt) (hm:∀D s0 H0 ex,PM (X.comp N scope s0 H0 ex) (act D (X.comp N scope s0 H0 ex).env) (tm D))
  (hs:∀x,foldedSetIterable iter X.env x=pure x):PE X e (Xia cap o1 wi g tt tm):=by
 intro pins s σ H Q I h;rw[he];refine wpAny_comprehension_free (use:=none) hcls hs (Xbq (Fs C I.ok)) C.kind (λx hx hl=>by rw[C.uniq x hx,hl]) (thn (hi pins s σ H _ I h) λv s1 h1=>thn h1 λitv s2 h2=>?_);obtain⟨it,fp,tn,J,H2,ei,I2,T,st2,f2,R⟩:=h2;subst ei;refine Xcv (RR:=λacc L=>compPost (model X.prog X.w) X.A X.xe none (EP X pins σ Q) acc L) C hcalm cm (by rw[hcls];rfl) ac.new ac.lay heq hg ht hm I2 T st2 f2 R ?_;intro D L H' s' m I' fL hm q;refine⟨m,hm,λh' hs'=>?_⟩;obtain⟨f0,f1,_,f3,f4,f5⟩:=fL;exact⟨.ref D,H',I'.turned (t':=s'.toks) (λb o hb e=>(hs'.2 b hb).trans e) f0 f1 f3 f4 f5,rfl,q⟩
def Xic (cap:List (Option Nat)) (o0:HO) (wi:TI) (g:TG) (tt:TT) (tm:Addr->TM):TE:=fun σ H Q=>wi σ H λJ H1=>Xcu cap o0 g tt tm J σ H1 λD H2=>Q (.ref D) H2
theorem Xid{wi:TI}{pos:Pos}{gens:List Comprehension}(ac:Acc X newAcc ob o0)(he:eval e X.env=comprehension e scope X.env pos newAcc false (eval iter X.env))(hcls:clausesOf e=⟨tg,iter,ifs,0⟩::gens)
  (C:CompScope X N cap scope) (hcalm:X.calm=true) (cm:Cm e) (hi:PI X tg iter wi)
  (heq:∀it D env,compTurn e 0 it (.ref D) env=C9 e 0 tg iter ifs (act D env) it (.ref D) env)
  (hg:∀s0 H0 ex,PG (X.comp N scope s0 H0 ex) tg g) (ht:∀s0 H0 ex,PIfs (X.comp N scope s0 H0 ex) ifs tt) (hm:∀D s0 H0 ex,PM (X.comp N scope s0 H0 ex) (act D (X.comp N scope s0 H0 ex).env) (tm D))
  (hs:∀x,foldedSetIterable iter X.env x=pure x):PE X e (Xic cap o0 wi g tt tm):=
 Xib (o1:=λ_=>o0) ⟨ac.new,ac.lay⟩ he hcls C hcalm cm hi heq hg ht hm hs
def Xie (i:Nat) (cap:List (Option Nat)) (o0:HO) (wi:TI) (g:TG) (tt:TT) (tm:Addr->TM):TS:=λD σ H=>wi σ H λJ H1=>Xcu cap o0 g tt tm J σ H1 λl H2=>D.nx (σ.set i (some (.ref l))) H2
theorem Xif{wi:TI}{i:Nat}{y:Str}{py spos cpos:Pos}{gens:List Comprehension}(ac:Acc X newAcc ob o0)(he:∀use,evalThenUse e X.env use=(do let _ <-comprehension e scope X.env cpos newAcc false (eval iter X.env) (some use)))(hcls:clausesOf e=⟨tg,iter,ifs,0⟩::gens)
  (C:CompScope X N cap scope) (hcalm:X.calm=true) (cm:Cm e) (hN:X.N.Nodup) (hiN:X.N[i]? = some y) (hy:X.env.scope.names.lookup y=some .local) (hi:PI X tg iter wi)
  (heq:∀it D env,compTurn e 0 it (.ref D) env=C9 e 0 tg iter ifs (act D env) it (.ref D) env)
  (hg:∀s0 H0 ex,PG (X.comp N scope s0 H0 ex) tg g) (ht:∀s0 H0 ex,PIfs (X.comp N scope s0 H0 ex) ifs tt) (hm:∀D s0 H0 ex,PM (X.comp N scope s0 H0 ex) (act D (X.comp N scope s0 H0 ex).env) (tm D))
  (hsw:swapsWith e (some (.Name y py)) spos.line X.env=pure true) (hs:∀x,foldedSetIterable iter X.env x=pure x):PS X (.Assign [.Name y py] e spos) (Xie i cap o0 wi g tt tm):=by
 intro pins s σ H D I h;rw[exec_Assign_Name_used _ _ _ _ hsw];refine J9 (wpAny_standAt (J9 ?_));rw[he];refine J9 (thn (wpAny_comprehension_free (use:=some (assign (.Name y py) X.env)) (Q:=λ_ s'=>SP X pins D .next s') hcls hs (Xbq (Fs C I.ok)) C.kind (λx hx hl=>by rw[C.uniq x hx,hl])
  (thn (hi pins s σ H _ I h) λv s1 h1=>thn h1 λitv s2 h2=>?_)) (λ_ s' hq=>Ka (Ka hq)))
 obtain⟨it,fp,tn,J,H2,ei,I2,T,st2,f2,R⟩:=h2;subst ei;refine Xcv (o1:=λ_=>o0) (RR:=λacc L=>compPost (model X.prog X.w) X.A X.xe (some (assign (.Name y py) X.env)) (λ_ s'=>SP X pins D .next s') acc L) C hcalm cm (by rw[hcls];rfl) ac.new ac.lay heq hg ht hm I2 T st2 f2 R ?_;intro l L H' s' m I' fL hm q;obtain⟨f0,f1,_,f3,f4,f5⟩:=fL;show wpAny _ X.A (assign (.Name y py) X.env (.ref l)) _ _ s';refine wpAny_assign_Name (Xac I' hN hiN (.inl hy) (show Ag (.ref l) (.ref l) from rfl) (λs3 I3 ⟨a,sb,ha⟩=>?_) (.inr hy));have hLa:L≠a:=by
  rcases ha with rfl | ha
  ·exact f1
  ·exact λz=>f4 y a ha z.symm
 refine⟨m,hm.sameBut sb hLa,λh' hs'=>?_⟩;exact⟨_,H',I3.turned (t':=s3.toks) (λb o hb e=>(hs'.2 b hb).trans e) f0 f1 f3 f4 f5,q⟩
end
section
variable {X:Cx}{N:List Str}{cap:List (Option Nat)}{scope:Scope}{tg iter tg2 iter2 elt kx vx:Expr}{ifs ifs2:List Expr}{g g2:TG}{tt tt2:TT}{te tk tv:TE}{wi wi2:TI}{pos:Pos}
theorem Em(C:CompScope X N cap scope)(hcalm:X.calm=true)(hi:PI X tg iter wi)
  (hg:∀s0 H0 ex,PG (X.comp N scope s0 H0 ex) tg g) (ht:∀s0 H0 ex,PIfs (X.comp N scope s0 H0 ex) ifs tt) (he:∀s0 H0 ex,PE (X.comp N scope s0 H0 ex) elt te)
  (hs:∀x,foldedSetIterable iter X.env x=pure x:=by intro _;rfl):PE X (.ListComp elt [⟨tg,iter,ifs,0⟩] scope pos) (Xgo cap wi g tt te):=
 Xid (act := fun D env => do let _ <- call (.builtin "list.append") [.ref D, <- eval elt env]) Xcw rfl rfl C hcalm Xcr hi (fun it D env => rfl) hg ht (fun D s0 H0 ex => Xcs (he s0 H0 ex)) hs
theorem F2{i:Nat}{y:Str}{py spos:Pos}(C:CompScope X N cap scope)(hcalm:X.calm=true)(hN:X.N.Nodup)(hiN:X.N[i]? = some y)(hy:X.env.scope.names.lookup y=some .local)(hi:PI X tg iter wi)
  (hg:∀s0 H0 ex,PG (X.comp N scope s0 H0 ex) tg g) (ht:∀s0 H0 ex,PIfs (X.comp N scope s0 H0 ex) ifs tt) (he:∀s0 H0 ex,PE (X.comp N scope s0 H0 ex) elt te)
  (hsw:swapsWith (.ListComp elt [⟨tg,iter,ifs,0⟩] scope pos) (some (.Name y py)) spos.line X.env=pure true:=by rfl)
  (hs:∀x,foldedSetIterable iter X.env x=pure x:=by intro _;rfl):PS X (.Assign [.Name y py] (.ListComp elt [⟨tg,iter,ifs,0⟩] scope pos) spos) (Xgp i cap wi g tt te):=
 Xif (act := fun D env => do let _ <- call (.builtin "list.append") [.ref D, <- eval elt env]) Xcw (fun use => rfl) rfl C hcalm Xcr hN hiN hy hi (fun it D env => rfl) hg ht (fun D s0 H0 ex => Xcs (he s0 H0 ex)) hsw hs
end
mutual
def DAt (H:Hp):PyData->V->Prop
 | .none,v=>v = .non
 | .bool b,v=>v = .bl b
 | .int i,v=>v = .int i
 | .str x,v=>v = .str x
 | .list ds,v=>∃p xs,v = .ref p/\H p=some (.lst xs)/\DAll H ds xs
 | .tuple ds,v=>∃p xs,v = .ref p/\H p=some (.tup xs)/\DAll H ds xs
 | .dict _,_=>False
def DAll (H:Hp):List PyData->List V->Prop
 | [],vs=>vs=[]
 | d::ds,vs=>∃v r,vs=v::r/\DAt H d v/\DAll H ds r
end
theorem F3{H:Hp}:DAll H [] []:=by unfold DAll;rfl
theorem Dt{H:Hp}{d:PyData}{ds:List PyData}{v:V}{vs:List V}(h:DAt H d v)(hs:DAll H ds vs):DAll H (d::ds) (v::vs):=by unfold DAll;exact⟨v,vs,rfl,h,hs⟩
theorem Du{H:Hp}(row:List Str):DAll H (row.map PyData.str) (row.map V.str):=by
 induction row with
 | nil=>exact F3
 | cons x r ih=>exact Dt (by unfold DAt;rfl) ih
theorem Xig{H:Hp}{ds:List PyData}{p:Addr}{xs:List V}(h:H p=some (.tup xs))(hs:DAll H ds xs):DAt H (.tuple ds) (.ref p):=by unfold DAt;exact⟨p,xs,rfl,h,hs⟩
theorem Cw{H:Hp}{ds:List PyData}{p:Addr}{xs:List V}(h:H p=some (.lst xs))(hs:DAll H ds xs):DAt H (.list ds) (.ref p):=by unfold DAt;exact⟨p,xs,rfl,h,hs⟩
theorem Xih{H:Hp}{ds:List PyData}{v:V}(h:DAt H (.tuple ds) v):∃p xs,v = .ref p/\H p=some (.tup xs)/\DAll H ds xs:=by unfold DAt at h;exact h
section
variable {X:Cx}{pins:List (Addr×Obj)}{σ:St}{H:Hp}{s:Shared}
mutual
theorem Dv(I:Inv X pins σ H s):∀(d:PyData) (v:V) (u:Value),DAt H d v->Ag v u->∃as,Reads s.heap u d as
 | .none,v,u,h,r=>by unfold DAt at h;subst h;cases r;exact⟨_,.none⟩
 | .bool b,v,u,h,r=>by unfold DAt at h;subst h;cases r;exact⟨_,.bool b⟩
 | .int i,v,u,h,r=>by unfold DAt at h;subst h;obtain⟨t,rfl⟩:=r;exact⟨_,.int i t⟩
 | .str x,v,u,h,r=>by unfold DAt at h;subst h;obtain⟨t,rfl⟩:=r;exact⟨_,.str x t⟩
 | .list ds,v,u,h,r=>by
  unfold DAt at h;obtain⟨p,xs,rfl,hp,hs⟩:=h;cases r;obtain⟨its,rv,pl,hz⟩:=I.list (SqL.of (K:=X.K) hp);obtain⟨as,ra⟩:=F4 I ds xs its hs rv;obtain⟨o,ho,hc,n,hd⟩:=pl.isList;exact⟨_,.list ho hc hd (by simpa using ra)⟩
 | .tuple ds,v,u,h,r=>by
  unfold DAt at h;obtain⟨p,xs,rfl,hp,hs⟩:=h;cases r;obtain⟨its,rv,pl,hz⟩:=I.tuple (SqT.of (K:=X.K) hp);obtain⟨as,ra⟩:=F4 I ds xs its hs rv;obtain⟨o,ho,hc,n,hd⟩:=pl;exact⟨_,.tuple ho hc hd (by simpa using ra)⟩
 | .dict _,v,u,h,r=>by unfold DAt at h;exact h.elim
theorem F4(I:Inv X pins σ H s):∀(ds:List PyData) (vs:List V) (us:List Value),DAll H ds vs->Vals vs us->∃as,ReadsAll s.heap us ds as
 | [],vs,us,h,r=>by unfold DAll at h;subst h;cases r;exact⟨_,.nil⟩
 | d::ds,vs,us,h,r=>by
  unfold DAll at h;obtain⟨v,vr,rfl,h1,h2⟩:=h;cases r with
  | cons r1 r2=>
   obtain⟨a1,q1⟩:=Dv I d v _ h1 r1;obtain⟨a2,q2⟩:=F4 I ds vr _ h2 r2;exact⟨_,.cons q1 q2⟩
end
theorem Xii(hu:X.A.units+3<cLine):OpR X (compareOp .Eq) (λx y H Q=>∃d d',DAt H d x/\DAt H d' y/\d.canLay0=true/\d'.canLay0=true/\min d.depth d'.depth<=3/\Q (.bl (PyData.eqv d d')) H):=by
 intro pins s σ H x y v u Q I rx ry h;obtain⟨d,d',h1,h2,c1,c2,hd,q⟩:=h;obtain⟨as,ra⟩:=Dv I d x v h1 rx;obtain⟨bs,rb⟩:=Dv I d' y u h2 ry;exact SeqAt.compareEq_reads ra rb c1 c2 (by omega) ⟨.bl _,H,I,rfl,q⟩
theorem Xcx(hu:X.A.units+3<cLine):OpR X (compareOp .NotEq) (λx y H Q=>∃d d',DAt H d x/\DAt H d' y/\d.canLay0=true/\d'.canLay0=true/\min d.depth d'.depth<=3/\Q (.bl (!PyData.eqv d d')) H):=by
 intro pins s σ H x y v u Q I rx ry h;obtain⟨d,d',h1,h2,c1,c2,hd,q⟩:=h;obtain⟨as,ra⟩:=Dv I d x v h1 rx;obtain⟨bs,rb⟩:=Dv I d' y u h2 ry;exact SeqAt.compareNe_reads ra rb c1 c2 (by omega) ⟨.bl _,H,I,rfl,q⟩
end
mutual
def Bb:PyData->Bool
 | .none | .int _=>true
 | .str x=>PyData.strOk x
 | .list xs | .tuple xs=>Bx xs
 | .bool _ | .dict _=>false
def Bx:List PyData->Bool
 | []=>true
 | x::xs=>Bb x&&Bx xs
end
mutual
theorem Cy:∀d:PyData,Bb d=true->d.canLay0=true
 | .none,_=>rfl
 | .int _,_=>rfl
 | .str x,h=>h
 | .list xs,h=>F5 xs h
 | .tuple xs,h=>F5 xs h
 | .bool _,h=>nomatch h
 | .dict _,h=>nomatch h
theorem F5:∀ds:List PyData,Bx ds=true->PyData.canLayAll0 ds=true
 | [],_=>rfl
 | d::ds,h=>by
  have h':(Bb d&&Bx ds)=true:=h;rw[Ie] at h';show (d.canLay0&&PyData.canLayAll0 ds)=true;rw[Cy d h'.1,F5 ds h'.2];rfl
end
mutual
theorem F6:∀(d d':PyData),Bb d=true->Bb d'=true->(PyData.eqv d d'=true↔d=d')
 | .none,d',_,h=>by cases d'<;>simp[PyData.eqv]
 | .int i,d',_,h=>by cases d'<;>simp_all [PyData.eqv,Bb]
 | .str x,d',_,h=>by cases d'<;>simp_all [PyData.eqv,Bb]
 | .list xs,d',g,h=>by
  cases d' with
  | list ys=>
   have:=F7 xs ys g h;simp only[PyData.eqv,this,PyData.list.injEq]
  | _=>simp[PyData.eqv]
 | .tuple xs,d',g,h=>by
  cases d' with
  | tuple ys=>
   have:=F7 xs ys g h;simp only[PyData.eqv,this,PyData.tuple.injEq]
  | _=>simp[PyData.eqv]
 | .bool _,_,g,_=>nomatch g
 | .dict _,_,g,_=>nomatch g
theorem F7:∀(xs ys:List PyData),Bx xs=true->Bx ys=true->(PyData.eqvAll xs ys=true↔xs=ys)
 | [],[],_,_=>by simp[PyData.eqvAll]
 | [],_::_,_,_=>by simp[PyData.eqvAll]
 | _::_,[],_,_=>by simp[PyData.eqvAll]
 | x::xs,y::ys,g,h=>by
  have g':(Bb x&&Bx xs)=true:=g;have h':(Bb y&&Bx ys)=true:=h;rw[Ie] at g' h';have e1:=F6 x y g'.1 h'.1;have e2:=F7 xs ys g'.2 h'.2;simp only[PyData.eqvAll,Ie,e1,e2,List.cons.injEq]
end
theorem Xij{α : Type}[DecidableEq α](f : α->PyData)(inj:∀a b,f a=f b->a=b)(a b : α)(ha:Bb (f a)=true)(hb:Bb (f b)=true):PyData.eqv (f a) (f b)=decide (a=b):=by
 rw[Iy,F6 _ _ ha hb,decide_eq_true_eq];exact⟨inj a b,λe=>by rw[e]⟩
theorem plainAll_map{α : Type}(f : α->PyData):∀(xs:List α),(∀x∈xs,Bb (f x)=true)->Bx (xs.map f)=true
 | [],_=>rfl
 | x::xs,h=>by
  show (Bb (f x)&&Bx (xs.map f))=true;rw[h x Hg,plainAll_map f xs λy hy=>h y (Hb _ hy)];rfl
section
variable {X:Cx}{tg:Expr}
def Xik (tl:TE):TI:=fun σ H R=>tl σ H λx H1=>∃d kvs,x = .ref d/\((H1 d=some (.dK kvs)/\∀o,R (Itd d o kvs) (upd H1 d (.frz o (.dK kvs)))) \/ ∃o,H1 d=some (.frz o (.dK kvs))/\R (Itd d o kvs) H1)
theorem Xil{l:Expr}{tl:TE}(hl:PE X l tl):PI X tg l (Xik tl):=by
 intro pins s σ H R I h;refine thn (hl pins s σ H _ I h) λv s1 ⟨x,H1,I1,r1,q1⟩=>?_;obtain⟨d,kvs,e,q⟩:=q1;subst e;cases r1;rcases q with ⟨hH,q⟩ | ⟨o,hH,q⟩
 ·obtain⟨hz,hm,vs,rv,o,es,ep,ho,hex,hd,r⟩:=I1.hok d _ hH;have hlen:kvs.length=vs.length:=Paired.length rv;refine wpAny_pyIter_dict (knd:=A5 X.prog X.w) hm ⟨o,es,ho,hex,hd,r⟩ ?_;have I2:=I1.freeze hH ho;refine⟨s1.heap.objs.size,[s1.heap.objs.size],_,_,_,rfl,I2.kept (t':=s1.toks) λb o e=>Kj _ e,Fu d _ o es ep hd kvs (G7 (Ki ho)),⟨_,Heap.get?_push_size _ rfl,rfl,by rw[hlen];rfl⟩,λb hb=>?_,q o⟩;have e:b=s1.heap.objs.size:=by simpa using hb
  subst e;exact I2.fpOk (G5 _) (I2.hok.fresh (G5 _))
 ·obtain⟨ho',hok⟩:=(show Aq X.prog X.w H1 s1.heap d (.frz o (.dK kvs)) from I1.hok d _ hH);obtain⟨hz,hm,vs,rv,o',es,ep,ho,hex,hd,r⟩:=hok;have eo:o'=o:=by rw[ho'] at ho;exact(Ha ho).symm
  subst eo;have hlen:kvs.length=vs.length:=Paired.length rv;refine wpAny_pyIter_dict (knd:=A5 X.prog X.w) hm ⟨o',es,ho,hex,hd,r⟩ ?_;refine⟨s1.heap.objs.size,[s1.heap.objs.size],_,_,_,rfl,I1.kept (t':=s1.toks) λb o e=>Kj _ e,Fu d _ o' es ep hd kvs (G7 (Ki ho)),⟨_,Heap.get?_push_size _ rfl,rfl,by rw[hlen];rfl⟩,λb hb=>?_,q⟩;have e:b=s1.heap.objs.size:=by simpa using hb
  subst e;exact I1.fpOk (G5 _) (I1.hok.fresh (G5 _))
end
def hid (D:Addr) (H:Hp):Hp:=λb=>if b=D then none else H b
section
variable {tt:TT}{te:TE}{J:It}{σ:St}{H0 H1:Hp}{D:Addr}{F:St->Hp->Prop}{j:Nat}{xs0:List V}
end
section
variable {X:Cx}{pos np hpos:Pos}{body:List Stmt}{b0:Stmt}{suite:List Stmt}{x:Str}{Cc:Addr}{tb:(Addr->St->Hp->Prop)->TS}{th:TS}
end
section
variable {X:Cx}
theorem Xim:X.calm=true->A9 X (.builtin "any") (λxs H Q=>∃(a:Addr) (bs:List Bool),xs=[.ref a]/\H a=some (.lst (bs.map V.bl))/\Q (.bl (bs.any id)) H):=by
 intro hc pins s σ H xs us Q I r h;obtain⟨a,bs,rfl,ha,q⟩:=h;obtain⟨u,rfl,ru⟩:=Br r;cases ru;obtain⟨its,rv,p,hz⟩:=I.list (SqL.of ha);have hl:=rv.length;rw[G3] at hl;refine call_any_walk (wpAny_pyIter_list p.isList ?_);have hlt:a≠s.heap.objs.size:=by
  obtain⟨o,ho,_⟩:=p.isList;exact G7 (Ki ho)
 refine⟨s.heap.objs.size,_,_,_,_,_,λj=>bs.getD j false,rfl,Walks.list (A:=X.A.in1) (show X.A.in1.handled=none from I.ok.hd hc) s.heap.objs.size a hlt its.toArray,⟨⟨_,Heap.get?_push_size _ rfl,rfl,rfl⟩,p.isList.push _⟩,λi v s' Q' E' hP hQ=>?_,λh' tk k=>?_⟩
 ·have hv:its[i]? = some v:=by simpa using hP
  have hi:i<its.length:=(G6.mp hv).1;have g:(bs.map V.bl)[i]? = some (.bl (bs[i]'(by omega))):=by
   rw[Hd,G4 (by omega)];rfl
  obtain⟨u,hu,ru⟩:=rv.get g;rw[hv] at hu;cases hu;cases ru;have e:bs.getD i false=bs[i]'(by omega):=by simp[List.getD,(by omega:i<bs.length)]
  have hQ':Q' (bs.getD i false) s':=hQ;rw[e] at hQ';exact wpAny_truthy_bool hQ'
 ·refine⟨.bl (bs.any id),H,I.kept (t':=tk) λb o e=>k b o (λz=>?_) (Kj _ e),?_,q⟩
  ·have z':b=s.heap.objs.size:=by simpa using z
   exact absurd (Ki e) (by rw[z'];exact Ht _)
  ·show Value.bool _=Value.bool _;congr 1;rw[G9,<-hl];rw[Iy,Jl,Jl];constructor
   ·rintro ⟨j,hj,e⟩;have hj':=Io.mp hj;refine⟨_,Hl hj',?_⟩;simpa [List.getD,hj'] using e
   ·rintro ⟨b,hb,e⟩;obtain⟨j,hj,rfl⟩:=Ic.mp hb;exact⟨j,Io.mpr hj,by simpa [List.getD,hj] using e⟩
end
end L2
namespace HT
open PySem PySem.Spec PyProof.Rows PySem.Calls L2
section
variable {prog:Program}{w:World}{A:Around}{E:Value->Shared->Prop}{s:Shared}
end
end HT
namespace L2
open PySem PySem.Spec PyProof.Rows
section
variable {X:Cx}{pos p2:Pos}{e:Expr}{te:TE}
def tRevT (te:TE):TE:=fun σ H Q=>te σ H λx H1=>∃a xs,x = .ref a/\H1 a=some (.tup xs)/\∀p,H1 p=none->Q (.ref p) (upd H1 p (.tup xs.reverse))
end
section
variable {X:Cx}{es:List Expr}{t:L2.St->Hp->(Hp->Prop)->Prop}{e:Expr}{te:TE}{pos:Pos}
end
end L2
namespace SH
open PySem PySem.Spec PyProof.Rows L2
structure Bl (mg:Str->Option Value):Prop where
 len:mg "len" = none
 range:mg "range" = none
 list:mg "list" = none
 min:mg "min" = none
 isi:mg "isinstance" = none
 all:mg "all" = none
 str:mg "str" = none
 val:mg "ValueError" = none
 sorted:mg "sorted" = none
 set:mg "set" = none
 enum:mg "enumerate" = none
 int:mg "int" = none
 bool:mg "bool" = none
 tuple:mg "tuple" = none
 any:mg "any" = none
 dict:mg "dict" = none
 sum:mg "sum" = none
 max:mg "max" = none
structure DrawOk (H:Hp) (dr sc:Addr):Prop where
 ex:∃(ns:List Int) (p:Nat) (c m k:Int),H dr=some (.lst [.ref sc,.int p,.int c,.int m,.int k])/\H sc=some (.lst (ns.map V.int))/\p<=ns.length/\ns.length<=63/\0<=m/\m<1000000007
def F8 (K:PySem.W.Frag):Sp:=λvs H Q _=>∃(a:Addr) (ns:List Int),vs=[.ref a]/\SqL K H a (ns.map V.int)/\ns.length<=63/\∀dr sc H',H dr=none->H sc=none->DrawOk H' dr sc->Same H H'->Q (.ref dr) H'
def Xcy:Sp:=λvs H Q _=>∃(dr sc:Addr) (n:Int),vs=[.ref dr,.int n]/\0<n/\n<=1000/\DrawOk H dr sc /\
 ∀r H',0<=r->r<n->DrawOk H' dr sc->(∀b o,H b=some o->b≠dr->H' b=some o)->Q (.int r) H'
abbrev NP:List Str:=["_law_draw", "_law_many", "_law_cell", "_law_got"]
def D5 (H:Hp) (dr sc:Addr) (ns:List Int) (p:Nat) (c m k:Int):Prop:=H dr=some (.lst [.ref sc,.int p,.int c,.int m,.int k])/\H sc=some (.lst (ns.map V.int))
theorem cpow3{m:Int}(h0:0<=m)(h1:m<1000000007):CPow m 3:=⟨by decide,by decide,by omega⟩
def Da (row:List Str) (x:Str) (a b:Nat):List Str:=row.take a++[x]++(row.drop a).take (b - a)++[x]++row.drop b
theorem Xin(row:List Str)(x:Str)(a b:Nat)(hab:a<=b):(Da row x a b).Perm (x::x::row):=by
 unfold Da;have e:row=row.take a++((row.drop a).take (b - a)++row.drop b):=by
  have e1:row.drop b=(row.drop a).drop (b - a):=by rw[List.drop_drop];congr 1;omega
  rw[e1,Ia,Ia]
 generalize hA:row.take a=A at *;generalize hB:(row.drop a).take (b - a)=B at *;generalize hC:row.drop b=C at *;rw[e];have p1:(A++[x]++B++[x]++C).Perm (x::(A++B++[x]++C)):=by
  have:A++[x]++B++[x]++C=A++x::(B++[x]++C):=by simp
  rw[this];refine Iv.trans ?_;simp
 refine p1.trans (List.Perm.cons x ?_);have:A++B++[x]++C=(A++B)++x::C:=by simp
 rw[this];refine Iv.trans ?_;simp
def F9:Sp:=λvs H Q _=>∃(r:Addr) (row:List Str) (x:Str) (a b:Nat),vs=[.ref r,.str x,.int a,.int b]/\H r=some (.lst (row.map V.str))/\row.length<=1000/\a<=b/\b<=row.length /\
 ∀l H',H l=none->H' l=some (.lst ((Da row x a b).map V.str))->Same H H'->Q (.ref l) H'
abbrev NPut:List Str:=["_law_row_here", "_law_name", "_law_at", "_law_to", "_law_told"]
def Bi (x:Str):Nat->List Str->List Int
 | _,[]=>[]
 | n,y::r=>if y=x then (n:Int)::Bi x (n+1) r else Bi x (n+1) r
def plc (row:List Str) (x:Str):List Int:=Bi x 0 row
theorem Xcz(x y:Str):∀(n:Nat) (r:List Str),Bi x n (r++[y])=Bi x n r++(if y=x then [((n+r.length:Nat):Int)] else [])
 | n,[]=>by
  show (if y=x then ((n:Nat):Int)::Bi x (n+1) [] else Bi x (n+1) [])=_;split<;>simp[Bi]
 | n,z::r=>by
  have ih:=Xcz x y (n+1) r;show (if z=x then (n:Int)::Bi x (n+1) (r++[y]) else Bi x (n+1) (r++[y]))=(if z=x then (n:Int)::Bi x (n+1) r else Bi x (n+1) r)++_;rw[ih,List.length_cons,show n+1+r.length=n+(r.length+1) by omega];split<;>simp
theorem Ga(x:Str):∀(n:Nat) (r:List Str),(Bi x n r).length=r.count x
 | _,[]=>rfl
 | n,z::r=>by
  show (if z=x then (n:Int)::Bi x (n+1) r else Bi x (n+1) r).length=_;rw[List.count_cons];split
  ·rename_i e;rw[List.length_cons,Ga,Kd (by simpa using e)]
  ·rename_i e;rw[Ga,Kc (by simpa using e)];rfl
theorem Gb(row:List Str)(x:Str):(plc row x).length=row.count x:=Ga x 0 row
theorem Xc0(r:List Str)(x y:Str):plc (r++[y]) x=plc r x++(if y=x then [(r.length:Int)] else []):=by
 have e:=Xcz x y 0 r;rw[Nat.zero_add] at e;exact e
structure Wh (H:Hp) (kvs:List (Key×V)) (row:List Str):Prop where
 keys:∀k∈kvs.map (·.1),∃x,k=Sum.inr x/\x∈row
 val:∀x∈row,∃l,An kvs (Sum.inr x:Key)=some (.ref l)/\H l=some (.lst ((plc row x).map V.int))
 none:∀x,x∉row->An kvs (Sum.inr x:Key)=none
 nd:(kvs.map (·.1)).Nodup
 len:kvs.length<=row.length
theorem Xc1{kvs:List (Key×V)}{k:Key}{v:V}{l:V}(h:An kvs k=some l):(A1 kvs k v).map (·.1)=kvs.map (·.1):=by
 unfold A1;rw[Cu,h,Kd J6,Jg];refine J3 λp _=>?_;show (if p.1=k then (p.1,v) else p).1=p.1;split<;>rfl
theorem Wh.snoc{H H':Hp}{kvs:List (Key×V)}{row:List Str}(w:Wh H kvs row)(y:Str)(l:Addr)(hl:H' l=some (.lst ((plc (row++[y]) y).map V.int)))
  (s:∀b xs,H b=some (.lst xs)->H' b=some (.lst xs)):Wh H' (A1 kvs (Sum.inr y) (.ref l)) (row++[y]):=by
 refine⟨λk hk=>?_,λx hx=>?_,λx hx=>?_,?_,?_⟩
 ·by_cases hy:y∈row
  ·obtain⟨l0,e,_⟩:=w.val y hy;rw[Xc1 e] at hk;obtain⟨x,e1,e2⟩:=w.keys k hk;exact⟨x,e1,Ix _ e2⟩
  ·rw[Xbh _ (w.none y hy),Hj] at hk;rcases Hn.mp hk with hk | hk
   ·obtain⟨x,e1,e2⟩:=w.keys k hk;exact⟨x,e1,Ix _ e2⟩
   ·exact⟨y,by simpa using hk,by simp⟩
 ·rw[Xbg];by_cases e:x=y
  ·subst e;exact⟨l,Kd rfl,hl⟩
  ·have hx':x∈row:=by
    rcases Hn.mp hx with z | z
    ·exact z
    ·exact absurd (Hs.mp z) e
   obtain⟨l0,e1,e2⟩:=w.val x hx';refine⟨l0,by rw[Kc (λz=>e (Sum.inr.inj z))];exact e1,?_⟩;rw[Xc0,Kc (λz=>e z.symm),Jd];exact s _ _ e2
 ·rw[Xbg];have h1:x∉row:=λz=>hx (Ix _ z);have h2:x≠y:=λz=>hx (by rw[z];simp);rw[Kc (λz=>h2 (Sum.inr.inj z))];exact w.none x h1
 ·by_cases hy:y∈row
  ·obtain⟨l0,e,_⟩:=w.val y hy;rw[Xc1 e];exact w.nd
  ·exact Xgl _ w.nd (w.none y hy)
 ·have:=Ec kvs (Sum.inr y:Key) (.ref l);have:=w.len;rw[Hi,Ij];omega
def Gc:Sp:=λvs H Q _=>∃(r:Addr) (row:List Str),vs=[.ref r]/\H r=some (.lst (row.map V.str))/\row.length<=1000 /\
 ∀d kvs H',H d=none->H' d=some (.dK kvs)->Wh H' kvs row->Same H H'->Q (.ref d) H'
abbrev NWh:List Str:=["_law_row_here", "_law_told", "_law_at"]
def inn (a b:Int) (ys:List Int):List Int:=ys.filter λt=>decide (a<t)&&decide (t<b)
theorem Xc2(a b:Int)(ys:List Int):(inn a b ys).length<=ys.length:=Jw ..
def words3:List Str:=["same", "cross", "around"]
def Ge (a b c e:Int) (same:Bool):Str:=
 if (same||decide (0<(inn a b [c,e]).length))=true then words3.getD (inn a b [c,e]).length "apart" else if c<a/\b<e then "within" else "apart"
def spWord:Sp:=λvs H Q _=>∃(d l1 l2:Addr) (kvs:List (Key×V)) (x y:Str) (a b c e:Int),vs=[.ref d,.str x,.str y]/\Rd H d (.dK kvs)/\An kvs (Sum.inr x:Key)=some (.ref l1)/\An kvs (Sum.inr y:Key)=some (.ref l2) /\
 H l1=some (.lst [.int a,.int b])/\H l2=some (.lst [.int c,.int e])/\∀H',Same H H'->Q (.str (Ge a b c e (decide (x=y)))) H'
abbrev NWo:List Str:=["_law_where_here", "_law_one", "_law_other", "_law_low", "_law_high", "_law_inner"]
theorem Rd.same{H H':Hp}{d:Addr}{o:HO}(r:Rd H d o)(s:Same H H'):Rd H' d o:=by
 rcases r with r | ⟨u,r⟩
 ·exact .inl (s _ _ r)
 ·exact .inr ⟨u,s _ _ r⟩
theorem DGet.rd{H:Hp}{a:Addr}{kvs:List (Key×V)}{x:Str}{v:V}(e:Rd H a (.dK kvs))(h:An kvs (Sum.inr x:Key)=some v):DGet H a (.str x) (some v):=.inl ⟨kvs,Sum.inr x,e,rfl,h.symm⟩
theorem Xio{row:List Str}{x:Str}(h:row.count x=2):∃a b,plc row x=[a,b]:=by
 have e:=Gb row x;rw[h] at e
 match q:plc row x,e with
 | [a,b],_=>exact⟨a,b,rfl⟩
theorem Wh.two{H:Hp}{kvs:List (Key×V)}{row:List Str}{x:Str}(w:Wh H kvs row)(hx:x∈row)(h:row.count x=2):∃l a b,An kvs (Sum.inr x:Key)=some (.ref l)/\H l=some (.lst [.int a,.int b]):=by
 obtain⟨l,h1,h2⟩:=w.val x hx;obtain⟨a,b,e⟩:=Xio h;rw[e] at h2;exact⟨l,a,b,h1,h2⟩
def spBarred:Sp:=λvs H Q _=>∃(r:Addr) (row:List Str) (x:Str),vs=[.ref r,.str x]/\H r=some (.lst (row.map V.str))/\row.length<=1000/\(∀y∈row,row.count y=2)/\x∈row /\
 ∀b H',Same H H'->Q (.bl b) H'
abbrev NBa:List Str:=["_law_row_here", "_law_name", "_law_where_here", "_law_met", "_law_at", "_law_other"]
abbrev NBc:List Str:=["_law_one", "_law_name", "_law_where_here"]
abbrev Cz:Str := "kqvzbdgmprtxhnjfwlycsaeiou"
def signOf (i:Nat):Str:=⟨#[(Cz.cps.toList).getD i 0]⟩
def Dw (st:Nat) (late:Bool) (k:Nat):Str:=
 if late=true then (repS "m" ((st+k * k) % 7)++signOf ((st+k) % 26)) ++ "y" else signOf ((st+k) % 26)++repS "m" ((st+k * k) % 7)
def A2 (st:Nat) (late:Bool) (n:Nat):List Str:=(List.range n).map (Dw st late)
theorem Xip:∀st<26,∀late:Bool,(A2 st late 14).Nodup:=by decide +kernel
theorem En{st:Nat}{late:Bool}{n:Nat}(hs:st<26)(hn:n<=14):(A2 st late n).Nodup:=by
 refine(Xip st hs late).sublist ?_;unfold A2;refine List.Sublist.map _ ?_;have e:List.range 14=List.range n++(List.range (14 - n)).map (n + ·):=by
  rw[<-List.range_add];congr 1;omega
 rw[e];exact List.sublist_append_left ..
def But (dr:Addr) (H H':Hp):Prop:=∀b o,H b=some o->b≠dr->H' b=some o
theorem But.refl(dr:Addr)(H:Hp):But dr H H:=λ_ _ e _=>e
theorem But.trans{dr:Addr}{H H1 H2:Hp}(a:But dr H H1)(b:But dr H1 H2):But dr H H2:=λc o e h=>b c o (a c o e h) h
theorem But.same{dr:Addr}{H H1 H2:Hp}(a:But dr H H1)(b:Same H1 H2):But dr H H2:=λc o e h=>b c o (a c o e h)
theorem But.free{dr b:Addr}{H H':Hp}{o:HO}(a:But dr H H')(hd:H' dr=some o)(h:H' b=none):H b=none:=by
 cases q:H b with
 | none=>rfl
 | some u=>
  by_cases e:b=dr
  ·rw[e,hd] at h;cases h
  ·rw[a b u q e] at h;cases h
theorem But.upd{dr a:Addr}{H H':Hp}{o:HO}(x:But dr H H')(h:H a=none):But dr H (L2.upd H' a o):=λb u e hb=>by
 rw[Af (Aw e h)];exact x b u e hb
theorem DrawOk.at{H:Hp}{dr sc:Addr}(d:DrawOk H dr sc):∃xs,H dr=some (.lst xs):=let ⟨_,_,_,_,_,h,_⟩:=d.ex; ⟨_,h⟩
theorem DrawOk.same{H H':Hp}{dr sc:Addr}(d:DrawOk H dr sc)(s:Same H H'):DrawOk H' dr sc:=
 let ⟨ns,p,c,m,k,h1,h2,r⟩:=d.ex; ⟨ns,p,c,m,k,s _ _ h1,s _ _ h2,r⟩
theorem DrawOk.upd{H:Hp}{dr sc a:Addr}{o:HO}(d:DrawOk H dr sc)(h1:a≠dr)(h2:a≠sc):DrawOk (L2.upd H a o) dr sc:=
 let ⟨ns,p,c,m,k,e1,e2,r⟩:=d.ex; ⟨ns,p,c,m,k,by rw[Af h1.symm];exact e1,by rw[Af h2.symm];exact e2,r⟩
theorem DrawOk.ne{H:Hp}{dr sc a:Addr}(d:DrawOk H dr sc)(h:H a=none):a≠dr/\a≠sc:=by
 obtain⟨ns,p,c,m,k,e1,e2,r⟩:=d.ex;exact⟨(Aw e1 h).symm,(Aw e2 h).symm⟩
def Eo:Sp:=λvs H Q _=>∃(dr sc:Addr) (n:Nat),vs=[.ref dr,.int n]/\n<=14/\DrawOk H dr sc /\
 ∀l st late H',H l=none->st<26->H' l=some (.lst ((A2 st late n).map V.str))->l≠sc->DrawOk H' dr sc->But dr H H'->Q (.ref l) H'
abbrev FnPick (P:Program) (w:World) (K:PySem.W.Frag) (mg:Str->Option Value) (base:Heap):Prop:=Fn P w K mg base CX0 1 "_law_pick" ["_law_draw", "_law_many"] Xcy
abbrev NNa:List Str:=["_law_draw", "_law_many", "_law_base", "_law_start", "_law_late", "_law_told", "_law_k", "_law_sign", "_law_hum"]
theorem Xiq{i:Nat}(h:i<26):atI Cz.cps.toList (i:Int)=some ((Cz.cps.toList).getD i 0):=by
 have hl:i<Cz.cps.toList.length:=h;refine Ci ?_;rw[G4 hl];simp[List.getD,G4 hl]
theorem Xc3{l:List Str}(h:l.Nodup){row:List Str}(p:row.Perm (l++l)):∀y∈row,row.count y=2:=λy hy=>by
 rw[p.count_eq,List.count_append];have hy':y∈l:=by
  rcases Hn.mp (p.mem_iff.mp hy) with z | z
  ·exact z
  ·exact z
 have e1:l.count y<=1:=List.nodup_iff_count.mp h y;have e2:0<l.count y:=List.count_pos_iff.mpr hy';omega
theorem Xc4{A row more:List Str}{x:Str}(p:row.Perm (A++A))(q:more.Perm (x::x::row)):more.Perm ((A++[x])++(A++[x])):=by
 refine q.trans (((p.cons x).cons x).trans ?_);have e:(A++[x])++(A++[x])=A++x::(A++x::[]):=by simp
 rw[e];refine List.Perm.trans ?_ Iv.symm;refine List.Perm.cons x ?_;have e2:A++(A++x::[])=(A++A)++x::[]:=by simp
 rw[e2];refine List.Perm.trans ?_ Iv.symm;simp
def spRow:Sp:=λvs H Q _=>∃(dr sc nl:Addr) (ns:List Str),vs=[.ref dr,.ref nl]/\DrawOk H dr sc/\H nl=some (.lst (ns.map V.str))/\nl≠dr/\ns.Nodup/\ns.length<=14 /\
 ∀(l:Addr) (row:List Str) (H':Hp),H l=none->H' l=some (.lst (row.map V.str))->row.Perm (ns++ns)->DrawOk H' dr sc->But dr H H'->Q (.ref l) H'
abbrev NRo:List Str:=["_law_draw", "_law_names_here", "_law_cut", "_law_row_here", "_law_name", "_law_at", "_law_to", "_law_more"]
def spIsland:Sp:=λvs H Q _=>∃(dr sc:Addr) (m:Nat),vs=[.ref dr,.int m]/\m<=14/\DrawOk H dr sc /\
 ∀(l:Addr) (row:List Str) (n st:Nat) (late:Bool) (H':Hp),H l=none->n<=m->st<26->H' l=some (.lst (row.map V.str))->row.Perm (A2 st late n++A2 st late n)->DrawOk H' dr sc->But dr H H'->Q (.ref l) H'
abbrev NIs:List Str:=["_law_draw", "_law_most", "_law_few", "_law_many"]
theorem Gf(K:PySem.W.Frag)(T:String):PySem.W.kitOne K (.type T) (.type T)=some true:=by
 unfold PySem.W.kitOne;rw[Kd (beq_self_eq_true _)]
def okN (x:Str):Prop:=x.length<=20/\∀c∈x.cps.toList,c<0x110000
end SH
namespace L2
open PySem PySem.Spec PyProof.Rows
theorem Dx{α : Type}(f : α->V)(d : α)(xs:List α){i:Nat}(hi:i<xs.length):(xs.map f).getD i .non=f (xs.getD i d):=by simp[List.getD,hi]
end L2
namespace SH
open PySem PySem.Spec PyProof.Rows L2
structure Isl (row:List Str):Prop where
 ex:∃n st late,n<=14/\st<26/\row.Perm (A2 st late n++A2 st late n)
theorem Xc5{st n:Nat}{late:Bool}(hn:n<=14){x:Str}(h:x∈A2 st late n):x∈A2 st late 14:=by
 unfold A2 at h ⊢;obtain⟨i,hi,rfl⟩:=Hq.mp h;exact Hq.mpr ⟨i,Io.mpr (by have:=Io.mp hi;omega),rfl⟩
instance (x:Str):Decidable (okN x):=inferInstanceAs (Decidable (_/\_))
theorem Xc6:∀st<26,∀late:Bool,∀x∈A2 st late 14,okN x:=by decide +kernel
theorem Isl.two{row:List Str}(h:Isl row):∀y∈row,row.count y=2:=by
 obtain⟨n,st,late,hn,hs,p⟩:=h.ex;exact Xc3 (En hs hn) p
theorem Isl.len{row:List Str}(h:Isl row):row.length<=28:=by
 obtain⟨n,st,late,hn,hs,p⟩:=h.ex;have:=p.length_eq;unfold A2 at this;simp at this;omega
theorem Isl.ok{row:List Str}(h:Isl row):∀y∈row,okN y:=λy hy=>by
 obtain⟨n,st,late,hn,hs,p⟩:=h.ex;refine Xc6 st hs late y (Xc5 hn ?_);rcases Hn.mp (p.mem_iff.mp hy) with z | z<;>exact z
def Xko:List Str->Str
 | [] => "noneatal"
 | y::_=>Txt.slice y none (some 7)++Str.ofString "q"
theorem Xir{x:Str}(h:okN x):Bb (.str x)=true:=by
 show PyData.strOk x=true;unfold PyData.strOk;rw[<-Array.all_toList,Jm];intro c hc;exact Ke (h.2 c hc)
def pl (row:List Str) (x:Str):Int×Int:=((plc row x).getD 0 0,(plc row x).getD 1 0)
def nIn (a b:Int) (ys:List Int):Nat:=(inn a b ys).length
def lieT (a b c e:Int):Str:=if a=c/\b=e then "same" else if nIn c e [a,b]=1 then "cross" else if nIn c e [a,b]=2 then "within" else if nIn a b [c,e]=2 then "around" else "apart"
def lieR (row:List Str) (x y:Str):Str:=lieT (pl row x).1 (pl row x).2 (pl row y).1 (pl row y).2
def crs (row:List Str):List (Str×Str):=(dit row).flatMap λx=>((dit row).filter λy=>decide (ltS x y)&&decide (lieR row x y = "cross")).map λy=>(x,y)
structure Spn (H:Hp) (kvs:List (Key×V)) (row:List Str) (ns:List Str):Prop where
 keys:kvs.map (·.1)=ns.map (λx=>(Sum.inr x:Key))
 val:∀x∈ns,∃l,An kvs (Sum.inr x:Key)=some (.ref l)/\H l=some (.tup [.int (pl row x).1,.int (pl row x).2])
end SH
namespace L2
open PySem
theorem hu3{A:Around}{k:Nat}(hr:Room k A):A.units+3<cLine:=by have:=hr.units;omega
end L2
namespace SH
open PySem PySem.Spec PyProof.Rows L2
structure Row2 (row:List Str):Prop where
 two:∀y∈row,row.count y=2
 ok:∀y∈row,okN y
 len:row.length<=60
theorem Isl.row2{row:List Str}(h:Isl row):Row2 row:=⟨h.two,h.ok,by have:=h.len;omega⟩
def Lie4 (a b c e:Int):Prop:=c<=e/\(b=e->a=c)
theorem Xc7{ns:List Str}{i:Nat}(hi:i<ns.length):ns.getD i Str.empty∈ns:=by
 have:ns.getD i Str.empty=ns[i]:=by simp[List.getD,hi]
 rw[this];exact Hl hi
theorem Xc8{H:Hp}:∀{ss:List Str} {xs:List V},DAll H (ss.map PyData.str) xs->xs=ss.map V.str
 | [],xs,h=>by unfold List.map DAll at h;exact h
 | s::ss,xs,h=>by
  rw[Hv] at h;unfold DAll at h;obtain⟨v,r,rfl,h1,h2⟩:=h;unfold DAt at h1;rw[h1,Xc8 h2];rfl
def spTuple:Sp:=λvs H Q _=>∃(v:V) (ss:List Str),vs=[v]/\DAt H (.tuple (ss.map PyData.str)) v/\ss.length<=1000/\∀H',Same H H'->Q (.bl true) H'
def Xis (how:Str) (off:Bool):Bool:=if how = "within" then off else (!decide (how = "apart") || !off)
def told (ss:List Str):List Str:=srt (ddup ss)
def Ep (row plot:List Str):Bool:=decide (plot=told plot)&&plot.all (λx=>decide (x∈row))&&plot.all λx=>(dit row).all λy=>Xis (lieR row x y) (decide (y∈plot))
def trD (t:Str×Str×Str):PyData:=.tuple [.str t.1,.str t.2.1,.str t.2.2]
def Xc9 (row:List Str) (x y:Str):Bool:=decide (lieR row x y = "within")||(decide (lieR row x y = "apart")&&decide (ltS x y))
def bars (row:List Str):List (Str×Str×Str):=(dit row).flatMap λx=>((dit row).filter (Xc9 row x)).map λy=>(x,y,lieR row x y)
theorem Xit(a b:List Str)(h:PyData.tuple (a.map PyData.str)=PyData.tuple (b.map PyData.str)):a=b:=by
 injection h with h
 exact(List.map_inj_right (λx y e=>by injection e)).mp h
theorem Xda{ss:List Str}(h:∀y∈ss,okN y):Bx (ss.map PyData.str)=true:=plainAll_map PyData.str ss λx hx=>Xir (h x hx)
theorem Xiu{ss:List Str}(h:∀y∈ss,okN y):Bb (.tuple (ss.map PyData.str))=true:=Xda h
theorem Xdb{ss:List Str}(h:∀y∈ss,okN y):Bb (.list (ss.map PyData.str))=true:=Xda h
theorem Er:∀(ss:List Str),PyData.depthAll (ss.map PyData.str)=0
 | []=>rfl
 | s::ss=>by
  rw[Hv];unfold PyData.depthAll;rw[Er ss];rfl
theorem Xdc{H:Hp}{p:Addr}{ss:List Str}(h:H p=some (.tup (ss.map V.str))):DAt H (.tuple (ss.map PyData.str)) (.ref p):=Xig h (Du ss)
end SH
namespace L2
open PySem PySem.Spec PyProof.Rows
def Xkp (K:PySem.W.Frag) (i:Nat):TE:=fun σ H Q=>∃v, σ[i]? = some (some v)/\∃p ss,v = .ref p/\(SqL K H p (ss.map V.str)\/SqT K H p (ss.map V.str))/\ss.length<=60/\∀l H',H l=none->H' l=some (.lst ((dit ss).map V.str))->Same H H'->Q (.ref l) H'
end L2
namespace SH
open PySem PySem.Spec PyProof.Rows L2
theorem Isl.dlen{row:List Str}(h:Isl row):(dit row).length<=14:=by
 obtain⟨n,st,late,hn,hs,p⟩:=h.ex;have hp:(dit row).Perm (A2 st late n):=Xcn (F1 row) (En hs hn) λx=>by
  rw[F0,p.mem_iff,Hn,or_self]
 rw[hp.length_eq];unfold A2;rw[G3,Ir];exact hn
def Xkq (row:List Str) (x:Str) (ys:List Str):List (Str×Str×Str):=(ys.filter (Xc9 row x)).map λy=>(x,y,lieR row x y)
def mid (row:List Str) (x:Str):List Str:=((row.dropWhile λy=>decide (y≠x)).tail).takeWhile λy=>decide (y≠x)
def Xiv (row:List Str) (x y:Str):Prop:=lieR row x y = "cross"
instance (row:List Str) (x y:Str):Decidable (Xiv row x y):=inferInstanceAs (Decidable (_=_))
def upB (row:List Str) (x y:Str):Bool:=decide (y=x)||decide (lieR row x y = "within")
def cands (row:List Str):List (List Str):=(dit row).map (λa=>(dit row).filter (upB row a))++(crs row).map λp=>(dit row).filter λy=>upB row p.1 y||upB row p.2 y
end SH
namespace L2
open PySem PySem.Spec PyProof.Rows
open PySem.W (KasT kas_asc kas_desc kas_rev kas_tail3 kas_descPart kas_count kas_place kas_bin kas_sort kas_ask kas_item kat_run kat_snds kat_kind kat_lt KatLex kat_cons kat_go kat_yes kat_no kat_one kat_nil KatTups)
def KAll {α : Type} (n:Nat) (P : α->Prop):KasT α->Prop
 | .ret a=>P a
 | .ask i j k=>i<n/\j<n/\∀b,KAll n P (k b)
theorem KAll.bind{α β : Type}{n:Nat}{P : α->Prop}{Q : β->Prop}{f : α->KasT β}(hf:∀a,P a->KAll n Q (f a)):∀{t:KasT α},KAll n P t->KAll n Q (t.bind f)
 | .ret a,h=>hf a h
 | .ask i j k,h=>⟨h.1,h.2.1,λb=>KAll.bind hf (h.2.2 b)⟩
def Gd (n:Nat) (p:Array Nat):Prop:=p.Perm (List.toArray (List.range n))
theorem Gd.lt{n:Nat}{p:Array Nat}(h:Gd n p)(hn:0<n)(i:Nat):p.getD i 0<n:=by
 by_cases hi:i<p.size
 ·have e:p.getD i 0=p[i]:=by simp[Array.getD,hi]
  rw[e];have:p[i]∈p:=Array.getElem_mem hi;have:=h.mem_iff.mp this;simpa using this
 ·have e:p.getD i 0=0:=by simp[Array.getD,hi]
  rw[e];exact hn
theorem Gd.rev{n:Nat}{p:Array Nat}(h:Gd n p)(i j:Nat):Gd n (kas_rev p i j):=(mirror_perm p i j _).trans h
theorem Gg{n:Nat}(hn:0<n){p:Array Nat}(h:Gd n p):∀f m,KAll n (λ_=>True) (kas_asc p f m)
 | 0,_=>trivial
 | f+1,m=>⟨h.lt hn _,h.lt hn _,λb=>by
  cases b with
  | true=>exact trivial
  | false=>exact Gg hn h f (m+1)⟩
theorem Es{n:Nat}(hn:0<n):∀f (p:Array Nat) m q,Gd n p->KAll n (λr=>Gd n r.1) (kas_desc f p m q)
 | 0,p,m,q,h=>h
 | f+1,p,m,q,h=>⟨h.lt hn _,h.lt hn _,λb=>by
  cases b with
  | true=>
   show KAll n _ (if q > 0 then kas_desc f (kas_rev p (m - (q+1)) m) (m+1) 0 else kas_desc f p (m+1) 0);split
   ·exact Es hn f _ _ _ (h.rev _ _)
   ·exact Es hn f _ _ _ h
  | false=>
   refine⟨h.lt hn _,h.lt hn _,λd=>?_⟩;cases d with
   | true=>exact h
   | false=>exact Es hn f _ _ _ h⟩
theorem Xdd{n:Nat}(hn:0<n){p:Array Nat}(h:Gd n p)(m r:Nat):KAll n (λr=>Gd n r.2) (kas_tail3 m r p):=by
 unfold kas_tail3;refine KAll.bind (P:=λ_=>True) (Q:=λ(r:Nat×Array Nat)=>Gd n r.2) (λa _=>?_) (Gg hn (h.rev 0 m) _ _);exact h.rev 0 m
theorem Xde{n:Nat}(hn:0<n){p:Array Nat}(h:Gd n p)(m r:Nat):KAll n (λr=>Gd n r.2) (kas_descPart m r p):=by
 refine KAll.bind (P:=λr=>Gd n r.1) (λa ha=>?_) (Es hn _ _ _ _ h);split
 ·exact Xdd hn (ha.rev _ _) _ _
 ·exact Xdd hn ha _ _
theorem Xiw{n:Nat}(hn:0<n){p:Array Nat}(h:Gd n p)(r:Nat):KAll n (λr=>Gd n r.2) (kas_count r p):=by
 refine KAll.bind (P:=λ_=>True) (λa _=>?_) (Gg hn h _ _);split
 ·exact h
 ·split
  ·refine⟨h.lt hn _,h.lt hn _,λb=>?_⟩;cases b with
   | true=>exact h
   | false=>exact Xde hn (h.rev _ _) _ _
  ·exact Xde hn h _ _
theorem Gh{n:Nat}(hn:0<n){p:Array Nat}(h:Gd n p)(k:Nat):∀f l r,KAll n (λ_=>True) (kas_place p k f l r)
 | 0,_,_=>trivial
 | f+1,l,r=>by
  show KAll n _ (if l ≥ r then _ else _);split
  ·exact trivial
  ·refine⟨h.lt hn _,h.lt hn _,λb=>?_⟩;cases b with
   | true=>exact Gh hn h k f _ _
   | false=>exact Gh hn h k f _ _
theorem Xdf{n:Nat}(hn:0<n):∀f (p:Array Nat) k,Gd n p->KAll n (Gd n) (kas_bin f p k)
 | 0,p,_,h=>h
 | f+1,p,k,h=>KAll.bind (P:=λ_=>True) (λl _=>Xdf hn f _ _ ((bubble_perm p k _).trans h)) (Gh hn h k _ _ _)
theorem Xdg{n:Nat}(hn:0<n):KAll n (Gd n) (kas_sort n):=by
 refine KAll.bind (P:=λr=>Gd n r.2) (λa ha=>?_) (Xiw hn (Array.Perm.refl _) n);split
 ·exact Xdf hn _ _ _ ha
 ·exact ha
section
variable {prog:Program}{w:World}{A:Around}{E:Value->Shared->Prop}{s:Shared}
def Xdh (h:Heap) (v:Value):Prop:=∃a o xs n ss,v = .ref a/\h.get? a=some o/\o.cls = .type "tuple" /\ o.data = .seq xs n/\StrsAre xs.toList ss/\ss≠[]
theorem Xdi:∀{vs:List Value},(∀v∈vs,Xdh s.heap v)->∃fs,KatTups s.heap vs fs/\fs.length=vs.length/\∀f∈fs,∃x t,f = .str x t
 | [],_=>⟨[],KatTups.nil,rfl,λ_ h=>by cases h⟩
 | v::vs,h=>by
  obtain⟨fs,h1,h2,h3⟩:=Xdi (vs:=vs) λu hu=>h u (Hb _ hu);obtain⟨a,o,xs,n,ss,rfl,g1,g2,g3,g4,g5⟩:=h v Hg;obtain⟨f,x,t,hf,rfl⟩:∃f x t,xs[0]? = some f/\f = .str x t:=by
   have e:xs[0]? = xs.toList[0]?:=by simp
   rw[e];generalize xs.toList=l at g4;cases g4 with
   | nil=>exact absurd rfl g5
   | cons x t r=>exact⟨_,x,t,rfl,rfl⟩
  exact⟨_::fs,KatTups.cons g1 g2 g3 hf h1,by simp[h2],λf hf=>by
   rcases He.mp hf with e | e
   ·exact⟨x,t,e⟩
   ·exact h3 f e⟩
end
section
variable {X:Cx}
end
section
variable {X:Cx}
end
end L2
namespace SH
open PySem PySem.Spec PyProof.Rows L2
def Bn (ss:List Str):PyData:=.tuple (ss.map PyData.str)
def Plts (row:List Str) (H:Hp) (ps:List Addr):Prop:=∀p∈ps,∃ss:List Str,H p=some (.tup (ss.map V.str))/\Ep row ss=true
structure Fresh (row:List Str) (H:Hp) (f:Addr) (xs:List V) (Ts:List (List Str)):Prop where
 at':H f=some (.lst xs)
 all:DAll H (Ts.map Bn) xs
 nd:Ts.Nodup
 ok:∀T∈Ts,T≠[]/\Ep row T=true
end SH
namespace L2
open PySem PySem.Spec PyProof.Rows
def Tups (H:Hp) (ps:List Addr) (Ts:List (List Str)):Prop:=ps.length=Ts.length/\∀i,i<ps.length->H (ps.getD i 0)=some (.tup ((Ts.getD i []).map V.str))
theorem Tups.same{H H':Hp}{ps:List Addr}{Ts:List (List Str)}(h:Tups H ps Ts)(s:Same H H'):Tups H' ps Ts:=⟨h.1,λi hi=>s _ _ (h.2 i hi)⟩
theorem Tups.nil(H:Hp):Tups H [] []:=⟨rfl,λi hi=>absurd hi (Js _)⟩
theorem Tups.cons{H:Hp}{p:Addr}{T:List Str}{ps:List Addr}{Ts:List (List Str)}(h:H p=some (.tup (T.map V.str)))(r:Tups H ps Ts):Tups H (p::ps) (T::Ts):=by
 refine⟨by simp[r.1],λi hi=>?_⟩;cases i with
 | zero=>exact h
 | succ i=>exact r.2 i (by simpa using hi)
theorem Tups.app{H:Hp}:∀{ps qs:List Addr} {Ts Us:List (List Str)},Tups H ps Ts->Tups H qs Us->Tups H (ps++qs) (Ts++Us)
 | [],qs,Ts,Us,h,g=>by
  have:Ts=[]:=Hy.mp h.1.symm;rw[this];exact g
 | p::ps,qs,[],Us,h,g=>by have:=h.1;simp at this
 | p::ps,qs,T::Ts,Us,h,g=>by
  have r:Tups H ps Ts:=⟨by simpa using h.1,λi hi=>by simpa using h.2 (i+1) (by simpa using hi)⟩;exact Tups.cons (h.2 0 (by simp)) (Tups.app r g)
open PySem.W (KasT kas_asc kas_desc kas_rev kas_tail3 kas_descPart kas_count kas_place kas_bin kas_sort kas_ask kas_item kat_run kat_snds kat_kind kat_lt KatLex kat_cons kat_go kat_yes kat_no kat_one kat_nil KatTups)
def Az {α : Type} (lt:Nat->Nat->Bool):KasT α -> α
 | .ret a=>a
 | .ask i j k=>Az lt (k (lt i j))
theorem Db{α β : Type}{lt:Nat->Nat->Bool}{f : α->KasT β}:∀t:KasT α,Az lt (t.bind f)=Az lt (f (Az lt t))
 | .ret _=>rfl
 | .ask i j k=>Db (k (lt i j))
theorem Xdj{α : Type}{n:Nat}{lt:Nat->Nat->Bool}{P : α->Prop}{G : α->Shared->Prop}{s:Shared}{cmp:Nat->Nat->(Bool->Shared->Prop)->Shared->Prop}(hc:∀i j C,i<n->j<n->C (lt i j) s->cmp i j C s):
  ∀{t:KasT α},KAll n P t->G (Az lt t) s->t.kasWp cmp G s
 | .ret a,_,h=>h
 | .ask i j k,h,g=>hc i j _ h.1 h.2.1 (Xdj hc (h.2.2 _) g)
theorem KAll.run{α : Type}{n:Nat}{lt:Nat->Nat->Bool}{P : α->Prop}:∀{t:KasT α},KAll n P t->P (Az lt t)
 | .ret a,h=>h
 | .ask i j k,h=>KAll.run (t:=k (lt i j)) (h.2.2 (lt i j))
structure Lin (n:Nat) (lt:Nat->Nat->Bool):Prop where
 irr:∀i,lt i i=false
 tr:∀i j k,lt i j=true->lt j k=true->lt i k=true
 tot:∀i j,i<n->j<n->i≠j->lt i j=true\/lt j i=true
section
variable {n:Nat}{lt:Nat->Nat->Bool}{p:Array Nat}
def Bz (lt:Nat->Nat->Bool) (p:Array Nat) (m:Nat):Prop:=∀i j,i<j->j<m->lt (p.getD i 0) (p.getD j 0)=true
def Xdk (lt:Nat->Nat->Bool) (p:Array Nat) (m:Nat):Prop:=∀i j,i<j->j<m->lt (p.getD j 0) (p.getD i 0)=true
theorem Gd.size{p:Array Nat}(h:Gd n p):p.size=n:=by
 have:=h.size_eq;simpa using this
theorem Gd.inj{p:Array Nat}(h:Gd n p){i j:Nat}(hi:i<n)(hj:j<n)(ne:i≠j):p.getD i 0≠p.getD j 0:=λe=>by
 have sz:=h.size;have nd:p.toList.Nodup:=by
  have q:p.toList.Perm (List.range n):=by simpa using h.toList
  exact q.nodup_iff.mpr List.nodup_range
 have hi':i<p.toList.length:=by rw[G8,sz];exact hi
 have hj':j<p.toList.length:=by rw[G8,sz];exact hj
 have e1:p.getD i 0=p.toList[i]:=by simp[Array.getD,sz,hi]
 have e2:p.getD j 0=p.toList[j]:=by simp[Array.getD,sz,hj]
 rw[e1,e2] at e;exact ne ((Jj nd).mp e)
theorem Lin.flip(L:Lin n lt)(h:Gd n p){i j:Nat}(hi:i<n)(hj:j<n)(ne:i≠j)(e:lt (p.getD i 0) (p.getD j 0)=false):lt (p.getD j 0) (p.getD i 0)=true:=by
 have hn:0<n:=by omega
 rcases L.tot _ _ (h.lt hn i) (h.lt hn j) (h.inj hi hj ne) with z | z
 ·rw[z] at e;cases e
 ·exact z
theorem Gi(L:Lin n lt)(h:Gd n p):∀f m,1<=m->m+f<=n->Bz lt p m->m<=Az lt (kas_asc p f m)/\Az lt (kas_asc p f m)<=m+f/\Bz lt p (Az lt (kas_asc p f m)) /\
  (Az lt (kas_asc p f m)<m+f->lt (p.getD (Az lt (kas_asc p f m)) 0) (p.getD (Az lt (kas_asc p f m) - 1) 0)=true)
 | 0,m,_,_,so=>⟨G5 _,G5 _,so,λz=>absurd z (by show ¬m<m+0;omega)⟩
 | f+1,m,h1,hn,so=>by
  have e:Az lt (kas_asc p (f+1) m)=Az lt (if lt (p.getD m 0) (p.getD (m - 1) 0)=true then KasT.ret m else kas_asc p f (m+1)):=rfl;cases c:lt (p.getD m 0) (p.getD (m - 1) 0) with
  | true=>
   rw[e,c,Kd rfl];exact⟨G5 _,by show m<=_;omega,so,λ_=>c⟩
  | false=>
   rw[e,c,Kc (by decide)];have c':=L.flip h (by omega) (by omega) (by omega) c;obtain⟨a1,a2,a3,a4⟩:=Gi L h f (m+1) (by omega) (by omega) (λi j hij hj=>by
    by_cases hjm:j<m
    ·exact so i j hij hjm
    ·have:j=m:=by omega
     subst this;by_cases hi:i=j - 1
     ·subst hi;exact c'
     ·exact L.tr _ _ _ (so i (j - 1) (by omega) (by omega)) c')
   exact⟨by omega,by omega,a3,λz=>a4 (by omega)⟩
theorem Xdl(L:Lin n lt)(h:Gd n p):∀f m,1<=m->m+f<=n->Xdk lt p m->∃r,Az lt (kas_desc f p m 0)=(p,r,0)/\m<=r/\r<=m+f/\Xdk lt p r
 | 0,m,_,_,so=>⟨m,rfl,G5 _,G5 _,so⟩
 | f+1,m,h1,hn,so=>by
  have e:Az lt (kas_desc (f+1) p m 0)=Az lt (if lt (p.getD m 0) (p.getD (m - 1) 0)=true then (if 0 > 0 then kas_desc f (kas_rev p (m - (0+1)) m) (m+1) 0 else kas_desc f p (m+1) 0)
   else .ask (p.getD (m - 1) 0) (p.getD m 0) λd=>if d=true then .ret (p,m,0) else kas_desc f p (m+1) (0+1)):=rfl
  cases c:lt (p.getD m 0) (p.getD (m - 1) 0) with
  | true=>
   rw[e,c,Kd rfl,Kc (by omega)];obtain⟨r,a1,a2,a3,a4⟩:=Xdl L h f (m+1) (by omega) (by omega) (λi j hij hj=>by
    by_cases hjm:j<m
    ·exact so i j hij hjm
    ·have:j=m:=by omega
     subst this;by_cases hi:i=j - 1
     ·subst hi;exact c
     ·exact L.tr _ _ _ c (so i (j - 1) (by omega) (by omega)))
   exact⟨r,a1,by omega,by omega,a4⟩
  | false=>
   rw[e,c,Kc (by decide)];have c':=L.flip h (by omega) (by omega) (by omega) c;refine⟨m,?_,G5 _,by omega,so⟩;show Az lt (if lt (p.getD (m - 1) 0) (p.getD m 0)=true then _ else _)=_;rw[Kd c'];rfl
theorem Gj(p:Array Nat)(i:Nat):p.getD i 0=(p[i]?).getD 0:=by simp
theorem Xdm{m:Nat}(hm:m<=p.size){i:Nat}(hi:i<m):(kas_rev p 0 m).getD i 0=p.getD (m - 1 - i) 0:=by
 rw[Gj,Gj];show ((mirror p 0 m ((m - 0) / 2))[i]?).getD 0=_;rw[getElem?_mirror_all hm,Kd (by omega)];congr 2;omega
theorem Xix(L:Lin n lt)(h:Gd n p)(hn:1<=n):∃m p',Az lt (kas_count n p)=(m,p')/\1<=m/\m<=n/\Gd n p'/\Bz lt p' m:=by
 have sz:=h.size;unfold kas_count;rw[Db];obtain⟨a1,a2,a3,a4⟩:=Gi (lt:=lt) L h (n - 1) 1 (G5 _) (by omega) (λi j hij hj=>by omega);generalize Az lt (kas_asc p (n - 1) 1)=r at *;by_cases e1:(r==n)=true
 ·rw[Kd e1];exact⟨r,p,rfl,a1,by omega,h,a3⟩
 ·rw[Kc e1];have rn:r≠n:=λz=>e1 (by rw[z];exact beq_self_eq_true _);by_cases e2:r > 1
  ·rw[Kd e2];refine⟨r,p,?_,a1,by omega,h,a3⟩;show Az lt (if lt (p.getD 0 0) (p.getD (r - 1) 0)=true then _ else _)=_;rw[Kd (a3 0 (r - 1) (by omega) (by omega))];rfl
  ·rw[Kc e2];obtain rfl:r=1:=by omega
   have a4:=a4 (by omega);unfold kas_descPart;rw[Db];obtain⟨r2,b1,b2,b3,b4⟩:=Xdl (lt:=lt) L h (n - (1+1)) (1+1) (by omega) (by omega) (λi j hij hj=>by
    have:j=1:=by omega
    subst this;have:i=0:=by omega
    subst this;exact a4)
   rw[b1];dsimp only;rw[Kc (by omega)];unfold kas_tail3;rw[Db];have hrv:=h.rev 0 r2;obtain⟨c1,c2,c3,_⟩:=Gi (lt:=lt) L hrv (n - r2) r2 (by omega) (by omega) (λi j hij hj=>by
    rw[Xdm (by omega) (by omega),Xdm (by omega) (by omega)];exact b4 _ _ (by omega) (by omega))
   exact⟨_,_,rfl,by omega,by omega,hrv,c3⟩
theorem Gk(L:Lin n lt)(h:Gd n p){k:Nat}(hk:k<n)(so:Bz lt p k):∀f l r,r - l<=f->l<=r->r<=k->(∀i,i<l->lt (p.getD i 0) (p.getD k 0)=true)->(∀i,r<=i->i<k->lt (p.getD k 0) (p.getD i 0)=true) ->
  Az lt (kas_place p k f l r)<=k/\(∀i,i<Az lt (kas_place p k f l r)->lt (p.getD i 0) (p.getD k 0)=true)/\(∀i,Az lt (kas_place p k f l r)<=i->i<k->lt (p.getD k 0) (p.getD i 0)=true)
 | 0,l,r,hf,hlr,hr,hl,hg=>by
  have:l=r:=by omega
  subst this;exact⟨hr,hl,hg⟩
 | f+1,l,r,hf,hlr,hr,hl,hg=>by
  unfold kas_place;by_cases e:l ≥ r
  ·rw[Kd e];have:l=r:=by omega
   subst this;exact⟨hr,hl,hg⟩
  ·rw[Kc e];have e2:Az lt (KasT.ask (p.getD k 0) (p.getD ((l+r) / 2) 0) λc=>if c=true then kas_place p k f l ((l+r) / 2) else kas_place p k f ((l+r) / 2+1) r)=Az lt (if lt (p.getD k 0) (p.getD ((l+r) / 2) 0)=true then kas_place p k f l ((l+r) / 2) else kas_place p k f ((l+r) / 2+1) r):=rfl;rw[e2];have hm1:l<=(l+r) / 2:=by omega
   have hm2:(l+r) / 2<r:=by omega
   generalize (l+r) / 2=md at *;cases c:lt (p.getD k 0) (p.getD md 0) with
   | true=>
    rw[Kd rfl];refine Gk L h hk so f l md (by omega) (by omega) (by omega) hl λi h1 h2=>?_;by_cases e3:i=md
    ·rw[e3];exact c
    ·exact L.tr _ _ _ c (so md i (by omega) h2)
   | false=>
    rw[Kc (by decide)];have c':=L.flip h hk (by omega) (by omega) c;refine Gk L h hk so f (md+1) r (by omega) (by omega) hr (λi hi=>?_) hg;by_cases e3:i=md
    ·rw[e3];exact c'
    ·exact L.tr _ _ _ (so i md (by omega) (by omega)) c'
theorem Xdn{k l:Nat}(hk:k<p.size)(hl:l<=k)(i:Nat):(bubble p k (k - l)).getD i 0=if i=l then p.getD k 0 else if l<i/\i<=k then p.getD (i - 1) 0 else p.getD i 0:=by
 simp only[Gj];rw[getElem?_bubble hk _ (by omega),show k - (k - l)=l by omega];by_cases h1:i=l
 ·rw[Kd h1,Kd h1]
 ·rw[Kc h1,Kc h1];by_cases h2:l<i/\i<=k
  ·rw[Kd h2,Kd h2]
  ·rw[Kc h2,Kc h2]
theorem Xdo(L:Lin n lt):∀f (p:Array Nat) k,Gd n p->k+f<=n->Bz lt p k->Bz lt (Az lt (kas_bin f p k)) (k+f)
 | 0,p,k,_,_,so=>so
 | f+1,p,k,h,hk,so=>by
  have sz:=h.size;have e:Az lt (kas_bin (f+1) p k)=Az lt ((kas_place p k k 0 k).bind λl=>kas_bin f (bubble p k (k - l)) (k+1)):=rfl;rw[e,Db];obtain⟨a1,a2,a3⟩:=Gk (lt:=lt) L h (k:=k) (by omega) so k 0 k (by omega) (by omega) (G5 _) (λi z=>absurd z (Js _)) (λi h1 h2=>by omega);generalize Az lt (kas_place p k k 0 k)=l at *;have:=Xdo L f (bubble p k (k - l)) (k+1) ((bubble_perm p k _).trans h) (by omega) (λi j hij hj=>by
   rw[Xdn (by omega) a1,Xdn (by omega) a1];by_cases i1:i=l
   ·rw[Kd i1,Kc (by omega),Kd (by omega)];exact a3 _ (by omega) (by omega)
   ·rw[Kc i1];by_cases i2:l<i/\i<=k
    ·rw[Kd i2,Kc (by omega),Kd (by omega)];exact so _ _ (by omega) (by omega)
    ·rw[Kc i2];by_cases j1:j=l
     ·rw[Kd j1];exact a2 i (by omega)
     ·rw[Kc j1];by_cases j2:l<j/\j<=k
      ·rw[Kd j2];by_cases z:i=j - 1
       ·omega
       ·exact so _ _ (by omega) (by omega)
      ·rw[Kc j2];exact so _ _ hij (by omega))
  rw[show k+(f+1)=k+1+f by omega];exact this
theorem Xiy(L:Lin n lt)(hn:0<n):Bz lt (Az lt (kas_sort n)) n:=by
 unfold kas_sort;rw[Db];obtain⟨m,p',e,h1,h2,h3,h4⟩:=Xix (lt:=lt) L (p:=List.toArray (List.range n)) (Array.Perm.refl _) hn;rw[e];dsimp only;by_cases hm:m<n
 ·rw[Kd hm];have:=Xdo L (n - max m 1) p' (max m 1) h3 (by omega) (by rw[show max m 1=m by omega];exact h4)
  rwa [show max m 1+(n - max m 1)=n by omega] at this
 ·rw[Kc hm];have:m=n:=by omega
  subst this;exact h4
end
open PySem.W (KasT kas_asc kas_desc kas_rev kas_tail3 kas_descPart kas_count kas_place kas_bin kas_sort kas_ask kas_item kat_run kat_snds kat_kind kat_lt KatLex kat_cons kat_go kat_yes kat_no kat_one kat_nil KatTups)
def ltL:List Str->List Str->Bool
 | [],[]=>false
 | [],_::_=>true
 | _::_,[]=>false
 | x::a,y::b=>if x=y then ltL a b else decide (ltS x y)
theorem Gm:∀a,ltL a a=false
 | []=>rfl
 | x::a=>by
  show (if x=x then ltL a a else _)=false;rw[Kd rfl];exact Gm a
theorem Gn:∀a b c,ltL a b=true->ltL b c=true->ltL a c=true
 | [],[],c,h,_=>by cases h
 | [],_::_,[],_,g=>by cases g
 | [],_::_,_::_,_,_=>rfl
 | _::_,[],_,h,_=>by cases h
 | _::_,_::_,[],_,g=>by cases g
 | x::a,y::b,z::c,h,g=>by
  have h:(if x=y then ltL a b else decide (ltS x y))=true:=h;have g:(if y=z then ltL b c else decide (ltS y z))=true:=g;show (if x=z then ltL a c else decide (ltS x z))=true;by_cases e1:x=y
  ·subst e1;rw[Kd rfl] at h;by_cases e2:x=z
   ·rw[Kd e2] at g ⊢;exact Gn a b c h g
   ·rw[Kc e2] at g ⊢;exact g
  ·rw[Kc e1] at h;by_cases e2:y=z
   ·subst e2;rw[Kc e1];exact h
   ·rw[Kc e2] at g;have q:=Xhv (Kg h) (Kg g);rw[Kc (Xhx q)];exact Ke q
theorem Xdp:∀a b,a≠b->ltL a b=true\/ltL b a=true
 | [],[],n=>absurd rfl n
 | [],_::_,_=>.inl rfl
 | _::_,[],_=>.inr rfl
 | x::a,y::b,n=>by
  show (if x=y then ltL a b else decide (ltS x y))=true\/(if y=x then ltL b a else decide (ltS y x))=true;by_cases e:x=y
  ·subst e;rw[Kd rfl,Kd rfl];exact Xdp a b λz=>n (by rw[z])
  ·rw[Kc e,Kc (λz=>e z.symm)];rcases Xcj x y with z | z
   ·exact .inl (Ke (ltS_of z e))
   ·exact .inr (Ke (ltS_of z λq=>e q.symm))
theorem Xiz{Ts:List (List Str)}(nd:Ts.Nodup):Lin Ts.length λi j=>ltL (Ts.getD i []) (Ts.getD j []) where
 irr i:=Gm _
 tr i j k:=Gn _ _ _
 tot i j hi hj ne:=Xdp _ _ λe=>ne (by
  have e1:Ts.getD i []=Ts[i]:=by simp[List.getD,hi]
  have e2:Ts.getD j []=Ts[j]:=by simp[List.getD,hj]
  rw[e1,e2] at e;exact(Jj nd).mp e)
theorem Xdq{Ts:List (List Str)}{p:Array Nat}(g:Gd Ts.length p)(so:Bz (λi j=>ltL (Ts.getD i []) (Ts.getD j [])) p Ts.length):
  (p.toList.map λi=>Ts.getD i []).Perm Ts/\(p.toList.map λi=>Ts.getD i []).Pairwise λa b=>ltL a b=true:=by
 constructor
 ·have e:((List.range Ts.length).map λi=>Ts.getD i [])=Ts:=by
   refine Jz (by simp) λi h1 h2=>?_;simp[Jb,List.getElem_range,List.getD,h2]
  have q:p.toList.Perm (List.range Ts.length):=by
   have:=g.toList;simpa using this
  have:=q.map λi=>Ts.getD i [];rw[e] at this;exact this
 ·rw[List.pairwise_iff_getElem];intro i j hi hj hij;have sz:=g.size;rw[G3,G8,sz] at hi hj;have:=so i j hij hj;rw[Jb,Jb];have e1:p.getD i 0=p.toList[i]'(by rw[G8,sz];exact hi):=by simp[Array.getD,sz,hi]
  have e2:p.getD j 0=p.toList[j]'(by rw[G8,sz];exact hj):=by simp[Array.getD,sz,hj]
  rw[e1,e2] at this;exact this
section
variable {prog:Program}{w:World}{A:Around}{E:Value->Shared->Prop}{s:Shared}
theorem Xdr{b fin:Bool}{C:Bool->Shared->Prop}:∀{us vs:List Value} {as bs:List Str} (i:Nat),StrsAre us as->StrsAre vs bs->fin=decide (as.length<bs.length)->C (ltL as bs) s->KatLex prog w A b fin C (us.zip vs) i s
 | _,_,_,_,_,.nil,.nil,hf,h=>kat_nil (by rw[hf];exact h)
 | _,_,_,_,_,.nil,.cons _ _ _,hf,h=>kat_nil (by rw[hf];exact h)
 | _,_,_,_,_,.cons _ _ _,.nil,hf,h=>kat_nil (by rw[hf];exact h)
 | _,_,_,_,i,.cons x t r,.cons y u r',hf,h=>by
  have h:C (if x=y then ltL _ _ else decide (ltS x y)) s:=h;refine kat_cons (eqBool_str ?_);refine kat_go (λe=>kat_yes (Xdr (i+1) r r' ?_ ?_)) (λe=>kat_no ?_)
  ·rw[hf];simp
  ·rw[Kd (by simpa using e)] at h;exact h
  ·have e:¬x=y:=by simpa using e
   rw[Kc e] at h;cases (b&&i==0) with
   | true=>exact oneLt_str h
   | false=>exact kat_one _ _ (PyProof.Rows.lt_str h)
def B9 (h:Heap) (v:Value) (ss:List Str):Prop:=∃a o xs n,v = .ref a/\h.get? a=some o/\o.cls = .type "tuple" /\ o.data = .seq xs n/\StrsAre xs.toList ss
theorem Xi0{b:Bool}{x y:Value}{as bs:List Str}{C:Bool->Shared->Prop}(hx:B9 s.heap x as)(hy:B9 s.heap y bs)(h:C (ltL as bs) s):wpAny (model prog w) A (keyLt' (tuples' b) x y) C E s:=by
 obtain⟨a,o,xs,n,rfl,h1,_,h2,h3⟩:=hx;obtain⟨b,o',ys,n',rfl,g1,_,g2,g3⟩:=hy;refine kat_lt h1 h2 g1 g2 (Xdr 0 h3 g3 ?_ h);have e1:=h3.length;have e2:=g3.length;rw[G8] at e1 e2;rw[e1,e2]
theorem B9.toS{h:Heap}{v:Value}{ss:List Str}(t:B9 h v ss)(n:ss≠[]):Xdh h v:=by
 obtain⟨a,o,xs,k,e,h1,h2,h3,h4⟩:=t;exact⟨a,o,xs,k,ss,e,h1,h2,h3,h4,n⟩
theorem B9.kept{h h':Heap}{v:Value}{ss:List Str}(t:B9 h v ss)(k:∀b o,o.cls = .type "tuple" -> h.get? b=some o->h'.get? b=some o):B9 h' v ss:=by
 obtain⟨a,o,xs,n,e,h1,h2,h3,h4⟩:=t;exact⟨a,o,xs,n,e,k a o h2 h1,h2,h3,h4⟩
def Gp (h:Heap) (vs:List Value) (Ts:List (List Str)):Prop:=vs.length=Ts.length/\∀i,i<vs.length->B9 h (vs.getD i .none) (Ts.getD i [])
theorem Xds{a:Addr}{vs:List Value}{Ts:List (List Str)}{n:Nat}{P:PySem.Fin->Shared->Prop}(ho:s.heap.get? a=some (seqObj "list" vs.toArray n))(hv:Gp s.heap vs Ts)(hne:[]∉Ts)(nd:Ts.Nodup)(h64:vs.length<64)
  (h:∀p:Array Nat,Gd vs.length p->Bz (λi j=>ltL (Ts.getD i []) (Ts.getD j [])) p vs.length->P (.done (.ret .none)) {s with heap:=sortedHeap s.heap a vs (p.toList.map λi=>vs.getD i Value.none).toArray}):
  wpAny (model prog w) A (Builtin.«list.sort» ⟨[.ref a],[]⟩) P E s:=by
 rw[list_sort_plain];have ha:a<s.heap.objs.size:=Ki ho;have L:=Xiz nd;rw[<-hv.1] at L;have mem:∀i,i<vs.length->Ts.getD i []∈Ts:=λi hi=>by
  have hi':i<Ts.length:=by rw[<-hv.1];exact hi
  have:Ts.getD i []=Ts[i]:=by simp[List.getD,hi']
  rw[this];exact Hl hi'
 refine J9 (listItems_at ho rfl ?_);refine J9 (listUpdate_at ho rfl ?_);obtain⟨e1,ho1⟩:∃e1,(s.heap.update a (Obj.mapSeq λ_ => #[])).get? a=some (seqObj "list" #[] e1):=⟨_,get?_update_seq ho (λ_ => #[])⟩;refine J9 (seqEpoch_at ho1 rfl ?_);refine J9 (wpAny_newTuple ?_);refine J9 (wpAny_newList ?_);refine wpAny_holding ?_;have ho6:(((s.heap.update a (Obj.mapSeq λ_ => #[])).push (seqObj "tuple" vs.toArray 0)).push (seqObj "list" #[] 0)).get? a=some (seqObj "list" #[] e1):=by
  rw[Heap.get?_push_ne _ _ _ (by rw[size_push',Heap.size_update];exact G7 (Iq ha)),Heap.get?_push_ne _ _ _ (by rw[Heap.size_update];exact G7 ha)];exact ho1
 have hk6:∀b o,o.cls = .type "tuple" -> s.heap.get? b=some o->(((s.heap.update a (Obj.mapSeq λ_ => #[])).push (seqObj "tuple" vs.toArray 0)).push (seqObj "list" #[] 0)).get? b=some o:=λb o g2 g1=>by
  have hne:b≠a:=λe=>by
   rw[e,ho] at g1;have e1:=Ha g1;rw[<-e1] at g2;exact absurd (show Value.type "list" = Value.type "tuple" from g2) (by decide)
  exact Kj _ (Kj _ (by rw[Heap.get?_update_ne _ _ _ _ hne];exact g1))
 have hv6:∀i,i<vs.length->B9 (((s.heap.update a (Obj.mapSeq λ_ => #[])).push (seqObj "tuple" vs.toArray 0)).push (seqObj "list" #[] 0)) (vs.getD i .none) (Ts.getD i []):=λi hi=>(hv.2 i hi).kept hk6;show wpAny (model prog w) A _ P E {s with heap:=((s.heap.update a (Obj.mapSeq λ_ => #[])).push (seqObj "tuple" vs.toArray 0)).push (seqObj "list" #[] 0)};dsimp only;have hsz:vs.toArray.size=vs.length:=by simp
 by_cases h2:vs.toArray.size<2
 ·rw[Kd h2,Kd h2];refine J9 (Ka ?_);rw[StateT.run_pure];refine J9 (Ka ?_);dsimp only;refine J9 (seqEpoch_at ho6 rfl ?_);refine J9 (listUpdate_at ho6 rfl ?_ (hsz2:=by rw[Array.size_map];show (pairsOf vs).size<=_;rw[pairsOf_size,Kb];omega));simp only[bne_self_eq_false,Hz,if_false];have q:=h (List.toArray (List.range vs.length)) (Array.Perm.refl _) (λi j hij hj=>by omega);refine Ka ?_;have e:(arrOf (SortSt.mk' general' (vs.toArray.zip vs.toArray) #[] 7 none)).map (·.2)=(((List.range vs.length).toArray).toList.map λi=>vs.getD i Value.none).toArray:=by
   show ((vs.toArray.zip vs.toArray).map (·.2))=_;apply Array.toList_inj.mp;simp only[Array.toList_map,List.zip_toArray];rw[List.map_snd_zip (G5 _)];refine Jz (by simp) λi h1 h2=>?_;simp[List.getD,h1]
  rw[e];exact q
 ·rw[Kc h2,Kc h2];obtain⟨fs,t1,t2,t3⟩:=Xdi (s:={s with heap:=((s.heap.update a (Obj.mapSeq λ_ => #[])).push (seqObj "tuple" vs.toArray 0)).push (seqObj "list" #[] 0)}) (vs:=vs) λv hm=>by
   obtain⟨i,hi,rfl⟩:=Ic.mp hm;have e:vs.getD i .none=vs[i]:=by simp[List.getD,hi]
   have:=hv6 i hi;rw[e] at this;exact B9.toS this λz=>hne (z ▸ mem i hi)
  refine J9 (kat_kind (T:=.type "str") t1 (by omega) (λv hm=>?_) (by decide) ?_)
  ·obtain⟨x,t,rfl⟩:=t3 v hm;exact .now
  have eb:((Value.type "str") != Value.type "tuple")=true:=by decide
  rw[eb];refine J9 (wpAny_mono (kat_run (κ:=tuples' true) (ks:=vs) (vs:=vs) (Q:=λst' s'=>s' = {s with heap:=((s.heap.update a (Obj.mapSeq λ_ => #[])).push (seqObj "tuple" vs.toArray 0)).push (seqObj "list" #[] 0)}/\failedOf st'=none/\∃p,Gd vs.length p/\Bz (λi j=>ltL (Ts.getD i []) (Ts.getD j [])) p vs.length/\(arrOf st').map (·.2)=(p.toList.map λi=>vs.getD i Value.none).toArray)
   (G:=λp s'=>s' = {s with heap:=((s.heap.update a (Obj.mapSeq λ_ => #[])).push (seqObj "tuple" vs.toArray 0)).push (seqObj "list" #[] 0)}/\Gd vs.length p/\Bz (λi j=>ltL (Ts.getD i []) (Ts.getD j [])) p vs.length) rfl (by omega) h64 (λp st' s' a1 a2 a3 a4=>⟨a4.1,a3,p,a4.2.1,a4.2.2,kat_snds rfl a2⟩) ?_) ?_ λ_ _ e=>e)
  ·refine Xdj (n:=vs.length) (lt:=λi j=>ltL (Ts.getD i []) (Ts.getD j [])) (λi j C hi hj hC=>?_) (Xdg (n:=vs.length) (by omega)) ⟨rfl,(Xdg (n:=vs.length) (by omega)).run,Xiy L (by omega)⟩;show wpAny _ _ (keyLt' (tuples' true) (vs.getD i Value.none) (vs.getD j Value.none)) C _ _;exact Xi0 (hv6 i hi) (hv6 j hj) hC
  rintro ⟨⟨⟩,st'⟩ s' ⟨rfl,hf,p,hp,so,ea⟩;dsimp only;refine J9 (seqEpoch_at ho6 rfl ?_);have hps:=hp.size;refine J9 (listUpdate_at ho6 rfl ?_ (hsz2:=by
   rw[ea,G9,G3,G8,hps,Kb];omega))
  rw[hf];simp only[bne_self_eq_false,Hz,if_false];rw[ea];exact Ka (h p hp so)
theorem Xi1{l:Addr}{vs:List Value}{Ts:List (List Str)}{Q:Value->Shared->Prop}(hl:s.heap.IsList l vs.toArray)(hv:Gp s.heap vs Ts)(hne:[]∉Ts)(nd:Ts.Nodup)(h64:vs.length<64)
  (h:∀p:Array Nat,Gd vs.length p->Bz (λi j=>ltL (Ts.getD i []) (Ts.getD j [])) p vs.length->Q (.ref (s.heap.objs.size+1)) {s with heap:=sortedAll s.heap vs (p.toList.map λi=>vs.getD i Value.none).toArray}):
  wpAny (model prog w) A (call (.builtin "sorted") [.ref l]) Q E s:=by
 refine Calls.call_function_entry kind_sorted plain_sorted entry_sorted (args_sorted1 _) ?_;unfold Builtin.«sorted»;refine J9 (m:=checkCount "sorted" 1 1 _) (Ka ?_);refine J9 (collect_list hl ?_);refine J9 (wpAny_newList ?_);have hsz:((s.heap.push (seqObj "list" #[] 0)).update s.heap.objs.size (Obj.mapSeq (· ++ vs.toArray))).objs.size=s.heap.objs.size+1:=by
  rw[Heap.size_update,size_push']
 have hoL:(((s.heap.push (seqObj "list" #[] 0)).update s.heap.objs.size (Obj.mapSeq (· ++ vs.toArray))).push (seqObj "list" vs.toArray 0)).get? (s.heap.objs.size+1)=some (seqObj "list" vs.toArray 0):=by
  rw[<-hsz];exact Heap.get?_push_size _ rfl
 have keep:∀b o,s.heap.get? b=some o->(((s.heap.push (seqObj "list" #[] 0)).update s.heap.objs.size (Obj.mapSeq (· ++ vs.toArray))).push (seqObj "list" vs.toArray 0)).get? b=some o:=λb o q=>by
  have hlt:b<s.heap.objs.size:=Ki q;rw[Heap.get?_push_ne _ _ _ (by rw[hsz];exact G7 (Iq hlt)),Heap.get?_update_ne _ _ _ _ (G7 hlt),Heap.get?_push_ne _ _ _ (G7 hlt)];exact q
 show wpAny _ _ _ _ _ {s with heap:=((s.heap.push (seqObj "list" #[] 0)).update s.heap.objs.size (Obj.mapSeq (· ++ vs.toArray))).push (seqObj "list" vs.toArray 0)};rw[hsz];refine J9 (wpAny_holding (wpAny_call_entry slot_list_sort ⟨_,hoL,rfl⟩ entry_list_sort (Xds hoL ⟨hv.1,λi hi=>(hv.2 i hi).kept λb o _=>keep b o⟩ hne nd h64 λp a1 a2=>⟨_,rfl,?_⟩) (args_list_sort _)));exact Ka ⟨_,rfl,h p a1 a2⟩
end
section
variable {X:Cx}
theorem Xi2:A9 X (.builtin "sorted") (λxs H Q=>∃(a:Addr) (ps:List Addr) (Ts:List (List Str)),xs=[.ref a]/\H a=some (.lst (ps.map V.ref))/\Tups H ps Ts/\[]∉Ts/\Ts.Nodup/\ps.length<64 /\
  ∀(l:Addr) (ps':List Addr) (Ts':List (List Str)),H l=none->Tups H ps' Ts'->Ts'.Perm Ts->(Ts'.Pairwise λa b=>ltL a b=true)->Q (.ref l) (upd H l (.lst (ps'.map V.ref)))):=by
 intro pins s σ H xs us Q I r h;obtain⟨a,ps,Ts,rfl,ha,ht,hne,nd,h64,q⟩:=h;obtain⟨u,rfl,rx⟩:=Br r;cases rx;obtain⟨its,rv,pl,hz⟩:=I.list (SqL.of ha);have hits:its=ps.map Value.ref:=by
  clear ht h64 q hz pl ha
  induction ps generalizing its with
  | nil=>cases rv;rfl
  | cons p t ih=>
   cases rv with
   | cons r t'=>cases r;rw[ih _ t'];rfl
 subst hits;have hget:∀i,i<ps.length->(ps.map Value.ref).getD i .none = .ref (ps.getD i 0):=λi hi=>by simp[List.getD,hi]
 refine Xi1 pl.isList (Ts:=Ts) ⟨by rw[G3];exact ht.1,λi hi=>?_⟩ hne nd (by rw[G3];exact h64) λp h1 h2=>?_
 ·rw[G3] at hi;obtain⟨its2,r2,p2,_⟩:=I.tuple (SqT.of (K:=X.K) (ht.2 i hi));obtain⟨o,ho,hc,n,hd⟩:=id p2;exact⟨ps.getD i 0,o,its2.toArray,n,hget i hi,ho,hc,hd,by simpa using Fz r2⟩
 ·rw[G3] at h1 h2;obtain⟨e,he⟩:=sortedAll_at s.heap (ps.map Value.ref) (p.toList.map λi=>(ps.map Value.ref).getD i Value.none).toArray;have hf:H (s.heap.objs.size+1)=none:=I.hok.fresh (Jo _);have hps:=h1.size;have lt:∀i∈p.toList,i<ps.length:=λi hi=>by
   have q:p.toList.Perm (List.range ps.length):=by
    have:=h1.toList;simpa using this
   simpa using q.mem_iff.mp hi
  have eo:(p.toList.map λi=>(ps.map Value.ref).getD i Value.none)=(p.toList.map λi=>ps.getD i 0).map Value.ref:=by
   rw[Jg];exact J3 λi hi=>hget i (lt i hi)
  have hst:=Xdq (Ts:=Ts) (by rw[<-ht.1];exact h1) (by rw[<-ht.1];exact h2);refine⟨.ref (s.heap.objs.size+1),_,I.laid (t':=s.toks) (h':=sortedAll s.heap (ps.map Value.ref) _) (o:=.lst ((p.toList.map λi=>ps.getD i 0).map V.ref)) (λb ob q=>sortedAll_old q) (Jo _) ?_,rfl,q _ _ (p.toList.map λi=>Ts.getD i []) hf ⟨by simp,λi hi=>?_⟩ hst.1 hst.2⟩
  ·refine⟨by rw[G3,G3,G8,hps,Kb];omega,_,e,?_,he⟩;show Vals ((p.toList.map λi=>ps.getD i 0).map V.ref) (p.toList.map λi=>(ps.map Value.ref).getD i Value.none);rw[eo];generalize (p.toList.map λi=>ps.getD i 0)=z
   induction z with
   | nil=>exact .nil
   | cons p t ih=>exact .cons rfl ih
  ·rw[G3] at hi;have g1:(p.toList.map λi=>ps.getD i 0).getD i 0=ps.getD (p.toList[i]) 0:=by rw[List.getD_eq_getElem?_getD,Hd,G4 hi];rfl
   have g2:(p.toList.map λi=>Ts.getD i []).getD i []=Ts.getD (p.toList[i]) []:=by rw[List.getD_eq_getElem?_getD,Hd,G4 hi];rfl
   rw[g1,g2];exact ht.2 _ (lt _ (Hl hi))
end
end L2
set_option maxHeartbeats 3200000
namespace L2
open PySem PySem.Spec PyProof.Rows PySem.Calls
theorem Inv.turnedN{X:Cx}{pins:List (Addr×Obj)}{σ:St}{H:Hp}{s:Shared}{h':Heap}{t':Nat}{fs:List Addr}(I:Inv X pins σ H s)(k:∀b o,b∉fs->s.heap.get? b=some o->h'.get? b=some o)(hf:∀b∈fs,FpOk X pins H b):Inv X pins σ H {s with heap:=h',toks:=t'}:=by
 have no:∀b u,H b=some u->b∉fs:=λb u q z=>by rw[(hf b z).1] at q;cases q
 refine I.step (g':=s.gens) (d':=s.drawn) (ch:=fs) (λb hb=>?_) (λb o _ _ hc q _=>k b o hc q) (λb o _ _ hc q _=>⟨o.slots,k b o hc q⟩) (λ_ _ _ _ n=>n) (λb o hc q=>⟨o,k b o hc q⟩) (λ_ _ q=>q) (λ_ _ _ q=>q) (λb ps q=>⟨#[],by rw[q];simp⟩) (λm hm=>?_) (λb u q=>?_) I.bare
 ·have f1:=hf b hb;exact⟨f1.2.2.2.1,f1.2.1,f1.2.2.2.2.1,f1.2.2.2.2.2⟩
 ·obtain⟨o,es,ep,ho,r⟩:=hm;exact⟨o,es,ep,k _ o (λz=>(hf _ z).2.1 rfl) ho,r⟩
 ·refine(I.hok b u q).stay (λc v hc z=>k c v ?_ z) (λ_ z=>z) λ_ _ z=>z;rcases hc with y | y
  ·rw[y];exact no b u q
  ·exact no c _ y
def Itz (a b:Addr):It:=
 ⟨λi H=>∃xs ys x y,H a=some (.lst xs)/\H b=some (.lst ys)/\xs[i]? = some x/\ys[i]? = some y,λi H v H'=>∃tp,v = .ref tp/\H tp=none/\∀xs ys,H a=some (.lst xs)->H b=some (.lst ys)->∃x y,xs[i]? = some x/\ys[i]? = some y/\H'=upd H tp (.tup [x,y]),λi H=>∃xs ys,H a=some (.lst xs)/\H b=some (.lst ys)/\(xs.length<=i\/ys.length<=i)⟩
theorem Xdt{X:Cx}{pins:List (Addr×Obj)}{H:Hp}{a b z TI TO i1 i2:Addr}{xs ys:List V}(nd:[z,TI,TO,i1,i2].Nodup)(hf:∀c∈[z,TI,TO,i1,i2],FpOk X pins H c)(ha:H a=some (.lst xs))(hb:H b=some (.lst ys)):ZipApart z TI TO i1 i2 a b:=by
 have na:∀c∈[z,TI,TO,i1,i2],a≠c/\b≠c:=λc hc=>by
  refine⟨λe=>?_,λe=>?_⟩
  ·have q:=(hf c hc).1;rw[<-e,ha] at q;cases q
  ·have q:=(hf c hc).1;rw[<-e,hb] at q;cases q
 have n1:=na z (by simp);have n3:=na TO (by simp);have n4:=na i1 (by simp);have n5:=na i2 (by simp);simp only[Ii,He,Im,or_false,not_or,List.nodup_nil,not_false_eq_true,and_true] at nd;obtain⟨⟨d1,d2,d3,d4⟩,⟨d5,d6,d7⟩,⟨d8,d9⟩,d10⟩:=nd;exact⟨Ne.symm d1,Ne.symm d2,Ne.symm d3,Ne.symm d4,d5,d6,d7,d8,d9,d10,n1.1,n3.1,n4.1,n5.1,n1.2,n3.2,n4.2,n5.2⟩
theorem Xi3{P:Program}{w:World}{K:PySem.W.Frag}{es:List Expr}{k:Nat}{p:Pos}(a b z TI TO i1 i2:Addr)(nd:[z,TI,TO,i1,i2].Nodup):Turn P w K (.Tuple es k p) (Itz a b) [z,TI,TO,i1,i2] z
  (λi h=>IsZip h z TI TO .none/\IsPair h TI (.ref i1) (.ref i2)/\(∃u v,IsPair h TO u v)/\h.IsListIter i1 a i/\h.IsListIter i2 b i) where
 mem:=by simp
 obj:=λi h st c hc=>by
  obtain⟨h1,h2,⟨u,v,h3⟩,h4,h5⟩:=st;simp only[He,Im,or_false] at hc;rcases hc with rfl | rfl | rfl | rfl | rfl
  ·exact⟨_,h1,λv z=>by cases z⟩
  ·exact⟨_,h2,λv z=>by cases z⟩
  ·exact⟨_,h3,λv z=>by cases z⟩
  ·obtain⟨o,q,_,d⟩:=h4;exact⟨o,q,λv z=>by rw[d] at z;cases z⟩
  ·obtain⟨o,q,_,d⟩:=h5;exact⟨o,q,λv z=>by rw[d] at z;cases z⟩
 keep:=λi h h' st kk=>by
  obtain⟨h1,h2,⟨u,v,h3⟩,h4,h5⟩:=st;exact⟨kk z (by simp) _ h1,kk TI (by simp) _ h2,⟨u,v,kk TO (by simp) _ h3⟩,h4.at λo q=>kk i1 (by simp) o q,h5.at λo q=>kk i2 (by simp) o q⟩
 item:=by
  intro X hP hw hK hc i pins s σ H E I hf st hg;subst hP hw hK;obtain⟨xs,ys,x,y,hxs,hys,hx,hy⟩:=hg;obtain⟨it1,rv1,pl1,hz1⟩:=I.list (SqL.of (K:=X.K) hxs);obtain⟨it2,rv2,pl2,hz2⟩:=I.list (SqL.of (K:=X.K) hys);obtain⟨u,hu,ru⟩:=rv1.get hx;obtain⟨v,hv,rv⟩:=rv2.get hy;obtain⟨h1,h2,⟨u0,v0,h3⟩,h4,h5⟩:=st;have DD:=Xdt nd hf hxs hys;refine wpAny_pyNext_zip_item DD h1 h2 h3 h4 h5 pl1.isList pl2.isList (x:=u) (y:=v) (by simpa using hu) (by simpa using hv) λh' a1 a2 a3 a4 a5 a6 kk=>?_;refine⟨_,rfl,?_⟩;refine wpAny_letOwnedTupleGo_zip a1 λh'' b1 sb=>?_;have lt:∀{c o},s.heap.get? c=some o->c<s.heap.objs.size:=λe=>Ki e;have lz:=lt h1;have fpl:∀c∈[z,TI,TO,i1,i2],c<s.heap.objs.size:=λc hc=>by
   simp only[He,Im,or_false] at hc;rcases hc with rfl | rfl | rfl | rfl | rfl
   ·exact lt h1
   ·exact lt h2
   ·exact lt h3
   ·obtain⟨o,q,_⟩:=h4;exact lt q
   ·obtain⟨o,q,_⟩:=h5;exact lt q
  have J:=I.laid (a:=s.heap.objs.size) (o:=.tup [x,y]) (h':=s.heap.push {cls:=.type "tuple",data:=.seq #[u,v]}) (t':=s.toks) (λb o z=>Kj _ z) (G5 _) (show Aq X.prog X.w _ _ _ (.tup [x,y]) from ⟨by show 2<=sizeLine;decide,[u,v],.cons ru (.cons rv .nil),IsTup.new _ _⟩);have I2:Inv X pins σ (upd H s.heap.objs.size (.tup [x,y])) {s with heap:=h''}:=by
   refine Inv.turnedN (s:={s with heap:=s.heap.push {cls:=.type "tuple",data:=.seq #[u,v]} }) (h':=h'') (t':=s.toks) J (fs:=[z,TI,TO,i1,i2]) (λc o hc q=>?_) (λc hc=>⟨by rw[Af (G7 (fpl c hc))];exact(hf c hc).1,(hf c hc).2⟩);simp only[He,Im,or_false,not_or] at hc;obtain⟨c1,c2,c3,c4,c5⟩:=hc;rw[sb.2 c c1];by_cases e:c=s.heap.objs.size
   ·subst e;have q':(s.heap.push {cls:=.type "tuple",data:=.seq #[u,v]}).get? s.heap.objs.size=some o:=q;rw[Heap.get?_push_size _ rfl] at q';cases q';exact a5
   ·have q':(s.heap.push {cls:=.type "tuple",data:=.seq #[u,v]}).get? c=some o:=q;rw[Heap.get?_push_ne _ _ _ e] at q';exact kk c o c1 c3 c4 c5 q'
  refine⟨.ref s.heap.objs.size,_,I2,rfl,⟨_,rfl,I.hok.fresh (G5 _),λxs' ys' h1' h2'=>⟨x,y,?_,?_,rfl⟩⟩,⟨b1,?_,⟨u,v,?_⟩,a3.at λo q=>?_,a4.at λo q=>?_⟩,λc hc=>by rw[Af (G7 (fpl c hc))];exact(hf c hc).1⟩
  ·rw[hxs] at h1';cases h1';exact hx
  ·rw[hys] at h2';cases h2';exact hy
  ·show h''.get? TI=_;rw[sb.2 TI DD.TIz];exact kk TI _ DD.TIz DD.TITO DD.TIi1 DD.TIi2 h2
  ·show h''.get? TO=_;rw[sb.2 TO DD.TOz];exact a2
  ·show h''.get? i1=_;rw[sb.2 i1 DD.i1z];exact q
  ·show h''.get? i2=_;rw[sb.2 i2 DD.i2z];exact q
 done:=by
  intro X hP hw hK hc i pins s σ H E I hf st hg;subst hP hw hK;obtain⟨xs,ys,hxs,hys,hx⟩:=hg;obtain⟨it1,rv1,pl1,hz1⟩:=I.list (SqL.of (K:=X.K) hxs);obtain⟨it2,rv2,pl2,hz2⟩:=I.list (SqL.of (K:=X.K) hys);have l1:=rv1.length;have l2:=rv2.length;obtain⟨h1,h2,⟨u0,v0,h3⟩,h4,h5⟩:=st;refine wpAny_pyNext_zip_end (I.ok.hd hc) (Xdt nd hf hxs hys) h1 h2 h3 h4 h5 pl1.isList pl2.isList ?_ λh' kk=>⟨rfl,I.turnedN (t':=s.toks) (fs:=[z,TI,TO,i1,i2]) (λc o hc q=>?_) hf⟩
  ·rcases hx with e | e
   ·exact .inl (by simp;omega)
   ·exact .inr (by simp;omega)
  ·simp only[He,Im,or_false,not_or] at hc;obtain⟨c1,c2,c3,c4,c5⟩:=hc;exact kk c o c1 c3 c4 c5 q
 self:=λ_ _ _ _ _ st h=>wpAny_pyIter_zip st.1 h
def iZip (ta:TA):TI:=fun σ H R=>ta σ H λvs H1=>∃a b,vs=[.ref a,.ref b]/\(∃xs,H1 a=some (.lst xs))/\(∃ys,H1 b=some (.lst ys))/\R (Itz a b) H1
theorem Xi4{X:Cx}{es:List Expr}{k:Nat}{p2:Pos}{l m:Expr}{ta:TA}{p pos:Pos}(hg:Gl X "zip")(hm:X.mg "zip" = none)(ha:PA X [l,m] ta)(hs:starEach [l,m] X.env=(false,eval l X.env)::starEach [m] X.env:=by rfl)(hpl:(backTo pos (starEach [m] X.env)).any (·.1)=false:=by rfl):PI X (.Tuple es k p2) (.Call (.Name "zip" p) [l,m] [] pos) (iZip ta):=by
 intro pins s σ H R I h;refine Call_ (Dh I hg hm (show bootBuiltins "zip" = some (.type "zip") by decide +kernel) (PyProof.Rows.callWith_type1 (thn (ha pos pins s σ H _ I h) λus s1 ⟨vs,H1,I1,r1,q1⟩=>?_) hs hpl));obtain⟨a,b,e,⟨xs,hxs⟩,⟨ys,hys⟩,q⟩:=q1;subst e;cases r1 with
 | cons r rr=>
 cases rr with
 | cons r' rr=>
  cases rr;cases r;cases r';obtain⟨it1,rv1,pl1,hz1⟩:=I1.list (SqL.of (K:=X.K) hxs);obtain⟨it2,rv2,pl2,hz2⟩:=I1.list (SqL.of (K:=X.K) hys);refine call_zip_2 pl1.isList pl2.isList λh' q1 q2 q3 q4 q5 sz kk=>?_;refine wpAny_pyIter_zip q1 ?_;have I2:Inv X pins σ H1 {s1 with heap:=h'}:=I1.kept (t':=s1.toks) kk;refine⟨_,[s1.heap.objs.size+4,s1.heap.objs.size+2,s1.heap.objs.size+3,s1.heap.objs.size,s1.heap.objs.size+1],_,_,H1,rfl,I2,Xi3 a b _ _ _ _ _ ?_,⟨q1,q2,⟨_,_,q3⟩,q4,q5⟩,λc hc=>?_,q⟩
  ·simp<;>omega
  ·have hc':s1.heap.objs.size<=c:=by
    simp only[He,Im,or_false] at hc;rcases hc with e | e | e | e | e<;>(rw[e];first | exact G5 _ | exact Nat.le_add_right _ _)
   exact I1.fpOk hc' (I1.hok.fresh hc')
def tDSd (td ty tx:TE):TE:=fun σ H Q=>td σ H λx H1=>∃a,x = .ref a/\IsD H1 a/\ty σ H1 λy H2=>tx σ H2 λz H3=>∃kvs k,H3 a=some (.dK kvs)/\y=kV k/\kvs.length<sizeLine /\
 (∀v,An kvs k=some v->Q v H3)/\(An kvs k=none->Q z (upd H3 a (.dK (A1 kvs k z))))
section
variable {X:Cx}{o e f:Expr}{apos cpos:Pos}{td ty tx:TE}
theorem Xi5(ho:PE X o td)(he:PE X e ty)(hf:PE X f tx)(m:M2 X o "setdefault" apos e f cpos):PE X (.Call (.Attribute o "setdefault" apos) [e,f] [] cpos) (tDSd td ty tx):=by
 intro pins s σ H Q I h;refine wpAny_Call_method m.base m.few m.line PySem.F.plainAttrs_dict PySem.F.slot_dict_setdefault PySem.F.type_dict_setdefault (thn (ho pins s σ H _ I h) λu s1 ⟨x,H1,I1,rx,a,ex,d,q1⟩=>?_);subst ex;obtain rfl:u=Value.ref a:=rx;obtain⟨t1,t2,_⟩:=Xbn I1 d;refine⟨t1,t2,?_⟩;rw[m.trees];refine Calls.callWith_builtin rfl (Calls.evalArgs_plain (Calls.spliced_cons (thn (he pins s1 σ H1 _ I1 q1) λiv s2 ⟨y,H2,I2,ry,q2⟩=>
  Calls.spliced_cons (thn (hf pins s2 σ H2 _ I2 q2) λfv s3 ⟨z,H3,I3,rz,kvs,k,ea,ey,hl,q3,q4⟩=>Calls.spliced_nil ?_))))
 subst ey;obtain⟨zz,hd,vs,rel,dd⟩:=C4 I3.hok ea;refine call_meetsIn PySem.F.slot_dict_setdefault dd.typeIs PySem.F.entry_dict_setdefault (PySem.F.args_dict_setdefault_3 _ _ _) (kt_meets_setdefault (A5 X.prog X.w) a (Dl ry) hd fv) ⟨vs,dd,by rw[<-rel.length];exact zz,λv hv=>?_,λhn h' dd' hs=>?_⟩
 ·cases l:An kvs k with
  | some v0=>
   obtain⟨w',hw,rw'⟩:=Bc.some_of (v:=v0) (o:=valueAt vs k) (by rw[<-l];exact rel.val k);rw[hw] at hv;cases hv;exact⟨v0,H3,I3.tok _,rw',q3 v0 l⟩
  | none=>
   have hn:valueAt vs k=none:=Bc.none_of (by rw[<-l];exact rel.val k);rw[hn] at hv;cases hv
 ·cases l:An kvs k with
  | some v0=>
   obtain⟨w',hw,rw'⟩:=Bc.some_of (v:=v0) (o:=valueAt vs k) (by rw[<-l];exact rel.val k);rw[hw] at hn;cases hn
  | none=>
   have he:∃q,h'.get? a=some q:=let ⟨q,_,_,hq,_⟩:=dd'; ⟨q,hq⟩;have hl2:(A1 kvs k z).length<=sizeLine:=by have:=Ec kvs k z;omega
   exact⟨z,_,Fj I3 (by rw[ea];exact True.intro) hs he (Xbk hl2 hd (rel.put k rz) dd'),rz,q4 l⟩
end
theorem Inv.laidS{X:Cx}{pins:List (Addr×Obj)}{σ:St}{H H':Hp}{s:Shared}{h':Heap}{t':Nat}(I:Inv X pins σ H s)(k:∀b u,s.heap.get? b=some u->h'.get? b=some u)(up:∀b u,H b=some u->H' b=some u)
  (nw:∀b u,H' b=some u->H b=none->s.heap.get? b=none/\Aq X.prog X.w H' h' b u):Inv X pins σ H' {s with heap:=h',toks:=t'}:=by
 refine I.un ⟨λb u q _ _ _=>k b u q,λb u q _ _ _=>⟨u.slots,k b u q⟩,λb u q n _=>?_,λb u q _=>⟨u,k b u q⟩,λb xs q=>up _ _ q,λb u xs q=>up _ _ q,λb ps q=>⟨#[],by rw[up _ _ q];simp⟩⟩ λb u e=>?_
 ·cases e:H' b with
  | none=>rfl
  | some v=>rw[(nw b v e n).1] at q;cases q
 ·cases q:H b with
  | none=>exact(nw b u e q).2
  | some v=>
   have z:=up b v q;rw[e] at z;cases z;exact(I.hok b u q).stay (λc v _ q=>k c v q) (λc q=>up _ _ q) λc xs q=>up _ _ q
theorem Xdu{α β : Type}(f : α -> β)(d : β)(l:List α){i:Nat}(h:i<l.length):(l.map f).getD i d=f l[i]:=by
 simp[List.getD,h]
def Et (v d:Addr):HO:=.ext λh=>h.IsItemsView v d
section
variable {X:Cx}
theorem Xi6:MtR X "dict.items" (λx vs H Q=>∃d kvs,x = .ref d/\vs=[]/\H d=some (.dK kvs)/\∀v,H v=none->Q (.ref v) (upd H v (Et v d))):=by
 intro pins s σ H x vs v us Q I rx rv h;obtain⟨d,kvs,rfl,rfl,hH,q⟩:=h;cases rx;cases rv;obtain⟨hz,hm,xs,rv,dd⟩:=C4 I.hok hH;refine call_meetsIn PySem.F.slot_dict_items dd.typeIs PySem.F.entry_dict_items (PySem.F.args_dict_items_1 _) (meets_dict_items (A5 X.prog X.w) d hm) ⟨⟨_,dd⟩,?_⟩;refine⟨.ref s.heap.objs.size,_,I.laid (a:=s.heap.objs.size) (o:=Et s.heap.objs.size d) (t':=s.toks) (λ_ _ q=>Kj _ q) (G5 _) ⟨⟨_,Heap.get?_push_size _ rfl,rfl,rfl⟩,⟨_,Heap.get?_push_size _ rfl⟩,λh1 h2 z k=>?_⟩,rfl,q _ (I.hok.fresh (G5 _))⟩;obtain⟨o,e,r⟩:=z;exact⟨o,k o e,r⟩
def Ca:Hp->List Addr->List (List Str)->Hp
 | H,a::as,T::Ts=>Ca (upd H a (.tup (T.map V.str))) as Ts
 | H,_,_=>H
theorem Eu:∀(as:List Addr) (Ts:List (List Str)) (H:Hp) {b:Addr},b∉as->Ca H as Ts b=H b
 | [],_,_,_,_=>by unfold Ca;rfl
 | a::as,[],_,_,_=>by unfold Ca;rfl
 | a::as,T::Ts,H,b,h=>by
  rw[He,not_or] at h;show Ca (upd H a (.tup (T.map V.str))) as Ts b=H b;rw[Eu as Ts _ h.2,Af h.1]
theorem Xdv:∀(as:List Addr) (Ts:List (List Str)) (H:Hp),as.Nodup->as.length=Ts.length->∀i,i<as.length->Ca H as Ts (as.getD i 0)=some (.tup ((Ts.getD i []).map V.str))
 | [],_,_,_,_,i,hi=>absurd hi (Js _)
 | a::as,[],_,_,e,_,_=>by cases e
 | a::as,T::Ts,H,nd,e,i,hi=>by
  rw[Ii] at nd;show Ca (upd H a (.tup (T.map V.str))) as Ts _=_;cases i with
  | zero=>
   show Ca (upd H a (.tup (T.map V.str))) as Ts a=_;rw[Eu as Ts _ nd.1,Ac];rfl
  | succ i=>exact Xdv as Ts _ nd.2 (J7 e) i (Nat.lt_of_succ_lt_succ hi)
theorem Gq{α β : Type}{R : α -> β->Prop}:∀{xs:List α} {ys:List β},Paired R xs ys->∀{i:Nat} {y : β},ys[i]? = some y->∃x,xs[i]? = some x/\R x y
 | _,_,.nil,i,y,h=>by simp at h
 | _,_,.cons r t,0,y,h=>by simp at h;subst h;exact⟨_,rfl,r⟩
 | _,_,.cons r t,i+1,y,h=>by
  obtain⟨x,e,q⟩:=Gq t (i:=i) (y:=y) (by simpa using h);exact⟨x,by simpa using e,q⟩
def Ai (prs:List (Str×Str)):List (Key×V):=prs.map λq=>((Sum.inr q.1:Key),V.str q.2)
def pr2L (q:Str×Str):List Str:=[q.1,q.2]
theorem Xi7(hc:X.calm=true):A9 X (.builtin "sorted") (λxs H Q=>∃(v d:Addr) (prs:List (Str×Str)),xs=[.ref v]/\H v=some (Et v d)/\H d=some (.dK (Ai prs))/\(prs.map (·.1)).Nodup/\prs.length<64 /\
  ∀(l:Addr) (ps':List Addr) (Ts':List (List Str)) (H':Hp),H l=none->H' l=some (.lst (ps'.map V.ref))->Tups H' ps' Ts'->Ts'.Perm (prs.map pr2L)->(Ts'.Pairwise λa b=>ltL a b=true)->Same H H'->Q (.ref l) H'):=by
 intro pins s σ H xs us Q I r h;obtain⟨v,d,prs,rfl,hv,hd,nd,h64,q⟩:=h;obtain⟨u,rfl,rx⟩:=Br r;cases rx;obtain⟨hz,hm,vs,rv,o,es,ep,ho,hex,hdd,hr⟩:=C4 I.hok hd;obtain⟨vw,_,_⟩:=(show Aq X.prog X.w H s.heap v (.ext λh=>h.IsItemsView v d) from I.hok v _ hv);have hvl:vs.length=prs.length:=by
  have:=Paired.length rv;unfold Ai at this;rw[G3] at this;exact this.symm
 refine Calls.call_function_entry kind_sorted plain_sorted entry_sorted (args_sorted1 _) ?_;unfold Builtin.«sorted»;refine J9 (m:=checkCount "sorted" 1 1 _) (Ka ?_);refine J9 (PySem.W.kdx_collect (knd:=A5 X.prog X.w) (kvs:=vs) (ep:=ep) (by show X.A.in1.handled=none;simp[I.ok.hd hc]) vw ⟨o,es,ho,hex,hdd,hr⟩ (by rw[hvl,Kb];omega) λh' tk as kk hl g=>?_);have hal:as.length=prs.length:=hl.trans hvl;have tps:Gp h' (as.map Value.ref) (prs.map pr2L):=by
  refine⟨by rw[G3,G3,hal],λi hi=>?_⟩;rw[G3] at hi;have hi':i<prs.length:=by omega
  obtain⟨key,k,x,e1,e2,e3⟩:=g.pairs i as[i] (G4 hi);obtain⟨p,ep1,ek,rp⟩:=Gq rv e1;unfold Ai at ep1;rw[Hd,G4 hi'] at ep1;cases ep1;have ek:(Sum.inr prs[i].1:Key)=k:=ek;subst ek;obtain⟨t1,et1⟩:=Value.isStrOf_shape e2;obtain⟨t2,et2⟩:=(show ∃t,x=Value.str prs[i].2 t from rp);rw[show (as.map Value.ref).getD i .none = .ref as[i] by simp[List.getD,hi],show (prs.map pr2L).getD i []=[prs[i].1,prs[i].2] by simp[List.getD,hi',pr2L]];exact⟨as[i],_, #[key,x],0,rfl,e3,rfl,rfl,by rw[et1,et2];exact .cons _ _ (.cons _ _ .nil)⟩
 have ndT:(prs.map pr2L).Nodup:=by
  refine(I0.mpr ?_);refine(I0.mp nd).imp λ{a b} n e=>n ?_;unfold pr2L at e;injection e
 have hne:[]∉prs.map pr2L:=λz=>by
  obtain⟨q,_,e⟩:=Hq.mp z;unfold pr2L at e;cases e
 refine J9 (wpAny_newList ?_ (by rw[G3,hal,Kb];omega));have hoL:(h'.push (seqObj "list" (as.map Value.ref).toArray 0)).get? h'.objs.size=some (seqObj "list" (as.map Value.ref).toArray 0):=Heap.get?_push_size _ rfl;refine J9 (wpAny_holding (wpAny_call_entry slot_list_sort ⟨_,hoL,rfl⟩ entry_list_sort (Xds hoL ⟨tps.1,λi hi=>(tps.2 i hi).kept λb o _ e=>Kj _ e⟩ hne ndT (by rw[G3];omega) λp a1 a2=>⟨_,rfl,?_⟩) (args_list_sort _)));refine Ka ⟨_,rfl,?_⟩;rw[G3] at a1 a2;have hps:=a1.size;have lt:∀i∈p.toList,i<as.length:=λi hi=>by
  have q:p.toList.Perm (List.range as.length):=by
   have:=a1.toList;simpa using this
  simpa using q.mem_iff.mp hi
 have hget:∀i,i<as.length->(as.map Value.ref).getD i .none = .ref (as.getD i 0):=λi hi=>by simp[List.getD,hi]
 have eo:(p.toList.map λi=>(as.map Value.ref).getD i Value.none)=(p.toList.map λi=>as.getD i 0).map Value.ref:=by
  rw[Jg];exact J3 λi hi=>hget i (lt i hi)
 have lT:as.length=(prs.map pr2L).length:=by rw[G3];exact hal
 have hst:=Xdq (Ts:=prs.map pr2L) (by rw[<-lT];exact a1) (by rw[<-lT];exact a2);have nda:as.Nodup:=g.rise.imp λh=>G7 h;have oldN:∀a∈as,s.heap.get? a=none:=λa ha=>by
  cases q:s.heap.get? a with
  | none=>rfl
  | some o=>exact absurd (Ki q) (Nat.not_lt.mpr (Jp (g.above a ha)))
 have nL:s.heap.get? h'.objs.size=none:=by
  cases q:s.heap.get? h'.objs.size with
  | none=>rfl
  | some o=>exact absurd (Ki (kk _ _ q)) (Ht _)
 have hN:∀b,s.heap.get? b=none->H b=none:=λb hb=>by
  cases q:H b with
  | none=>rfl
  | some u=>
   obtain⟨o,ho⟩:=(I.hok b u q).there;rw[hb] at ho;cases ho
 have aL:∀a∈as,a≠h'.objs.size:=λa ha=>G7 (g.there ha);obtain⟨e,he⟩:=sortedHeap_at (out:=(p.toList.map λi=>(as.map Value.ref).getD i Value.none).toArray) hoL;have kF:∀b o,h'.get? b=some o->(sortedHeap (h'.push (seqObj "list" (as.map Value.ref).toArray 0)) h'.objs.size (as.map Value.ref) (p.toList.map λi=>(as.map Value.ref).getD i Value.none).toArray).get? b=some o:=λb o q=>by
  have l:=Ki q;rw[sortedHeap_old (G7 l) (by rw[size_push'];exact Iq l)];exact Kj _ q
 generalize sortedHeap (h'.push (seqObj "list" (as.map Value.ref).toArray 0)) h'.objs.size (as.map Value.ref) (p.toList.map λi=>(as.map Value.ref).getD i Value.none).toArray=hF at he kF ⊢;have atT:∀{U:Hp} i,i<as.length->Ca U as (prs.map pr2L) (as.getD i 0)=some (.tup (((prs.map pr2L).getD i []).map V.str)):=λ{U} i hi=>Xdv as _ U nda lT i hi;have up:∀b u,H b=some u->upd (Ca H as (prs.map pr2L)) h'.objs.size (.lst ((p.toList.map λi=>as.getD i 0).map V.ref)) b=some u:=λb u q=>by
  rw[Af (λz=>by rw[z,hN _ nL] at q;cases q),Eu as _ H (λz=>by rw[hN _ (oldN b z)] at q;cases q)];exact q
 have mem:∀i∈p.toList,as.getD i 0∈as:=λi hi=>by
  have:=lt i hi;rw[show as.getD i 0=as[i] by simp[List.getD,this]];exact Hl this
 refine⟨.ref h'.objs.size,_,Inv.laidS (s:=s) (h':=hF) (t':=tk) I (λb o q=>kF b o (kk b o q)) up (λb u eb nb=>?_),rfl,q _ (p.toList.map λi=>as.getD i 0) (p.toList.map λi=>(prs.map pr2L).getD i []) _ (hN _ nL) Ac ⟨by simp,λi hi=>?_⟩ hst.1 hst.2 (λb u q=>up b u q)⟩
 ·by_cases z:b=h'.objs.size
  ·subst z;rw[Ac] at eb;cases eb;refine⟨nL,by rw[G3,G3,G8,hps,Kb];omega,(p.toList.map λi=>(as.map Value.ref).getD i Value.none),e,?_,he⟩;rw[eo];generalize (p.toList.map λi=>as.getD i 0)=z
   induction z with
   | nil=>exact .nil
   | cons p t ih=>exact .cons rfl ih
  ·rw[Af z] at eb;by_cases m:b∈as
   ·obtain⟨i,hi,rfl⟩:=Ic.mp m;have e1:as.getD i 0=as[i]:=by simp[List.getD,hi]
    have at1:=atT (U:=H) i hi;rw[e1,eb] at at1;cases at1;obtain⟨a',o',xs',n',z1,z2,z3,z4,z5⟩:=tps.2 i (by rw[G3];exact hi);rw[hget i hi,e1] at z1;cases z1;obtain⟨key,kx,xx,e1',e2',e3'⟩:=g.pairs i as[i] (G4 hi);have zo:=z2.symm.trans e3';cases zo;have z4':Data.seq #[key,xx] 0=Data.seq xs' n':=z4;cases z4';exact⟨oldN _ m,by rw[G3,show (prs.map pr2L).getD i []=pr2L prs[i] by simp[List.getD,hal ▸ hi]];show 2<=sizeLine;decide,[key,xx],Xce z5,⟨_,kF _ _ e3',rfl,_,rfl⟩⟩
   ·rw[Eu as _ H m,nb] at eb;cases eb
 ·rw[G3] at hi;have hi2:i<p.toList.length:=hi;have hm:=mem _ (Hl hi2);have l2:=lt _ (Hl hi2);rw[Xdu (λi=>as.getD i 0) 0 p.toList hi2,Xdu (λi=>(prs.map pr2L).getD i []) [] p.toList hi2];rw[Af (aL _ hm)];exact atT _ l2
end
def C0 (v d:Addr):HO:=.ext λh=>h.IsValuesView v d
section
variable {X:Cx}
theorem Xi8:MtR X "dict.values" (λx vs H Q=>∃d kvs,x = .ref d/\vs=[]/\H d=some (.dK kvs)/\∀v,H v=none->Q (.ref v) (upd H v (C0 v d))):=by
 intro pins s σ H x vs v us Q I rx rv h;obtain⟨d,kvs,rfl,rfl,hH,q⟩:=h;cases rx;cases rv;obtain⟨hz,hm,xs,rv,dd⟩:=C4 I.hok hH;refine call_meetsIn PySem.F.slot_dict_values dd.typeIs PySem.F.entry_dict_values (PySem.F.args_dict_values_1 _) (meets_dict_values (A5 X.prog X.w) d hm) ⟨⟨_,dd⟩,?_⟩;refine⟨.ref s.heap.objs.size,_,I.laid (a:=s.heap.objs.size) (o:=C0 s.heap.objs.size d) (t':=s.toks) (λ_ _ q=>Kj _ q) (G5 _) ⟨⟨_,Heap.get?_push_size _ rfl,rfl,rfl⟩,⟨_,Heap.get?_push_size _ rfl⟩,λh1 h2 z k=>?_⟩,rfl,q _ (I.hok.fresh (G5 _))⟩;obtain⟨o,e,r⟩:=z;exact⟨o,k o e,r⟩
theorem Xdw:∀{xs:List V} {us:List Value},xs.length=us.length->(∀i (h1:i<xs.length) (h2:i<us.length),Ag xs[i] us[i])->Vals xs us
 | [],[],_,_=>.nil
 | [],u::us,e,_=>by cases e
 | x::xs,[],e,_=>by cases e
 | x::xs,u::us,e,h=>.cons (h 0 (Nat.zero_lt_succ _) (Nat.zero_lt_succ _)) (Xdw (J7 e) λi h1 h2=>h (i+1) (Nat.succ_lt_succ h1) (Nat.succ_lt_succ h2))
theorem Xi9(hc:X.calm=true):A9 X (.type "list") (λxs H Q=>∃(v d:Addr) (kvs:List (Key×V)),xs=[.ref v]/\H v=some (C0 v d)/\H d=some (.dK kvs)/\∀l,H l=none->Q (.ref l) (upd H l (.lst (kvs.map (·.2))))):=by
 intro pins s σ H xs us Q I r h;obtain⟨v,d,kvs,rfl,hv,hd,q⟩:=h;obtain⟨u,rfl,rx⟩:=Br r;cases rx;obtain⟨hz,hm,vs,rv,o,es,ep,ho,hex,hdd,hr⟩:=C4 I.hok hd;obtain⟨vw,_,_⟩:=(show Aq X.prog X.w H s.heap v (.ext λh=>h.IsValuesView v d) from I.hok v _ hv);have hvl:=Paired.length rv;refine PySem.W.kdl_call (PySem.W.kdl_values (knd:=A5 X.prog X.w) (kvs:=vs) (ep:=ep)) (I.ok.hd hc) ⟨vw,o,es,ho,hex,hdd,hr⟩ (by rw[<-hvl];exact hz) λh' tk acc c kk hS hacc=>?_;refine⟨.ref s.heap.objs.size,_,I.laid (t':=tk) (o:=.lst (kvs.map (·.2))) kk (G5 _) ⟨by rw[G3];exact hz,acc.toList,c,Xdw ?_ λi h1 h2=>?_,by simpa using hS⟩,rfl,q _ (I.hok.fresh (G5 _))⟩
 ·rw[G3];exact hvl.trans (hacc.1.symm.trans G8.symm)
 ·have h3:i<acc.size:=by rw[<-G8];exact h2
  obtain⟨k,hk⟩:=hacc.2 i acc[i] (Array.getElem?_eq_getElem h3);obtain⟨p,hp,_,rp⟩:=Gq rv hk;rw[G3] at h1;have e1:(kvs.map (·.2))[i]'(by rw[G3];exact h1)=p.2:=by
   rw[Jb];rw[G4 h1] at hp;rw[Ha hp]
  rw[e1,Array.getElem_toList];exact rp
end
end L2
set_option maxHeartbeats 4000000
namespace SH
open PySem PySem.Spec PyProof.Rows L2
theorem Xdx{H:Hp}:∀{ps:List Addr} {Ts:List (List Str)},Tups H ps Ts->DAll H (Ts.map Bn) (ps.map V.ref)
 | [],Ts,h=>by
  have:Ts=[]:=Hy.mp h.1.symm;rw[this];unfold List.map DAll;rfl
 | p::ps,[],h=>by have:=h.1;simp at this
 | p::ps,T::Ts,h=>by
  rw[Hv,Hv];unfold DAll;exact⟨.ref p,ps.map V.ref,rfl,Xdc (h.2 0 (by simp)),Xdx ⟨by simpa using h.1,λi hi=>by simpa using h.2 (i+1) (by simpa using hi)⟩⟩
def Cov (row:List Str) (Us:List (List Str)) (j:Nat) (Ts:List (List Str)):Prop:=∀i,i<j->∀x∈row,x∉Us.getD i []->Ep row (srt (Us.getD i []++[x]))=true->srt (Us.getD i []++[x])∈Ts
theorem Xdy{α : Type}{R : α -> α->Prop}(irr:∀a,¬R a a)(tr:∀a b c,R a b->R b c->R a c):∀{A B:List α},A.Pairwise R->B.Pairwise R->(∀x,x∈A↔x∈B)->A=B
 | [],[],_,_,_=>rfl
 | [],b::_,_,_,h=>absurd ((h b).mpr Hg) (by simp)
 | a::_,[],_,_,h=>absurd ((h a).mp Hg) (by simp)
 | a::A,b::B,hA,hB,h=>by
  obtain⟨a1,a2⟩:=Iw.mp hA;obtain⟨b1,b2⟩:=Iw.mp hB;have e:a=b:=by
   rcases He.mp ((h a).mp Hg) with z | z
   ·exact z
   ·rcases He.mp ((h b).mpr Hg) with u | u
    ·exact u.symm
    ·exact absurd (tr _ _ _ (a1 b u) (b1 a z)) (irr a)
  subst e;rw[Xdy irr tr a2 b2 λx=>?_];constructor
  ·intro hx;rcases He.mp ((h x).mp (Hb _ hx)) with z | z
   ·exact absurd (z ▸ a1 x hx) (irr a)
   ·exact z
  ·intro hx;rcases He.mp ((h x).mpr (Hb _ hx)) with z | z
   ·exact absurd (z ▸ b1 x hx) (irr a)
   ·exact z
def LayC (row:List Str) (n:Nat) (Us:List (List Str)):Prop:=∀T,T∈Us↔Ep row T=true/\T.length=n
end SH
namespace L2
open PySem PySem.Spec PyProof.Rows
end L2
namespace SH
open PySem PySem.Spec PyProof.Rows L2
def spOne:Sp:=λvs H Q _=>∃(dr sc l:Addr) (xs:List V),vs=[.ref dr,.ref l]/\DrawOk H dr sc/\H l=some (.lst xs)/\l≠dr/\0<xs.length/\xs.length<=1000 /\
 ∀(i:Nat) (H':Hp),i<xs.length->DrawOk H' dr sc->But dr H H'->Q (xs.getD i .non) H'
def mostL (a b c:List Str):List Str:=srt ((a.filter λx=>decide (x∈b)||decide (x∈c))++(b.filter λx=>decide (x∈c) && !decide (x∈a)))
end SH
set_option maxHeartbeats 3200000
namespace L2
open PySem PySem.Spec PyProof.Rows PySem.Calls
def Mask (mask:Nat):Prop:=mask=7\/mask=15\/mask=31
section
variable {mask:Nat}{owner:Array (Option Nat)}
def liveL (owner:Array (Option Nat)):List Nat:=owner.toList.filterMap id
end
section
variable {P:Program}{w:World}{A:Around}{E:Value->Shared->Prop}{s:Shared}{a b c:Addr}{ks ls:List Str}
structure Nu (w:World) (h:Heap) (a:Addr) (n:Nat):Prop where
 ex:∃o ep t,h.get? a=some o/\o.ExactSet/\o.data = .set #[] ep t/\t.place = #[]/\t.dummies = #[]/\Mask t.mask/\n<=t.mask/\t.led = !Bf w/\t.plain=true
def Wl (P:Program) (w:World) (wl:Array (Int×Value)) (ks:List Str):Prop:=ElemsOf (PySem.strKind P w) wl.toList/\∃zs,StrsAre (wl.toList.map (·.2)) zs/\zs.Perm ks
end
section
variable {P:Program}{w:World}{A:Around}{E:Value->Shared->Prop}{s:Shared}{a b c:Addr}{ks ls:List Str}
def xor1 (ks:List Str) (x:Str):List Str:=if x∈ks then ks.erase x else ks++[x]
end
section
variable {P:Program}{w:World}{A:Around}{E:Value->Shared->Prop}{s:Shared}{a b c:Addr}{ks ls:List Str}
end
section
variable {X:Cx}
end
end L2
set_option maxHeartbeats 4000000
namespace SH
open PySem PySem.Spec PyProof.Rows L2
def xorL (a b:List Str):List Str:=srt ((a.filter λx => !decide (x∈b))++(b.filter λx => !decide (x∈a)))
structure Two (H:Hp) (r p q:Addr) (row a b:List Str):Prop where
 hr:H r=some (.lst (row.map V.str))
 r2:Row2 row
 hd:(dit row).length<=14
 hp:H p=some (.tup (a.map V.str))
 hq:H q=some (.tup (b.map V.str))
 oa:∀y∈a,okN y
 ob:∀y∈b,okN y
 la:a.length<=24
 lb:b.length<=24
end SH
namespace L2
open PySem PySem.Spec PyProof.Rows
def Xja (K:PySem.W.Frag) (te:TE):TE:=fun σ H Q=>te σ H λv H1=>∃p ss,v = .ref p/\(SqL K H1 p (ss.map V.str)\/SqT K H1 p (ss.map V.str))/\ss.length<=60/\∀l H',H1 l=none->H' l=some (.lst ((dit ss).map V.str))->Same H1 H'->Q (.ref l) H'
theorem Xjb{X:Cx}{e:Expr}{te:TE}{p1 p2 q1 q2:Pos}(hc:X.calm=true)(hg1:Gl X "sorted")(hm1:X.mg "sorted" = none)(hg2:Gl X "set")(hm2:X.mg "set" = none)(hv:PE X e te)
  (h1:starEach [.Call (.Name "set" p2) [e] [] q2] X.env=[(false,eval (.Call (.Name "set" p2) [e] [] q2) X.env)]:=by rfl) (h2:starEach [e] X.env=[(false,eval e X.env)]:=by rfl)
  :
  PE X (.Call (.Name "sorted" p1) [.Call (.Name "set" p2) [e] [] q2] [] q1) (Xja X.K te):=by
 intro pins s σ H Q I h
 let Q0:VK:=λv H1=>∃p ss,v = .ref p/\(SqL X.K H1 p (ss.map V.str)\/SqT X.K H1 p (ss.map V.str))/\ss.length<=60/\∀l H',H1 l=none->H' l=some (.lst ((dit ss).map V.str))->Same H1 H'->Q (.ref l) H'
 have hv':PE X e (fun σ' H' Q'=>te σ' H' Q0/\∀v H1,Q0 v H1->Q' v H1):=λpins s σ H Q' I h=>thn (hv pins s σ H Q0 I h.1) λu s1 ⟨v,H1,I1,r1,q1⟩=>⟨v,H1,I1,r1,h.2 v H1 q1⟩;refine(Ar (Xcg hc) hg1 hm1 (by rfl) (Aa (B8 (Xcf hc) hg2 hm2 (by rfl) (Aa hv' Ab h2) (by decide) (by decide) h2) Ab h1) (by decide) (by decide) h1) pins s σ H Q I ⟨h,λv H1 q0=>?_⟩;obtain⟨p,ss,ev,hq,hl,k⟩:=q0;refine⟨p,ss,by rw[ev],hq,by unfold scanBound;omega,λa na=>?_⟩;have hdl:=Ej ss;refine⟨a,ddup ss,rfl,Ac,by omega,λl ls nl hp hs=>?_⟩;rw[Xcm hp hs];have s1:Same H1 (upd H1 a (Bm X.prog X.w a (ddup ss))):=(Same.refl H1).step na;exact k l _ (s1.free nl) Ac (s1.step nl)
end L2
namespace SH
open PySem PySem.Spec PyProof.Rows L2
def Xdz (a b:List Str):List Str:=(dit (a++b)).filter λx => !(decide (x∈a)&&decide (x∈b))
structure First (a b:List Str) (x y:Str):Prop where
 hx:x∈a
 hy:y∈a
 lt:ltS x y
 df:lieR a x y≠lieR b x y
 fst:∀x' y',x'∈a->y'∈a->ltS x' y'->lieR a x' y'≠lieR b x' y'->ltS x x'\/(x'=x/\(y'=y\/ltS y y'))
inductive Due (a b:List Str):Option (List Str)->Prop
 | ditch (x:Str) (h:x∈Xdz a b) (f:∀y∈Xdz a b,y=x\/ltS x y):Due a b (some [Str.ofString "ditch",x])
 | lie (x y:Str) (h:∀z,z∈a↔z∈b) (f:First a b x y):Due a b (some [Str.ofString "lie",x,y])
 | none (h:∀z,z∈a↔z∈b) (f:∀x y,x∈a->y∈a->ltS x y->lieR a x y=lieR b x y):Due a b none
structure Two2 (H:Hp) (p q:Addr) (a b:List Str):Prop where
 hp:H p=some (.lst (a.map V.str))
 hq:H q=some (.lst (b.map V.str))
 ra:Row2 a
 rb:Row2 b
 la:a.length<=28
 lb:b.length<=28
 da:(ddup a).length<16
 db:(ddup b).length<16
def DueAt (H:Hp):Option (List Str)->V->Prop
 | none,v=>v = .non
 | some ss,v=>∃l,v = .ref l/\H l=some (.tup (ss.map V.str))
theorem Xd0:∀(l:List Str) (i:Nat) (a b:Str),l[i]? = some a->l[i+1]? = some b->((l.set i b).set (i+1) a).Perm l
 | [],i,a,b,h,_=>by simp at h
 | [x],i,a,b,_,h=>by simp at h
 | x::y::r,0,a,b,h1,h2=>by
  simp at h1 h2;subst h1 h2;exact List.Perm.swap ..
 | x::r,i+1,a,b,h1,h2=>by
  rw[List.set_cons_succ,List.set_cons_succ];exact(Xd0 r i a b (by simpa using h1) (by simpa using h2)).cons x
def Gr:Sp:=λvs H Q _=>∃(dr sc r:Addr) (row:List Str),vs=[.ref dr,.ref r]/\DrawOk H dr sc/\H r=some (.lst (row.map V.str))/\r≠dr/\row.length<=60 /\
 ∀(l:Addr) (t:List Str) (H':Hp),H l=none->H' l=some (.lst (t.map V.str))->t.Perm row->DrawOk H' dr sc->But dr H H'->Q (.ref l) H'
def spTwin:Sp:=λvs H Q _=>∃(dr sc r:Addr) (row:List Str),vs=[.ref dr,.ref r]/\DrawOk H dr sc/\H r=some (.lst (row.map V.str))/\r≠dr/\row.length<=60/\(∀y∈row,row.count y=2) /\
 ∀(l:Addr) (t:List Str) (H':Hp),H l=none->H' l=some (.lst (t.map V.str))->t.Perm row->DrawOk H' dr sc->But dr H H'->Q (.ref l) H'
abbrev NTw:List Str:=["_law_draw", "_law_row_here", "_law_names_here", "_law_other", "_law_k", "_law_more"]
abbrev NTw1:List Str:=["_law_name", "_law_more"]
theorem Xd1{n i:Nat}(h:i<n):ixN n (i:Int)=some i:=by
 unfold ixN;rw[Kd (by omega),Kd (by omega)];simp
def rot (b:List Str) (k:Nat):List Str:=b.drop k++b.take k
def Ao (a b:List Str):Prop:=∀(i j:Nat) (x:Str),a[i]? = some x->a[j]? = some x->b[i]? = b[j]?
theorem Ck(b:List Str)(k:Nat):(rot b k).length=b.length:=by
 unfold rot;rw[Hi,Jk,Hu];omega
theorem Cf(b:List Str)(k:Nat):(rot b k).Perm b:=by
 unfold rot;exact List.perm_append_comm.trans (by rw[Ia])
theorem Xd2(b:List Str):rot b 0=b:=by
 unfold rot;rw[List.drop_zero,List.take_zero,Jd]
theorem Xd3(b:List Str):rot b b.length=b:=by
 unfold rot;rw[List.drop_length,Jn,List.nil_append]
theorem Xd4{b:List Str}{k:Nat}(h:k<=b.length):rot (rot b k) (b.length - k)=b:=by
 unfold rot;have l:(b.drop k).length=b.length - k:=Jk;rw[<-l,List.drop_left,List.take_left,Ia]
theorem Xjc(a:List Str)(k:Nat)(h:k<=a.length):(rot a k).reverse=rot a.reverse (a.length - k):=by
 unfold rot;rw[List.reverse_append,List.drop_reverse,List.take_reverse,Nat.sub_sub_self h]
theorem Xd5{a:List Str}{k:Nat}(h:k<=a.length){i:Nat}(hi:i<a.length):(rot a k)[i]? = a[if i<a.length - k then k+i else i - (a.length - k)]?:=by
 unfold rot;have l:(a.drop k).length=a.length - k:=Jk;by_cases c:i<a.length - k
 ·rw[Kd c,List.getElem?_append_left (by omega),List.getElem?_drop]
 ·rw[Kc c,List.getElem?_append_right (by omega),l,List.getElem?_take_of_lt (by omega)]
theorem Xd6{a b a' b':List Str}{n:Nat}(f:Nat->Nat)(l:a'.length=n)(ha:∀i,i<n->a'[i]? = a[f i]?)(hb:∀i,i<n->b'[i]? = b[f i]?)(h:Ao a b):Ao a' b':=λi j x hi hj=>by
 have i1:i<n:=by rw[<-l];exact(G6.mp hi).1
 have j1:j<n:=by rw[<-l];exact(G6.mp hj).1
 rw[ha i i1] at hi;rw[ha j j1] at hj;rw[hb i i1,hb j j1];exact h _ _ x hi hj
theorem Xd7{a b:List Str}{k:Nat}(l:a.length=b.length)(h:k<=a.length)(f:Ao a b):Ao (rot a k) (rot b k):=
 Xd6 (n:=a.length) (λi=>if i<a.length - k then k+i else i - (a.length - k)) (Ck a k) (λi hi=>Xd5 h hi) (λi hi=>by rw[Xd5 (by omega) (by omega),l]) f
theorem Xjd{a b:List Str}(l:a.length=b.length)(f:Ao a b):Ao a.reverse b.reverse:=
 Xd6 (n:=a.length) (λi=>a.length - 1 - i) Ig (λi hi=>List.getElem?_reverse hi) (λi hi=>by rw[List.getElem?_reverse (by omega),l]) f
def Bo (a:List Str):Prop:=∀y∈a,a.count y=2
theorem Bo.perm{a b:List Str}(h:Bo a)(p:b.Perm a):Bo b:=λy hy=>by rw[p.count_eq];exact h y (p.mem_iff.mp hy)
theorem Xd8{a b:List Str}(l:a.length=b.length)(f:Ao a b){x y y':Str}(h:(x,y)∈a.zip b)(h':(x,y')∈a.zip b):y=y':=by
 obtain⟨i,hi⟩:=Jx.mp h;obtain⟨j,hj⟩:=Jx.mp h';obtain⟨a1,b1⟩:=Hr.mp hi;obtain⟨a2,b2⟩:=Hr.mp hj;have:=f i j x a1 a2;rw[b1,b2] at this;exact Ha this
theorem Xd9{a b:List Str}(l:a.length=b.length)(ta:Bo a)(tb:Bo b)(f:Ao a b){x x' y:Str}(h:(x,y)∈a.zip b)(h':(x',y)∈a.zip b):x=x':=by
 refine Classical.byContradiction λne=>?_;have ea:(a.zip b).map (·.1)=a:=List.map_fst_zip (by omega);have eb:(a.zip b).map (·.2)=b:=List.map_snd_zip (by omega);have ma:x∈a:=by rw[<-ea];exact Ih (f:=(·.1)) h
 have ma':x'∈a:=by rw[<-ea];exact Ih (f:=(·.1)) h'
 have mb:y∈b:=by rw[<-eb];exact Ih (f:=(·.2)) h
 have cx:(a.zip b).countP (λq=>q.1==x)=2:=by
  have:=ta x ma;rw[<-ea,List.count,J4] at this;exact this
 have cx':(a.zip b).countP (λq=>q.1==x')=2:=by
  have:=ta x' ma';rw[<-ea,List.count,J4] at this;exact this
 have cy:(a.zip b).countP (λq=>q.2==y)=2:=by
  have:=tb y mb;rw[<-eb,List.count,J4] at this;exact this
 have key:∀z:List (Str×Str),(∀q∈z,q∈a.zip b)->z.countP (λq=>q.1==x)+z.countP (λq=>q.1==x')<=z.countP (λq=>q.2==y):=by
  intro z
  induction z with
  | nil=>intro _;exact G5 _
  | cons q r ih=>
   intro hz;have i:=ih λq' hq'=>hz q' (Hb _ hq');have hq:=hz q Hg;rw[List.countP_cons,List.countP_cons,List.countP_cons];by_cases c1:q.1=x
   ·have e2:q.2=y:=Xd8 l f (x:=x) (by rw[<-c1];exact hq) h;have n1:¬(q.1==x')=true:=λz=>ne (c1.symm.trans (beq_iff_eq.mp z));rw[Kd (beq_iff_eq.mpr c1),Kc n1,Kd (beq_iff_eq.mpr e2)];omega
   ·by_cases c2:q.1=x'
    ·have e2:q.2=y:=Xd8 l f (x:=x') (by rw[<-c2];exact hq) h';rw[Kc (λz=>c1 (beq_iff_eq.mp z)),Kd (beq_iff_eq.mpr c2),Kd (beq_iff_eq.mpr e2)];omega
    ·rw[Kc (λz=>c1 (beq_iff_eq.mp z)),Kc (λz=>c2 (beq_iff_eq.mp z))];omega
 have:=key _ λq hq=>hq;omega
theorem Xea{a b:List Str}(l:a.length=b.length)(ta:Bo a)(tb:Bo b)(f:Ao a b):Ao b a:=λi j y hi hj=>by
 have i1:i<a.length:=by rw[l];exact(G6.mp hi).1
 have j1:j<a.length:=by rw[l];exact(G6.mp hj).1
 have h1:(a[i],y)∈a.zip b:=Ib (i:=i) (Hr.mpr ⟨G4 i1,hi⟩);have h2:(a[j],y)∈a.zip b:=Ib (i:=j) (Hr.mpr ⟨G4 j1,hj⟩);rw[G4 i1,G4 j1,Xd9 l ta tb f h1 h2]
def Res (a b:List Str) (m:Nat) (r:Option (List Str)):Prop:=
 (∃k,k<m/\(∀j,j<k->¬Ao a (rot b j))/\Ao a (rot b k)/\r=some (rot b k)) \/
 ((∀j,j<m->¬Ao a (rot b j))/\∃k,k<m/\(∀j,j<k->¬Ao a (rot b.reverse j))/\Ao a (rot b.reverse k)/\r=some (rot b.reverse k)) \/
 ((∀j,j<m->¬Ao a (rot b j))/\(∀j,j<m->¬Ao a (rot b.reverse j))/\r=none)
theorem Dc{a b:List Str}{m:Nat}{r r':Option (List Str)}(h:Res a b m r)(h':Res a b m r'):r=r':=by
 rcases h with ⟨k,k1,k2,k3,rfl⟩ | ⟨n1,k,k1,k2,k3,rfl⟩ | ⟨n1,n2,rfl⟩<;>rcases h' with ⟨j,j1,j2,j3,rfl⟩ | ⟨m1,j,j1,j2,j3,rfl⟩ | ⟨m1,m2,rfl⟩
 ·rcases Nat.lt_trichotomy k j with c | c | c
  ·exact absurd k3 (j2 k c)
  ·rw[c]
  ·exact absurd j3 (k2 j c)
 ·exact absurd k3 (m1 k k1)
 ·exact absurd k3 (m1 k k1)
 ·exact absurd j3 (n1 j j1)
 ·rcases Nat.lt_trichotomy k j with c | c | c
  ·exact absurd k3 (j2 k c)
  ·rw[c]
  ·exact absurd j3 (k2 j c)
 ·exact absurd k3 (m2 k k1)
 ·exact absurd j3 (n1 j j1)
 ·exact absurd j3 (n2 j j1)
 ·rfl
theorem Dd{a b:List Str}{r:Option (List Str)}(h:Res a b (b.length+1) r):Res a b (max 1 b.length) r:=by
 have e1:rot b b.length=rot b 0:=by rw[Xd3,Xd2]
 have e2:rot b.reverse b.length=rot b.reverse 0:=by
  have:=Xd3 b.reverse;rw[Ig] at this;rw[this,Xd2]
 rcases h with ⟨k,k1,k2,k3,e⟩ | ⟨n1,k,k1,k2,k3,e⟩ | ⟨n1,n2,e⟩
 ·refine .inl ⟨k,?_,k2,k3,e⟩;by_cases c:k=b.length/\0<k
  ·rw[c.1,e1] at k3;exact absurd k3 (k2 0 c.2)
  ·omega
 ·refine .inr (.inl ⟨λj hj=>n1 j (by omega),k,?_,k2,k3,e⟩);by_cases c:k=b.length/\0<k
  ·rw[c.1,e2] at k3;exact absurd k3 (k2 0 c.2)
  ·omega
 ·exact .inr (.inr ⟨λj hj=>n1 j (by omega),λj hj=>n2 j (by omega),e⟩)
theorem Gs{a b:List Str}(l:a.length=b.length)(ta:Bo a)(tb:Bo b){r:Option (List Str)}(h:Res a b (b.length+1) none)(h':Res b a (a.length+1) r):r=none:=by
 obtain⟨n1,n2⟩:(∀j,j<b.length+1->¬Ao a (rot b j))/\∀j,j<b.length+1->¬Ao a (rot b.reverse j):=by
  rcases h with ⟨_,_,_,_,e⟩ | ⟨_,_,_,_,_,e⟩ | ⟨n1,n2,_⟩
  ·cases e
  ·cases e
  ·exact⟨n1,n2⟩
 have tr:∀k,Bo (rot a k):=λk=>ta.perm (Cf a k);rcases h' with ⟨k,k1,_,k3,_⟩ | ⟨_,k,k1,_,k3,_⟩ | ⟨_,_,e⟩
 ·-- b against a turned
  have s:=Xd7 (k:=a.length - k) (by rw[Ck];exact l.symm) (by omega) k3;rw[Xd4 (by omega)] at s;have s2:=Xea (by rw[Ck];exact l.symm) (tb.perm (Cf b _)) ta s;exact absurd s2 (n1 _ (by omega))
 ·have lr:a.reverse.length=a.length:=Ig;have s:=Xd7 (k:=a.length - k) (by rw[Ck,lr];exact l.symm) (by omega) k3;have eb:rot (rot a.reverse k) (a.length - k)=a.reverse:=by
   have:=Xd4 (b:=a.reverse) (k:=k) (by rw[lr];omega)
   rwa [lr] at this
  rw[eb] at s;have s1:=Xjd (by rw[Ck,lr];exact l.symm) s;rw[List.reverse_reverse,Xjc b _ (by omega)] at s1;have s2:=Xea (by rw[Ck,Ig];exact l.symm) ((tb.perm (Jh b)).perm (Cf _ _)) ta s1;exact absurd s2 (n2 _ (by omega))
 ·exact e
def De (a b:List Str) (Ts:List (List Str)):Prop:=(Ts.Pairwise λs t=>ltL s t=true)/\∀T,T∈Ts ↔ ∃x y,(x,y)∈a.zip b/\T=[x,y]
theorem Xeb{a b:List Str}{Ts Us:List (List Str)}(h:De a b Ts)(g:De a b Us):Ts=Us:=
 Xdy (R:=λs t=>ltL s t=true) (λa z=>by rw[Gm] at z;cases z) (λa b c h1 h2=>Gn a b c h1 h2) h.1 g.1 λT=>(h.2 T).trans (g.2 T).symm
end SH
namespace L2
open PySem PySem.Spec PyProof.Rows
theorem Xje{vs:List Value}{ls:List Str}(h:StrsAre vs ls):vs.length=ls.length:=by
 induction h with
 | nil=>rfl
 | cons _ _ _ ih=>simp[ih]
section
variable {X:Cx}
theorem Xjf:A9 X (.builtin "len") (λxs H Q=>∃a ks,xs=[.ref a]/\H a=some (Bm X.prog X.w a ks)/\ks.length<scanBound/\Q (.int ks.length) H):=by
 intro pins s σ H xs us Q I r h;obtain⟨a,ks,rfl,ha,hb,q⟩:=h;obtain⟨u,rfl,rx⟩:=Br r;cases rx;obtain⟨S,_⟩:=(show Aq X.prog X.w H s.heap a (.ext λh=>SSet X.prog X.w h a ks) from I.hok a _ ha);obtain⟨o,es,ep,t,ls,h1,h2,h3,h4,h5,h6,h7,h8,_⟩:=S;have hn:es.size=ks.length:=by
  have:=Xje h5;rw[G3,G8] at this;rw[this,h6.length_eq]
 exact PySem.call_len_set h1 h2 h3 h8 (by unfold scanBound at h7;omega) ⟨.int ks.length,H,I.tok _,⟨s.toks+1,by rw[hn]⟩,q⟩
theorem Xjg(P:Program)(w:World)(h1:X.prog=P)(h2:X.w=w):A9 X (.builtin "len") (λxs H Q=>∃a ks,xs=[.ref a]/\H a=some (Bm P w a ks)/\ks.length<scanBound/\Q (.int ks.length) H):=by subst h1 h2;exact Xjf
theorem Xec(P:Program)(w:World)(h1:X.prog=P)(h2:X.w=w)(hc:X.calm=true):A9 X (.type "set") (λxs H Q=>∃p ss,xs=[.ref p]/\(SqL X.K H p (ss.map V.str)\/SqT X.K H p (ss.map V.str))/\ss.length+1<scanBound/\∀a,H a=none->Q (.ref a) (upd H a (Bm P w a (ddup ss)))):=by subst h1 h2;exact Xcf hc
end
theorem Xjh{cap:List (Option Nat)}{tt:TT}{te:TE}{J:It}{σ:St}{H1:Hp}{F:Addr->Hp->Prop}{j:Nat}(n:Nat)(hn:n<sizeLine)(vs:Nat->V)(ok:Nat->Bool)(Us:Nat->List Str)
  (hgo:∀i H2,i<n->Same H1 H2->J.go i H2/\∀x H3,J.yld i H2 x H3->H3=H2/\x=vs i)
  (hst:∀H2,Same H1 H2->J.stop n H2)
  (tst:∀i H2 Q,i<n->Same H1 H2->(∀H',Same H2 H'->Q (ok i) H')->tt ((Be cap σ).set j (some (vs i))) H2 Q)
  (step:∀i H2 Q,i<n->ok i=true->Same H1 H2->(∀t H',H' t=some (.tup ((Us i).map V.str))->Same H2 H'->Q (.ref t) H')->te ((Be cap σ).set j (some (vs i))) H2 Q)
  (hd:∀D ps H2,H1 D=none->Same H1 H2->H2 D=some (.lst (ps.map V.ref))->Tups H2 ps (((List.range n).filter ok).map Us)->F D H2):C7 cap (A0 j) tt te J σ H1 F:=by
 refine Dr n vs (λD i σ2 H2=>(∀v, σ2.set j v=(Be cap σ).set j v)/\Same H1 H2/\∃ps:List Addr,H2 D=some (.lst (ps.map V.ref))/\Tups H2 ps (((List.range i).filter ok).map Us)) ?_ ?_ ?_ ?_ ?_
 ·intro D hD;exact⟨λ_=>rfl,(Same.refl H1).step hD,[],Ac,Tups.nil _⟩
 ·rintro D i σ2 H2 hD hi ⟨_,s2,_⟩;exact hgo i H2 hi s2
 ·rintro D σ2 H2 hD ⟨_,s2,_⟩;exact hst H2 s2
 ·rintro D i σ2 H2 hD hi ⟨e,s2,ps,hb,ht⟩;show tt (σ2.set j (some (vs i))) H2 _;rw[e];refine tst i H2 _ hi s2 λH3 s3=>?_;have s13:=s2.trans s3;have hb3:=s3 _ _ hb;have ht3:=ht.same s3;have hss:∀v,((Be cap σ).set j (some (vs i))).set j v=(Be cap σ).set j v:=λv=>by rw[List.set_set]
  refine Ap (λhk=>?_) (λhk=>?_)
  ·refine step i H3 _ hi hk s13 λt H4 h4 s4=>?_;have hb4:=s4 _ _ hb3;have hl:(ps.map V.ref).length<=i:=by
    have:=ht.1;rw[G3] at this;rw[G3,this];exact Hx (Jw ..) (by rw[Ir];omega)
   have keep:∀b w,H4 b=some (.tup w)->upd H4 D (.lst (ps.map V.ref++[.ref t])) b=some (.tup w):=λb w e=>by
    rw[Af (λz=>by rw[z,hb4] at e;cases e)];exact e
   refine wput hi hb4 (by omega) ⟨hss,λb u e'=>?_,ps++[t],by rw[Ac,Hj];rfl,?_⟩
   ·rw[Af (Aw e' hD)];exact s4 _ _ (s13 b u e')
   ·rw[Jr,Il,List.filter_cons_of_pos hk,List.filter_nil,Hj];exact Tups.app ⟨ht3.1,λj hj=>keep _ _ (s4 _ _ (ht3.2 j hj))⟩ (Tups.cons (keep _ _ h4) (Tups.nil _))
  ·refine wskip hi ⟨hss,s13,ps,hb3,?_⟩;rw[Jr,Il,List.filter_cons_of_neg (by rw[hk];decide),List.filter_nil,Jd];exact ht3
 ·rintro D σ2 H2 hD ⟨_,s2,ps,hb,ht⟩;exact hd D ps H2 hD s2 hb ht
theorem Xji{X:Cx}{st:Stmt}:PS X st (λ_ _ _=>False):=λ_ _ _ _ _ _ h=>h.elim
end L2
namespace L2
open PySem
theorem Xjj{a b:Addr}{xs ys:List V}{g:TG}{tb:TS}{D:Ends}{σ:St}{H:Hp}(hxy:xs.length=ys.length)(Pv:Nat->St->Hp->Prop)(h0:Pv 0 σ H)(hl:∀i σ H,i<=xs.length->Pv i σ H->H a=some (.lst xs)/\H b=some (.lst ys))
  (hs:∀i x y tp σ H,xs[i]? = some x->ys[i]? = some y->Pv i σ H->H tp=none->g (.ref tp) σ (upd H tp (.tup [x,y])) fun σ2 H2=>tb {D with nx:=Pv (i+1),ct:=Pv (i+1),bk:=D.nx} σ2 H2) (hd:∀σ H,Pv xs.length σ H->D.nx σ H):
  ∃W:Nat->Nat->St->Hp->Prop,(∃m,W 0 m σ H)/\∀i m σ H,W i m σ H ->
   ((Itz a b).stop i H/\D.nx σ H)\/((Itz a b).go i H/\∃N:St->Hp->Prop,(∀σ' H',N σ' H'->∃m',m'<m/\W (i+1) m' σ' H')/\∀x H',(Itz a b).yld i H x H'->g x σ H' fun σ2 H2=>tb {D with nx:=N,ct:=N,bk:=D.nx} σ2 H2):=by
 refine⟨λi m σ H=>m=xs.length - i/\i<=xs.length/\Pv i σ H,⟨xs.length,by simp,Iu _,h0⟩,?_⟩;rintro i m σ H ⟨rfl,hi,p⟩;have q:=hl i σ H hi p;by_cases hlt:i<xs.length
 ·refine .inr ⟨⟨xs,ys,xs[i],ys[i],q.1,q.2,by simp[hlt],by simp[hxy ▸ hlt]⟩,Pv (i+1),fun σ' H' p'=>⟨xs.length - (i+1),by omega,rfl,hlt,p'⟩,?_⟩;rintro x H' ⟨tp,rfl,ht,hy⟩;obtain⟨x,y,h1,h2,rfl⟩:=hy xs ys q.1 q.2;exact hs i x y tp σ _ h1 h2 p ht
 ·have e:i=xs.length:=by omega
  subst e;exact .inl ⟨⟨xs,ys,q.1,q.2,.inl (G5 _)⟩,hd σ H p⟩
end L2
namespace SH
open PySem PySem.Spec PyProof.Rows L2
structure Dz (a b:List Str) (i:Nat) (prs:List (Str×Str)):Prop where
 nd:(prs.map (·.1)).Nodup
 mem:∀q,q∈prs↔q∈(a.zip b).take i
 len:prs.length<=i
theorem Dz.zero(a b:List Str):Dz a b 0 []:=⟨List.nodup_nil,λq=>by rw[List.take_zero],G5 _⟩
theorem Cg{prs:List (Str×Str)}(nd:(prs.map (·.1)).Nodup){x y:Str}(h:(x,y)∈prs):An (Ai prs) (Sum.inr x)=some (.str y):=by
 induction prs with
 | nil=>cases h
 | cons q r ih=>
  rw[Hv,Ii] at nd;unfold Ai An;rw[Hv,Iz];rcases He.mp h with e | h
  ·subst e;rw[Ke rfl];rfl
  ·have n:¬((Sum.inr q.1:Key)=Sum.inr x):=λz=>nd.1 (by injection z with z;rw[z];exact Ih (f:=(·.1)) h);rw[Kf n];exact ih nd.2 h
theorem Xed{prs:List (Str×Str)}{x:Str}(h:x∉prs.map (·.1)):An (Ai prs) (Sum.inr x)=none:=by
 unfold An;rw[Option.map_eq_none_iff,List.find?_eq_none];intro q hq;unfold Ai at hq;obtain⟨z,hz,rfl⟩:=Hq.mp hq;rw[decide_eq_true_eq];intro e;injection e with e
 exact h (e ▸ Ih (f:=(·.1)) hz)
theorem Gu{prs:List (Str×Str)}{x:Str}(y:Str)(h:x∉prs.map (·.1)):A1 (Ai prs) (Sum.inr x) (.str y)=Ai (prs++[(x,y)]):=by
 unfold A1;rw[Kc]
 ·unfold Ai;rw[Hj];rfl
 ·intro z;obtain⟨q,hq,e⟩:=Jl.mp z;unfold Ai at hq;obtain⟨w,hw,rfl⟩:=Hq.mp hq;have e:=Kg e;injection e with e
  exact h (e ▸ Ih (f:=(·.1)) hw)
theorem Xjk{prs:List (Str×Str)}(nd:(prs.map (·.1)).Nodup){x y:Str}(h:(x,y)∈prs):A1 (Ai prs) (Sum.inr x) (.str y)=Ai prs:=by
 unfold A1;rw[Kd]
 ·have:∀z:List (Str×Str),(∀q∈z,q∈prs)->(Ai z).map (λkv:Key×V=>if kv.1=Sum.inr x then (kv.1,V.str y) else kv)=Ai z:=by
   intro z
   induction z with
   | nil=>intro _;rfl
   | cons q r ih=>
    intro hz;unfold Ai at ih ⊢;rw[Hv,Hv,ih λq' hq'=>hz q' (Hb _ hq')];congr 1;by_cases c:(Sum.inr q.1:Key)=Sum.inr x
    ·rw[Kd c];injection c with c
     have e:q.2=y:=by
      have h1:=Cg nd (x:=x) (y:=q.2) (by rw[<-c];exact hz q Hg);rw[Cg nd h] at h1;injection h1 with h1
      injection h1 with h1
      exact h1.symm
     rw[e]
    ·rw[Kc c]
  exact this prs λq hq=>hq
 ·refine Jl.mpr ⟨((Sum.inr x:Key),V.str y),?_,Ke rfl⟩;unfold Ai;exact Hq.mpr ⟨(x,y),h,rfl⟩
theorem Xee{a b:List Str}{i:Nat}{x y:Str}(hx:a[i]? = some x)(hy:b[i]? = some y):(a.zip b).take (i+1)=(a.zip b).take i++[(x,y)]:=by
 have h:(a.zip b)[i]? = some (x,y):=Hr.mpr ⟨hx,hy⟩;obtain⟨hi,e⟩:=G6.mp h;rw[Hw hi,e]
theorem Dz.new{a b:List Str}{i:Nat}{prs:List (Str×Str)}{x y:Str}(d:Dz a b i prs)(hx:a[i]? = some x)(hy:b[i]? = some y)(n:x∉prs.map (·.1)):Dz a b (i+1) (prs++[(x,y)]):=by
 refine⟨?_,λq=>?_,by rw[Hi];have:=d.len;show prs.length+1<=_;omega⟩
 ·rw[Hj];exact List.nodup_append.mpr ⟨d.nd,by simp,λu hu v hv e=>n (by
   rw[Hs.mp hv] at e;have e:u=x:=e;rw[<-e];exact hu)⟩
 ·rw[Xee hx hy,Hn,Hn,d.mem]
theorem Dz.old{a b:List Str}{i:Nat}{prs:List (Str×Str)}{x y:Str}(d:Dz a b i prs)(hx:a[i]? = some x)(hy:b[i]? = some y)(m:(x,y)∈prs):Dz a b (i+1) prs:=by
 refine⟨d.nd,λq=>?_,Nat.le_succ_of_le d.len⟩;rw[Xee hx hy,Hn,<-d.mem,Hs];exact⟨.inl,λz=>z.elim id λe=>e ▸ m⟩
theorem Dz.bad{a b:List Str}{i:Nat}{prs:List (Str×Str)}{x y y0:Str}(d:Dz a b i prs)(hx:a[i]? = some x)(hy:b[i]? = some y)(m:(x,y0)∈prs)(ne:y0≠y):¬Ao a b:=λf=>by
 obtain⟨j,hj⟩:=Jx.mp (List.mem_of_mem_take ((d.mem _).mp m));obtain⟨j1,j2⟩:=Hr.mp hj;have:=f j i x j1 hx;rw[j2,hy] at this;exact ne (Ha this)
theorem Dz.all{a b:List Str}{n:Nat}{prs:List (Str×Str)}(l:a.length=b.length)(hn:n=a.length)(d:Dz a b n prs):Ao a b/\∀q,q∈prs↔q∈a.zip b:=by
 have e:(a.zip b).take n=a.zip b:=Ju (by rw[List.length_zip];omega);have mem:∀q,q∈prs↔q∈a.zip b:=λq=>by rw[d.mem,e]
 refine⟨λi j x hi hj=>?_,mem⟩;have i1:i<b.length:=by rw[<-l];exact(G6.mp hi).1
 have j1:j<b.length:=by rw[<-l];exact(G6.mp hj).1
 have m1:(x,b[i])∈prs:=(mem _).mpr (Ib (i:=i) (Hr.mpr ⟨hi,G4 i1⟩));have m2:(x,b[j])∈prs:=(mem _).mpr (Ib (i:=j) (Hr.mpr ⟨hj,G4 j1⟩));have v1:=Cg d.nd m1;rw[Cg d.nd m2] at v1;injection v1 with v1
 injection v1 with v1
 rw[G4 i1,G4 j1,v1]
theorem Xef{a b:List Str}{prs:List (Str×Str)}{Ts:List (List Str)}(mem:∀q,q∈prs↔q∈a.zip b)(p:Ts.Perm (prs.map pr2L))(pw:Ts.Pairwise λs t=>ltL s t=true):De a b Ts:=by
 refine⟨pw,λT=>?_⟩;rw[p.mem_iff,Hq];constructor
 ·rintro ⟨q,hq,rfl⟩;exact⟨q.1,q.2,(mem q).mp hq,rfl⟩
 ·rintro ⟨x,y,h,rfl⟩;exact⟨(x,y),(mem _).mpr h,rfl⟩
def spIslT7:Sp:=λvs H Q _=>∃(dr sc:Addr) (m:Nat),vs=[.ref dr,.int m]/\m<=14/\DrawOk H dr sc /\
 ∀(l:Addr) (row:List Str) (n st:Nat) (late:Bool) (H':Hp),H l=none->n<=14->st<26->H' l=some (.lst (row.map V.str))->row.Perm (A2 st late n++A2 st late n)->DrawOk H' dr sc->But dr H H'->Q (.ref l) H'
def spMir:Sp:=λvs H Q _=>∃(r:Addr) (row:List Str),vs=[.ref r]/\H r=some (.lst (row.map V.str))/\∀l H',H l=none->H' l=some (.lst (row.reverse.map V.str))->Same H H'->Q (.ref l) H'
def spTrn:Sp:=λvs H Q _=>∃(r:Addr) (row:List Str) (k:Nat),vs=[.ref r,.int k]/\H r=some (.lst (row.map V.str))/\k<=row.length/\row.length<=60/\∀l H',H l=none->H' l=some (.lst ((rot row k).map V.str))->Same H H'->Q (.ref l) H'
def PrQ (H:Hp) (Q:VK) (a b:List Str):Prop:=∀(l:Addr) (ps:List Addr) (Ts:List (List Str)) (H':Hp),H l=none->H' l=some (.lst (ps.map V.ref))->Tups H' ps Ts->De a b Ts->ps.length<=60->Same H H'->Q (.ref l) H'
def Gv:Sp:=λvs H Q _=>∃(r o:Addr) (a b:List Str),vs=[.ref r,.ref o]/\H r=some (.lst (a.map V.str))/\H o=some (.lst (b.map V.str))/\a.length=b.length/\a.length<=60/\(∀y∈a,okN y)/\(∀y∈b,okN y) /\
 (¬Ao a b->∀H',Same H H'->Q .non H')/\(Ao a b->PrQ H Q a b)
def Gw:Sp:=λvs H Q _=>∃(r o:Addr) (a b:List Str),vs=[.ref r,.ref o]/\H r=some (.lst (a.map V.str))/\H o=some (.lst (b.map V.str))/\a.length=b.length/\a.length<=60/\(∀y∈a,okN y)/\(∀y∈b,okN y)/\Bo a/\Bo b /\
 (¬Ao a b->∀H',Same H H'->Q .non H')/\(Ao a b->PrQ H Q a b)
def spSame (f:List Str->Nat):Sp:=λvs H Q _=>∃(r o:Addr) (a b:List Str),vs=[.ref r,.ref o]/\H r=some (.lst (a.map V.str))/\H o=some (.lst (b.map V.str))/\Row2 a/\Row2 b /\
 (a.length≠b.length->∀H',Same H H'->Q .non H')/\(a.length=b.length->(Res a b (f b) none->∀H',Same H H'->Q .non H')/\∀z,Res a b (f b) (some z)->PrQ H Q a z)
def Gx:Sp:=λvs H Q _=>∃(l:Addr) (ps:List Addr) (Ts:List (List Str)),vs=[.ref l]/\H l=some (.lst (ps.map V.ref))/\Tups H ps Ts/\(∀T∈Ts,T.length=2)/\ps.length<=60/\∀H',Same H H'->Q (.bl true) H'
abbrev NSw7:List Str:=["_law_draw", "_law_row_here", "_law_told", "_law_at", "_law_one"]
abbrev NPa:List Str:=["row", "other", "there", "name", "partner"]
abbrev NSa:List Str:=["row", "other", "there", "by", "pairs"]
abbrev NRd:List Str:=["_law_row_here", "_law_other", "_law_told", "_law_at"]
abbrev NRd1:List Str:=["_law_name", "_law_told"]
abbrev NSl:List Str:=["_law_row_here", "_law_other", "_law_base", "_law_by", "_law_found"]
end SH
namespace K37
open PySem PySem.Spec PyProof.Rows L2 SH
def top (i:Nat):Stmt:=PySem.Challenge.pw_shoretold_k37_islands_of_one_shape.main.body.getD i (.Pass ⟨0,0,0,0⟩)
abbrev s_turned:Stmt:=top 4
abbrev s_mirrored:Stmt:=top 5
abbrev s_paired:Stmt:=top 7
abbrev s_same:Stmt:=top 8
abbrev sBegin:Stmt:=top 10
abbrev sPick:Stmt:=top 11
abbrev sPut:Stmt:=top 12
abbrev sWhere:Stmt:=top 13
abbrev sWord:Stmt:=top 14
abbrev sBarred:Stmt:=top 15
abbrev sRow:Stmt:=top 16
abbrev sNames:Stmt:=top 17
abbrev sIsland:Stmt:=top 18
abbrev s__law_island_to:Stmt:=top 19
abbrev s__law_swapped:Stmt:=top 20
abbrev s__law_twin_row:Stmt:=top 21
abbrev s__law_read:Stmt:=top 22
abbrev s__law_same:Stmt:=top 23
abbrev s__law_tuple:Stmt:=top 24
abbrev s__law_pairs:Stmt:=top 25
abbrev s_law:Stmt:=top 26
section
variable {P:Program}{w:World}{K:PySem.W.Frag}{mg:Str->Option Value}{base:Heap}
theorem Xjl:FnScope ["row", "by"] ["row", "by"] (defScope s_turned):=⟨rfl,rfl,rfl,by decide +kernel,rfl,by decide +kernel,by decide +kernel⟩
theorem Xjm{f:Addr}{fd:FuncData}(F:Fun K "turned" "turned" s_turned f fd)(T:Bl mg):FnOk P w K mg base CX0 1 f fd ["row", "by"] spTrn:=by
 refine F.ok Xjl (λvs H Q E h=>?_) (λcdv A outer s H vs Q E hr h=>?_)
 ·obtain⟨r,row,k,rfl,_⟩:=h;rfl
 ·obtain⟨r,row,n,rfl,hR,hn,hl,k⟩:=h;refine⟨_,Ae (A6 (D2 (Xfd Xau Xau Ad (pv 1) (Ar Ba (by rfl) T.len boot_len (Aa (pv 0) Ab)))) (Ah Xji) A8)
   (Ah (Au (Aj B1 (Bs Bu (pv 0) (Bj (pv 1)) Bw) (Bs Bu (pv 0) Bw (Bj (pv 1)))))),?_⟩
  have hlen:((row.map V.str).length:Int)=row.length:=by rw[G3]
  refine⟨_,rfl,_,_,rfl,rfl,_,rfl,?_⟩;refine Ap (λh0=>?_) (λh0=>absurd (Kh h0) (by omega));refine⟨_,rfl,r,_,rfl,.inl (SqL.of hR),_,_,rfl,rfl,_,rfl,?_⟩;rw[hlen,Ke (show (n:Int)<=row.length by omega)];refine B4 ?_;refine⟨_,rfl,_,rfl,_,rfl,r,_,rfl,SqL.of hR,λp1 n1=>?_⟩;rw[C8 _ _ _ hn];refine⟨_,rfl,_,rfl,_,rfl,r,_,rfl,SqL.of (ku hR n1),λp2 n2=>?_⟩;rw[Ds _ _ _ hn];refine⟨p1,p2,_,_,rfl,rfl,ku Ac n2,Ac,by rw[Kb];simp;omega,λp3 n3=>?_⟩;have s2:=((Same.refl H).go n1 n2).go n2 n3;exact k p3 _ (s2.free n3) (Ac.trans (by unfold rot;simp)) (s2.step n3)
theorem Xjn:FnScope ["row"] ["row"] (defScope s_mirrored):=⟨rfl,rfl,rfl,by decide +kernel,rfl,by decide +kernel,by decide +kernel⟩
theorem Xjo{f:Addr}{fd:FuncData}(F:Fun K "mirrored" "mirrored" s_mirrored f fd):FnOk P w K mg base CX0 1 f fd ["row"] spMir:=by
 refine F.ok Xjn (λvs H Q E h=>?_) (λcdv A outer s H vs Q E hr h=>?_)
 ·obtain⟨r,row,rfl,_⟩:=h;rfl
 ·obtain⟨r,row,rfl,hR,k⟩:=h;refine⟨_,Ah (Au (Eg (pv 0))),?_⟩;refine⟨_,rfl,r,_,rfl,SqL.of hR,λl nl=>?_⟩;exact k l _ nl (Ac.trans (by rw[List.map_reverse])) ((Same.refl H).step nl)
theorem Ev:FnScope NPa ["row", "other"] (defScope s_paired):=⟨rfl,rfl,rfl,by decide +kernel,rfl,by decide +kernel,by decide +kernel⟩
theorem Xjp{f:Addr}{fd:FuncData}(F:Fun K "paired" "paired" s_paired f fd)(T:Bl mg)(hz:mg "zip" = none):FnOk P w K mg base CX0 1 f fd ["row", "other"] Gv:=by
 refine F.ok Ev (λvs H Q E h=>?_) (λcdv A outer s H vs Q E hr h=>?_)
 ·obtain⟨r,o,a,b,rfl,_⟩:=h;rfl
 ·obtain⟨r,o,a,b,rfl,hR,hO,hl,h60,okA,okB,kn,kp⟩:=h;refine⟨_,Ae (Am (i:=2) Ev.nd rfl (Or.inl rfl) Ee)
   (Ae (Bq PassesOwn.never rfl (Xi4 (by rfl) hz (Aa (pv 0) (Aa (pv 1) Ab))) (Xh6 K 2 rfl rfl (D7 (A7 (i:=3) Ev.nd rfl (Or.inl rfl)) (D7 (A7 (i:=4) Ev.nd rfl (Or.inl rfl)) Xah)))
    (Ah (A6 (A3 Eb (Xi5 (pv 2) (pv 3) (pv 4) ⟨rfl,rfl,rfl,rfl⟩) (pv 4) (Av _)) (Ah (Au Bp)) A8)))
   (Ah (Au (Ar (Xi7 rfl) (by rfl) T.sorted (by rfl) (Aa (Xba PySem.F.plainAttrs_dict PySem.F.slot_dict_items PySem.F.type_dict_items Xi6 (pv 2)) Ab))))),?_⟩
  intro d nd;have s0:Same H (upd H d (.dK [])):=(Same.refl H).step nd;have hd0:upd H d (.dK []) d=some (.dK (Ai [])):=Ac;dsimp only[A0];generalize upd H d (.dK [])=H0 at s0 hd0;have nr:∀{b:Addr} {o:HO},H b=some o->b≠d:=λe=>Aw e nd;refine⟨_,rfl,_,rfl,r,o,rfl,⟨_,s0 _ _ hR⟩,⟨_,s0 _ _ hO⟩,?_⟩;refine Xjj (a:=r) (b:=o) (xs:=a.map V.str) (ys:=b.map V.str) (by rw[G3,G3,hl]) (λi σ H'=>(∃v3 v4, σ=[some (.ref r),some (.ref o),some (.ref d),v3,v4])/\Same H H'/\∃prs,Dz a b i prs/\H' d=some (.dK (Ai prs))) ?_ ?_ ?_ ?_
  ·exact⟨⟨_,_,rfl⟩,s0,[],Dz.zero a b,hd0⟩
  ·rintro i σ H' _ ⟨_,s',_⟩;exact⟨s' _ _ hR,s' _ _ hO⟩
  ·rintro i x y tp σ H' hx hy ⟨⟨v3,v4,rfl⟩,s',prs,dz,hd⟩ ntp;rw[Hd] at hx hy;obtain⟨x0,hx0,ex⟩:=Jc.mp hx;obtain⟨y0,hy0,ey⟩:=Jc.mp hy;clear hx hy;subst ex ey
   revert hx0 hy0
   intro hx hy
   revert hx hy
   generalize x0=x;generalize y0=y;intro hx hy;have s1:Same H' (upd H' tp (.tup [.str x,.str y])):=(Same.refl H').step ntp;have ht1:upd H' tp (.tup [.str x,.str y]) tp=some (.tup [.str x,.str y]):=Ac;generalize upd H' tp (.tup [.str x,.str y])=H1 at s1 ht1;have hd1:=s1 _ _ hd;have dl:=dz.len;have il:i<a.length:=(G6.mp hx).1;refine⟨tp,_,rfl,SqT.of ht1,rfl,_,_,rfl,_,_,rfl,rfl,?_⟩;refine⟨_,rfl,d,rfl,.inl ⟨_,.inl hd1⟩,_,rfl,_,rfl,Ai prs,Sum.inr x,hd1,rfl,by unfold Ai;rw[G3,Kb];omega,λv hv=>?_,λhv=>?_⟩
   ·by_cases m:x∈prs.map (·.1)
    ·obtain⟨q,hq,rfl⟩:=Hq.mp m;have e:=Cg dz.nd (x:=q.1) (y:=q.2) hq;rw[hv] at e;cases e;refine⟨_,rfl,rfl,_,rfl,?_⟩;by_cases c:q.2=y
     ·refine Ap (λz=>absurd z ?_) (λ_=>⟨⟨_,_,rfl⟩,s'.trans s1,prs,dz.old hx hy (by rw[<-c];exact hq),hd1⟩);rw[c];simp
     ·refine Ap (λ_=>kn (dz.bad hx hy hq c) _ (s'.trans s1)) (λz=>absurd z ?_);simp[c]
    ·rw[Xed m] at hv;cases hv
   ·have m:x∉prs.map (·.1):=λm=>by
     obtain⟨q,hq,rfl⟩:=Hq.mp m;rw[Cg dz.nd (x:=q.1) (y:=q.2) hq] at hv;cases hv
    rw[Gu y m];refine⟨_,rfl,rfl,_,rfl,?_⟩;refine Ap (λz=>absurd z (by simp)) (λ_=>⟨⟨_,_,rfl⟩,λb' o' e=>?_,prs++[(x,y)],dz.new hx hy m,Ac⟩);rw[Af (nr e)];exact s1 _ _ (s' _ _ e)
  ·rintro σ H' ⟨⟨v3,v4,rfl⟩,s',prs,dz,hd⟩;obtain⟨fo,mem⟩:=dz.all hl (by rw[G3]);have dl:=dz.len;rw[G3] at dl;refine⟨_,rfl,.inr (.inr (.inl ⟨rfl,.inl ⟨_,hd⟩⟩)),d,_,rfl,rfl,hd,λv nv=>?_⟩;have s1:Same H' (upd H' v (Et v d)):=(Same.refl H').step nv;refine⟨v,d,prs,rfl,Ac,s1 _ _ hd,dz.nd,by omega,λl ps' Ts' H2 nl hl2 hT2 p2 pw2 s2=>?_⟩;have hle:ps'.length<=60:=by
    rw[hT2.1,p2.length_eq,G3];omega
   exact kp fo l ps' Ts' H2 ((s'.trans s1).free nl) hl2 hT2 (Xef mem p2 pw2) hle ((s'.trans s1).trans s2)
theorem Ew:FnScope NSa ["row", "other"] (defScope s_same):=⟨rfl,rfl,rfl,by decide +kernel,rfl,by decide +kernel,by decide +kernel⟩
theorem Xjq{f:Addr}{fd:FuncData}(F:Fun K "same" "same" s_same f fd)(T:Bl mg)(FM:Fn P w K mg base CX0 1 "mirrored" ["row"] spMir)(FT:Fn P w K mg base CX0 1 "turned" ["row", "by"] spTrn)(FP:Fn P w K mg base CX0 1 "paired" ["row", "other"] Gv):
  FnOk P w K mg base CX0 2 f fd ["row", "other"] (spSame λb=>b.length+1):=by
 refine F.ok Ew (λvs H Q E h=>?_) (λcdv A outer s H vs Q E hr h=>?_)
 ·obtain⟨r,o,a,b,rfl,_⟩:=h;rfl
 ·obtain⟨r,o,a,b,rfl,hR,hO,Ra,Rb,kd,ks⟩:=h;refine⟨_,Ae (A6 (A3 Eb (Ar Ba (by rfl) T.len boot_len (Aa (pv 0) Ab)) (Ar Ba (by rfl) T.len boot_len (Aa (pv 1) Ab)) (Av _)) (Ah (Au Bp)) A8)
   (Ae (Bq PassesOwn.never rfl (E8 (Ct (Aa (pv 1) (Aa (Al FM hr (by rfl) Ak (Aa (pv 1) Ab)) Ab)))) (A7 (i:=2) Ew.nd rfl (Or.inl rfl))
    (Ah (Bq PassesOwn.never rfl (Cp rfl T.range (Aa (Aj Bd (Ar Ba (by rfl) T.len boot_len (Aa (pv 2) Ab)) Ad) Ab)) (A7 (i:=3) Ew.nd rfl (Or.inl rfl))
     (Ae (Am (i:=4) Ew.nd rfl (Or.inl rfl) (Al FP hr (by rfl) Ak (Aa (pv 0) (Aa (Al FT hr (by rfl) Ak (Aa (pv 2) (Aa (pv 3) Ab))) Ab))))
     (Ah (A6 (A3 Fb (pv 4) Bp (Av _)) (Ah (Au (pv 4))) A8))))))
   (Ah (Au Bp))),?_⟩
  have la:((a.map V.str).length:Int)=a.length:=by rw[G3]
  have lb:((b.map V.str).length:Int)=b.length:=by rw[G3]
  have hal:=Ra.len;refine⟨_,rfl,r,_,rfl,.inl (SqL.of hR),_,rfl,o,_,rfl,.inl (SqL.of hO),rfl,_,rfl,?_⟩;rw[la,lb];by_cases hl:a.length=b.length
  ·refine Ap (λz=>absurd z (by simp[hl])) (λ_=>?_);obtain⟨k0,k1⟩:=ks hl;refine⟨_,rfl,_,rfl,o,b,rfl,hO,λm H1 nm hm s1=>?_⟩;refine⟨by show 2<=sizeLine;decide,λt nt=>?_⟩;have s2:Same H1 (upd H1 t (.tup [.ref o,.ref m])):=(Same.refl H1).step nt;have ht:upd H1 t (.tup [.ref o,.ref m]) t=some (.tup [.ref o,.ref m]):=Ac;generalize upd H1 t (.tup [.ref o,.ref m])=H2 at s2 ht;have s02:=s1.trans s2;have hm2:=s2 _ _ hm;have okA:=Ra.ok;have lr:b.reverse.length=b.length:=Ig;refine⟨t,rfl,⟨_,SqT.of ht⟩,?_⟩;refine Xak (K:=K) (a:=t) (xs:=[.ref o,.ref m]) (λi σ H'=>(∃v2 v3 v4, σ=[some (.ref r),some (.ref o),v2,v3,v4])/\Same H2 H'/\(1<=i->∀j,j<b.length+1->¬Ao a (rot b j))/\(2<=i->∀j,j<b.length+1->¬Ao a (rot b.reverse j))) ?_ ?_ ?_ ?_
   ·exact⟨⟨_,_,_,rfl⟩,Same.refl _,λz=>absurd z (by decide),λz=>absurd z (by decide)⟩
   ·rintro i σ H' _ ⟨_,s',_⟩;exact SqT.of (s' _ _ ht)
   ·rintro i x σ H3 hx ⟨⟨v2,v3,v4,rfl⟩,s3,i1,i2⟩;obtain⟨p,c,rfl,hp,hcl,okc,hit,nxt⟩:∃(p:Addr) (c:List Str),x = .ref p/\H2 p=some (.lst (c.map V.str))/\c.length=b.length/\(∀y∈c,okN y)/\(∀k,k<b.length+1->(∀j,j<k->¬Ao a (rot c j))->Ao a (rot c k)->PrQ H Q a (rot c k)) /\
      ((∀j,j<b.length+1->¬Ao a (rot c j))->(1<=i+1->∀j,j<b.length+1->¬Ao a (rot b j))/\(2<=i+1->∀j,j<b.length+1->¬Ao a (rot b.reverse j))):=by
     match i,hx with
     | 0,hx=>
      cases Ha hx;exact⟨o,b,rfl,s02 _ _ hO,rfl,Rb.ok,λk h1 h2 h3=>k1 _ (.inl ⟨k,h1,h2,h3,rfl⟩),λh=>⟨λ_=>h,λz=>absurd z (by omega)⟩⟩
     | 1,hx=>
      cases Ha hx;exact⟨m,b.reverse,rfl,hm2,lr,λy hy=>Rb.ok y (List.mem_reverse.mp hy),λk h1 h2 h3=>k1 _ (.inr (.inl ⟨i1 (G5 _),k,h1,h2,h3,rfl⟩)),λh=>⟨λ_=>i1 (G5 _),λ_=>h⟩⟩
    dsimp only[A0];have lc:((c.map V.str).length:Int)=c.length:=by rw[G3]
    refine⟨_,rfl,p,_,rfl,.inl (SqL.of (s3 _ _ hp)),_,_,rfl,rfl,_,rfl,by omega,by rw[lc];omega,?_⟩;rw[show (((c.map V.str).length:Int)+1).toNat=b.length+1 by rw[lc];omega];refine Cq (lo:=0) (n:=b.length+1) (λk σ H'=>(∃v3 v4, σ=[some (.ref r),some (.ref o),some (.ref p),v3,v4])/\Same H2 H'/\∀j,j<k->¬Ao a (rot c j)) ?_ ?_ ?_
    ·exact⟨⟨_,_,rfl⟩,s3,λj hj=>absurd hj (Js _)⟩
    ·rintro k σ H4 hk ⟨⟨v3,v4,rfl⟩,s4,nj⟩;have s04:=s02.trans s4;dsimp only[A0];refine⟨_,rfl,_,rfl,_,rfl,p,c,k,by rw[Jy];rfl,s4 _ _ hp,by omega,by omega,λl H5 nl hl5 s5=>?_⟩;have s05:=s04.trans s5;refine⟨r,l,a,rot c k,rfl,s05 _ _ hR,hl5,by rw[Ck];omega,by omega,okA,λy hy=>okc y ((Cf c k).mem_iff.mp hy),λnf H6 s6=>?_,λfo l2 ps Ts H6 nl2 hl6 hT6 ip h60 s6=>?_⟩
     ·refine⟨_,rfl,rfl,_,rfl,?_⟩;refine Ap (λz=>absurd z (by simp)) (λ_=>⟨⟨_,_,rfl⟩,(s4.trans s5).trans s6,λj hj=>?_⟩);rcases Nat.lt_succ_iff_lt_or_eq.mp hj with e | e
      ·exact nj j e
      ·rw[e];exact nf
     ·refine⟨_,rfl,rfl,_,rfl,?_⟩;refine Ap (λ_=>?_) (λz=>absurd z (by simp));exact⟨_,rfl,hit k hk nj fo l2 ps Ts H6 (s05.free nl2) hl6 hT6 ip h60 (s05.trans s6)⟩
    ·rintro σ H4 ⟨⟨v3,v4,rfl⟩,s4,nj⟩;obtain⟨q1,q2⟩:=nxt nj;exact⟨⟨_,_,_,rfl⟩,s4,q1,q2⟩
   ·rintro σ H3 ⟨⟨v2,v3,v4,rfl⟩,s3,i1,i2⟩;exact k0 (.inr (.inr ⟨i1 (by show 1<=2;decide),i2 (by show 2<=2;decide),rfl⟩)) H3 (s02.trans s3)
  ·refine Ap (λ_=>kd hl H (Same.refl _)) (λz=>absurd z ?_);simp;omega
theorem Xjr:FnScope ["_law_script"] ["_law_script"] (defScope sBegin):=⟨rfl,rfl,rfl,by decide +kernel,rfl,by decide +kernel,by decide +kernel⟩
theorem Xjs{f:Addr}{fd:FuncData}(F:Fun K "_law_begin" "_law_begin" sBegin f fd)(T:Bl mg):FnOk P w K mg base CX0 1 f fd ["_law_script"] (F8 K):=by
 refine F.ok Xjr (λvs H Q E h=>?_) (λcdv A outer s H vs Q E hr h=>?_)
 ·obtain⟨a,ns,rfl,_⟩:=h;rfl
 ·obtain⟨a,ns,rfl,hS,hl,k⟩:=h;refine⟨_,Ah (Au (B7 (Aa (B8 Dk rfl T.list boot_list (Aa (Bs Bu (pv 0) Bw (Bj Ad)) Ab)) (Aa Ad (Aa Ad (Aa Ad (Aa Ad Ab))))))),?_⟩;refine⟨_,rfl,_,rfl,a,_,rfl,hS,λp hp=>?_⟩;have cut:Bt (ns.map V.int) none (some 63)=ns.map V.int:=by
   unfold Bt;rw[HT.sIx_none,List.drop_zero,show (some (63:Int))=some ((63:Nat):Int) from rfl,HT.sIx_nat];exact Ju (by rw[G3];omega)
  rw[cut];refine⟨p,_,rfl,.inl (SqL.of Ac),λq hq=>?_⟩;refine⟨by show 5<=sizeLine;decide,λdr hdr=>?_⟩;have npq:p≠q:=Aw (o:=.lst (ns.map V.int)) Ac hq;have nqd:q≠dr:=Aw (o:=.lst (ns.map V.int)) Ac hdr;have hqH:H q=none:=by rw[Af npq.symm] at hq;exact hq
  have hpd:p≠dr:=Aw (H:=upd (upd H p (.lst (ns.map V.int))) q (.lst (ns.map V.int))) (o:=.lst (ns.map V.int)) (by rw[Af npq,Ac]) hdr;have hdH:H dr=none:=by rw[Af nqd.symm,Af hpd.symm] at hdr;exact hdr
  refine k dr q _ hdH hqH ⟨⟨ns,0,0,1,0,Ac,by rw[Af nqd,Ac],Iu _,hl,by decide,by decide⟩⟩ ((((Same.refl H).upd hp).upd hqH).upd hdH)
theorem Gy:FnScope NP ["_law_draw", "_law_many"] (defScope sPick):=⟨rfl,rfl,rfl,by decide +kernel,rfl,by decide +kernel,by decide +kernel⟩
theorem Xjt{f:Addr}{fd:FuncData}(F:Fun K "_law_pick" "_law_pick" sPick f fd)(T:Bl mg):FnOk P w K mg base CX0 1 f fd ["_law_draw", "_law_many"] Xcy:=by
 refine F.ok Gy (λvs H Q E h=>?_) (λcdv A outer s H vs Q E hr h=>?_)
 ·obtain⟨dr,sc,n,rfl,_⟩:=h;rfl
 ·obtain⟨dr,sc,n,rfl,hn0,hn1,⟨ns,p,c,m,k,hd,hs,hp,hl,hm0,hm1⟩,kk⟩:=h;have nds:dr≠sc:=by
   intro e;subst e;rw[hd] at hs;cases ns with
   | nil=>cases hs
   | cons a r=>cases hs
  refine Xh2 (fun σ' H'=>∃x y p c m, σ'=[some (.ref dr),some (.int n),x,y]/\H' dr=some (.lst [.ref sc,.int (p:Nat),.int c,.int m,.int k])/\p<=ns.length/\0<=m/\m<1000000007/\∀b o,H b=some o->b≠dr->H' b=some o) ?_ ?_
  ·-- the rest
   refine⟨_,Ae (A6 (A3 Xaw (Ay A4 (pv 0) Ad (λ_ _=>rfl)) (pv 1) (Av _))
     (Ae (Am (i:=3) Gy.nd rfl (Or.inl rfl) (Aj C1 (Ay A4 (pv 0) Ad (λ_ _=>rfl)) (pv 1)))
     (Ae (B6 (Aj Xao (Ay A4 (pv 0) Ad (λ_ _=>rfl)) (pv 1)) (Cd (pv 0) Ad Ce))
     (Ah (Au (pv 3))))) A8)
    (Ae (B6 (Aj Bd (Ay A4 (pv 0) Ad (λ_ _=>rfl)) Ad) (Cd (pv 0) Ad Ce))
    (Ae (B6 (Aj C1 (Aj Bd (Aj Bd (Aj Xap (Ay A4 (pv 0) Ad (λ_ _=>rfl)) Ad) (Aj Xan Ad (Ay A4 (pv 0) Ad (λ_ _=>rfl)))) Ad) Ad) (Cd (pv 0) Ad Ce))
    (Ah (Au (Aj C1 (Aj Xao (Ay A4 (pv 0) Ad (λ_ _=>rfl)) Ad) (pv 1)))))),?_⟩
   rintro σ' H' ⟨x,y,p,c,m,rfl,hd',hp',hm0',hm1',kp⟩;refine⟨_,rfl,dr,_,_,_,rfl,rfl,SqL.of hd',rfl,_,rfl,_,_,rfl,rfl,_,rfl,?_⟩;refine Ap (λhc=>?_) (λhc=>?_)
   ·-- got
    refine⟨_,rfl,dr,_,_,_,rfl,rfl,SqL.of hd',rfl,_,rfl,_,_,rfl,rfl,hn0,?_⟩;refine⟨_,rfl,dr,_,_,_,rfl,rfl,SqL.of hd',rfl,_,rfl,_,_,rfl,rfl,⟨hn0,by omega⟩,?_⟩;refine⟨_,rfl,dr,_,_,2,rfl,rfl,hd',rfl,?_⟩;refine⟨_,rfl,?_⟩;refine kk _ _ (J5 _ (by omega)) (Jt _ hn0) ⟨⟨ns,p,c / n,m,k,Ac,?_,hp',hl,hm0',hm1'⟩⟩ λb o e hb=>by rw[Af hb];exact kp b o e hb
    rw[Af nds.symm];exact kp _ _ hs nds.symm
   ·refine⟨_,rfl,dr,_,_,_,rfl,rfl,SqL.of hd',rfl,_,_,rfl,rfl,?_⟩;refine⟨_,rfl,dr,_,_,4,rfl,rfl,hd',rfl,?_⟩;refine⟨_,rfl,dr,_,_,_,rfl,rfl,SqL.of Ac,rfl,_,_,rfl,rfl,cpow3 hm0' hm1',?_⟩;refine⟨_,rfl,dr,_,_,_,rfl,rfl,SqL.of Ac,rfl,_,_,rfl,rfl,.inl ⟨by decide,by decide⟩,_,_,rfl,rfl,_,_,rfl,rfl,_,_,rfl,rfl,(by show (0:Int)<1000000007;decide),?_⟩;refine⟨_,rfl,dr,_,_,3,rfl,rfl,Ac,rfl,?_⟩;refine⟨_,rfl,dr,_,_,_,rfl,rfl,SqL.of Ac,rfl,_,_,rfl,rfl,⟨by decide,by decide⟩,_,rfl,_,_,rfl,rfl,hn0,?_⟩;refine kk _ _ (J5 _ (by omega)) (Jt _ hn0) ⟨⟨ns,p,c,_,k+1,Ac,?_,hp',hl,J5 _ (by decide),Jt _ (by decide)⟩⟩ λb o e hb=>by rw[Af hb,Af hb];exact kp b o e hb
    rw[Af nds.symm,Af nds.symm];exact kp _ _ hs nds.symm
  ·intro nx hnx;refine⟨_,A6 (E6 (A3 Cr (Ay A4 (pv 0) Ad (λ_ _=>rfl)) (pv 1) (Av _)) (E4 (A3 Cr (Ay A4 (pv 0) Ad (λ_ _=>rfl)) (Ar Ba (by rfl) T.len boot_len (Aa (Ay A4 (pv 0) Ad (λ_ _=>rfl)) Ab)) (Av _)))).pt
     (Ae (Am (i:=2) Gy.nd rfl (Or.inl rfl) (Ay A4 (Ay A4 (pv 0) Ad (λ_ _=>rfl)) (Ay A4 (pv 0) Ad (λ_ _=>rfl)) (λ_ _=>rfl)))
     (Ae (B6 (Aj Bd (Ay A4 (pv 0) Ad (λ_ _=>rfl)) Ad) (Cd (pv 0) Ad Ce))
     (Ae (B6 Ad (Cd (pv 0) Ad Ce))
     (Ah (A6 (A3 Xaw (pv 2) (Aj Xap Ad Ad) (Av _))
      (Ah (B6 (pv 2) (Cd (pv 0) Ad Ce)))
      (Ah (B6 (Aj C1 (Aj Bd (Ay A4 (pv 0) Ad (λ_ _=>rfl)) (pv 2)) Ad) (Cd (pv 0) Ad Ce)))))))) A8,?_⟩
   refine⟨_,rfl,dr,_,_,_,rfl,rfl,SqL.of hd,rfl,_,rfl,_,_,rfl,rfl,_,rfl,?_⟩;have skip:nx [some (.ref dr),some (.int n),none,none] H:=hnx _ _ ⟨none,none,p,c,m,rfl,hd,hp,hm0,hm1,λb o e _=>e⟩;refine Ap (λ_=>?_) (λ_=>B4 skip);refine⟨_,rfl,dr,_,_,_,rfl,rfl,SqL.of hd,rfl,_,rfl,dr,_,_,_,rfl,rfl,SqL.of hd,rfl,sc,_,rfl,.inl (SqL.of hs),_,_,rfl,rfl,_,rfl,?_⟩;refine Ap (λhlt=>?_) (λ_=>skip);have hlt':(p:Int)<((ns.map V.int).length:Nat):=Kg hlt;rw[G3] at hlt';have hpl:p<ns.length:=by omega
   have hat:(ns.map V.int)[p]? = some (.int (ns[p]'hpl)):=by rw[Hd,G4 hpl];rfl
   refine⟨_,rfl,dr,_,_,_,rfl,rfl,SqL.of hd,rfl,_,rfl,dr,_,_,_,rfl,rfl,SqL.of hd,rfl,sc,_,_,_,rfl,rfl,SqL.of hs,Ci hat,?_⟩;refine⟨_,rfl,dr,_,_,_,rfl,rfl,SqL.of hd,rfl,_,_,rfl,rfl,?_⟩;refine⟨_,rfl,dr,_,_,1,rfl,rfl,hd,rfl,?_⟩;refine⟨_,rfl,dr,_,_,2,rfl,rfl,Ac,rfl,?_⟩;refine⟨_,rfl,_,_,rfl,rfl,⟨by decide,by decide,by decide⟩,_,_,rfl,rfl,_,rfl,?_⟩;refine Ap (λ_=>?_) (λ_=>?_)
   ·refine⟨_,rfl,_,rfl,dr,_,_,2,rfl,rfl,Ac,rfl,?_⟩;refine hnx _ _ ⟨_,none,p+1,_,m,rfl,Ac,hpl,hm0,hm1,λb o e hb=>by rw[Af hb,Af hb,Af hb];exact e⟩
   ·refine⟨_,rfl,dr,_,_,_,rfl,rfl,SqL.of Ac,rfl,_,rfl,_,_,rfl,rfl,_,_,rfl,rfl,(by show (0:Int)<1000000007;decide),?_⟩;refine⟨_,rfl,dr,_,_,3,rfl,rfl,Ac,rfl,?_⟩;refine hnx _ _ ⟨_,none,p+1,_,_,rfl,Ac,hpl,J5 _ (by decide),Jt _ (by decide),λb o e hb=>by rw[Af hb,Af hb,Af hb];exact e⟩
theorem Xeg:FnScope NPut ["_law_row_here", "_law_name", "_law_at", "_law_to"] (defScope sPut):=⟨rfl,rfl,rfl,by decide +kernel,rfl,by decide +kernel,by decide +kernel⟩
theorem Xju{f:Addr}{fd:FuncData}(F:Fun K "_law_put" "_law_put" sPut f fd):FnOk P w K mg base CX0 1 f fd ["_law_row_here", "_law_name", "_law_at", "_law_to"] F9:=by
 refine F.ok Xeg (λvs H Q E h=>?_) (λcdv A outer s H vs Q E hr h=>?_)
 ·obtain⟨r,row,x,a,b,rfl,_⟩:=h;rfl
 ·obtain⟨r,row,x,a,b,rfl,hR,hl,hab,hb,k⟩:=h;refine⟨_,Ae (Am (i:=4) Xeg.nd rfl (Or.inl rfl) (Aj B1 (Aj B1 (Bs Bu (pv 0) Bw (Bj (pv 2))) (B7 (Aa (pv 1) Ab))) (Bs Bu (pv 0) (Bj (pv 2)) (Bj (pv 3)))))
   (Ah (Au (Aj B1 (Aj B1 (pv 4) (B7 (Aa (pv 1) Ab))) (Bs Bu (pv 0) (Bj (pv 3)) Bw)))),?_⟩
  have h24:∀n,n<=100000->n<=sizeLine:=λn h=>by rw[Kb];omega
  refine⟨_,rfl,_,rfl,_,rfl,r,_,rfl,SqL.of hR,λp1 n1=>?_⟩;rw[Ds _ _ _ (by omega)];refine⟨_,rfl,by show 1<=sizeLine;decide,λp2 n2=>?_⟩;refine⟨p1,p2,_,_,rfl,rfl,ku Ac n2,Ac,h24 _ (by simp;omega),λp3 n3=>?_⟩;refine⟨_,rfl,_,rfl,_,rfl,_,rfl,_,rfl,r,_,rfl,SqL.of (ku (ku (ku hR n1) n2) n3),λp4 n4=>?_⟩;rw[Xh3 _ _ _ _ hab hb];refine⟨p3,p4,_,_,rfl,rfl,ku Ac n4,Ac,h24 _ (by simp;omega),λp5 n5=>?_⟩;refine⟨_,rfl,_,rfl,by show 1<=sizeLine;decide,λp6 n6=>?_⟩;refine⟨p5,p6,_,_,rfl,rfl,ku Ac n6,Ac,h24 _ (by simp;omega),λp7 n7=>?_⟩;refine⟨_,rfl,_,rfl,_,rfl,r,_,rfl,SqL.of (ku (ku (ku (ku (ku (ku (ku hR n1) n2) n3) n4) n5) n6) n7),λp8 n8=>?_⟩;rw[C8 _ _ _ hb];refine⟨p7,p8,_,_,rfl,rfl,ku Ac n8,Ac,h24 _ (by simp;omega),λp9 n9=>?_⟩;have s8:=((((((((Same.refl H).go n1 n2).go n2 n3).go n3 n4).go n4 n5).go n5 n6).go n6 n7).go n7 n8).go n8 n9;refine k p9 _ (s8.free n9) (Ac.trans ?_) (s8.step n9);unfold Da;simp
theorem Gz:FnScope NWh ["_law_row_here"] (defScope sWhere):=⟨rfl,rfl,rfl,by decide +kernel,rfl,by decide +kernel,by decide +kernel⟩
theorem Xjv{f:Addr}{fd:FuncData}(F:Fun K "_law_where" "_law_where" sWhere f fd)(T:Bl mg):FnOk P w K mg base CX0 1 f fd ["_law_row_here"] Gc:=by
 refine F.ok Gz (λvs H Q E h=>?_) (λcdv A outer s H vs Q E hr h=>?_)
 ·obtain⟨r,row,rfl,_⟩:=h;rfl
 ·obtain⟨r,row,rfl,hR,hl,k⟩:=h;have hu:=Dn hr;refine⟨_,Ae (Am (i:=1) Gz.nd rfl (Or.inl rfl) Ee)
   (Ae (Bq PassesOwn.never rfl (Cp rfl T.range (Aa (Ar Ba (by rfl) T.len boot_len (Aa (pv 0) Ab)) Ab)) (A7 (i:=2) Gz.nd rfl (Or.inl rfl))
    (Ah (Fk hu (pv 1) (Ay A4 (pv 0) (pv 2) (λ_ _=>rfl))
     (Aj B1 (Xbo hu (pv 1) (Ay A4 (pv 0) (pv 2) (λ_ _=>rfl)) (B7 Ab) ⟨rfl,rfl,rfl,rfl⟩) (B7 (Aa (pv 2) Ab))) rfl)))
   (Ah (Au (pv 1)))),?_⟩
  intro d nd;have s0:Same H (upd H d (.dK [])):=(Same.refl H).step nd;refine⟨_,rfl,r,_,rfl,.inl (SqL.of (s0 _ _ hR)),((row.map V.str).length:Int),rfl,by omega,by rw[G3];omega,?_⟩;have hn:((row.map V.str).length:Int).toNat=row.length:=by rw[G3];simp
  rw[hn];refine Cq (lo:=0) (n:=row.length) (λi σ H2=>∃kvs v, σ=[some (.ref r),some (.ref d),v]/\Same H H2/\H2 d=some (.dK kvs)/\Wh H2 kvs (row.take i)) ?_ ?_ ?_
  ·exact⟨[],none,rfl,s0,Ac,⟨λk hk=>by simp at hk,λx hx=>by simp at hx,λ_ _=>rfl,by simp,by simp⟩⟩
  ·rintro i σ H2 hi ⟨kvs,v,rfl,s2,hd,wh⟩;have hat:(row.map V.str)[i]? = some (.str (row[i]'hi)):=by rw[Hd,G4 hi];rfl
   have hat':atI (row.map V.str) (0+(i:Int))=some (.str (row[i]'hi)):=by rw[Jy];exact Ci hat
   have tk:row.take (i+1)=row.take i++[row[i]'hi]:=by rw[Hw hi]
   have kl:=wh.len;rw[Hu] at kl;have ll:(plc (row.take i) (row[i]'hi)).length<=1000:=by
    rw[Gb];have:=List.count_le_length (a:=row[i]'hi) (l:=row.take i);rw[Hu] at this;omega
   have h24:∀n,n<=100000->n<=sizeLine:=λn h=>by rw[Kb];omega
   refine⟨_,rfl,d,rfl,.inl ⟨kvs,.inl hd⟩,_,rfl,_,rfl,r,_,_,_,rfl,rfl,SqL.of (s2 _ _ hR),hat',by show 0<=sizeLine;decide,λp1 n1=>?_⟩;refine⟨_,DGet.k (k:=Sum.inr (row[i]'hi)) (ku hd n1),?_⟩;obtain⟨q,xs,e1,hq,hxs⟩:∃q xs,(An kvs (Sum.inr (row[i]'hi):Key)).getD (V.ref p1)=V.ref q/\upd H2 p1 (.lst []) q=some (.lst (xs.map V.int))/\plc (row.take i) (row[i]'hi)=xs:=by
    by_cases hx:row[i]'hi∈row.take i
    ·obtain⟨l,e1,e2⟩:=wh.val _ hx;exact⟨l,_,by rw[e1];rfl,ku e2 n1,rfl⟩
    ·refine⟨p1,[],by rw[wh.none _ hx];rfl,Ac,?_⟩;have:(plc (row.take i) (row[i]'hi)).length=0:=by rw[Gb];exact List.count_eq_zero.mpr hx
     exact Hy.mp this
   have hlx:xs.length<=1000:=by rw[<-hxs];exact ll
   rw[e1];refine⟨_,rfl,by show 1<=sizeLine;decide,λp2 n2=>?_⟩;refine⟨q,p2,_,_,rfl,rfl,ku hq n2,Ac,h24 _ (by simp;omega),λp3 n3=>?_⟩;refine⟨_,rfl,_,rfl,_,rfl,r,_,_,_,rfl,rfl,SqL.of (ku (ku (ku (s2 _ _ hR) n1) n2) n3),hat',?_⟩;have hd2:=ku (u:=.lst [V.int (0+(i:Int))]) (ku (u:=.lst []) hd n1) n2;have hd3:=ku (u:=.lst (xs.map V.int++[V.int (0+(i:Int))])) hd2 n3;refine⟨d,_,rfl,DPut.k (k:=Sum.inr (row[i]'hi)) hd3 (by rw[Kb];omega),_,_,rfl,?_,Ac,?_⟩
   ·have s3:=((s2.go n1 n2).go n2 n3).step (o:=.lst (xs.map V.int++[V.int (0+(i:Int))])) n3;exact s3.upd nd
   ·rw[tk];refine wh.snoc _ p3 ?_ λb ys e=>?_
    ·have ne:p3≠d:=(Aw hd2 n3).symm;rw[Af ne,Ac,Xc0,Kd rfl,hxs,Hj,Hu,Jq (Jp hi)];simp
    ·have ne:b≠d:=λz=>by rw[z,hd] at e;cases e
     rw[Af ne];exact ku (ku (ku e n1) n2) n3
  ·rintro σ H2 ⟨kvs,v,rfl,s2,hd,wh⟩;rw[Jn] at wh;exact⟨_,rfl,k d kvs H2 nd hd wh s2⟩
theorem Ex:FnScope NWo ["_law_where_here", "_law_one", "_law_other"] (defScope sWord):=⟨rfl,rfl,rfl,by decide +kernel,rfl,by decide +kernel,by decide +kernel⟩
theorem Xjw{f:Addr}{fd:FuncData}(F:Fun K "_law_word" "_law_word" sWord f fd)(T:Bl mg):FnOk P w K mg base CX0 1 f fd ["_law_where_here", "_law_one", "_law_other"] spWord:=by
 refine F.ok Ex (λvs H Q E h=>?_) (λcdv A outer s H vs Q E hr h=>?_)
 ·obtain⟨d,l1,l2,kvs,x,y,a,b,c,e,rfl,_⟩:=h;rfl
 ·obtain⟨d,l1,l2,kvs,x,y,a,b,c,e,rfl,hd,v1,v2,h1,h2,k⟩:=h;have hu:=Dn hr;refine⟨_,Ae (B6 (C5 hu (pv 0) (pv 1) (λ_ _=>rfl)) (Xgr rfl (D7 (A7 (i:=3) Ex.nd rfl (Or.inr rfl)) (D7 (A7 (i:=4) Ex.nd rfl (Or.inr rfl)) Xah))))
   (Ae (F2 (i:=5) (N:=["_law_at", "_law_high", "_law_low"]) (cap:=[none,some 4,some 3]) (CompScope.of (defScope sWord) NWo rfl rfl rfl (by decide +kernel)) rfl Ex.nd rfl rfl
     (Co (C5 hu (pv 0) (pv 2) (λ_ _=>rfl))) (λ_ _ _=>A7 (i:=0) (show (["_law_at", "_law_high", "_law_low"]:List Str).Nodup by decide +kernel) rfl (Or.inl rfl) (Or.inr rfl))
     (λ_ _ _=>Xbt (E6 (A3 Cr (pv 2) (pv 0) (Av _)) (E4 (A3 Cr (pv 0) (pv 1) (Av _)))).pt) (λ_ _ _=>pv 0))
   (Ae (A6 (D1 (A3 B0 (pv 1) (pv 2) (Av _)) (E5 (A3 Xav (Ar Ba (by rfl) T.len boot_len (Aa (pv 5) Ab)) Ad (Av _)))).pt
    (Ah (Au (Ay Fg (Ct (Aa Bv (Aa Bv (Aa Bv Ab)))) (Ar Ba (by rfl) T.len boot_len (Aa (pv 5) Ab)) (λ_ _=>rfl)))) A8)
   (Ah (Au (Xaf (E6 (A3 Cr (Ay A4 (C5 hu (pv 0) (pv 2) (λ_ _=>rfl)) Ad (λ_ _=>rfl)) (pv 3) (Av _)) (E4 (A3 Cr (pv 4) (Ay A4 (C5 hu (pv 0) (pv 2) (λ_ _=>rfl)) Ad (λ_ _=>rfl)) (Av _)))).pt Bv Bv))))),?_⟩
  refine⟨_,rfl,_,rfl,d,_,rfl,DGet.rd hd v1,l1,_,rfl,SqL.of h1,rfl,?_⟩;refine⟨_,_,rfl,_,_,rfl,rfl,?_⟩;refine⟨_,rfl,_,rfl,d,_,rfl,DGet.rd hd v2,l2,rfl,⟨_,SqL.of h2⟩,?_⟩;refine Dr (n:=2) (λi=>([V.int c,V.int e]:List V).getD i .non) (λD i σ2 H2=>∃v, σ2=[v,some (.int b),some (.int a)]/\Same H H2/\H2 D=some (.lst ((inn a b (([c,e]:List Int).take i)).map V.int))) ?_ ?_ ?_ ?_ ?_
  ·intro D hD;exact⟨none,rfl,(Same.refl H).step hD,Ac⟩
  ·rintro D i σ2 H2 hD hi ⟨v,rfl,s2,hl⟩;exact Eh (SqL.of (s2 _ _ h2)) hi
  ·rintro D σ2 H2 hD ⟨v,rfl,s2,hl⟩;exact Ei (SqL.of (s2 _ _ h2))
  ·rintro D i σ2 H2 hD hi ⟨v,rfl,s2,hl⟩;obtain⟨t,ht1,ht2⟩:∃t,([V.int c,V.int e]:List V).getD i .non = .int t/\([c,e]:List Int).take (i+1)=([c,e]:List Int).take i++[t]:=by
    match i,hi with
    | 0,_=>exact⟨c,rfl,rfl⟩
    | 1,_=>exact⟨e,rfl,rfl⟩
   rw[ht1];have hil:(inn a b (([c,e]:List Int).take i)).length<=2:=Hx (Xc2 ..) (by rw[Hu];simp;omega);refine⟨_,rfl,_,rfl,_,_,rfl,rfl,_,rfl,?_⟩;refine Ap (λq1=>?_) (λq1=>B4 (wskip hi ⟨_,rfl,s2,?_⟩))
   ·refine⟨_,rfl,_,rfl,_,_,rfl,rfl,_,rfl,?_⟩;refine Ap (λq2=>?_) (λq2=>wskip hi ⟨_,rfl,s2,?_⟩)
    ·refine⟨_,rfl,wput hi hl (by rw[G3,Kb];omega) ⟨_,rfl,?_,?_⟩⟩
     ·intro b' o e';rw[Af (Aw e' hD)];exact s2 b' o e'
     ·rw[Ac,ht2];unfold inn;rw[Il,Hj,List.filter_cons,Kd (by rw[q1,q2];rfl)];rfl
    ·rw[hl,ht2];unfold inn;rw[Il,List.filter_cons,Kc (by rw[q1,q2];decide)];simp
   ·rw[hl,ht2];unfold inn;rw[Il,List.filter_cons,Kc (by rw[q1];simp)];simp
  ·rintro D σ2 H2 hD ⟨v,rfl,s2,hl⟩;have hl':H2 D=some (.lst ((inn a b [c,e]).map V.int)):=hl;have hil:(inn a b [c,e]).length<=2:=Xc2 ..;have three:∀p,H2 p=none->atI ([V.str "same",V.str "cross",V.str "around"]:List V) (((inn a b [c,e]).map V.int).length:Int)=some (.str (words3.getD (inn a b [c,e]).length "apart")):=λp _=>by
    rw[G3];generalize (inn a b [c,e]).length=n at hil
    match n,hil with
    | 0,_=>rfl
    | 1,_=>rfl
    | 2,_=>rfl
   have ret3:(decide (x=y)||decide (0<(inn a b [c,e]).length))=true->∀p,H2 p=none->∀H',Same H H'->Q (.str (words3.getD (inn a b [c,e]).length "apart")) H':=λhc p _ H' s'=>by
    have:=k H' s';unfold Ge at this;rw[Kd hc] at this;exact this
   refine⟨_,rfl,_,rfl,rfl,_,rfl,?_⟩;refine Ap (λq1=>?_) (λq1=>?_)
   ·refine Bk ⟨by show 3<=sizeLine;decide,λp hp=>?_⟩;refine⟨_,rfl,D,_,rfl,.inl (SqL.of (ku hl' hp)),p,_,_,_,rfl,rfl,SqT.of Ac,three p hp,?_⟩;refine ret3 ?_ p hp _ (s2.step hp);have q1':decide (x=y)=true:=by
     have:=Kg q1;injection this with this
     exact Ke this
    rw[q1'];rfl
   ·refine⟨_,rfl,D,_,rfl,.inl (SqL.of hl'),_,_,rfl,rfl,_,rfl,?_⟩;have q1':decide (x=y)=false:=by
     have:=Kh q1;exact Kf λz=>this (by rw[z])
    refine Ap (λq2=>?_) (λq2=>?_)
    ·have q2':0<(inn a b [c,e]).length:=by
      have:=Kg q2;rw[G3] at this;omega
     refine⟨by show 3<=sizeLine;decide,λp hp=>?_⟩;refine⟨_,rfl,D,_,rfl,.inl (SqL.of (ku hl' hp)),p,_,_,_,rfl,rfl,SqT.of Ac,three p hp,?_⟩;exact ret3 (by rw[Ke q2',Bool.or_true]) p hp _ (s2.step hp)
    ·have q2':¬ 0<(inn a b [c,e]).length:=by
      have:=Kh q2;rw[G3] at this;omega
     have last:∀z:Str,(if c<a/\b<e then ("within" : Str) else "apart")=z->Q (.str z) H2:=λz hz=>by
      have:=k H2 s2;unfold Ge at this;rw[Kc (by rw[q1',Kf q2'];decide),hz] at this;exact this
     refine⟨_,rfl,_,rfl,d,_,rfl,DGet.rd (Rd.same hd s2) v2,l2,_,_,_,rfl,rfl,SqL.of (s2 _ _ h2),rfl,_,rfl,_,_,rfl,rfl,_,rfl,?_⟩;refine Ap (λq3=>?_) (λq3=>?_)
     ·refine⟨_,rfl,_,rfl,_,rfl,d,_,rfl,DGet.rd (Rd.same hd s2) v2,l2,_,_,_,rfl,rfl,SqL.of (s2 _ _ h2),rfl,_,_,rfl,rfl,_,rfl,?_⟩;refine Ap (λq4=>?_) (λq4=>?_)
      ·exact last _ (Kd ⟨Kg q3,Kg q4⟩)
      ·exact last _ (Kc λz=>Kh q4 z.2)
     ·exact B4 (last _ (Kc λz=>Kh q3 z.1))
theorem Dy:FnScope NBa ["_law_row_here", "_law_name"] (defScope sBarred):=⟨rfl,rfl,rfl,by decide +kernel,rfl,by decide +kernel,by decide +kernel⟩
theorem Xjx{f:Addr}{fd:FuncData}(F:Fun K "_law_barred" "_law_barred" sBarred f fd)(T:Bl mg)(FW:Fn P w K mg base CX0 1 "_law_where" ["_law_row_here"] Gc)
  (FO:Fn P w K mg base CX0 1 "_law_word" ["_law_where_here", "_law_one", "_law_other"] spWord):FnOk P w K mg base CX0 2 f fd ["_law_row_here", "_law_name"] spBarred:=by
 refine F.ok Dy (λvs H Q E h=>?_) (λcdv A outer s H vs Q E hr h=>?_)
 ·obtain⟨r,row,x,rfl,_⟩:=h;rfl
 ·obtain⟨r,row,x,rfl,hR,hl,h2,hx,k⟩:=h;have hu:=Dn hr;refine⟨_,Ae (Am (i:=2) Dy.nd rfl (Or.inr rfl) (Al FW hr rfl Ak (Aa (pv 0) Ab)))
   (Ae (F2 (i:=3) (N:=NBc) (cap:=[none,some 1,some 2]) (CompScope.of (defScope sBarred) NBa rfl rfl rfl (by decide +kernel)) rfl Dy.nd rfl rfl
     (Xgx (pv 2)) (λ_ _ _=>A7 (i:=0) (show NBc.Nodup by decide +kernel) rfl (Or.inl rfl) (Or.inr rfl))
     (λ_ _ _=>Xbt (A3 B0 (Al FO hr rfl Ak (Aa (pv 2) (Aa (pv 1) (Aa (pv 0) Ab)))) Bv (Av _))) (λ_ _ _=>pv 0))
   (Ae (Bq PassesOwn.never rfl (Cp rfl T.range (Aa (Ar Ba (by rfl) T.len boot_len (Aa (pv 3) Ab)) Ab)) (A7 (i:=4) Dy.nd rfl (Or.inl rfl))
    (Ah (Bq PassesOwn.never rfl (Co (Bs Bu (pv 3) (Bj (Aj Bd (pv 4) Ad)) Bw)) (A7 (i:=5) Dy.nd rfl (Or.inl rfl))
     (Ah (A6 (A3 B0 (Al FO hr rfl Ak (Aa (pv 2) (Aa (Ay A4 (pv 3) (pv 4) (λ_ _=>rfl)) (Aa (pv 5) Ab)))) Bv (Av _)) (Ah (Au D0)) A8)))))
   (Ah (Au D0)))),?_⟩
  refine⟨_,rfl,r,row,rfl,hR,hl,λd kvs H1 nd hd wh s1=>?_⟩;refine⟨_,rfl,d,kvs,rfl,hd,λo=>?_⟩;generalize hH2:upd H1 d (.frz o (.dK kvs))=H2;have s2:Same H H2:=λb u e=>by rw[<-hH2,Af (Aw e nd)];exact s1 b u e
  have hd2:H2 d=some (.frz o (.dK kvs)):=by rw[<-hH2];exact Ac
  have wh2:Wh H2 kvs row:=⟨wh.keys,λy hy=>let ⟨l,e1,e2⟩:=wh.val y hy; ⟨l,e1,by rw[<-hH2,Af (λz=>by rw[z,hd] at e2;cases e2)];exact e2⟩,wh.none,wh.nd,wh.len⟩;have hkl:=wh.len;refine Dr (n:=kvs.length) (λi=>(kvs.map λp=>kV p.1).getD i .non) (λD i σ2 H3=>∃(v:Option V) (ms:List Str), σ2=[v,some (.str x),some (.ref d)]/\Same H2 H3/\H3 D=some (.lst (ms.map V.str))/\(∀m∈ms,m∈row)/\ms.length<=i) ?_ ?_ ?_ ?_ ?_
  ·intro D hD;exact⟨none,[],rfl,(Same.refl H2).step hD,Ac,by simp,G5 _⟩
  ·rintro D i σ2 H3 hD hi ⟨v,ms,rfl,s3,hm,hin,hml⟩;exact Xb0 (s3 _ _ hd2) hi
  ·rintro D σ2 H3 hD ⟨v,ms,rfl,s3,hm,hin,hml⟩;exact Xb1 (s3 _ _ hd2)
  ·rintro D i σ2 H3 hD hi ⟨v,ms,rfl,s3,hm,hin,hml⟩;obtain⟨y,hy1,hy2⟩:∃y,(kvs.map λp=>kV p.1).getD i .non = .str y/\y∈row:=by
    obtain⟨y,e1,e2⟩:=wh.keys (kvs[i]'hi).1 (Hq.mpr ⟨kvs[i]'hi,Hl hi,rfl⟩);refine⟨y,?_,e2⟩;simp only[List.getD,Hd,G4 hi,Je,Option.getD_some];rw[e1];rfl
   rw[hy1];obtain⟨l1,a1,b1,e1,g1⟩:=wh2.two hx (h2 x hx);obtain⟨l2,a2,b2,e2,g2⟩:=wh2.two hy2 (h2 y hy2);refine⟨_,rfl,_,rfl,_,rfl,d,l1,l2,kvs,x,y,a1,b1,a2,b2,rfl,.inr ⟨o,s3 _ _ hd2⟩,e1,e2,s3 _ _ g1,s3 _ _ g2,λH4 s4=>?_⟩;have s24:=s3.trans s4;refine⟨rfl,_,rfl,?_⟩;refine Ap (λ_=>?_) (λ_=>wskip hi ⟨_,ms,rfl,s24,s4 _ _ hm,hin,by omega⟩);refine⟨_,rfl,wput hi (s4 _ _ hm) (by rw[G3,Kb];omega) ⟨_,ms++[y],rfl,?_,by rw[Ac,Hj];rfl,?_,by rw[Hi,Ij];omega⟩⟩
   ·intro b u e;rw[Af (Aw e hD)];exact s24 b u e
   ·intro m hm;rcases Hn.mp hm with z | z
    ·exact hin m z
    ·rw[Hs.mp z];exact hy2
  ·rintro D σ2 H3 hD ⟨v,ms,rfl,s3,hm,hin,hml⟩;refine⟨_,rfl,D,_,rfl,.inl (SqL.of hm),((ms.map V.str).length:Int),rfl,by omega,by rw[G3];omega,?_⟩;have hn:((ms.map V.str).length:Int).toNat=ms.length:=by rw[G3];simp
   rw[hn];refine Cq (lo:=0) (n:=ms.length) (λi σ H4=>∃v1 v2, σ=[some (.ref r),some (.str x),some (.ref d),some (.ref D),v1,v2]/\Same H3 H4) ?_ ?_ ?_
   ·exact⟨none,none,rfl,Same.refl _⟩
   ·rintro i σ H4 hi ⟨v1,v2,rfl,s4⟩;refine⟨_,rfl,_,rfl,_,_,rfl,rfl,_,rfl,D,_,rfl,SqL.of (s4 _ _ hm),λp np=>?_⟩;have e0:(0:Int)+(i:Int)+1=((i+1:Nat):Int):=by omega
    rw[e0,C8 _ _ _ (by omega)];have s5:Same H3 (upd H4 p (.lst ((ms.drop (i+1)).map V.str))):=s4.step np;refine⟨p,rfl,⟨_,SqL.of Ac⟩,?_⟩;refine E9 (K:=K) (a:=p) (xs:=(ms.drop (i+1)).map V.str) (λj σ H5=>∃v2, σ=[some (.ref r),some (.str x),some (.ref d),some (.ref D),some (.int (0+(i:Int))),v2]/\Same (upd H4 p (.lst ((ms.drop (i+1)).map V.str))) H5) ?_ ?_ ?_ ?_
    ·exact⟨_,rfl,Same.refl _⟩
    ·rintro j σ H5 _ ⟨v2,rfl,s6⟩;exact SqL.of (s6 _ _ Ac)
    ·rintro j y σ H5 hj ⟨v2,rfl,s6⟩;obtain⟨z,rfl,hz⟩:∃z,y=V.str z/\z∈ms:=by
      rw[Hd] at hj;cases q:(ms.drop (i+1))[j]? with
      | none=>rw[q] at hj;cases hj
      | some z=>
       rw[q] at hj;exact⟨z,(Ha hj).symm,List.mem_of_mem_drop (Ib q)⟩
     have s36:=s5.trans s6;have hat:(ms.map V.str)[i]? = some (.str (ms[i]'hi)):=by rw[Hd,G4 hi];rfl
     have hat':atI (ms.map V.str) (0+(i:Int))=some (.str (ms[i]'hi)):=by rw[Jy];exact Ci hat
     obtain⟨l1,a1,b1,e1,g1⟩:=wh2.two (hin _ (Hl hi)) (h2 _ (hin _ (Hl hi)));obtain⟨l2,a2,b2,e2,g2⟩:=wh2.two (hin _ hz) (h2 _ (hin _ hz));have s26:=s3.trans s36;refine⟨_,rfl,_,rfl,_,rfl,D,_,_,_,rfl,rfl,SqL.of (s36 _ _ hm),hat',_,rfl,d,l1,l2,kvs,_,z,a1,b1,a2,b2,rfl,.inr ⟨o,s26 _ _ hd2⟩,e1,e2,s26 _ _ g1,s26 _ _ g2,λH6 s7=>?_⟩;refine⟨rfl,_,rfl,?_⟩;refine Ap (λ_=>?_) (λ_=>?_)
     ·exact k true H6 ((s2.trans s3).trans (s36.trans s7))
     ·exact⟨_,rfl,s6.trans s7⟩
    ·rintro σ H5 ⟨v2,rfl,s6⟩;exact⟨_,_,rfl,s5.trans s6⟩
   ·rintro σ H4 ⟨v1,v2,rfl,s4⟩;exact k false H4 ((s2.trans s3).trans s4)
theorem Ch:FnScope NRo ["_law_draw", "_law_names_here"] (defScope sRow):=⟨rfl,rfl,rfl,by decide +kernel,rfl,by decide +kernel,by decide +kernel⟩
theorem Xjy{f:Addr}{fd:FuncData}(F:Fun K "_law_row" "_law_row" sRow f fd)(T:Bl mg)(FP:FnPick P w K mg base)(FPut:Fn P w K mg base CX0 1 "_law_put" ["_law_row_here", "_law_name", "_law_at", "_law_to"] F9)
  (FB:Fn P w K mg base CX0 2 "_law_barred" ["_law_row_here", "_law_name"] spBarred):FnOk P w K mg base CX0 3 f fd ["_law_draw", "_law_names_here"] spRow:=by
 refine F.ok Ch (λvs H Q E h=>?_) (λcdv A outer s H vs Q E hr h=>?_)
 ·obtain⟨dr,sc,nl,ns,rfl,_⟩:=h;rfl
 ·obtain⟨dr,sc,nl,ns,rfl,dk,hN,nnd,hnd,hnl,k⟩:=h;have hr1:Room 1 _:=hr.mono (by decide);have h24:∀m,m<=100000->m<=sizeLine:=λm h=>by rw[Kb];omega
  refine⟨_,Ae (A6 (A3 B0 (Al FP hr1 rfl Ak (Aa (pv 0) (Aa Ad Ab))) Ad (Av _))
    (Ae (Am (i:=2) Ch.nd rfl (Or.inl rfl) (Al FP hr1 rfl Ak (Aa (pv 0) (Aa (Aj Bd (Ar Ba (by rfl) T.len boot_len (Aa (pv 1) Ab)) Ad) Ab))))
    (Ah (Au (Aj B1 (Aj B1 (pv 1) (Eg (Bs Bu (pv 1) Bw (Bj (pv 2))))) (Eg (Bs Bu (pv 1) (Bj (pv 2)) Bw)))))) A8)
   (Ae (Am (i:=3) Ch.nd rfl (Or.inl rfl) (B7 Ab))
   (Ae (Bq PassesOwn.never rfl (Co (pv 1)) (A7 (i:=4) Ch.nd rfl (Or.inl rfl))
    (Ae (Am (i:=5) Ch.nd rfl (Or.inl rfl) (Al FP hr1 rfl Ak (Aa (pv 0) (Aa (Aj Bd (Ar Ba (by rfl) T.len boot_len (Aa (pv 3) Ab)) Ad) Ab))))
    (Ae (Am (i:=6) Ch.nd rfl (Or.inl rfl) (Aj Bd (pv 5) (Al FP hr1 rfl Ak (Aa (pv 0) (Aa (Aj Xam (Aj Bd (Ar Ba (by rfl) T.len boot_len (Aa (pv 3) Ab)) Ad) (pv 5)) Ab)))))
    (Ae (Am (i:=7) Ch.nd rfl (Or.inl rfl) (Al FPut hr1 rfl Ak (Aa (pv 3) (Aa (pv 4) (Aa (pv 5) (Aa (pv 6) Ab))))))
    (Ae (A6 (Di (Al FB hr rfl Ak (Aa (pv 7) (Aa (pv 4) Ab))))
     (Ah (Am (i:=7) Ch.nd rfl (Or.inl rfl) (Aj B1 (Aj B1 (Bs Bu (pv 3) Bw (Bj (pv 5))) (B7 (Aa (pv 4) (Aa (pv 4) Ab)))) (Bs Bu (pv 3) (Bj (pv 5)) Bw)))) A8)
    (Ah (Am (i:=3) Ch.nd rfl (Or.inl rfl) (pv 7))))))))
   (Ah (Au (pv 3))))),?_⟩
  refine⟨_,rfl,dr,sc,4,rfl,by decide,by decide,dk,λr1 H1 _ _ d1 b1=>?_⟩;refine⟨rfl,_,rfl,?_⟩;have b1:But dr H H1:=b1;have hN1:=b1 _ _ hN nnd;refine Ap (λ_=>?_) (λ_=>?_)
  ·-- the grid
   refine⟨_,rfl,_,rfl,nl,_,rfl,.inl (SqL.of hN1),_,_,rfl,rfl,dr,sc,_,rfl,by omega,by rw[G3];omega,d1,λc H2 c0 c1 d2 b2=>?_⟩;obtain⟨c,rfl⟩:=Hk c0;rw[G3] at c1;have hc:c<=ns.length:=by omega
   have b12:=But.trans b1 b2;have hN2:=b2 _ _ hN1 nnd;obtain⟨xs,hdr⟩:=d2.at;refine⟨_,rfl,_,rfl,_,rfl,_,rfl,nl,_,rfl,SqL.of hN2,λp1 n1=>?_⟩;rw[Ds _ _ _ hc];refine⟨p1,_,rfl,SqL.of Ac,λp2 n2=>?_⟩;refine⟨nl,p2,_,_,rfl,rfl,ku (ku hN2 n1) n2,Ac,h24 _ (by simp;omega),λp3 n3=>?_⟩;refine⟨_,rfl,_,rfl,_,rfl,nl,_,rfl,SqL.of (ku (ku (ku hN2 n1) n2) n3),λp4 n4=>?_⟩;rw[C8 _ _ _ hc];refine⟨p4,_,rfl,SqL.of Ac,λp5 n5=>?_⟩;refine⟨p3,p5,_,_,rfl,rfl,ku (ku Ac n4) n5,Ac,h24 _ (by simp;omega),λp6 n6=>?_⟩;have s5:=(((((Same.refl H2).go n1 n2).go n2 n3).go n3 n4).go n4 n5).go n5 n6;have f6:=s5.free n6;refine k p6 (ns++(ns.take c).reverse++(ns.drop c).reverse) _ (b12.free hdr f6) (Ac.trans (by simp)) ?_ (d2.same (s5.step n6)) (b12.same (s5.step n6));rw[J8];refine List.Perm.append_left ns ?_;refine((Jh _).append (Jh _)).trans ?_;rw[Ia]
  ·-- dug one by one
   refine⟨by show 0<=sizeLine;decide,λp np=>?_⟩;obtain⟨xs1,hdr1⟩:=d1.at;have s0:Same H1 (upd H1 p (.lst [])):=(Same.refl H1).step np;refine⟨_,rfl,nl,rfl,⟨_,SqL.of (s0 _ _ hN1)⟩,?_⟩;refine E9 (K:=K) (a:=nl) (xs:=ns.map V.str) (λi σ H2=>∃(v2 v4 v5 v6 v7:Option V) (q:Addr) (row:List Str), σ=[some (.ref dr),some (.ref nl),v2,some (.ref q),v4,v5,v6,v7]/\H2 q=some (.lst (row.map V.str))/\H q=none/\q≠dr/\row.Perm (ns.take i++ns.take i)/\DrawOk H2 dr sc/\But dr H H2) ?_ ?_ ?_ ?_
   ·exact⟨_,_,_,_,_,p,[],rfl,Ac,b1.free hdr1 np,(Aw hdr1 np).symm,by simp,d1.same s0,b1.same s0⟩
   ·rintro i σ H2 _ ⟨v2,v4,v5,v6,v7,q,row,rfl,hq,nq,nqd,hp,d2,b2⟩;exact SqL.of (b2 _ _ hN nnd)
   ·rintro i y σ H2 hi ⟨v2,v4,v5,v6,v7,q,row,rfl,hq,nq,nqd,hp,d2,b2⟩;have hil:i<ns.length:=by
     have:=(G6.mp hi).1
     rwa [G3] at this
    obtain⟨x,rfl,hx⟩:∃x,y=V.str x/\ns[i]? = some x:=by
     rw[Hd] at hi;cases z:ns[i]? with
     | none=>rw[z] at hi;cases hi
     | some x=>rw[z] at hi;exact⟨x,(Ha hi).symm,rfl⟩
    have tk:ns.take (i+1)=ns.take i++[x]:=by
     rw[Hw hil];rw[G4 hil] at hx;rw[Ha hx]
    have hrl:row.length<=28:=by
     have:=hp.length_eq;rw[Hi,Hu] at this;omega
    have ndT:(ns.take i++[x]).Nodup:=by rw[<-tk];exact hnd.sublist (List.take_sublist ..)
    refine⟨_,rfl,_,rfl,q,_,rfl,.inl (SqL.of hq),_,_,rfl,rfl,dr,sc,_,rfl,by omega,by rw[G3];omega,d2,λa H3 a0 a1 d3 b3=>?_⟩;obtain⟨a,rfl⟩:=Hk a0;rw[G3] at a1;have hq3:=b3 _ _ hq nqd;refine⟨_,rfl,_,rfl,_,rfl,q,_,rfl,.inl (SqL.of hq3),_,_,rfl,rfl,_,rfl,_,_,rfl,rfl,dr,sc,_,rfl,by rw[G3];omega,by rw[G3];omega,d3,λc H4 c0 c1 d4 b4=>?_⟩;obtain⟨c,rfl⟩:=Hk c0;rw[G3] at c1;refine⟨_,_,rfl,rfl,?_⟩;have eac:(a:Int)+(c:Int)=((a+c:Nat):Int):=by omega
    dsimp only;rw[eac];have hac:a+c<=row.length:=by omega
    have hq4:=b4 _ _ hq3 nqd;have b24:=But.trans b2 (But.trans b3 b4);obtain⟨xs4,hdr4⟩:=d4.at;refine⟨_,rfl,_,rfl,_,rfl,_,rfl,q,row,x,a,a+c,rfl,hq4,by omega,by omega,hac,λl H5 nl5 hl5 s5=>?_⟩;have d5:=d4.same s5;have b25:=b24.same s5;have nlH:=b24.free hdr4 nl5;have nld:l≠dr:=(Aw hdr4 nl5).symm;have hperm:(Da row x a (a+c)).Perm ((ns.take i++[x])++(ns.take i++[x])):=Xc4 hp (Xin row x a (a+c) (by omega));have hll:(Da row x a (a+c)).length<=1000:=by
     have:=hperm.length_eq;rw[Hi,Hi,Hu,Ij] at this;omega
    refine⟨_,rfl,_,rfl,l,_,x,rfl,hl5,hll,Xc3 ndT hperm,hperm.mem_iff.mpr (by simp),λbb H6 s6=>?_⟩;have d6:=d5.same s6;have b26:=b25.same s6;refine⟨bb,rfl,?_⟩;refine Ap (λ_=>?_) (λ_=>?_)
    ·have hq6:=s6 _ _ (s5 _ _ hq4);refine⟨_,rfl,_,rfl,_,rfl,q,_,rfl,SqL.of hq6,λp1 n1=>?_⟩;rw[Ds _ _ _ (by omega)];refine⟨_,rfl,_,rfl,by show 2<=sizeLine;decide,λp2 n2=>?_⟩;refine⟨p1,p2,_,_,rfl,rfl,ku Ac n2,Ac,h24 _ (by simp;omega),λp3 n3=>?_⟩;refine⟨_,rfl,_,rfl,_,rfl,q,_,rfl,SqL.of (ku (ku (ku hq6 n1) n2) n3),λp4 n4=>?_⟩;rw[C8 _ _ _ (by omega)];refine⟨p3,p4,_,_,rfl,rfl,ku Ac n4,Ac,h24 _ (by simp;omega),λp5 n5=>?_⟩;have s4':=((((Same.refl H6).go n1 n2).go n2 n3).go n3 n4).go n4 n5;have f5:=s4'.free n5;obtain⟨xs6,hdr6⟩:=d6.at;refine⟨_,rfl,_,_,_,_,_,p5,row.take a++[x,x]++row.drop a,rfl,Ac.trans (by simp),b26.free hdr6 f5,(Aw hdr6 f5).symm,?_,d6.same (s4'.step n5),b26.same (s4'.step n5)⟩;rw[tk];refine Xc4 hp ?_;have e:row.take a++[x,x]++row.drop a=row.take a++x::x::row.drop a:=by simp
     rw[e];refine Iv.trans (List.Perm.cons x (Iv.trans (List.Perm.cons x ?_)));rw[Ia]
    ·exact⟨_,rfl,_,_,_,_,_,l,_,rfl,s6 _ _ hl5,nlH,nld,by rw[tk];exact hperm,d6,b26⟩
   ·rintro σ H2 ⟨v2,v4,v5,v6,v7,q,row,rfl,hq,nq,nqd,hp,d2,b2⟩;rw[G3,Jn] at hp;exact⟨_,rfl,k q row H2 nq hq hp d2 b2⟩
theorem Cl:FnScope NNa ["_law_draw", "_law_many"] (defScope sNames):=⟨rfl,rfl,rfl,by decide +kernel,rfl,by decide +kernel,by decide +kernel⟩
theorem Xjz{f:Addr}{fd:FuncData}(F:Fun K "_law_names" "_law_names" sNames f fd)(T:Bl mg)(FP:FnPick P w K mg base):FnOk P w K mg base CX0 2 f fd ["_law_draw", "_law_many"] Eo:=by
 refine F.ok Cl (λvs H Q E h=>?_) (λcdv A outer s H vs Q E hr h=>?_)
 ·obtain⟨dr,sc,n,rfl,_⟩:=h;rfl
 ·obtain⟨dr,sc,n,rfl,hn,dk,k⟩:=h;refine⟨_,Ae (Am (i:=2) Cl.nd rfl (Or.inl rfl) Bv)
   (Ae (Am (i:=3) Cl.nd rfl (Or.inl rfl) (Al FP hr rfl Ak (Aa (pv 0) (Aa Ad Ab))))
   (Ae (Am (i:=4) Cl.nd rfl (Or.inl rfl) (Cs B0 (Al FP hr rfl Ak (Aa (pv 0) (Aa Ad Ab))) Ad (Av _)))
   (Ae (Am (i:=5) Cl.nd rfl (Or.inl rfl) (B7 Ab))
   (Ae (Bq PassesOwn.never rfl (Cp rfl T.range (Aa (pv 1) Ab)) (A7 (i:=6) Cl.nd rfl (Or.inl rfl))
    (Ae (Am (i:=7) Cl.nd rfl (Or.inl rfl) (Ay Xfu (pv 2) (Aj C1 (Aj Bd (pv 3) (pv 6)) Ad) (λ_ _=>rfl)))
    (Ae (Am (i:=8) Cl.nd rfl (Or.inl rfl) (Aj Xgu Bv (Aj C1 (Aj Bd (pv 3) (Aj Xan (pv 6) (pv 6))) Ad)))
    (Ah (Xag (Fh PySem.F.plainAttrs_list PySem.F.slot_list_append PySem.F.type_list_append Fi (pv 5)
     (Aa (Xaf (Di (pv 4)) (Aj Fc (Aj Fc (pv 8) (pv 7)) Bv) (Aj Fc (pv 7) (pv 8))) Ab)))))))
   (Ah (Au (pv 5))))))),?_⟩
  refine⟨_,rfl,dr,sc,26,rfl,by decide,by decide,dk,λr1 H1 r10 r11 d1 b1=>?_⟩;refine⟨_,rfl,dr,sc,2,rfl,by decide,by decide,d1,λr2 H2 r20 r21 d2 b2=>?_⟩;refine⟨rfl,?_⟩;refine⟨by show 0<=sizeLine;decide,λl nl=>?_⟩;obtain⟨st,rfl⟩:=Hk r10;have hst:st<26:=by omega
  generalize hlt:decide (V.int r2=V.int 1)=late;have b12:But dr H H2:=But.trans b1 b2;obtain⟨xs,hdr⟩:=d2.at;have nlH:H l=none:=b12.free hdr nl;obtain⟨nld,nls⟩:=d2.ne nl;refine⟨_,rfl,(n:Int),rfl,by omega,by omega,?_⟩;rw[Ip];refine Cq (lo:=0) (n:=n) (λi σ H3=>∃v1 v2 v3, σ=[some (.ref dr),some (.int n),some (.str Cz),some (.int st),some (.bl late),some (.ref l),v1,v2,v3]/\H3 l=some (.lst ((A2 st late i).map V.str))/\DrawOk H3 dr sc/\But dr H H3) ?_ ?_ ?_
  ·exact⟨none,none,none,rfl,Ac,d2.upd nld nls,b12.upd nlH⟩
  ·rintro i σ H3 hi ⟨v1,v2,v3,rfl,hl3,d3,b3⟩;have e26:((st:Int)+(0+(i:Int))) % 26=(((st+i) % 26:Nat):Int):=by omega
   have h26:(st+i) % 26<26:=Nat.mod_lt _ (by decide);have eii:((0:Int)+(i:Int)) * (0+(i:Int))=((i * i:Nat):Int):=by rw[Jy];exact(Int.natCast_mul i i).symm
   have h7:(st+i * i) % 7<7:=Nat.mod_lt _ (by decide);have e7:((st:Int)+((i * i:Nat):Int)) % 7=(((st+i * i) % 7:Nat):Int):=by
    generalize i * i=j;omega
   refine⟨_,rfl,_,rfl,_,rfl,_,_,rfl,rfl,_,_,rfl,rfl,(by show (0:Int)<26;decide),_,_,_,rfl,rfl,(by show 26<=sizeLine;decide),by rw[e26];exact Xiq h26,?_⟩;refine⟨_,rfl,_,rfl,_,rfl,_,_,rfl,rfl,.inl ⟨by omega,by omega⟩,_,_,rfl,rfl,_,_,rfl,rfl,(by show (0:Int)<7;decide),?_⟩;have e77:((st:Int)+((0:Int)+(i:Int)) * (0+(i:Int))) % 7=(((st+i * i) % 7:Nat):Int):=by rw[eii,e7]
   refine⟨_,_,rfl,rfl,by rw[e77];omega,by rw[e77];omega,by show 1<=1000;decide,?_⟩;rw[e77,Ip];have hrl:(repS "m" ((st+i * i) % 7)).length<=6:=by
    rw[Ft];have:(Str.ofString "m").length=1:=rfl;rw[this];omega
   have hsl:(signOf ((st+i) % 26)).length=1:=rfl;have hnl:(A2 st late i).length=i:=by unfold A2;simp
   have hsnoc:A2 st late (i+1)=A2 st late i++[Dw st late i]:=by unfold A2;rw[Jr,Hj];rfl
   have h24:∀m,m<=100000->m<=sizeLine:=λm h=>by rw[Kb];omega
   have fin:∀z:Str,Dw st late i=z->Xbc (.ref l) [.str z] H3 λ_ H4=>∃v1 v2 v3,[some (V.ref dr),some (.int n),some (.str Cz),some (.int st),some (.bl late),some (.ref l),some (.int (0+(i:Int))),some (.str (signOf ((st+i) % 26))),some (.str (repS "m" ((st+i * i) % 7)))]=[some (.ref dr),some (.int n),some (.str Cz),some (.int st),some (.bl late),some (.ref l),v1,v2,v3]/\H4 l=some (.lst ((A2 st late (i+1)).map V.str))/\DrawOk H4 dr sc/\But dr H H4:=λz hz=>by
    refine⟨l,_,_,rfl,rfl,hl3,by rw[G3,hnl,Kb];omega,_,_,_,rfl,?_,d3.upd nld nls,b3.upd nlH⟩;rw[Ac,hsnoc,Hj,<-hz];rfl
   refine⟨_,rfl,.inl ⟨rfl,_,SqL.of hl3⟩,_,rfl,late,rfl,?_⟩;refine Ap (λhL=>?_) (λhL=>?_)
   ·refine⟨_,rfl,_,rfl,_,_,rfl,rfl,h24 _ (by show (repS "m" ((st+i * i) % 7)).length+1<=100000;omega),_,_,rfl,rfl,h24 _ ?_,fin _ (by unfold Dw;rw[Kd hL];rfl)⟩;rw[Xgy];show (repS "m" ((st+i * i) % 7)).length+1+1<=100000;omega
   ·exact⟨_,rfl,_,rfl,_,_,rfl,rfl,h24 _ (by show 1+(repS "m" ((st+i * i) % 7)).length<=100000;omega),fin _ (by unfold Dw;rw[Kc (by rw[hL];decide)];rfl)⟩
  ·rintro σ H3 ⟨v1,v2,v3,rfl,hl3,d3,b3⟩;exact⟨_,rfl,k l st late H3 nlH hst hl3 nls d3 b3⟩
theorem G0:FnScope NIs ["_law_draw", "_law_most"] (defScope sIsland):=⟨rfl,rfl,rfl,by decide +kernel,rfl,by decide +kernel,by decide +kernel⟩
theorem Xj0{f:Addr}{fd:FuncData}(F:Fun K "_law_island" "_law_island" sIsland f fd)(T:Bl mg)(FP:FnPick P w K mg base)(FN:Fn P w K mg base CX0 2 "_law_names" ["_law_draw", "_law_many"] Eo)
  (FR:Fn P w K mg base CX0 3 "_law_row" ["_law_draw", "_law_names_here"] spRow):FnOk P w K mg base CX0 4 f fd ["_law_draw", "_law_most"] spIsland:=by
 refine F.ok G0 (λvs H Q E h=>?_) (λcdv A outer s H vs Q E hr h=>?_)
 ·obtain⟨dr,sc,m,rfl,_⟩:=h;rfl
 ·obtain⟨dr,sc,m,rfl,hm,dk,k⟩:=h;have hr1:Room 1 _:=hr.mono (by decide);have hr2:Room 2 _:=hr.mono (by decide);refine⟨_,Ae (Am (i:=2) G0.nd rfl (Or.inl rfl) (Aj Bd Ad (Al FP hr1 rfl Ak (Aa (pv 0) (Aa Ad Ab)))))
   (Ae (Am (i:=3) G0.nd rfl (Or.inl rfl) (Ay Fg (Ct (Aa (Al FP hr1 rfl Ak (Aa (pv 0) (Aa Ad Ab))) (Aa (pv 2) (Aa (Al FP hr1 rfl Ak (Aa (pv 0) (Aa (Aj Bd (pv 1) Ad) Ab))) Ab))))
    (Al FP hr1 rfl Ak (Aa (pv 0) (Aa Ad Ab))) (λ_ _=>rfl)))
   (Ah (Au (Al FR hr rfl Ak (Aa (pv 0) (Aa (Al FN hr2 rfl Ak (Aa (pv 0) (Aa (Ar (Xff rfl) (by rfl) T.min boot_min (Aa (pv 3) (Aa (pv 1) Ab))) Ab))) Ab)))))),?_⟩
  refine⟨_,rfl,dr,sc,5,rfl,by decide,by decide,dk,λr1 H1 r10 _ d1 b1=>⟨_,_,rfl,rfl,?_⟩⟩;refine⟨_,rfl,dr,sc,5,rfl,by decide,by decide,d1,λr2 H2 r20 _ d2 b2=>?_⟩;refine⟨_,rfl,_,rfl,_,rfl,_,_,rfl,rfl,dr,sc,_,rfl,by omega,by omega,d2,λr3 H3 r30 _ d3 b3=>?_⟩;have b1:But dr H H1:=b1;have b13:But dr H H3:=But.trans b1 (But.trans b2 b3);refine⟨by show 3<=sizeLine;decide,λp np=>?_⟩;obtain⟨ne1,ne2⟩:=d3.ne np;obtain⟨xs3,hdr3⟩:=d3.at;have npH:=b13.free hdr3 np;refine⟨_,rfl,dr,sc,3,rfl,by decide,by decide,d3.upd ne1 ne2,λr4 H4 r40 r41 d4 b4=>?_⟩;have b4:But dr (L2.upd H3 p (.tup [.int r2,.int (2+r1),.int r3])) H4:=b4;have hp4:=b4 p _ Ac ne1;have b14:But dr H H4:=But.trans (b13.upd npH) b4;obtain⟨mm,hmm0,hmm⟩:∃mm:Int,0<=mm/\atI ([.int r2,.int (2+r1),.int r3]:List V) r4=some (.int mm):=by
   obtain⟨i,rfl⟩:=Hk r40;have hi:i<3:=by omega
   match i,hi with
   | 0,_=>exact⟨r2,r20,rfl⟩
   | 1,_=>exact⟨2+r1,by omega,rfl⟩
   | 2,_=>exact⟨r3,r30,rfl⟩
  refine⟨p,_,_,_,rfl,rfl,SqT.of hp4,hmm,?_⟩;obtain⟨n,hn,hnm⟩:∃n:Nat,(if (m:Int)<mm then (m:Int) else mm)=(n:Int)/\n<=m:=by
   obtain⟨j,rfl⟩:=Hk hmm0;by_cases hj:(m:Int)<(j:Int)
   ·exact⟨m,Kd hj,G5 _⟩
   ·exact⟨j,Kc hj,by omega⟩
  refine⟨_,rfl,_,rfl,_,rfl,_,rfl,_,_,rfl,?_⟩;rw[hn];refine⟨dr,sc,n,rfl,by omega,d4,λl st late H5 nl hst hl5 nls d5 b5=>?_⟩;obtain⟨xs4,hdr4⟩:=d4.at;have nld:l≠dr:=(Aw hdr4 nl).symm;have b15:=But.trans b14 b5;refine⟨dr,sc,l,_,rfl,d5,hl5,nld,En hst (by omega),by unfold A2;simp;omega,λl2 row H6 nl2 hl6 hp d6 b6=>?_⟩;obtain⟨xs5,hdr5⟩:=d5.at;exact k l2 row n st late H6 (b15.free hdr5 nl2) hnm hst hl6 hp d6 (But.trans b15 b6)
theorem Xj1:FnScope ["_law_draw", "_law_most"] ["_law_draw", "_law_most"] (defScope s__law_island_to):=⟨rfl,rfl,rfl,by decide +kernel,rfl,by decide +kernel,by decide +kernel⟩
theorem Xj2{f:Addr}{fd:FuncData}(F:Fun K "_law_island_to" "_law_island_to" s__law_island_to f fd)(T:Bl mg)(FP:FnPick P w K mg base)(FI:Fn P w K mg base CX0 4 "_law_island" ["_law_draw", "_law_most"] spIsland):FnOk P w K mg base CX0 5 f fd ["_law_draw", "_law_most"] spIslT7:=by
 refine F.ok Xj1 (λvs H Q E h=>?_) (λcdv A outer s H vs Q E hr h=>?_)
 ·obtain⟨dr,sc,m,rfl,_⟩:=h;rfl
 ·obtain⟨dr,sc,m,rfl,hm,d,k⟩:=h;have hr1:Room 1 _:=hr.mono (by decide);refine⟨_,Ah (Au (Al FI hr (by rfl) Ak (Aa (pv 0) (Aa (Ay Fg (Ct (Aa (pv 1) (Aa Ad Ab)))
   (B8 Xfg (by rfl) T.int (by rfl) (Aa (Cs B0 (Al FP hr1 (by rfl) Ak (Aa (pv 0) (Aa Ad Ab))) Ad (Av _)) Ab)) (λ_ _=>rfl)) Ab)))),?_⟩
  refine⟨_,rfl,_,rfl,by show 2<=sizeLine;decide,λt nt=>?_⟩;obtain⟨n1,n2⟩:=d.ne nt;refine⟨_,rfl,dr,sc,8,rfl,by decide,by decide,d.upd n1 n2,λg H4 _ _ d4 b4=>?_⟩;have b4:But dr (L2.upd H t (.tup [.int m,.int 14])) H4:=b4;have ht4:=b4 t _ Ac n1;have b04:But dr H H4:=But.trans ((But.refl dr H).upd nt) b4;have fin:∀mm:Nat,mm<=14->spIsland [.ref dr,.int mm] H4 Q E0:=λmm hmm=>⟨dr,sc,mm,rfl,hmm,d4,λl row n st late H' nl hn hst hl hp d' b'=>by
   obtain⟨xs,hd⟩:=d4.at;exact k l row n st late H' (b04.free hd nl) (Hx hn hmm) hst hl hp d' (b04.trans b')⟩
  refine⟨rfl,.inr ⟨_,rfl,?_⟩⟩;cases decide (V.int g=V.int 1) with
  | true=>exact⟨t,_,_,_,rfl,rfl,SqT.of ht4,rfl,fin 14 (by decide)⟩
  | false=>exact⟨t,_,_,_,rfl,rfl,SqT.of ht4,rfl,fin m hm⟩
theorem Ey:FnScope NSw7 ["_law_draw", "_law_row_here"] (defScope s__law_swapped):=⟨rfl,rfl,rfl,by decide +kernel,rfl,by decide +kernel,by decide +kernel⟩
theorem Xj3{f:Addr}{fd:FuncData}(F:Fun K "_law_swapped" "_law_swapped" s__law_swapped f fd)(T:Bl mg)(FP:FnPick P w K mg base):FnOk P w K mg base CX0 2 f fd ["_law_draw", "_law_row_here"] Gr:=by
 refine F.ok Ey (λvs H Q E h=>?_) (λcdv A outer s H vs Q E hr h=>?_)
 ·obtain⟨dr,sc,r,row,rfl,_⟩:=h;rfl
 ·obtain⟨dr,sc,r,row,rfl,d0,hR,nrd,hlen,k⟩:=h;have hr1:Room 1 _:=hr.mono (by decide);refine⟨_,Ae (Am (i:=2) Ey.nd rfl (Or.inl rfl) (B8 Dk (by rfl) T.list (by rfl) (Aa (pv 1) Ab)))
   (Ae (A6 (A3 Xav (Ar Ba (by rfl) T.len boot_len (Aa (pv 2) Ab)) Ad (Av _))
    (Ae (Am (i:=3) Ey.nd rfl (Or.inl rfl) (Al FP hr1 (by rfl) Ak (Aa (pv 0) (Aa (Aj Xam (Ar Ba (by rfl) T.len boot_len (Aa (pv 2) Ab)) Ad) Ab))))
    (Ae (Am (i:=4) Ey.nd rfl (Or.inl rfl) (Ay A4 (pv 2) (pv 3) (λ_ _=>rfl)))
    (Ae (B6 (Ay A4 (pv 2) (Aj Bd (pv 3) Ad) (λ_ _=>rfl)) (Cd (pv 2) (pv 3) Ce))
    (Ah (B6 (pv 4) (Cd (pv 2) (Aj Bd (pv 3) Ad) Ce)))))) A8)
   (Ah (Au (pv 2)))),?_⟩
  refine⟨_,rfl,r,_,rfl,.inl (SqL.of hR),λl nl=>?_⟩;have s1:Same H (upd H l (.lst (row.map V.str))):=(Same.refl H).step nl;have hl1:upd H l (.lst (row.map V.str)) l=some (.lst (row.map V.str)):=Ac;generalize upd H l (.lst (row.map V.str))=H1 at s1 hl1;have d1:=d0.same s1;obtain⟨nld,nls⟩:=d0.ne nl;refine⟨_,rfl,l,_,rfl,.inl (SqL.of hl1),_,_,rfl,rfl,_,rfl,?_⟩;refine Ap (λq1=>?_) (λq1=>?_)
  ·have hgt:1<row.length:=by
    have:=Kg q1;rw[G3] at this;omega
   refine⟨_,rfl,_,rfl,l,_,rfl,.inl (SqL.of hl1),_,_,rfl,rfl,dr,sc,_,rfl,by rw[G3];omega,by rw[G3];omega,d1,λi H2 i0 i1 d2 b2=>?_⟩;obtain⟨i,rfl⟩:=Hk i0;rw[G3] at i1;have hi:i+1<row.length:=by omega
   have hl2:=b2 _ _ hl1 nld;have ha:row[i]? = some (row[i]'(by omega)):=G4 _;have hb:row[i+1]? = some (row[i+1]'hi):=G4 _;generalize row[i]'(by omega)=x at ha;generalize row[i+1]'hi=y at hb;have e1:((i:Nat):Int)+1=((i+1:Nat):Int):=by omega
   refine⟨_,rfl,_,rfl,l,_,_,.str x,rfl,rfl,SqL.of hl2,Ci (by rw[Hd,ha];rfl),?_⟩;refine⟨_,rfl,_,rfl,_,_,rfl,rfl,l,_,_,.str y,rfl,rfl,SqL.of hl2,by rw[e1];exact Ci (by rw[Hd,hb];rfl),?_⟩;refine⟨_,rfl,_,rfl,l,_,_,i,rfl,rfl,hl2,Xd1 (by rw[G3];omega),?_⟩;refine⟨_,rfl,_,rfl,_,rfl,_,_,rfl,rfl,l,_,_,i+1,rfl,rfl,Ac,by rw[e1];exact Xd1 (by rw[List.length_set,G3];exact hi),?_⟩;refine⟨_,rfl,?_⟩;refine k l ((row.set i y).set (i+1) x) _ nl ?_ (Xd0 row i x y ha hb) ((d2.upd nld nls).upd nld nls) λb o e hb'=>?_
   ·rw[Ac,List.map_set,List.map_set]
   ·have nb:b≠l:=Aw e nl;rw[Af nb,Af nb];exact b2 _ _ (s1 _ _ e) hb'
  ·exact⟨_,rfl,k l row H1 nl hl1 (Ji _) d1 λb o e _=>s1 _ _ e⟩
theorem Df:FnScope NTw ["_law_draw", "_law_row_here"] (defScope s__law_twin_row):=⟨rfl,rfl,rfl,by decide +kernel,rfl,by decide +kernel,by decide +kernel⟩
theorem Xj4{f:Addr}{fd:FuncData}(F:Fun K "_law_twin_row" "_law_twin_row" s__law_twin_row f fd)(T:Bl mg)(FP:FnPick P w K mg base)(FS:Fn P w K mg base CX0 2 "_law_swapped" ["_law_draw", "_law_row_here"] Gr)
  (FA:Fn P w K mg base CX0 2 "_law_barred" ["_law_row_here", "_law_name"] spBarred):FnOk P w K mg base CX0 3 f fd ["_law_draw", "_law_row_here"] spTwin:=by
 refine F.ok Df (λvs H Q E h=>?_) (λcdv A outer s H vs Q E hr h=>?_)
 ·obtain⟨dr,sc,r,row,rfl,_⟩:=h;rfl
 ·obtain⟨dr,sc,r,row,rfl,d0,hR,nrd,hlen,h2,k⟩:=h;have hr1:Room 1 _:=hr.mono (by decide);refine⟨_,Ae (Am (i:=2) Df.nd rfl (Or.inl rfl) (Xjb rfl (by rfl) T.sorted (by rfl) T.set (pv 1)))
   (Ae (Am (i:=3) Df.nd rfl (Or.inl rfl) (B8 Dk (by rfl) T.list (by rfl) (Aa (pv 1) Ab)))
   (Ae (Bq PassesOwn.never rfl (Cp rfl T.range (Aa (Al FP hr1 (by rfl) Ak (Aa (pv 0) (Aa Ad Ab))) Ab)) (A7 (i:=4) Df.nd rfl (Or.inl rfl))
    (Ae (Am (i:=5) Df.nd rfl (Or.inr rfl) (Al FS hr (by rfl) Ak (Aa (pv 0) (Aa (pv 3) Ab))))
    (Ah (A6 (D2 (Di (Ar (Xim rfl) (by rfl) T.any (by rfl) (Aa (Em (N:=NTw1) (cap:=[none,some 5]) (CompScope.of (defScope s__law_twin_row) NTw rfl rfl rfl (by decide +kernel)) rfl
      (Co (pv 2)) (λ_ _ _=>A7 (i:=0) (show NTw1.Nodup by decide +kernel) rfl (Or.inl rfl) (Or.inr rfl)) (λ_ _ _=>Dq)
      (λ_ _ _=>Al (by exact FA) (by exact hr) (by rfl) Ak (Aa (pv 1) (Aa (pv 0) Ab)))) Ab))))
     (Ah (Am (i:=3) Df.nd rfl (Or.inl rfl) (pv 5))) A8))))
   (Ah (Au (pv 3))))),?_⟩
  refine⟨_,rfl,r,row,rfl,.inl (SqL.of hR),by omega,λn H1 nn hn s1=>?_⟩;have d1:=d0.same s1;refine⟨_,rfl,r,_,rfl,.inl (SqL.of (s1 _ _ hR)),λl nl=>?_⟩;have s2:Same H1 (upd H1 l (.lst (row.map V.str))):=(Same.refl H1).step nl;have hl2:upd H1 l (.lst (row.map V.str)) l=some (.lst (row.map V.str)):=Ac;generalize upd H1 l (.lst (row.map V.str))=H2 at s2 hl2;have d2:=d1.same s2;have nl0:=s1.free nl;have hn2:=s2 _ _ hn;refine⟨_,rfl,dr,sc,4,rfl,by decide,by decide,d2,λm H3 m0 m1 d3 b3=>?_⟩;obtain⟨m,rfl⟩:=Hk m0;obtain⟨nnd,nns⟩:=d0.ne nn;obtain⟨nld,nls⟩:=d0.ne nl0;have s02:=s1.trans s2;have b03:But dr H H3:=λb o e hb=>b3 _ _ (s02 _ _ e) hb;refine⟨((m:Nat):Int),rfl,by omega,by omega,?_⟩;rw[Ip];refine Cq (lo:=0) (n:=m) (λi σ H4=>∃(o:Addr) (t:List Str) (v4 v5:Option V), σ=[some (.ref dr),some (.ref r),some (.ref n),some (.ref o),v4,v5]/\H o=none/\H4 o=some (.lst (t.map V.str))/\t.Perm row/\DrawOk H4 dr sc/\But dr H H4/\H4 n=some (.lst ((dit row).map V.str))) ?_ ?_ ?_
  ·exact⟨l,row,none,none,rfl,nl0,b3 _ _ hl2 nld,Ji _,d3,b03,b3 _ _ hn2 nnd⟩
  ·rintro i σ H4 hi ⟨o,t,v4,v5,rfl,no,ho,hp,d4,b4,hn4⟩;obtain⟨nod,nos⟩:=d0.ne no;refine⟨_,rfl,_,rfl,dr,sc,o,t,rfl,d4,ho,nod,by rw[hp.length_eq];exact hlen,λl5 t5 H5 nl5 hl5 hp5 d5 b5=>?_⟩;have hp5:=hp5.trans hp;have nl5H:H l5=none:=by
    cases q:H l5 with
    | none=>rfl
    | some u=>
     have ne:l5≠dr:=λz=>by
      obtain⟨xs,hx⟩:=d4.at;rw[z,hx] at nl5;cases nl5
     rw[b4 _ _ q ne] at nl5;cases nl5
   have hn5:=b5 _ _ hn4 nnd;have b05:=b4.trans b5;refine⟨_,rfl,n,rfl,⟨_,SqL.of hn5⟩,?_⟩;refine Dr (n:=(dit row).length) (λi=>.str ((dit row).getD i Str.empty)) (λD i σ2 H6=>∃(v:Option V) (bs:List Bool), σ2=[v,some (.ref l5)]/\Same H5 H6/\H6 D=some (.lst (bs.map V.bl))/\bs.length=i) ?_ ?_ ?_ ?_ ?_
   ·intro D hD;exact⟨none,[],rfl,(Same.refl H5).step hD,Ac,rfl⟩
   ·rintro D j σ2 H6 hD hj ⟨v,bs,rfl,s6,hm,hl⟩;have:=Eh (K:=K) (SqL.of (s6 _ _ hn5)) (show j<((dit row).map V.str).length by rw[G3];exact hj)
    rwa [Dx V.str Str.empty _ hj] at this
   ·rintro D σ2 H6 hD ⟨v,bs,rfl,s6,hm,hl⟩;have:=Ei (K:=K) (SqL.of (s6 _ _ hn5))
    rwa [G3] at this
   ·rintro D j σ2 H6 hD hj ⟨v,bs,rfl,s6,hm,hl⟩;have hxj:=F0.mp (Xc7 hj);have hdl:=Xh1 row;refine⟨_,rfl,_,rfl,l5,t5,_,rfl,s6 _ _ hl5,by rw[hp5.length_eq];omega,λy hy=>by rw[hp5.count_eq];exact h2 y (hp5.mem_iff.mp hy),hp5.mem_iff.mpr hxj,λb H7 s7=>?_⟩;refine wput hj (s7 _ _ hm) (by rw[G3,Kb];omega) ⟨_,bs++[b],rfl,?_,by rw[Ac,Hj];rfl,by rw[Hi,hl];rfl⟩;intro c u e;rw[Af (Aw e hD)];exact s7 _ _ (s6 _ _ e)
   ·rintro D σ2 H6 hD ⟨v,bs,rfl,s6,hm,hl⟩;refine⟨D,bs,rfl,hm,_,rfl,?_⟩;refine Ap (λ_=>?_) (λ_=>?_)
    ·exact⟨_,rfl,l5,t5,_,_,rfl,nl5H,s6 _ _ hl5,hp5,d5.same s6,b05.same s6,s6 _ _ hn5⟩
    ·exact⟨o,t,_,_,rfl,no,s6 _ _ (b5 _ _ ho nod),hp,d5.same s6,b05.same s6,s6 _ _ hn5⟩
  ·rintro σ H4 ⟨o,t,v4,v5,rfl,no,ho,hp,d4,b4,hn4⟩;exact⟨_,rfl,k o t H4 no ho hp d4 b4⟩
theorem G1:FnScope NRd ["_law_row_here", "_law_other"] (defScope s__law_read):=⟨rfl,rfl,rfl,by decide +kernel,rfl,by decide +kernel,by decide +kernel⟩
theorem Xj5{f:Addr}{fd:FuncData}(F:Fun K "_law_read" "_law_read" s__law_read f fd)(T:Bl mg):FnOk P w K mg base CX0 1 f fd ["_law_row_here", "_law_other"] Gw:=by
 refine F.ok G1 (λvs H Q E h=>?_) (λcdv A outer s H vs Q E hr h=>?_)
 ·obtain⟨r,o,a,b,rfl,_⟩:=h;rfl
 ·obtain⟨r,o,a,b,rfl,hR,hO,hl,h60,okA,okB,ta,tb,kn,kp⟩:=h;have hu:=Dn hr;refine⟨_,Ae (Am (i:=2) G1.nd rfl (Or.inr rfl) Ee)
   (Ae (Bq PassesOwn.never rfl (Cp rfl T.range (Aa (Ar Ba (by rfl) T.len boot_len (Aa (pv 0) Ab)) Ab)) (A7 (i:=3) G1.nd rfl (Or.inl rfl))
    (Ae (A6 (A3 Eb (Xbo hu (pv 2) (Ay A4 (pv 0) (pv 3) (λ_ _=>rfl)) (Ay A4 (pv 1) (pv 3) (λ_ _=>rfl)) ⟨rfl,rfl,rfl,rfl⟩) (Ay A4 (pv 1) (pv 3) (λ_ _=>rfl)) (Av _)) (Ah (Au Bp)) A8)
    (Ah (Fk hu (pv 2) (Ay A4 (pv 0) (pv 3) (λ_ _=>rfl)) (Ay A4 (pv 1) (pv 3) (λ_ _=>rfl)) rfl))))
   (Ae (A6 (A3 Cr (Ar (Xjg P w rfl rfl) (by rfl) T.len boot_len (Aa (B8 (Xec P w rfl rfl rfl) (by rfl) T.set (by rfl) (Aa (B8 (Xi9 rfl) (by rfl) T.list (by rfl) (Aa (Xba PySem.F.plainAttrs_dict PySem.F.slot_dict_values PySem.F.type_dict_values Xi8 (pv 2)) Ab)) Ab)) Ab)) (Ar Xgj (by rfl) T.len boot_len (Aa (pv 2) Ab)) (Av _)) (Ah (Au Bp)) A8)
   (Ah (Au (Ar Xi2 (by rfl) T.sorted (by rfl) (Aa (Em (N:=NRd1) (cap:=[none,some 2]) (CompScope.of (defScope s__law_read) NRd rfl rfl rfl (by decide +kernel)) rfl (Xil (pv 2)) (λ_ _ _=>A7 (i:=0) (show NRd1.Nodup by decide +kernel) rfl (Or.inl rfl) (Or.inr rfl)) (λ_ _ _=>Dq) (λ_ _ _=>Ct (Aa (pv 0) (Aa (C5 (by exact hu) (pv 1) (pv 0) (λ_ _=>rfl)) Ab)))) Ab)))))),?_⟩
  intro d nd;have s0:Same H (upd H d (.dK [])):=(Same.refl H).step nd;have hd0:upd H d (.dK []) d=some (.dK (Ai [])):=Ac;dsimp only[A0];generalize upd H d (.dK [])=H0 at s0 hd0;have nr:∀{b:Addr} {o:HO},H b=some o->b≠d:=λe=>Aw e nd;refine⟨_,rfl,r,_,rfl,.inl (SqL.of (s0 _ _ hR)),_,rfl,by omega,by rw[G3];omega,?_⟩;rw[show ((a.map V.str).length:Int).toNat=a.length by rw[G3];omega];refine Cq (lo:=0) (n:=a.length) (λi σ H'=>(∃v3, σ=[some (.ref r),some (.ref o),some (.ref d),v3])/\Same H H'/\∃prs,Dz a b i prs/\H' d=some (.dK (Ai prs))) ?_ ?_ ?_
  ·exact⟨⟨_,rfl⟩,s0,[],Dz.zero a b,hd0⟩
  ·rintro i σ H' hi ⟨⟨v3,rfl⟩,s',prs,dz,hd⟩;rw[Jy];have hR':=s' _ _ hR;have hO':=s' _ _ hO;have hib:i<b.length:=by omega
   have hx:a[i]? = some a[i]:=G4 hi;have hy:b[i]? = some b[i]:=G4 hib;have ax:atI (a.map V.str) (i:Int)=some (.str a[i]):=Ci (by rw[Hd,hx];rfl);have by_:atI (b.map V.str) (i:Int)=some (.str b[i]):=Ci (by rw[Hd,hy];rfl);generalize a[i]=x at hx ax;generalize b[i]=y at hy by_;dsimp only[A0];refine⟨_,rfl,d,rfl,.inl ⟨_,.inl hd⟩,_,rfl,_,rfl,r,_,_,_,rfl,rfl,SqL.of hR',ax,_,rfl,_,rfl,o,_,_,_,rfl,rfl,SqL.of hO',by_,An (Ai prs) (Sum.inr x),.inl ⟨_,Sum.inr x,.inl hd,rfl,rfl⟩,?_⟩;have dl:=dz.len;have put:∀(prs':List (Str×Str)),A1 (Ai prs) (Sum.inr x) (.str y)=Ai prs'->Dz a b (i+1) prs'->Same H (upd H' d (.dK (A1 (Ai prs) (Sum.inr x) (.str y))))/\∃prs',Dz a b (i+1) prs'/\upd H' d (.dK (A1 (Ai prs) (Sum.inr x) (.str y))) d=some (.dK (Ai prs')):=λprs' e dz'=>
    ⟨λb' o' q=>by rw[Af (nr q)];exact s' _ _ q,prs',dz',by rw[Ac,e]⟩
   have lk:(Ai prs).length<sizeLine:=by unfold Ai;rw[G3,Kb];omega
   refine⟨_,rfl,_,rfl,o,_,_,_,rfl,rfl,SqL.of hO',by_,?_⟩;by_cases m:x∈prs.map (·.1)
   ·obtain⟨q,hq,rfl⟩:=Hq.mp m;rw[Cg dz.nd (x:=q.1) (y:=q.2) hq];refine⟨rfl,_,rfl,?_⟩;by_cases c:q.2=y
    ·refine Ap (λz=>absurd z ?_) (λ_=>?_)
     ·rw[<-c];simp
     ·refine⟨_,rfl,_,rfl,o,_,_,_,rfl,rfl,SqL.of hO',by_,_,rfl,_,rfl,_,rfl,r,_,_,_,rfl,rfl,SqL.of hR',ax,d,_,rfl,DPut.k (k:=Sum.inr q.1) hd lk,⟨_,rfl⟩,?_⟩;have mm:(q.1,y)∈prs:=by rw[<-c];exact hq
      exact put prs (Xjk dz.nd mm) (dz.old hx hy mm)
    ·refine Ap (λ_=>kn (dz.bad hx hy hq c) _ s') (λz=>absurd z ?_);simp[c]
   ·rw[Xed m];refine⟨rfl,_,rfl,?_⟩;refine Ap (λz=>absurd z (by simp)) (λ_=>?_);refine⟨_,rfl,_,rfl,o,_,_,_,rfl,rfl,SqL.of hO',by_,_,rfl,_,rfl,_,rfl,r,_,_,_,rfl,rfl,SqL.of hR',ax,d,_,rfl,DPut.k (k:=Sum.inr x) hd lk,⟨_,rfl⟩,?_⟩;exact put _ (Gu y m) (dz.new hx hy m)
  ·rintro σ H' ⟨⟨v3,rfl⟩,s',prs,dz,hd⟩;obtain⟨fo,mem⟩:=dz.all hl rfl;have dl:=dz.len;have ev:(Ai prs).map (·.2)=(prs.map (·.2)).map V.str:=by
    unfold Ai;rw[Jg,Jg];rfl
   have ndv:(prs.map (·.2)).Nodup:=by
    have nd2:prs.Nodup:=(I0.mp dz.nd).imp λn e=>n (by rw[e]);refine I0.mpr (nd2.imp_of_mem λ{p q} hp hq n e=>n ?_);have e1:p.1=q.1:=Xd9 hl ta tb fo (y:=q.2) (by rw[<-e];exact(mem p).mp hp) ((mem q).mp hq);exact Prod.ext e1 e
   have lk:(Ai prs).length=prs.length:=by unfold Ai;rw[G3]
   refine⟨_,rfl,.inr (.inr (.inl ⟨rfl,.inl ⟨_,hd⟩⟩)),d,_,rfl,rfl,hd,λv nv=>?_⟩;have s1:Same H' (upd H' v (C0 v d)):=(Same.refl H').step nv;have hv1:upd H' v (C0 v d) v=some (C0 v d):=Ac;generalize upd H' v (C0 v d)=H1 at s1 hv1;refine⟨v,d,_,rfl,hv1,s1 _ _ hd,λl nl=>?_⟩;rw[ev];have s2:Same H1 (upd H1 l (.lst ((prs.map (·.2)).map V.str))):=(Same.refl H1).step nl;have hl2:upd H1 l (.lst ((prs.map (·.2)).map V.str)) l=some (.lst ((prs.map (·.2)).map V.str)):=Ac;generalize upd H1 l (.lst ((prs.map (·.2)).map V.str))=H2 at s2 hl2;refine⟨l,prs.map (·.2),rfl,.inl (SqL.of hl2),by rw[G3];unfold scanBound;omega,λst nst=>?_⟩;have s3:Same H2 (upd H2 st (Bm P w st (ddup (prs.map (·.2))))):=(Same.refl H2).step nst;have hs3:upd H2 st (Bm P w st (ddup (prs.map (·.2)))) st=some (Bm P w st (ddup (prs.map (·.2)))):=Ac;generalize upd H2 st (Bm P w st (ddup (prs.map (·.2))))=H3 at s3 hs3;have ld:(ddup (prs.map (·.2))).length=prs.length:=by
    have p:(ddup (prs.map (·.2))).Perm (prs.map (·.2)):=Xcn (Xb7 _) ndv λy=>Xb6 _ y;rw[p.length_eq,G3]
   have s03:=(s1.trans s2).trans s3;have hd3:=s03 _ _ hd;refine⟨st,_,rfl,hs3,by rw[ld];unfold scanBound;omega,_,rfl,d,_,rfl,hd3,_,_,rfl,rfl,_,rfl,?_⟩;rw[ld,lk,Kf (by omega)];refine B4 ?_;have sH3:=s'.trans s03;refine⟨_,rfl,d,_,rfl,.inl ⟨hd3,λob=>?_⟩⟩;have hX:upd H3 d (.frz ob (.dK (Ai prs))) d=some (.frz ob (.dK (Ai prs))):=Ac;have sX:Same H (upd H3 d (.frz ob (.dK (Ai prs)))):=λb' o' q=>by rw[Af (nr q)];exact sH3 _ _ q
   generalize upd H3 d (.frz ob (.dK (Ai prs)))=H4 at hX sX;have eK:(Ai prs).map (λq:Key×V=>kV q.1)=(prs.map (·.1)).map V.str:=by
    unfold Ai;rw[Jg,Jg];rfl
   have dP:∀j,j<prs.length->prs.getD j (Str.empty,Str.empty)∈prs:=λj hj=>by
    rw[show prs.getD j (Str.empty,Str.empty)=prs[j] by simp[List.getD,hj]];exact Hl hj
   refine Xjh (n:=prs.length) (by rw[Kb];omega) (λj=>.str (prs.getD j (Str.empty,Str.empty)).1) (λ_=>true) (λj=>pr2L (prs.getD j (Str.empty,Str.empty))) ?_ ?_ ?_ ?_ ?_
   ·intro j H5 hj s5;have:=Xb0 (kvs:=Ai prs) (s5 _ _ hX) (by omega:j<(Ai prs).length);rw[eK,Dx V.str Str.empty (prs.map (·.1)) (by rw[G3];exact hj),show (prs.map (·.1)).getD j Str.empty=(prs.getD j (Str.empty,Str.empty)).1 by simp[List.getD,hj]] at this;exact this
   ·intro H5 s5;have:=Xb1 (kvs:=Ai prs) (s5 _ _ hX)
    rwa [lk] at this
   ·intro j H5 Q' hj s5 kk;exact kk H5 (Same.refl _)
   ·intro j H5 Q' hj _ s5 kk;have hq:=dP j hj;generalize prs.getD j (Str.empty,Str.empty)=q at hq kk;refine⟨_,rfl,_,rfl,_,rfl,d,_,rfl,.inl ⟨_,Sum.inr q.1,.inr ⟨ob,s5 _ _ hX⟩,rfl,(Cg dz.nd (x:=q.1) (y:=q.2) hq).symm⟩,by show 2<=sizeLine;decide,λt nt=>?_⟩;exact kk t _ Ac ((Same.refl H5).step nt)
   ·intro D ps H5 nD s5 hD hT;have eU:((List.range prs.length).filter λ_=>true).map (λj=>pr2L (prs.getD j (Str.empty,Str.empty)))=prs.map pr2L:=by
     rw[J2.mpr λ_ _=>rfl];refine Jz (by simp) λj h1 h2=>?_;simp[List.getD] at h1 h2 ⊢;simp[h1]
    rw[eU] at hT;have ndT:(prs.map pr2L).Nodup:=by
     refine I0.mpr ((I0.mp dz.nd).imp λn e=>n ?_);unfold pr2L at e;injection e
    refine⟨D,ps,prs.map pr2L,rfl,hD,hT,λz=>?_,ndT,by rw[hT.1,G3];omega,λl2 ps2 Ts2 nl2 hT2 p2 pw2=>?_⟩
    ·obtain⟨q,_,e⟩:=Hq.mp z;unfold pr2L at e;cases e
    ·have s6:Same H5 (upd H5 l2 (.lst (ps2.map V.ref))):=(Same.refl H5).step nl2;have s05:=sX.trans s5;exact kp fo l2 ps2 Ts2 _ (s05.free nl2) Ac (hT2.same s6) (Xef mem p2 pw2) (by rw[hT2.1,p2.length_eq,G3];omega) (s05.trans s6)
theorem Ez:FnScope NSl ["_law_row_here", "_law_other"] (defScope s__law_same):=⟨rfl,rfl,rfl,by decide +kernel,rfl,by decide +kernel,by decide +kernel⟩
theorem Xj6{f:Addr}{fd:FuncData}(F:Fun K "_law_same" "_law_same" s__law_same f fd)(T:Bl mg)(FP:Fn P w K mg base CX0 1 "_law_read" ["_law_row_here", "_law_other"] Gw):
  FnOk P w K mg base CX0 2 f fd ["_law_row_here", "_law_other"] (spSame λb=>max 1 b.length):=by
 refine F.ok Ez (λvs H Q E h=>?_) (λcdv A outer s H vs Q E hr h=>?_)
 ·obtain⟨r,o,a,b,rfl,_⟩:=h;rfl
 ·obtain⟨r,o,a,b,rfl,hR,hO,Ra,Rb,kd,ks⟩:=h;refine⟨_,Ae (A6 (A3 Eb (Ar Ba (by rfl) T.len boot_len (Aa (pv 0) Ab)) (Ar Ba (by rfl) T.len boot_len (Aa (pv 1) Ab)) (Av _)) (Ah (Au Bp)) A8)
   (Ae (Bq PassesOwn.never rfl (E8 (Ct (Aa (pv 1) (Aa (Eg (pv 1)) Ab)))) (A7 (i:=2) Ez.nd rfl (Or.inl rfl))
    (Ah (Bq PassesOwn.never rfl (Cp rfl T.range (Aa (Ar (Xfe rfl) (by rfl) T.max (by rfl) (Aa Ad (Aa (Ar Ba (by rfl) T.len boot_len (Aa (pv 2) Ab)) Ab))) Ab)) (A7 (i:=3) Ez.nd rfl (Or.inl rfl))
     (Ae (Am (i:=4) Ez.nd rfl (Or.inl rfl) (Al FP hr (by rfl) Ak (Aa (pv 0) (Aa (Aj B1 (Bs Bu (pv 2) (Bj (pv 3)) Bw) (Bs Bu (pv 2) Bw (Bj (pv 3)))) Ab))))
     (Ah (A6 (A3 Fb (pv 4) Bp (Av _)) (Ah (Au (pv 4))) A8))))))
   (Ah (Au Bp))),?_⟩
  have la:((a.map V.str).length:Int)=a.length:=by rw[G3]
  have lb:((b.map V.str).length:Int)=b.length:=by rw[G3]
  have hal:=Ra.len;refine⟨_,rfl,r,_,rfl,.inl (SqL.of hR),_,rfl,o,_,rfl,.inl (SqL.of hO),rfl,_,rfl,?_⟩;rw[la,lb];by_cases hl:a.length=b.length
  ·refine Ap (λz=>absurd z (by simp[hl])) (λ_=>?_);obtain⟨k0,k1⟩:=ks hl;refine⟨_,rfl,_,rfl,o,_,rfl,SqL.of hO,λm nm=>?_⟩;have s1:Same H (upd H m (.lst (b.map V.str).reverse)):=(Same.refl H).step nm;have hm:upd H m (.lst (b.map V.str).reverse) m=some (.lst (b.reverse.map V.str)):=Ac.trans (by rw[List.map_reverse]);generalize upd H m (.lst (b.map V.str).reverse)=H1 at s1 hm;refine⟨by show 2<=sizeLine;decide,λt nt=>?_⟩;have s2:Same H1 (upd H1 t (.tup [.ref o,.ref m])):=(Same.refl H1).step nt;have ht:upd H1 t (.tup [.ref o,.ref m]) t=some (.tup [.ref o,.ref m]):=Ac;generalize upd H1 t (.tup [.ref o,.ref m])=H2 at s2 ht;have s02:=s1.trans s2;have hm2:=s2 _ _ hm;have okA:=Ra.ok;have lr:b.reverse.length=b.length:=Ig;refine⟨t,rfl,⟨_,SqT.of ht⟩,?_⟩;refine Xak (K:=K) (a:=t) (xs:=[.ref o,.ref m]) (λi σ H'=>(∃v2 v3 v4, σ=[some (.ref r),some (.ref o),v2,v3,v4])/\Same H2 H'/\(1<=i->∀j,j<max 1 b.length->¬Ao a (rot b j))/\(2<=i->∀j,j<max 1 b.length->¬Ao a (rot b.reverse j))) ?_ ?_ ?_ ?_
   ·exact⟨⟨_,_,_,rfl⟩,Same.refl _,λz=>absurd z (by decide),λz=>absurd z (by decide)⟩
   ·rintro i σ H' _ ⟨_,s',_⟩;exact SqT.of (s' _ _ ht)
   ·rintro i x σ H3 hx ⟨⟨v2,v3,v4,rfl⟩,s3,i1,i2⟩;obtain⟨p,c,rfl,hp,hcl,okc,tc,hit,nxt⟩:∃(p:Addr) (c:List Str),x = .ref p/\H2 p=some (.lst (c.map V.str))/\c.length=b.length/\(∀y∈c,okN y)/\Bo c/\(∀k,k<max 1 b.length->(∀j,j<k->¬Ao a (rot c j))->Ao a (rot c k)->PrQ H Q a (rot c k)) /\
      ((∀j,j<max 1 b.length->¬Ao a (rot c j))->(1<=i+1->∀j,j<max 1 b.length->¬Ao a (rot b j))/\(2<=i+1->∀j,j<max 1 b.length->¬Ao a (rot b.reverse j))):=by
     match i,hx with
     | 0,hx=>
      cases Ha hx;exact⟨o,b,rfl,s02 _ _ hO,rfl,Rb.ok,Rb.two,λk h1 h2 h3=>k1 _ (.inl ⟨k,h1,h2,h3,rfl⟩),λh=>⟨λ_=>h,λz=>absurd z (by omega)⟩⟩
     | 1,hx=>
      cases Ha hx;exact⟨m,b.reverse,rfl,hm2,lr,λy hy=>Rb.ok y (List.mem_reverse.mp hy),(show Bo b from Rb.two).perm (Jh b),λk h1 h2 h3=>k1 _ (.inr (.inl ⟨i1 (G5 _),k,h1,h2,h3,rfl⟩)),λh=>⟨λ_=>i1 (G5 _),λ_=>h⟩⟩
    dsimp only[A0];have lc:((c.map V.str).length:Int)=c.length:=by rw[G3]
    refine⟨_,rfl,p,_,rfl,.inl (SqL.of (s3 _ _ hp)),_,_,rfl,?_⟩;have e0:(if ((c.map V.str).length:Int) > 1 then ((c.map V.str).length:Int) else 1)=(max 1 b.length:Nat):=by
     rw[lc,hcl];split<;>omega
    rw[e0];refine⟨_,rfl,by omega,by omega,?_⟩;rw[Ip];refine Cq (lo:=0) (n:=max 1 b.length) (λk σ H'=>(∃v3 v4, σ=[some (.ref r),some (.ref o),some (.ref p),v3,v4])/\Same H2 H'/\∀j,j<k->¬Ao a (rot c j)) ?_ ?_ ?_
    ·exact⟨⟨_,_,rfl⟩,s3,λj hj=>absurd hj (Js _)⟩
    ·rintro k σ H4 hk ⟨⟨v3,v4,rfl⟩,s4,nj⟩;have s04:=s02.trans s4;dsimp only[A0];rw[Jy];have hk2:k<=c.length:=by omega
     have hp4:=s4 _ _ hp;refine⟨_,rfl,_,rfl,_,rfl,_,rfl,p,_,rfl,SqL.of hp4,λp1 n1=>?_⟩;rw[C8 _ _ _ hk2];refine⟨_,rfl,_,rfl,_,rfl,p,_,rfl,SqL.of (ku hp4 n1),λp2 n2=>?_⟩;rw[Ds _ _ _ hk2];refine⟨p1,p2,_,_,rfl,rfl,ku Ac n2,Ac,by rw[Kb];simp;omega,λl n3=>?_⟩;have s5':=((Same.refl H4).go n1 n2).go n2 n3;have nl:=s5'.free n3;have s5:=s5'.step n3 (o:=.lst ((c.drop k).map V.str++(c.take k).map V.str));have hl5:=(Ac (H:=upd (upd H4 p1 (.lst ((c.drop k).map V.str))) p2 (.lst ((c.take k).map V.str))) (a:=l) (o:=.lst ((c.drop k).map V.str++(c.take k).map V.str))).trans (show some (HO.lst ((c.drop k).map V.str++(c.take k).map V.str))=some (.lst ((rot c k).map V.str)) by unfold rot;simp);generalize upd (upd (upd H4 p1 (.lst ((c.drop k).map V.str))) p2 (.lst ((c.take k).map V.str))) l (.lst ((c.drop k).map V.str++(c.take k).map V.str))=H5 at s5 hl5;have s05:=s04.trans s5;refine⟨r,l,a,rot c k,rfl,s05 _ _ hR,hl5,by rw[Ck];omega,by omega,okA,λy hy=>okc y ((Cf c k).mem_iff.mp hy),Ra.two,tc.perm (Cf c k),λnf H6 s6=>?_,λfo l2 ps Ts H6 nl2 hl6 hT6 ip h60 s6=>?_⟩
     ·refine⟨_,rfl,rfl,_,rfl,?_⟩;refine Ap (λz=>absurd z (by simp)) (λ_=>⟨⟨_,_,rfl⟩,(s4.trans s5).trans s6,λj hj=>?_⟩);rcases Nat.lt_succ_iff_lt_or_eq.mp hj with e | e
      ·exact nj j e
      ·rw[e];exact nf
     ·refine⟨_,rfl,rfl,_,rfl,?_⟩;refine Ap (λ_=>?_) (λz=>absurd z (by simp));exact⟨_,rfl,hit k hk nj fo l2 ps Ts H6 (s05.free nl2) hl6 hT6 ip h60 (s05.trans s6)⟩
    ·rintro σ H4 ⟨⟨v3,v4,rfl⟩,s4,nj⟩;obtain⟨q1,q2⟩:=nxt nj;exact⟨⟨_,_,_,rfl⟩,s4,q1,q2⟩
   ·rintro σ H3 ⟨⟨v2,v3,v4,rfl⟩,s3,i1,i2⟩;exact k0 (.inr (.inr ⟨i1 (by show 1<=2;decide),i2 (by show 2<=2;decide),rfl⟩)) H3 (s02.trans s3)
  ·refine Ap (λ_=>kd hl H (Same.refl _)) (λz=>absurd z ?_);simp;omega
theorem Xj7:FnScope ["_law_found"] ["_law_found"] (defScope s__law_tuple):=⟨rfl,rfl,rfl,by decide +kernel,rfl,by decide +kernel,by decide +kernel⟩
theorem Xj8{f:Addr}{fd:FuncData}(F:Fun K "_law_tuple" "_law_tuple" s__law_tuple f fd)(T:Bl mg):FnOk P w K mg base CX0 1 f fd ["_law_found"] spTuple:=by
 refine F.ok Xj7 (λvs H Q E h=>?_) (λcdv A outer s H vs Q E hr h=>?_)
 ·obtain⟨v,ss,rfl,_⟩:=h;rfl
 ·obtain⟨v,ss,rfl,hv,hl,k⟩:=h;obtain⟨a,xs,rfl,hR,hs⟩:=Xih hv;rw[Xc8 hs] at hR;refine⟨_,Ah (Au (D4 (Ar Fw (by rfl) T.isi boot_isinstance (Aa (pv 0) (Aa (E3 (v:=.ty "tuple") (by rfl) T.tuple (by rfl) rfl) Ab)))
   (D3 (Ar (Xby rfl) (by rfl) T.all (by rfl) (Aa (Em (N:=["_law_one"]) (cap:=[none]) (CompScope.of (defScope s__law_tuple) ["_law_found"] rfl rfl rfl (by decide +kernel)) rfl
    (E8 (pv 0)) (λ_ _ _=>A7 (i:=0) (show (["_law_one"]:List Str).Nodup by decide +kernel) rfl (Or.inl rfl) (Or.inr rfl)) (λ_ _ _=>Dq)
    (λ_ _ _=>Ar (Xh4 K rfl) (by rfl) T.isi boot_isinstance (Aa (pv 0) (Aa (E3 (v:=.ty "str") (by rfl) T.str boot_str rfl) Ab)))) Ab))))),?_⟩
  refine⟨_,rfl,_,_,_,_,true,rfl,.tup hR,rfl,Gf K "tuple",true,rfl,Bk ?_⟩;refine⟨_,rfl,a,rfl,⟨_,SqT.of hR⟩,?_⟩;refine Xcq (n:=ss.length) (by rw[Kb];omega) (λi=>(ss.map V.str).getD i .non) (λ_=>.bl true) ?_ ?_ ?_ ?_
  ·intro i H2 hi s2;exact Xg0 (SqT.of (s2 _ _ hR)) (by rw[G3];exact hi)
  ·intro H2 s2;have:=Xg1 (K:=K) (SqT.of (s2 _ _ hR))
   rwa [G3] at this
  ·intro i H2 Q' hi s2 kk;rw[Dx V.str Str.empty ss hi];exact⟨_,rfl,_,_,_,_,true,rfl,.str _,rfl,Gf K "str",kk H2 (Same.refl _)⟩
  ·intro D H2 nD s2 hD;refine⟨D,List.replicate ss.length true,rfl,?_,?_⟩
   ·rw[hD,List.map_const',Ir,List.map_replicate]
   ·have e:(List.replicate ss.length true).all id=true:=by
     rw[Jm];intro b hb;rw[(List.mem_replicate.mp hb).2];rfl
    rw[e];exact k H2 s2
theorem Xj9:FnScope ["_law_found"] ["_law_found"] (defScope s__law_pairs):=⟨rfl,rfl,rfl,by decide +kernel,rfl,by decide +kernel,by decide +kernel⟩
theorem Xka{f:Addr}{fd:FuncData}(F:Fun K "_law_pairs" "_law_pairs" s__law_pairs f fd)(B:Bl mg)(FT:Fn P w K mg base CX0 1 "_law_tuple" ["_law_found"] spTuple):FnOk P w K mg base CX0 2 f fd ["_law_found"] Gx:=by
 refine F.ok Xj9 (λvs H Q E h=>?_) (λcdv A outer s H vs Q E hr h=>?_)
 ·obtain⟨l,ps,Ts,rfl,_⟩:=h;rfl
 ·obtain⟨l,ps,Ts,rfl,hl,hT,h2,hp,k⟩:=h;have hr1:Room 1 _:=hr.mono (by decide);refine⟨_,Ae (A6 (D2 (Di (Ar Fw (by rfl) B.isi boot_isinstance (Aa (pv 0) (Aa (E3 (v:=.ty "list") (by rfl) B.list boot_list rfl) Ab))))) (Ah (Au D0)) A8)
   (Ah (Au (Ar (Xby rfl) (by rfl) B.all (by rfl) (Aa (Em (N:=["_law_pair"]) (cap:=[none]) (CompScope.of (defScope s__law_pairs) ["_law_found"] rfl rfl rfl (by decide +kernel)) rfl
    (Co (pv 0)) (λ_ _ _=>A7 (i:=0) (show (["_law_pair"]:List Str).Nodup by decide +kernel) rfl (Or.inl rfl) (Or.inr rfl)) (λ_ _ _=>Dq)
    (λ_ _ _=>D4 (Al (by exact FT) (by exact hr1) (by rfl) Ak (Aa (pv 0) Ab)) (D3 (Cs B0 (Ar (Xh5 K (by rfl)) (by rfl) B.len boot_len (Aa (pv 0) Ab)) Ad (Av _))))) Ab)))),?_⟩
  refine⟨_,rfl,_,_,_,_,true,rfl,.lst hl,rfl,Gf K "list",_,rfl,B4 ?_⟩;refine⟨_,rfl,l,rfl,⟨_,SqL.of hl⟩,?_⟩;refine Xcq (n:=ps.length) (by rw[Kb];omega) (λi=>.ref (ps.getD i 0)) (λi=>.bl true) ?_ ?_ ?_ ?_
  ·intro j H2 hj s2;have:=Eh (K:=K) (SqL.of (s2 _ _ hl)) (show j<(ps.map V.ref).length by rw[G3];exact hj)
   rwa [Dx V.ref 0 ps hj] at this
  ·intro H2 s2;have:=Ei (K:=K) (SqL.of (s2 _ _ hl))
   rwa [G3] at this
  ·intro j H2 Q' hj s2 kk;have hj':j<Ts.length:=by rw[<-hT.1];exact hj
   have ht:=s2 _ _ (hT.2 j hj);have l2:(Ts.getD j []).length=2:=h2 _ (by rw[show Ts.getD j []=Ts[j] by simp[List.getD,hj']];exact Hl hj');generalize Ts.getD j []=U at ht l2;refine⟨_,rfl,_,U,rfl,Xdc ht,by omega,λH3 s3=>⟨true,rfl,Bk ?_⟩⟩;refine⟨_,rfl,ps.getD j 0,_,rfl,.inr (SqT.of (s3 _ _ ht)),rfl,?_⟩;rw[show decide (V.int ((U.map V.str).length:Nat)=V.int 2)=true from Ke (by rw[G3,l2];rfl)];exact kk H3 s3
  ·intro D H2 nD s2 hD;have hD':H2 D=some (.lst (((List.range ps.length).map λ_=>true).map V.bl)):=by rw[hD,Jg];rfl
   refine⟨D,_,rfl,hD',?_⟩;have e:((List.range ps.length).map λ_=>true).all id=true:=by simp
   rw[e];exact k H2 s2
end
end K37
set_option maxHeartbeats 8000000
namespace SH
open PySem PySem.Spec PyProof.Rows L2
theorem Xeh:∀(U:List (List Str)),PyData.depthAll (U.map Bn)<=1
 | []=>by show 0<=1;decide
 | S::U=>by
  have:=Xeh U;show max (PyData.depthAll (S.map PyData.str)+1) (PyData.depthAll (U.map Bn))<=1;rw[Er];omega
theorem Xkb{U:List (List Str)}(h:∀S∈U,∀y∈S,okN y):Bx (U.map Bn)=true:=plainAll_map Bn U λS hS=>Xiu (h S hS)
theorem Dg{U:List (List Str)}(h:∀S∈U,∀y∈S,okN y):Bb (.list (U.map Bn))=true:=Xkb h
theorem Xei{U W:List (List Str)}(h1:∀S∈U,∀y∈S,okN y)(h2:∀S∈W,∀y∈S,okN y):PyData.eqv (.list (U.map Bn)) (.list (W.map Bn))=decide (U=W):=
 Xij (λU=>PyData.list (U.map Bn)) (λa b e=>by injection e with e;exact(List.map_inj_right Xit).mp e) U W (Dg h1) (Dg h2)
theorem E1{H:Hp}{l:Addr}{ps:List Addr}{Ts:List (List Str)}(h:H l=some (.lst (ps.map V.ref)))(t:Tups H ps Ts):DAt H (.list (Ts.map Bn)) (.ref l):=Cw h (Xdx t)
theorem Xej(U W:List (List Str)):min (PyData.depth (.list (U.map Bn))) (PyData.depth (.list (W.map Bn)))<=3:=by
 show min (PyData.depthAll (U.map Bn)+1) _<=3;have:=Xeh U;omega
end SH
namespace K37
open PySem PySem.Spec PyProof.Rows L2 SH
def E2 (K:PySem.W.Frag):Sp:=λvs H Q _=>∃(a:Addr) (ns:List Int),vs=[.ref a]/\SqL K H a (ns.map V.int)/\ns.length<=63/\∀H',Q (.bl true) H'
theorem Xkc{X:Cx}(P:Program)(w:World)(h1:X.prog=P)(h2:X.w=w)(hc:X.calm=true):A9 X (.builtin "sorted") (λxs H Q=>∃a ks,xs=[.ref a]/\H a=some (Bm P w a ks)/\ks.length<64/\∀l ls,H l=none->ls.Perm ks->sortedS ls=true->Q (.ref l) (upd H l (.lst (ls.map V.str)))):=by
 subst h1 h2;exact Xcg hc
theorem G2{t u:TS}{D:Ends}{σ:L2.St}{H:Hp}(P:L2.St->Hp->Prop)(h2:∀σ' H',P σ' H'->u D σ' H')(h1:∀nx,(∀σ' H',P σ' H'->nx σ' H')->t {D with nx:=nx} σ H):E7 t u D σ H:=h1 (u D) h2
theorem Row2.perm{a b:List Str}(h:Row2 a)(p:b.Perm a):Row2 b:=⟨λy hy=>by rw[p.count_eq];exact h.two y (p.mem_iff.mp hy),λy hy=>h.ok y (p.mem_iff.mp hy),by rw[p.length_eq];exact h.len⟩
theorem Xkd{α β : Type}(f : α -> β)(l:List α)(g:Nat):(l.map f).eraseIdx g=(l.eraseIdx g).map f:=by
 rw[Ja,Ja,Hj,List.map_take,List.map_drop]
theorem Xke(l:List Str){g:Nat}(hg:g<l.length):(l[g]::l.eraseIdx g).Perm l:=by
 rw[Ja];refine Iv.symm.trans ?_;rw[<-List.drop_eq_getElem_cons hg,Ia]
theorem Xkf{row:List Str}(g:Str->Str)(t:∀y∈row,row.count y=2)(inj:∀x∈row,∀z∈row,g x=g z->x=z):∀y∈row.map g,(row.map g).count y=2:=λy hy=>by
 obtain⟨x,hx,rfl⟩:=Hq.mp hy;rw[List.count,J4,<-t x hx,List.count];refine List.countP_congr λz hz=>?_;show (g z==g x)=true↔(z==x)=true;rw[beq_iff_eq,beq_iff_eq];exact⟨λe=>inj z hz x hx e,λe=>by rw[e]⟩
theorem pairs2{a b:List Str}{Ts:List (List Str)}(h:De a b Ts):∀T∈Ts,T.length=2:=λT hT=>by
 obtain⟨x,y,_,rfl⟩:=(h.2 T).mp hT;rfl
theorem Xkg{a b:List Str}{Ts:List (List Str)}(h:De a b Ts)(ha:∀y∈a,okN y)(hb:∀y∈b,okN y):∀T∈Ts,∀y∈T,okN y:=λT hT y hy=>by
 obtain⟨u,v,hz,rfl⟩:=(h.2 T).mp hT;obtain⟨h1,h2⟩:=J1 hz;rcases He.mp hy with e | hy
 ·rw[e];exact ha u h1
 ·rw[Hs.mp hy];exact hb v h2
abbrev NL37:List Str:=["_law_script", "_law_draw", "_law_row_here", "_law_names_here", "_law_pool", "_law_fresh", "_law_name", "_law_other", "_law_way", "_law_kept", "_law_due", "_law_found"]
abbrev NL37a:List Str:=["_law_name", "_law_fresh"]
section
variable {P:Program}{w:World}{K:PySem.W.Frag}{mg:Str->Option Value}{base:Heap}
theorem Bg:FnScope NL37 ["_law_script"] (defScope s_law):=⟨rfl,rfl,rfl,by decide +kernel,rfl,by decide +kernel,by decide +kernel⟩
theorem Xkh{f:Addr}{fd:FuncData}(F:Fun K "law" "law" s_law f fd)(B:Bl mg)(FB:Fn P w K mg base CX0 1 "_law_begin" ["_law_script"] (F8 K))(FP:FnPick P w K mg base)
  (FIt:Fn P w K mg base CX0 5 "_law_island_to" ["_law_draw", "_law_most"] spIslT7) (FI:Fn P w K mg base CX0 4 "_law_island" ["_law_draw", "_law_most"] spIsland) (FN:Fn P w K mg base CX0 2 "_law_names" ["_law_draw", "_law_many"] Eo)
  (FTw:Fn P w K mg base CX0 3 "_law_twin_row" ["_law_draw", "_law_row_here"] spTwin) (FTr:Fn P w K mg base CX0 1 "turned" ["row", "by"] spTrn) (FMi:Fn P w K mg base CX0 1 "mirrored" ["row"] spMir)
  (FLs:Fn P w K mg base CX0 2 "_law_same" ["_law_row_here", "_law_other"] (spSame λb=>max 1 b.length)) (FSm:Fn P w K mg base CX0 2 "same" ["row", "other"] (spSame λb=>b.length+1)) (FPr:Fn P w K mg base CX0 2 "_law_pairs" ["_law_found"] Gx):
  FnOk P w K mg base CX0 6 f fd ["_law_script"] (E2 K):=by
 refine F.ok Bg (λvs H Q E h=>?_) (λcdv A outer s H vs Q E hr h=>?_)
 ·obtain⟨a,ns,rfl,_⟩:=h;rfl
 ·obtain⟨a,ns,rfl,hS,hlen,k⟩:=h;have hu:=Dn hr;have hr1:Room 1 _:=hr.mono (by decide);have hr2:Room 2 _:=hr.mono (by decide);have hr3:Room 3 _:=hr.mono (by decide);have hr4:Room 4 _:=hr.mono (by decide);have hr5:Room 5 _:=hr.mono (by decide);refine⟨_,Ae (Am (i:=1) Bg.nd rfl (Or.inl rfl) (Al FB hr1 (by rfl) Ak (Aa (pv 0) Ab)))
   (Ae (Am (i:=2) Bg.nd rfl (Or.inl rfl) (Al FIt hr5 (by rfl) Ak (Aa (pv 1) (Aa Ad Ab))))
   (Ae (Am (i:=3) Bg.nd rfl (Or.inl rfl) (Ar (Xkc P w rfl rfl rfl) (by rfl) B.sorted (by rfl) (Aa (B8 (Xec P w rfl rfl rfl) (by rfl) B.set (by rfl) (Aa (pv 2) Ab)) Ab)))
   (Ae (Am (i:=4) Bg.nd rfl (Or.inl rfl) (Al FN hr2 (by rfl) Ak (Aa (pv 1) (Aa (Ar Ba (by rfl) B.len boot_len (Aa (pv 3) Ab)) Ab))))
   (Ae (Am (i:=5) Bg.nd rfl (Or.inr rfl) Ee)
   (Ae (Bq PassesOwn.never rfl (Co (pv 3)) (A7 (i:=6) Bg.nd rfl (Or.inl rfl)) (Ah (Fk hu (pv 5) (pv 6) (Fh PySem.F.plainAttrs_list PySem.F.slot_list_pop PySem.F.type_list_pop Xf0 (pv 4) (Aa (Al FP hr1 (by rfl) Ak (Aa (pv 1) (Aa (Ar Ba (by rfl) B.len boot_len (Aa (pv 4) Ab)) Ab))) Ab)) rfl)))
   (Ae (F2 (i:=7) (N:=NL37a) (cap:=[none,some 5]) (CompScope.of (defScope s_law) NL37 rfl rfl rfl (by decide +kernel)) rfl Bg.nd rfl rfl (Co (pv 2)) (λ_ _ _=>A7 (i:=0) (show NL37a.Nodup by decide +kernel) rfl (Or.inl rfl) (Or.inr rfl)) (λ_ _ _=>Dq) (λ_ _ _=>C5 (by exact hu) (pv 1) (pv 0) (λ_ _=>rfl)))
   (Ae (Am (i:=8) Bg.nd rfl (Or.inl rfl) (Al FP hr1 (by rfl) Ak (Aa (pv 1) (Aa Ad Ab))))
   (Ae (A6 (A3 B0 (pv 8) Ad (Av _)) (Ah (Am (i:=7) Bg.nd rfl (Or.inl rfl) (Al FI hr4 (by rfl) Ak (Aa (pv 1) (Aa Ad Ab))))) A8)
   (Ae (A6 (D1 (A3 B0 (pv 8) Ad (Av _)) (E5 (A3 B0 (pv 8) Ad (Av _)))).pt (Ah (Am (i:=7) Bg.nd rfl (Or.inl rfl) (Al FTw hr3 (by rfl) Ak (Aa (pv 1) (Aa (pv 7) Ab))))) A8)
   (Ae (Am (i:=7) Bg.nd rfl (Or.inl rfl) (Al FTr hr1 (by rfl) Ak (Aa (pv 7) (Aa (Al FP hr1 (by rfl) Ak (Aa (pv 1) (Aa (Aj Bd (Ar Ba (by rfl) B.len boot_len (Aa (pv 7) Ab)) Ad) Ab))) Ab))))
   (Ae (A6 (A3 B0 (Al FP hr1 (by rfl) Ak (Aa (pv 1) (Aa Ad Ab))) Ad (Av _)) (Ah (Am (i:=7) Bg.nd rfl (Or.inl rfl) (Al FMi hr1 (by rfl) Ak (Aa (pv 7) Ab)))) A8)
   (Ae (Am (i:=9) Bg.nd rfl (Or.inl rfl) (B7 (Aa (B8 Dk (by rfl) B.list (by rfl) (Aa (pv 2) Ab)) (Aa (B8 Dk (by rfl) B.list (by rfl) (Aa (pv 7) Ab)) Ab))))
   (Ae (Am (i:=10) Bg.nd rfl (Or.inl rfl) (Al FLs hr2 (by rfl) Ak (Aa (pv 2) (Aa (pv 7) Ab))))
   (Ae (Am (i:=11) Bg.nd rfl (Or.inl rfl) (Al FSm hr2 (by rfl) Ak (Aa (pv 2) (Aa (pv 7) Ab))))
   (Ae (A6 (A3 Fa (pv 10) Bp (Av _)) (Ah (Au (D4 (Cs Fa (pv 11) Bp (Av _)) (D3 (Cs Fa (Al FSm hr2 (by rfl) Ak (Aa (pv 7) (Aa (pv 2) Ab))) Bp (Av _)))))) A8)
   (Ae (A6 (D1 (D2 (Di (Al FPr hr2 (by rfl) Ak (Aa (pv 11) Ab)))) (D1 (A3 (Xcx (hu3 hr)) (pv 11) (pv 10) (Av _)) (E5 (A3 (Xcx (hu3 hr)) (B7 (Aa (pv 2) (Aa (pv 7) Ab))) (pv 9) (Av _))))).pt (Ah (Au D0)) A8)
   (Ae (Xag (Fh PySem.F.plainAttrs_list PySem.F.slot_list_append PySem.F.type_list_append Fi (pv 11) (Aa (Ct (Aa Bv (Aa Bv Ab))) Ab)))
   (Ah (Au (D4 (Cs (Xii (hu3 hr)) (Al FSm hr2 (by rfl) Ak (Aa (pv 2) (Aa (pv 7) Ab))) (pv 10) (Av _)) (D3 (Cs Fb (Al FSm hr2 (by rfl) Ak (Aa (pv 7) (Aa (pv 2) Ab))) Bp (Av _))))))))))))))))))))))),?_⟩
  have two:∀u v:V,[u,v].length<=sizeLine:=λ_ _=>by show 2<=sizeLine;decide
  refine⟨_,rfl,a,ns,rfl,hS,hlen,λdr sc H1 ndr nsc d1 s1=>?_⟩;refine⟨_,rfl,dr,sc,10,rfl,by decide,d1,λr row n st late H2 nr hn hst hR hp d2 b2=>?_⟩;have hI:Isl row:=⟨n,st,late,hn,hst,hp⟩;have R2:=hI.row2;have h14:=hI.dlen;have hrl:=hI.len;have nrd:r≠dr:=(d1.ne nr).1;refine⟨_,rfl,r,row,rfl,.inl (SqL.of hR),by unfold scanBound;omega,λsu nsu=>?_⟩;have hdd:=Ej row;refine⟨su,ddup row,rfl,Ac,by omega,λnl ls nnl hpm hsrt=>?_⟩;have els:ls=dit row:=by rw[Xcm hpm hsrt];rfl
  subst els;have s3:Same H2 (upd (upd H2 su (Bm P w su (ddup row))) nl (.lst ((dit row).map V.str))):=((Same.refl H2).step nsu).step nnl;have hnl:upd (upd H2 su (Bm P w su (ddup row))) nl (.lst ((dit row).map V.str)) nl=some (.lst ((dit row).map V.str)):=Ac;have nnl2:H2 nl=none:=((Same.refl H2).step nsu).free nnl;dsimp only[A0];generalize upd (upd H2 su (Bm P w su (ddup row))) nl (.lst ((dit row).map V.str))=H3 at s3 hnl;have d3:=d2.same s3;have nld:nl≠dr:=(d2.ne nnl2).1;refine⟨_,rfl,_,rfl,nl,_,rfl,.inl (SqL.of hnl),dr,sc,(dit row).length,by rw[G3];rfl,h14,d3,λpl st2 late2 H4 npl hst2 hpl npls d4 b4=>?_⟩;have b4:But dr H3 H4:=b4;have nplr:pl≠dr:=(d3.ne npl).1;dsimp only[A0];intro fr nfr;have s5:Same H4 (upd H4 fr (.dK [])):=(Same.refl H4).step nfr;have hfr:upd H4 fr (.dK []) fr=some (.dK (Ai [])):=Ac;dsimp only[A0];generalize upd H4 fr (.dK [])=H5 at s5 hfr;have d5:=d4.same s5;have hR4:=b4 _ _ (s3 _ _ hR) nrd;have hnl4:=b4 _ _ hnl nld;have hR5:=s5 _ _ hR4;have hnl5:=s5 _ _ hnl4;have hpl5:=s5 _ _ hpl;have nfd:fr≠dr/\fr≠sc:=d4.ne nfr;have nfp:fr≠pl:=(Aw hpl nfr).symm;have npnl:pl≠nl:=(Aw hnl npl).symm;have npr:pl≠r:=(Aw (s3 _ _ hR) npl).symm;have nfnl:fr≠nl:=(Aw hnl4 nfr).symm;have nfr':fr≠r:=(Aw hR4 nfr).symm;have nN:(A2 st2 late2 (dit row).length).Nodup:=En hst2 h14;have lN:(A2 st2 late2 (dit row).length).length=(dit row).length:=by unfold A2;rw[G3,Ir]
  refine⟨_,rfl,nl,rfl,⟨_,SqL.of hnl5⟩,?_⟩;refine E9 (K:=K) (a:=nl) (xs:=(dit row).map V.str) (λi σ H'=>(∃v6, σ=[some (.ref a),some (.ref dr),some (.ref r),some (.ref nl),some (.ref pl),some (.ref fr),v6,none,none,none,none,none])/\DrawOk H' dr sc/\H' r=some (.lst (row.map V.str))/\H' nl=some (.lst ((dit row).map V.str)) /\
    ∃(prs:List (Str×Str)) (rem:List Str),prs.map (·.1)=(dit row).take i/\(prs.map (·.2)++rem).Perm (A2 st2 late2 (dit row).length)/\H' pl=some (.lst (rem.map V.str))/\H' fr=some (.dK (Ai prs))) ?_ ?_ ?_ ?_
  ·exact⟨⟨_,rfl⟩,d5,hR5,hnl5,[],_,by rw[List.take_zero];rfl,by rw[List.map_nil,List.nil_append],hpl5,hfr⟩
  ·rintro i σ H' _ ⟨_,_,_,h,_⟩;exact SqL.of h
  ·rintro i x σ H6 hx ⟨⟨v6,rfl⟩,d6,hR6,hnl6,prs,rem,ek,pm,hpl6,hfr6⟩;rw[Hd] at hx;obtain⟨y,hy,ey⟩:=Jc.mp hx;subst ey;obtain⟨hi,eyi⟩:=G6.mp hy;have lp:prs.length=i:=by
    have:=congrArg List.length ek;rw[G3,Hu] at this;omega
   have lrem:rem.length=(dit row).length - i:=by
    have:=pm.length_eq;rw[Hi,G3,lN] at this;omega
   have lrl:((rem.map V.str).length:Int)=rem.length:=by rw[G3]
   dsimp only[A0];refine⟨_,rfl,.inl ⟨rfl,_,SqL.of hpl6⟩,_,rfl,_,rfl,pl,_,rfl,.inl (SqL.of hpl6),dr,sc,_,rfl,by rw[lrl];omega,by rw[lrl];omega,d6,λg H7 g0 g1 d7 b7=>?_⟩;have b7:But dr H6 H7:=b7;rw[lrl] at g1;obtain⟨g,rfl⟩:=Hk g0;have hg:g<rem.length:=by omega
   have hpl7:=b7 _ _ hpl6 nplr;refine⟨pl,_,(g:Int),g,.str rem[g],rfl,rfl,hpl7,by omega,by omega,by rw[G3];exact seqIndex_of (by omega) (by omega),by rw[Hd,G4 hg];rfl,?_⟩;rw[Xkd];have k8:∀{b:Addr} {o:HO},H7 b=some o->b≠pl->upd H7 pl (.lst ((rem.eraseIdx g).map V.str)) b=some o:=λe n=>by rw[Af n];exact e
   have hpl8:upd H7 pl (.lst ((rem.eraseIdx g).map V.str)) pl=some (.lst ((rem.eraseIdx g).map V.str)):=Ac;have d8:DrawOk (upd H7 pl (.lst ((rem.eraseIdx g).map V.str))) dr sc:=d7.upd nplr npls;generalize upd H7 pl (.lst ((rem.eraseIdx g).map V.str))=H8 at k8 hpl8 d8;have hfr8:=k8 (b7 _ _ hfr6 nfd.1) nfp;have hR8:=k8 (b7 _ _ hR6 nrd) npr.symm;have hnl8:=k8 (b7 _ _ hnl6 nld) npnl.symm;have yn:y∉prs.map (·.1):=by
    rw[ek];intro z;obtain⟨j,hj,ej⟩:=Ic.mp z;rw[Hu] at hj;rw[List.getElem_take] at ej;have:=(Jj (F1 row)).mp (ej.trans eyi.symm);omega
   refine⟨_,rfl,_,rfl,fr,_,rfl,DPut.k (k:=Sum.inr y) hfr8 (by unfold Ai;rw[G3,Kb];omega),⟨_,rfl⟩,?_⟩;rw[Gu rem[g] yn];have k9:∀{b:Addr} {o:HO},H8 b=some o->b≠fr->upd H8 fr (.dK (Ai (prs++[(y,rem[g])]))) b=some o:=λe n=>by rw[Af n];exact e
   refine⟨d8.upd nfd.1 nfd.2,k9 hR8 nfr'.symm,k9 hnl8 nfnl.symm,prs++[(y,rem[g])],rem.eraseIdx g,?_,?_,k9 hpl8 nfp.symm,Ac⟩
   ·rw[Hj,ek,Hw hi,eyi];rfl
   ·rw[Hj,J8];refine List.Perm.trans ?_ pm;refine List.Perm.append_left _ ?_;exact Xke rem hg
  rintro σ H6 ⟨⟨v6,rfl⟩,d6,hR6,hnl6,prs,rem,ek,pm,hpl6,hfr6⟩;rw[G3,Jn] at ek;have lp:prs.length=(dit row).length:=by
   have:=congrArg List.length ek
   rwa [G3] at this
  have er:rem=[]:=by
   have:=pm.length_eq;rw[Hi,G3,lN] at this;exact Hy.mp (by omega)
  subst er;rw[Jd] at pm;have ndk:(prs.map (·.1)).Nodup:=by rw[ek];exact F1 row
  have ndv:(prs.map (·.2)).Nodup:=pm.nodup_iff.mpr nN;obtain⟨g,hg⟩:∃g:Str->Str,∀x∈row,(x,g x)∈prs:=by
   have:∀x,∃y,x∈row->(x,y)∈prs:=λx=>by
    by_cases hx:x∈row
    ·have:x∈prs.map (·.1):=by rw[ek];exact F0.mpr hx
     obtain⟨q,hq,rfl⟩:=Hq.mp this;exact⟨q.2,λ_=>hq⟩
    ·exact⟨x,λz=>absurd z hx⟩
   exact⟨λx=>Classical.choose (this x),λx hx=>Classical.choose_spec (this x) hx⟩
  have ginj:∀x∈row,∀z∈row,g x=g z->x=z:=λx hx z hz e=>by
   obtain⟨i,hi⟩:=Ic.mp (hg x hx);obtain⟨j,hj⟩:=Ic.mp (hg z hz);obtain⟨i1,i2⟩:=hi;obtain⟨j1,j2⟩:=hj;have e2:(prs.map (·.2))[i]'(by rw[G3];exact i1)=(prs.map (·.2))[j]'(by rw[G3];exact j1):=by
    rw[Jb,Jb,i2,j2];exact e
   have ij:=(Jj ndv).mp e2;subst ij;rw[i2] at j2;exact congrArg Prod.fst j2
  have gok:∀x∈row,okN (g x):=λx hx=>by
   have m:g x∈prs.map (·.2):=Ih (f:=(·.2)) (hg x hx);exact Xc6 st2 hst2 late2 _ (Xc5 h14 (pm.mem_iff.mp m))
  have RO:Row2 (row.map g):=⟨Xkf g R2.two ginj,λy hy=>by
   obtain⟨x,hx,rfl⟩:=Hq.mp hy;exact gok x hx,by rw[G3];omega⟩
  dsimp only[A0];refine⟨_,rfl,r,rfl,⟨_,SqL.of hR6⟩,?_⟩;refine Xcp (n:=row.length) (by rw[Kb];omega) (λj=>.str (row.getD j Str.empty)) (λ_=>true) (λj=>.str (g (row.getD j Str.empty))) ?_ ?_ ?_ ?_ ?_
  ·intro j H7 hj s7;have:=Eh (K:=K) (SqL.of (s7 _ _ hR6)) (show j<(row.map V.str).length by rw[G3];exact hj)
   rwa [Dx V.str Str.empty row hj] at this
  ·intro H7 s7;have:=Ei (K:=K) (SqL.of (s7 _ _ hR6))
   rwa [G3] at this
  ·intro j H7 Q' hj s7 kk;exact kk H7 (Same.refl _)
  ·intro j H7 Q' hj _ s7 kk;have hx:=SH.Xc7 hj;generalize row.getD j Str.empty=x at hx kk;exact⟨_,rfl,_,rfl,fr,_,rfl,.inl ⟨_,Sum.inr x,.inl (s7 _ _ hfr6),rfl,(Cg ndk (hg x hx)).symm⟩,kk H7 (Same.refl _)⟩
  intro oa H7 noa s7 hoa;have eO:((List.range row.length).filter λ_=>true).map (λj=>V.str (g (row.getD j Str.empty)))=(row.map g).map V.str:=by
   rw[J2.mpr λ_ _=>rfl];refine Jz (by simp) λj h1 h2=>?_;simp[List.getD] at h1 h2 ⊢;simp[h1]
  rw[eO] at hoa;have d7:=d6.same s7;have nod:oa≠dr:=(d6.ne noa).1;have hR7:=s7 _ _ hR6;dsimp only[A0];refine⟨_,rfl,dr,sc,6,rfl,by decide,by decide,d7,λwy H8 w0 w1 d8 b8=>?_⟩;have b8:But dr H7 H8:=b8;dsimp only[A0];refine G2 (t:=D6 _ _ _) (fun σ' H'=>∃(oa:Addr) (ot:List Str), σ'=[some (.ref a),some (.ref dr),some (.ref r),some (.ref nl),some (.ref pl),some (.ref fr),v6,some (.ref oa),some (.int wy),none,none,none]/\H' r=some (.lst (row.map V.str))/\H' oa=some (.lst (ot.map V.str))/\oa≠dr/\Row2 ot/\DrawOk H' dr sc) ?_ ?_;rotate_left
  ·intro nx hnx;have hR8:=b8 _ _ hR7 nrd;refine⟨_,rfl,rfl,_,rfl,?_⟩;refine Ap (λ_=>?_) (λ_=>hnx _ _ ⟨oa,_,rfl,hR8,b8 _ _ hoa nod,nod,RO,d8⟩);refine⟨_,rfl,dr,sc,10,rfl,by decide,d8,λl row2 n2 st3 late3 H9 nl9 hn9 hst9 hR9 hp9 d9 b9=>?_⟩;have b9:But dr H8 H9:=b9;exact hnx _ _ ⟨l,row2,rfl,b9 _ _ hR8 nrd,hR9,(d8.ne nl9).1,Isl.row2 ⟨n2,st3,late3,by omega,hst9,hp9⟩,d9⟩
  clear hoa noa nod RO;rintro σ' H9 ⟨oa,ot,rfl,hR9,hO9,nod,RO,d9⟩;refine G2 (t:=D6 _ _ _) (fun σ' H'=>∃(oa:Addr) (ot:List Str), σ'=[some (.ref a),some (.ref dr),some (.ref r),some (.ref nl),some (.ref pl),some (.ref fr),v6,some (.ref oa),some (.int wy),none,none,none]/\H' r=some (.lst (row.map V.str))/\H' oa=some (.lst (ot.map V.str))/\oa≠dr/\Row2 ot/\DrawOk H' dr sc) ?_ ?_;rotate_left
  ·intro nx hnx;have fin:∀(l:Addr) (t:List Str) (H':Hp),H9 l=none->H' l=some (.lst (t.map V.str))->t.Perm ot->DrawOk H' dr sc->But dr H9 H'->nx [some (.ref a),some (.ref dr),some (.ref r),some (.ref nl),some (.ref pl),some (.ref fr),v6,some (.ref l),some (.int wy),none,none,none] H':=λl t H' h1 h2 h3 h4 h5=>
    hnx _ _ ⟨l,t,rfl,h5 _ _ hR9 nrd,h2,(d9.ne h1).1,Row2.perm RO h3,h4⟩
   refine⟨_,rfl,rfl,_,rfl,?_⟩;refine Ap (λ_=>?_) (λ_=>?_)
   ·refine Bk ⟨_,rfl,_,rfl,dr,sc,oa,ot,rfl,d9,hO9,nod,RO.len,RO.two,fin⟩
   ·refine⟨_,rfl,rfl,_,rfl,?_⟩;exact Ap (λ_=>⟨_,rfl,_,rfl,dr,sc,oa,ot,rfl,d9,hO9,nod,RO.len,RO.two,fin⟩) (λ_=>hnx _ _ ⟨oa,ot,rfl,hR9,hO9,nod,RO,d9⟩)
  clear hO9 nod RO;rintro σ' HA ⟨oa,ot,rfl,hRA,hOA,nod,RO,dA⟩;have lo:((ot.map V.str).length:Int)=ot.length:=by rw[G3]
  have lol:=RO.len;refine⟨_,rfl,_,rfl,_,rfl,oa,_,rfl,.inl (SqL.of hOA),_,_,rfl,rfl,dr,sc,_,rfl,by rw[lo];omega,by rw[lo];omega,dA,λq HB q0 q1 dB bB=>?_⟩;have bB:But dr HA HB:=bB;rw[lo] at q1;obtain⟨q,rfl⟩:=Hk q0;refine⟨oa,ot,q,rfl,bB _ _ hOA nod,by omega,lol,λoc HC noc hOC sC=>?_⟩;have dC:=dB.same sC;have hRC:=sC _ _ (bB _ _ hRA nrd);have ROC:=Row2.perm RO (Cf ot q);generalize rot ot q=oc_ at hOC ROC;dsimp only[A0];refine G2 (t:=D6 _ _ _) (fun σ' H'=>∃(oa:Addr) (ot:List Str), σ'=[some (.ref a),some (.ref dr),some (.ref r),some (.ref nl),some (.ref pl),some (.ref fr),v6,some (.ref oa),some (.int wy),none,none,none]/\H' r=some (.lst (row.map V.str))/\H' oa=some (.lst (ot.map V.str))/\Row2 ot) ?_ ?_;rotate_left
  ·intro nx hnx;have nocd:oc≠dr:=(dB.ne noc).1;refine⟨_,rfl,dr,sc,2,rfl,by decide,by decide,dC,λq2 HD _ _ dD bD=>⟨rfl,_,rfl,?_⟩⟩;have bD:But dr HC HD:=bD;have hOD:=bD _ _ hOC nocd;have hRD:=bD _ _ hRC nrd;refine Ap (λ_=>?_) (λ_=>hnx _ _ ⟨oc,_,rfl,hRD,hOD,ROC⟩);refine⟨_,rfl,oc,_,rfl,hOD,λoe HE noe hOE sE=>?_⟩;exact hnx _ _ ⟨oe,_,rfl,sE _ _ hRD,hOE,Row2.perm ROC (Jh _)⟩
  clear hOA RO lo lol hOC ROC nod;rintro σ' HD ⟨ob,ot,rfl,hRD,hOD,RO⟩;refine⟨_,rfl,r,_,rfl,.inl (SqL.of hRD),λc1 n1=>?_⟩;refine⟨_,rfl,ob,_,rfl,.inl (SqL.of (ku hOD n1)),λc2 n2=>?_⟩;refine⟨two _ _,λkt nkt=>?_⟩;have sE:Same HD (upd (upd (upd HD c1 (.lst (row.map V.str))) c2 (.lst (ot.map V.str))) kt (.lst [.ref c1,.ref c2])):=(((Same.refl HD).step n1).step n2).step nkt;have hc1:upd (upd (upd HD c1 (.lst (row.map V.str))) c2 (.lst (ot.map V.str))) kt (.lst [.ref c1,.ref c2]) c1=some (.lst (row.map V.str)):=ku (ku Ac n2) nkt;have hc2:upd (upd (upd HD c1 (.lst (row.map V.str))) c2 (.lst (ot.map V.str))) kt (.lst [.ref c1,.ref c2]) c2=some (.lst (ot.map V.str)):=ku Ac nkt;have hkt:upd (upd (upd HD c1 (.lst (row.map V.str))) c2 (.lst (ot.map V.str))) kt (.lst [.ref c1,.ref c2]) kt=some (.lst [.ref c1,.ref c2]):=Ac;dsimp only[A0];generalize upd (upd (upd HD c1 (.lst (row.map V.str))) c2 (.lst (ot.map V.str))) kt (.lst [.ref c1,.ref c2])=HE at sE hc1 hc2 hkt;have hRE:=sE _ _ hRD;have hOE:=sE _ _ hOD;refine⟨_,rfl,_,rfl,r,ob,row,ot,rfl,hRE,hOE,R2,RO,λne HF sF=>?_,λel=>⟨λrn HF sF=>?_,λz rz=>?_⟩⟩
  ·have rn:row.length=ot.length->Res row ot (max 1 ot.length) none:=λe=>absurd e ne;dsimp only[A0];refine⟨_,rfl,_,rfl,r,ob,row,ot,rfl,sF _ _ hRE,sF _ _ hOE,R2,RO,λne2 HG sG=>?_,λel2=>⟨λrn2 HG sG=>?_,λz2 rz2=>?_⟩⟩
   ·have sEG:=sF.trans sG;dsimp only[A0];refine⟨_,rfl,rfl,_,rfl,Bk ?_⟩;refine⟨_,rfl,rfl,_,rfl,Bk ?_⟩;refine⟨_,rfl,_,rfl,ob,r,ot,row,rfl,sEG _ _ hOE,sEG _ _ hRE,RO,R2,λ_ HI _=>⟨rfl,k HI⟩,λe=>absurd e.symm ne2⟩
   ·have sEG:=sF.trans sG;dsimp only[A0];refine⟨_,rfl,rfl,_,rfl,Bk ?_⟩;refine⟨_,rfl,rfl,_,rfl,Bk ?_⟩;refine⟨_,rfl,_,rfl,ob,r,ot,row,rfl,sEG _ _ hOE,sEG _ _ hRE,RO,R2,λ_ HI _=>⟨rfl,k HI⟩,λe=>⟨λ_ HI _=>⟨rfl,k HI⟩,λz3 rz3=>?_⟩⟩;exact absurd (Gs el2 R2.two RO.two rn2 rz3) (by simp)
   ·exact absurd (Dc (Dd rz2) (rn el2)) (by simp)
  ·have rn:row.length=ot.length->Res row ot (max 1 ot.length) none:=λ_=>rn;dsimp only[A0];refine⟨_,rfl,_,rfl,r,ob,row,ot,rfl,sF _ _ hRE,sF _ _ hOE,R2,RO,λne2 HG sG=>?_,λel2=>⟨λrn2 HG sG=>?_,λz2 rz2=>?_⟩⟩
   ·have sEG:=sF.trans sG;dsimp only[A0];refine⟨_,rfl,rfl,_,rfl,Bk ?_⟩;refine⟨_,rfl,rfl,_,rfl,Bk ?_⟩;refine⟨_,rfl,_,rfl,ob,r,ot,row,rfl,sEG _ _ hOE,sEG _ _ hRE,RO,R2,λ_ HI _=>⟨rfl,k HI⟩,λe=>absurd e.symm ne2⟩
   ·have sEG:=sF.trans sG;dsimp only[A0];refine⟨_,rfl,rfl,_,rfl,Bk ?_⟩;refine⟨_,rfl,rfl,_,rfl,Bk ?_⟩;refine⟨_,rfl,_,rfl,ob,r,ot,row,rfl,sEG _ _ hOE,sEG _ _ hRE,RO,R2,λ_ HI _=>⟨rfl,k HI⟩,λe=>⟨λ_ HI _=>⟨rfl,k HI⟩,λz3 rz3=>?_⟩⟩;exact absurd (Gs el2 R2.two RO.two rn2 rz3) (by simp)
   ·exact absurd (Dc (Dd rz2) (rn el2)) (by simp)
  intro l1 ps1 Ts1 HF nl1 hl1 hT1 ip1 h601 sF;have zok:∀y∈z,okN y:=λy hy=>by
   rcases rz with ⟨k',_,_,_,e⟩ | ⟨_,k',_,_,_,e⟩ | ⟨_,_,e⟩
   ·cases e;exact RO.ok y ((Cf ot k').mem_iff.mp hy)
   ·cases e;exact RO.ok y (List.mem_reverse.mp ((Cf ot.reverse k').mem_iff.mp hy))
   ·cases e
  have okT:=Xkg ip1 R2.ok zok;dsimp only[A0];refine⟨_,rfl,_,rfl,r,ob,row,ot,rfl,sF _ _ hRE,sF _ _ hOE,R2,RO,λne=>absurd el ne,λ_=>⟨λrn2=>absurd (Dc (Dd rn2) rz) (by simp),λz2 rz2=>?_⟩⟩;have ez:z2=z:=Ha (Dc (Dd rz2) rz);subst ez;intro l2 ps2 Ts2 HG nl2 hl2 hT2 ip2 h602 sG;have eT:=Xeb ip2 ip1;subst eT;have sEG:=sF.trans sG;dsimp only[A0];refine⟨_,rfl,rfl,_,rfl,B4 ?_⟩;refine⟨_,rfl,l2,ps2,Ts2,rfl,hl2,hT2,pairs2 ip2,h602,λHI sI=>⟨_,rfl,B4 ?_⟩⟩;have sFI:=sG.trans sI;refine⟨_,rfl,_,rfl,_,_,E1 (sI _ _ hl2) (hT2.same sI),E1 (sFI _ _ hl1) (hT1.same sFI),Cy _ (Dg okT),Cy _ (Dg okT),Xej _ _,_,rfl,?_⟩;rw[Xei okT okT,Ke rfl];refine B4 ?_;have sEI:=sEG.trans sI;refine⟨_,rfl,_,rfl,two _ _,λnw nnw=>?_⟩;have sJ:Same HI (upd HI nw (.lst [.ref r,.ref ob])):=(Same.refl HI).step nnw;have hnw:upd HI nw (.lst [.ref r,.ref ob]) nw=some (.lst [.ref r,.ref ob]):=Ac;dsimp only;generalize upd HI nw (.lst [.ref r,.ref ob])=HJ at sJ hnw;have sEJ:=sEI.trans sJ;have pl2:Bb (.list [.list (row.map PyData.str),.list (ot.map PyData.str)])=true:=by
   show (Bb (.list (row.map PyData.str))&&(Bb (.list (ot.map PyData.str))&&true))=true;rw[show Bb (.list (row.map PyData.str))=true from Xdb R2.ok,show Bb (.list (ot.map PyData.str))=true from Xdb RO.ok];rfl
  have dp2:(PyData.list [.list (row.map PyData.str),.list (ot.map PyData.str)]).depth<=3:=by
   show max (PyData.depthAll (row.map PyData.str)+1) (max (PyData.depthAll (ot.map PyData.str)+1) 0)+1<=3;rw[Er,Er];decide
  refine⟨_,rfl,_,_,Cw hnw (Dt (Cw (sEJ _ _ hRE) (Du row)) (Dt (Cw (sEJ _ _ hOE) (Du ot)) F3)),Cw (sEJ _ _ hkt) (Dt (Cw (sEJ _ _ hc1) (Du row)) (Dt (Cw (sEJ _ _ hc2) (Du ot)) F3)),Cy _ pl2,Cy _ pl2,Hx (Nat.min_le_left _ _) dp2,_,rfl,?_⟩;rw[(F6 _ _ pl2 pl2).mpr rfl];refine B4 ?_;have sGJ:=sI.trans sJ;have hl2J:=sGJ _ _ hl2;refine⟨_,rfl,.inl ⟨rfl,_,SqL.of hl2J⟩,two _ _,λpn np=>⟨l2,_,_,rfl,rfl,ku hl2J np,by rw[G3,Kb];omega,?_⟩⟩;have sK:Same HJ (upd HJ pn (.tup [.str "none",.str "none"])):=(Same.refl HJ).step np;generalize upd HJ pn (.tup [.str "none",.str "none"])=HK at sK;have kL:∀{b:Addr} {o:HO},HK b=some o->b≠l2->upd HK l2 (.lst (ps2.map V.ref++[.ref pn])) b=some o:=λe n=>by rw[Af n];exact e
  dsimp only;generalize upd HK l2 (.lst (ps2.map V.ref++[.ref pn]))=HL at kL;have k2:∀{b:Addr} {o:HO},HF b=some o->HL b=some o:=λe=>kL (sK _ _ (sGJ _ _ (sG _ _ e))) (Aw e nl2);have hRL:=k2 (sF _ _ hRE);have hOL:=k2 (sF _ _ hOE);have hl1L:=k2 hl1;have hT1L:Tups HL ps1 Ts2:=⟨hT1.1,λi hi=>k2 (hT1.2 i hi)⟩;refine⟨_,rfl,_,rfl,r,ob,row,ot,rfl,hRL,hOL,R2,RO,λne=>absurd el ne,λ_=>⟨λrn2=>absurd (Dc (Dd rn2) rz) (by simp),λz3 rz3=>?_⟩⟩;have ez3:z3=z2:=Ha (Dc (Dd rz3) rz);subst ez3;intro l3 ps3 Ts3 HM nl3 hl3 hT3 ip3 h603 sM;have eT3:=Xeb ip3 ip1;subst eT3;refine⟨_,rfl,_,_,E1 hl3 hT3,E1 (sM _ _ hl1L) (hT1L.same sM),Cy _ (Dg okT),Cy _ (Dg okT),Xej _ _,?_⟩;rw[Xei okT okT,Ke rfl];refine⟨_,rfl,Bk ?_⟩;refine⟨_,rfl,_,rfl,ob,r,ot,row,rfl,sM _ _ hOL,sM _ _ hRL,RO,R2,λne=>absurd el.symm ne,λ_=>⟨λrn4=>?_,λz4 rz4=>?_⟩⟩
  ·exact absurd (Gs el.symm RO.two R2.two rn4 rz2) (by simp)
  ·intro l4 ps4 Ts4 HN nl4 hl4 hT4 ip4 h604 sN;exact⟨rfl,k _⟩
end
end K37
set_option maxHeartbeats 4000000
namespace L2
open PySem
theorem len1{us:List Value}(h:us.length=1):∃a,us=[a]:=List.length_eq_one_iff.mp h
theorem len2{us:List Value}(h:us.length=2):∃a b,us=[a,b]:=by
 cases us with
 | nil=>cases h
 | cons a r=>
  obtain⟨b,rfl⟩:=len1 (J7 h);exact⟨a,b,rfl⟩
theorem len3{us:List Value}(h:us.length=3):∃a b c,us=[a,b,c]:=by
 cases us with
 | nil=>cases h
 | cons a r=>
  obtain⟨b,c,rfl⟩:=len2 (J7 h);exact⟨a,b,c,rfl⟩
theorem len4{us:List Value}(h:us.length=4):∃a b c d,us=[a,b,c,d]:=by
 cases us with
 | nil=>cases h
 | cons a r=>
  obtain⟨b,c,d,rfl⟩:=len3 (J7 h);exact⟨a,b,c,d,rfl⟩
end L2
namespace K37
open PySem PySem.Spec PyProof.Rows L2 SH
theorem Xki{P:Program}{w:World}{K:PySem.W.Frag}{h:Heap}{mg:Str->Option Value}{fa  : Addr}(X:K.In h)(G:h.Ns mainGlobals mg)(hfa:mg "law" = some (.ref fa))
  (d_turned:DefAt K "turned" s_turned)
  (d_mirrored:DefAt K "mirrored" s_mirrored)
  (d_paired:DefAt K "paired" s_paired)
  (d_same:DefAt K "same" s_same)
  (d__law_begin:DefAt K "_law_begin" sBegin)
  (d__law_pick:DefAt K "_law_pick" sPick)
  (d__law_put:DefAt K "_law_put" sPut)
  (d__law_where:DefAt K "_law_where" sWhere)
  (d__law_word:DefAt K "_law_word" sWord)
  (d__law_barred:DefAt K "_law_barred" sBarred)
  (d__law_row:DefAt K "_law_row" sRow)
  (d__law_names:DefAt K "_law_names" sNames)
  (d__law_island:DefAt K "_law_island" sIsland)
  (d__law_island_to:DefAt K "_law_island_to" s__law_island_to)
  (d__law_swapped:DefAt K "_law_swapped" s__law_swapped)
  (d__law_twin_row:DefAt K "_law_twin_row" s__law_twin_row)
  (d__law_read:DefAt K "_law_read" s__law_read)
  (d__law_same:DefAt K "_law_same" s__law_same)
  (d__law_tuple:DefAt K "_law_tuple" s__law_tuple)
  (d__law_pairs:DefAt K "_law_pairs" s__law_pairs)
  (d_law:DefAt K "law" s_law)
  (zZip:PySem.W.nsIn K mainGlobals "zip" = some none)
  (z_len:PySem.W.nsIn K mainGlobals "len" = some none)
  (z_range:PySem.W.nsIn K mainGlobals "range" = some none)
  (z_list:PySem.W.nsIn K mainGlobals "list" = some none)
  (z_min:PySem.W.nsIn K mainGlobals "min" = some none)
  (z_isinstance:PySem.W.nsIn K mainGlobals "isinstance" = some none)
  (z_all:PySem.W.nsIn K mainGlobals "all" = some none)
  (z_str:PySem.W.nsIn K mainGlobals "str" = some none)
  (z_ValueError:PySem.W.nsIn K mainGlobals "ValueError" = some none)
  (z_sorted:PySem.W.nsIn K mainGlobals "sorted" = some none)
  (z_set:PySem.W.nsIn K mainGlobals "set" = some none)
  (z_enumerate:PySem.W.nsIn K mainGlobals "enumerate" = some none)
  (z_int:PySem.W.nsIn K mainGlobals "int" = some none)
  (z_bool:PySem.W.nsIn K mainGlobals "bool" = some none)
  (z_tuple:PySem.W.nsIn K mainGlobals "tuple" = some none)
  (z_any:PySem.W.nsIn K mainGlobals "any" = some none)
  (z_dict:PySem.W.nsIn K mainGlobals "dict" = some none)
  (z_sum:PySem.W.nsIn K mainGlobals "sum" = some none)
  (z_max:PySem.W.nsIn K mainGlobals "max" = some none)
  : ∃fd:FuncData,(∀(s:Shared) (v:Value),BindsTo s fd ⟨[v],[]⟩ [("_law_script",v)])/\∀base:Heap,K.In base->base.Ns mainGlobals mg->FnOk P w K mg base CX0 6 fa fd ["_law_script"] (E2 K):=by
 have T:Bl mg:=⟨PySem.W.mg_none_of X G z_len,PySem.W.mg_none_of X G z_range,PySem.W.mg_none_of X G z_list,PySem.W.mg_none_of X G z_min,PySem.W.mg_none_of X G z_isinstance,PySem.W.mg_none_of X G z_all,PySem.W.mg_none_of X G z_str,PySem.W.mg_none_of X G z_ValueError,PySem.W.mg_none_of X G z_sorted,PySem.W.mg_none_of X G z_set,PySem.W.mg_none_of X G z_enumerate,PySem.W.mg_none_of X G z_int,PySem.W.mg_none_of X G z_bool,PySem.W.mg_none_of X G z_tuple,PySem.W.mg_none_of X G z_any,PySem.W.mg_none_of X G z_dict,PySem.W.mg_none_of X G z_sum,PySem.W.mg_none_of X G z_max⟩;obtain⟨f,fd,a,hk,F⟩:=d_law.ex;have e:=hfa.symm.trans (PySem.W.mg_of X G a);cases e;refine⟨fd,?_,λbase hB hG=>?_⟩
 ·obtain⟨oc,od,kV,doc,pm,an,cdv,ct,osl,rfl,lk,hcd⟩:=F.ex;exact λs v=>.of_eq rfl
 ·have FB:Fn P w K mg base CX0 1 "_law_begin" ["_law_script"] (F8 K):=Fn.of X G d__law_begin (λ_ _ _ _ _ _ us hl=>by obtain⟨a,rfl⟩:=L2.len1 hl;rfl) λf fd F=>Xjs F T;have FP:FnPick P w K mg base:=Fn.of X G d__law_pick (λ_ _ _ _ _ _ us hl=>by obtain⟨a,b,rfl⟩:=L2.len2 hl;rfl) λf fd F=>Xjt F T;have FU:Fn P w K mg base CX0 1 "_law_put" ["_law_row_here", "_law_name", "_law_at", "_law_to"] F9:=Fn.of X G d__law_put (λ_ _ _ _ _ _ us hl=>by obtain⟨a,b,c,d,rfl⟩:=L2.len4 hl;rfl) λf fd F=>Xju F;have FW:Fn P w K mg base CX0 1 "_law_where" ["_law_row_here"] Gc:=Fn.of X G d__law_where (λ_ _ _ _ _ _ us hl=>by obtain⟨a,rfl⟩:=L2.len1 hl;rfl) λf fd F=>Xjv F T;have FO:Fn P w K mg base CX0 1 "_law_word" ["_law_where_here", "_law_one", "_law_other"] spWord:=Fn.of X G d__law_word (λ_ _ _ _ _ _ us hl=>by obtain⟨a,b,c,rfl⟩:=L2.len3 hl;rfl) λf fd F=>Xjw F T;have FA:Fn P w K mg base CX0 2 "_law_barred" ["_law_row_here", "_law_name"] spBarred:=Fn.of X G d__law_barred (λ_ _ _ _ _ _ us hl=>by obtain⟨a,b,rfl⟩:=L2.len2 hl;rfl) λf fd F=>Xjx F T FW FO;have FR:Fn P w K mg base CX0 3 "_law_row" ["_law_draw", "_law_names_here"] spRow:=Fn.of X G d__law_row (λ_ _ _ _ _ _ us hl=>by obtain⟨a,b,rfl⟩:=L2.len2 hl;rfl) λf fd F=>Xjy F T FP FU FA;have FN:Fn P w K mg base CX0 2 "_law_names" ["_law_draw", "_law_many"] Eo:=Fn.of X G d__law_names (λ_ _ _ _ _ _ us hl=>by obtain⟨a,b,rfl⟩:=L2.len2 hl;rfl) λf fd F=>Xjz F T FP;have FI:Fn P w K mg base CX0 4 "_law_island" ["_law_draw", "_law_most"] spIsland:=Fn.of X G d__law_island (λ_ _ _ _ _ _ us hl=>by obtain⟨a,b,rfl⟩:=L2.len2 hl;rfl) λf fd F=>Xj0 F T FP FN FR;have FTr:Fn P w K mg base CX0 1 "turned" ["row", "by"] spTrn:=Fn.of X G d_turned (λ_ _ _ _ _ _ us hl=>by obtain⟨a,b,rfl⟩:=L2.len2 hl;rfl) λf fd F=>Xjm F T;have FMi:Fn P w K mg base CX0 1 "mirrored" ["row"] spMir:=Fn.of X G d_mirrored (λ_ _ _ _ _ _ us hl=>by obtain⟨a,rfl⟩:=L2.len1 hl;rfl) λf fd F=>Xjo F;have FPd:Fn P w K mg base CX0 1 "paired" ["row", "other"] Gv:=Fn.of X G d_paired (λ_ _ _ _ _ _ us hl=>by obtain⟨a,b,rfl⟩:=L2.len2 hl;rfl) λf fd F=>Xjp F T (PySem.W.mg_none_of X G zZip);have FSm:Fn P w K mg base CX0 2 "same" ["row", "other"] (spSame λb=>b.length+1):=Fn.of X G d_same (λ_ _ _ _ _ _ us hl=>by obtain⟨a,b,rfl⟩:=L2.len2 hl;rfl) λf fd F=>Xjq F T FMi FTr FPd;have FIt:Fn P w K mg base CX0 5 "_law_island_to" ["_law_draw", "_law_most"] spIslT7:=Fn.of X G d__law_island_to (λ_ _ _ _ _ _ us hl=>by obtain⟨a,b,rfl⟩:=L2.len2 hl;rfl) λf fd F=>Xj2 F T FP FI;have FSw:Fn P w K mg base CX0 2 "_law_swapped" ["_law_draw", "_law_row_here"] Gr:=Fn.of X G d__law_swapped (λ_ _ _ _ _ _ us hl=>by obtain⟨a,b,rfl⟩:=L2.len2 hl;rfl) λf fd F=>Xj3 F T FP;have FTw:Fn P w K mg base CX0 3 "_law_twin_row" ["_law_draw", "_law_row_here"] spTwin:=Fn.of X G d__law_twin_row (λ_ _ _ _ _ _ us hl=>by obtain⟨a,b,rfl⟩:=L2.len2 hl;rfl) λf fd F=>Xj4 F T FP FSw FA;have FRd:Fn P w K mg base CX0 1 "_law_read" ["_law_row_here", "_law_other"] Gw:=Fn.of X G d__law_read (λ_ _ _ _ _ _ us hl=>by obtain⟨a,b,rfl⟩:=L2.len2 hl;rfl) λf fd F=>Xj5 F T;have FLs:Fn P w K mg base CX0 2 "_law_same" ["_law_row_here", "_law_other"] (spSame λb=>max 1 b.length):=Fn.of X G d__law_same (λ_ _ _ _ _ _ us hl=>by obtain⟨a,b,rfl⟩:=L2.len2 hl;rfl) λf fd F=>Xj6 F T FRd;have FTu:Fn P w K mg base CX0 1 "_law_tuple" ["_law_found"] spTuple:=Fn.of X G d__law_tuple (λ_ _ _ _ _ _ us hl=>by obtain⟨a,rfl⟩:=L2.len1 hl;rfl) λf fd F=>Xj8 F T;have FPr:Fn P w K mg base CX0 2 "_law_pairs" ["_law_found"] Gx:=Fn.of X G d__law_pairs (λ_ _ _ _ _ _ us hl=>by obtain⟨a,rfl⟩:=L2.len1 hl;rfl) λf fd F=>Xka F T FTu;exact Xkh F T FB FP FIt FI FN FTw FTr FMi FLs FSm FPr
theorem walk{l:PySem.W.OpenLaw}{q:Program}{loose:List Str}{XP:(Str->Option Value)->Heap->Prop}{YP:World->Heap->Prop}{d:DefRec}{K:Params->PySem.W.Frag}(hn:l.most=some 63)(hdf:d.params.defaults=[])
  (hY:∀(w:World) (h:Heap),YP w h->(K w.params).In h)
  (F:∀(w:World) (mg:Str->Option Value) (fa:Addr) (h:Heap),(K w.params).In h->h.Ns mainGlobals mg->mg d.name=some (.ref fa) ->
   ∃fd:FuncData,(∀(s:Shared) (u:Value),BindsTo s fd ⟨[u],[]⟩ [("_law_script",u)])/\∀base:Heap,(K w.params).In base->base.Ns mainGlobals mg->FnOk l.prog w (K w.params) mg base CX0 6 fa fd ["_law_script"] (E2 (K w.params))):
  PySem.W.WalkO q loose XP YP l.row.toRowW d [] (λf vs=>PySem.call f vs):=
 L2.Xgh (n:=63) (k:=6) (x := "_law_script") (CX:=λ_=>CX0) (sp:=λw=>E2 (K w.params)) hn (by decide) hdf ⟨rfl,by decide,by decide,rfl⟩ hY F (λ_ _ a ns hl _ hS=>⟨a,ns,rfl,hS,hl,λ_=>rfl⟩) λ_ _ _ _ _ z=>z
end K37
open PySem PySem.W PyProof.Rows
set_option maxRecDepth 100000 in
set_option maxHeartbeats 0 in
theorem PySem.Challenge.cw_shoretold_k37_islands_of_one_shape_holds : PySem.Challenge.rw_shoretold_k37_islands_of_one_shape.Holds := by
 w_on;o_law;k_head;(case hw=>w_witness2)
 k_fill
 refine K37.walk (l:=PySem.Challenge.rw_shoretold_k37_islands_of_one_shape) rfl rfl (λw h Y=>PySem.W.kIn_of Y) ?F
 case F=>
  intro w mg fa h KX G hmg;refine' K37.Xki KX G hmg ?d_turned ?d_mirrored ?d_paired ?d_same ?d__law_begin ?d__law_pick ?d__law_put ?d__law_where ?d__law_word ?d__law_barred ?d__law_row ?d__law_names ?d__law_island ?d__law_island_to ?d__law_swapped ?d__law_twin_row ?d__law_read ?d__law_same ?d__law_tuple ?d__law_pairs ?d_law ?zZip ?z_len ?z_range ?z_list ?z_min ?z_isinstance ?z_all ?z_str ?z_ValueError ?z_sorted ?z_set ?z_enumerate ?z_int ?z_bool ?z_tuple ?z_any ?z_dict ?z_sum ?z_max
  (case d_turned=>(refine' L2.DefAt.of ?a ?l ?c ?k;(case a=>k_is);(case l=>k_is);(case c=>k_is);(case k=>k_is)))
  (case d_mirrored=>(refine' L2.DefAt.of ?a ?l ?c ?k;(case a=>k_is);(case l=>k_is);(case c=>k_is);(case k=>k_is)))
  (case d_paired=>(refine' L2.DefAt.of ?a ?l ?c ?k;(case a=>k_is);(case l=>k_is);(case c=>k_is);(case k=>k_is)))
  (case d_same=>(refine' L2.DefAt.of ?a ?l ?c ?k;(case a=>k_is);(case l=>k_is);(case c=>k_is);(case k=>k_is)))
  (case d__law_begin=>(refine' L2.DefAt.of ?a ?l ?c ?k;(case a=>k_is);(case l=>k_is);(case c=>k_is);(case k=>k_is)))
  (case d__law_pick=>(refine' L2.DefAt.of ?a ?l ?c ?k;(case a=>k_is);(case l=>k_is);(case c=>k_is);(case k=>k_is)))
  (case d__law_put=>(refine' L2.DefAt.of ?a ?l ?c ?k;(case a=>k_is);(case l=>k_is);(case c=>k_is);(case k=>k_is)))
  (case d__law_where=>(refine' L2.DefAt.of ?a ?l ?c ?k;(case a=>k_is);(case l=>k_is);(case c=>k_is);(case k=>k_is)))
  (case d__law_word=>(refine' L2.DefAt.of ?a ?l ?c ?k;(case a=>k_is);(case l=>k_is);(case c=>k_is);(case k=>k_is)))
  (case d__law_barred=>(refine' L2.DefAt.of ?a ?l ?c ?k;(case a=>k_is);(case l=>k_is);(case c=>k_is);(case k=>k_is)))
  (case d__law_row=>(refine' L2.DefAt.of ?a ?l ?c ?k;(case a=>k_is);(case l=>k_is);(case c=>k_is);(case k=>k_is)))
  (case d__law_names=>(refine' L2.DefAt.of ?a ?l ?c ?k;(case a=>k_is);(case l=>k_is);(case c=>k_is);(case k=>k_is)))
  (case d__law_island=>(refine' L2.DefAt.of ?a ?l ?c ?k;(case a=>k_is);(case l=>k_is);(case c=>k_is);(case k=>k_is)))
  (case d__law_island_to=>(refine' L2.DefAt.of ?a ?l ?c ?k;(case a=>k_is);(case l=>k_is);(case c=>k_is);(case k=>k_is)))
  (case d__law_swapped=>(refine' L2.DefAt.of ?a ?l ?c ?k;(case a=>k_is);(case l=>k_is);(case c=>k_is);(case k=>k_is)))
  (case d__law_twin_row=>(refine' L2.DefAt.of ?a ?l ?c ?k;(case a=>k_is);(case l=>k_is);(case c=>k_is);(case k=>k_is)))
  (case d__law_read=>(refine' L2.DefAt.of ?a ?l ?c ?k;(case a=>k_is);(case l=>k_is);(case c=>k_is);(case k=>k_is)))
  (case d__law_same=>(refine' L2.DefAt.of ?a ?l ?c ?k;(case a=>k_is);(case l=>k_is);(case c=>k_is);(case k=>k_is)))
  (case d__law_tuple=>(refine' L2.DefAt.of ?a ?l ?c ?k;(case a=>k_is);(case l=>k_is);(case c=>k_is);(case k=>k_is)))
  (case d__law_pairs=>(refine' L2.DefAt.of ?a ?l ?c ?k;(case a=>k_is);(case l=>k_is);(case c=>k_is);(case k=>k_is)))
  (case d_law=>(refine' L2.DefAt.of ?a ?l ?c ?k;(case a=>k_is);(case l=>k_is);(case c=>k_is);(case k=>k_is)))
  (case zZip=>k_is)
  (case z_len=>k_is);(case z_range=>k_is);(case z_list=>k_is);(case z_min=>k_is);(case z_isinstance=>k_is);(case z_all=>k_is);(case z_str=>k_is);(case z_ValueError=>k_is);(case z_sorted=>k_is);(case z_set=>k_is);(case z_enumerate=>k_is);(case z_int=>k_is);(case z_bool=>k_is);(case z_tuple=>k_is);(case z_any=>k_is);(case z_dict=>k_is);(case z_sum=>k_is);(case z_max=>k_is)
#print axioms PySem.Challenge.cw_shoretold_k37_islands_of_one_shape_holds
