import PyProof.Rows.All
import Wide.All
import OpenK.AllK
import Wide.FinOn
import Lean
import PyProof.EqAt
import PyProof.EqKinds
import PyProof.TupleCall
import KE.KDictSum
import PyProof.Rows.SortStr
import PyProof.EnumStmt
import PyProof.EnumMake
import PyProof.StrBlockH
import PyProof.ReprStr
import PyProof.StrLawsRepr
import PyProof.FString
import PyProof.DictCompW
import PyProof.P3Eq
import PyProof.P3In
import PyProof.NeData
import PyProof.ReprHeadsTuple
import KE.KLam
import KE.KNestM
import KE.KSortKey
import KE.KSortTup
import PySem.Challenge.RW_shoretold_k07_whole_plots_of_an_island
set_option bootstrap.genMatcherCode false
set_option genSizeOfSpec false
set_option genSizeOf false
noncomputable section
set_option Elab.async false
set_option linter.all false
set_option maxRecDepth 100000
namespace L2
open PySem PySem.Spec PyProof.Rows
abbrev Key := Sum Int Str
def Xgh : Key -> Value -> Bool
 | .inl k, v => Value.isInt k v
 | .inr x, v => Value.isStrOf x v
def keyH (w : World) : Key -> Int
 | .inl k => hashInt k
 | .inr x => hashStr w x
theorem Xay : ∀ {k : Key} {v : Value}, Xgh k v = true -> (∃ i t, k = Sum.inl i /\ v = Value.int i t) \/ (∃ x t, k = Sum.inr x /\ v = Value.str x t)
 | .inl i, v, h => by
  obtain ⟨t, e⟩ := Value.isInt_shape (k := i) (v := v) h
  exact .inl ⟨i, t, rfl, e⟩
 | .inr x, v, h => by
  obtain ⟨t, e⟩ := Value.isStrOf_shape (x := x) (v := v) h
  exact .inr ⟨x, t, rfl, e⟩
theorem Xl7 (i : Int) (t : Tok) : Xgh (.inl i) (.int i t) = true := by simp [Xgh, Value.isInt]
theorem Xl8 (x : Str) (t : Tok) : Xgh (.inr x) (.str x t) = true := by simp [Xgh, Value.isStrOf]
theorem key_ll (a b : Int) : decide ((Sum.inl a : Key) = Sum.inl b) = (a == b) := by
 by_cases e : a = b
 ·subst e; simp
 ·have h : ¬ (Sum.inl a : Key) = Sum.inl b := fun q => e (Sum.inl.inj q)
  rw [decide_eq_false h]
  exact (beq_eq_false_iff_ne.mpr e).symm
theorem key_rr (a b : Str) : decide ((Sum.inr a : Key) = Sum.inr b) = decide (a = b) := by
 by_cases e : a = b
 ·subst e; simp
 ·have h : ¬ (Sum.inr a : Key) = Sum.inr b := fun q => e (Sum.inr.inj q)
  rw [decide_eq_false h, decide_eq_false e]
theorem key_lr (a : Int) (b : Str) : decide ((Sum.inl a : Key) = Sum.inr b) = false := decide_eq_false (fun q => nomatch q)
theorem key_rl (a : Str) (b : Int) : decide ((Sum.inr a : Key) = Sum.inl b) = false := decide_eq_false (fun q => nomatch q)
def Xar (prog : Program) (w : World) : PySem.KeyKind prog w Key where
 is := Xgh
 hash := keyH w
 inj := fun v a b ha hb => by
  rcases Xay ha with ⟨i, t, rfl, rfl⟩ | ⟨x, t, rfl, rfl⟩
  ·rcases Xay hb with ⟨j, u, rfl, e⟩ | ⟨y, u, rfl, e⟩
   ·injection e with e1 _; rw [e1]
   ·exact nomatch e
  ·rcases Xay hb with ⟨j, u, rfl, e⟩ | ⟨y, u, rfl, e⟩
   ·exact nomatch e
   ·injection e with e1 _; rw [e1]
 byValue := fun k v h => by
  rcases Xay h with ⟨i, t, rfl, rfl⟩ | ⟨x, t, rfl, rfl⟩ <;> rfl
 pyHash := fun hv h => by
  rcases Xay hv with ⟨i, t, rfl, rfl⟩ | ⟨x, t, rfl, rfl⟩
  ·exact wpAny_pyHash_int h
  ·exact wpAny_pyHash_str h
 eqBool := fun hu hv h => by
  rcases Xay hu with ⟨i, t, rfl, rfl⟩ | ⟨x, t, rfl, rfl⟩
  ·rcases Xay hv with ⟨j, u, rfl, rfl⟩ | ⟨y, u, rfl, rfl⟩
   ·rw [key_ll] at h; exact wpAny_eqBool_int h
   ·rw [key_lr] at h; exact SeqAt.EqAt.int_str i t y u _ _ _ _ h
  ·rcases Xay hv with ⟨j, u, rfl, rfl⟩ | ⟨y, u, rfl, rfl⟩
   ·rw [key_rl] at h; exact SeqAt.EqAt.str_int x t j u _ _ _ _ h
   ·rw [key_rr] at h; exact wpAny_eqBool_str h
 «strs» := fun k x t v h => by
  rcases Xay h with ⟨i, u, rfl, e⟩ | ⟨y, u, rfl, e⟩
  ·exact nomatch e
  ·injection e with e1 _
   subst e1
   cases v <;> rfl
theorem Xi1 (prog : Program) (w : World) (i : Int) (t : Tok) : (Xar prog w).is (.inl i) (.int i t) = true := Xl7 i t
theorem Xi2 (prog : Program) (w : World) (x : Str) (t : Tok) : (Xar prog w).is (.inr x) (.str x t) = true := Xl8 x t
inductive V where
 | non | bl (b : Bool) | int (i : Int) | str (x : Str) | byt (b : Array UInt8) | flt (b : UInt64) | ref (a : Addr) | ty (n : String)
 deriving DecidableEq
def RelV : V -> Value -> Prop
 | .non, u => u = Value.none
 | .bl b, u => u = Value.bool b
 | .int i, u => ∃ t, u = Value.int i t
 | .str x, u => ∃ t, u = Value.str x t
 | .byt b, u => ∃ t, u = Value.bytes b t
 | .flt b, u => ∃ t, u = Value.float b t
 | .ref a, u => u = Value.ref a
 | .ty n, u => u = Value.type n
abbrev Vals : List V -> List Value -> Prop := Paired RelV
theorem Vals.length {xs : List V} {us : List Value} (r : Vals xs us) : xs.length = us.length := Paired.length r
theorem Vals.get : ∀ {xs : List V} {us : List Value} {i : Nat} {x : V}, Vals xs us -> xs[i]? = some x -> ∃ u, us[i]? = some u /\ RelV x u
 | _, _, _, _, .nil, e => by simp at e
 | _, _, 0, _, .cons r _, e => by simp at e; subst e; exact ⟨_, rfl, r⟩
 | _, _, i + 1, x, .cons _ t, e => by
  obtain ⟨u, h1, h2⟩ := Vals.get (i := i) (x := x) t (by simpa using e)
  exact ⟨u, by simpa using h1, h2⟩
theorem Vals.set {x : V} {u : Value} (r : RelV x u) : ∀ {xs : List V} {us : List Value} (i : Nat), Vals xs us -> Vals (xs.set i x) (us.set i u)
 | _, _, _, .nil => .nil
 | _, _, 0, .cons _ t => .cons r t
 | _, _, i + 1, .cons q t => .cons q (Vals.set r i t)
theorem Vals.append : ∀ {xs ys : List V} {us ws : List Value}, Vals xs us -> Vals ys ws -> Vals (xs ++ ys) (us ++ ws)
 | _, _, _, _, .nil, s => s
 | _, _, _, _, .cons r t, s => .cons r (Vals.append t s)
theorem Vals.take : ∀ {xs : List V} {us : List Value} (n : Nat), Vals xs us -> Vals (xs.take n) (us.take n)
 | _, _, 0, _ => .nil
 | _, _, _ + 1, .nil => .nil
 | _, _, n + 1, .cons r t => .cons r (Vals.take n t)
theorem Vals.drop : ∀ {xs : List V} {us : List Value} (n : Nat), Vals xs us -> Vals (xs.drop n) (us.drop n)
 | _, _, 0, r => r
 | _, _, _ + 1, .nil => .nil
 | _, _, n + 1, .cons _ t => Vals.drop n t
def RelO : Option V -> Option Value -> Prop
 | some v, some u => RelV v u
 | none, none => True
 | _, _ => False
def KV {κ : Type} : List (κ × V) -> List (κ × Value) -> Prop := Paired fun (p : κ × V) (q : κ × Value) => p.1 = q.1 /\ RelV p.2 q.2
def kV : Key -> V
 | .inl i => .int i
 | .inr x => .str x
inductive HO where
 | lst (xs : List V)
 | tup (xs : List V)
 | dK (kvs : List (Key × V)) | dT (kvs : List (List Key × V))
 | set (S : Int -> Bool) (n : Nat)
 | ins (C dx : Addr) (fs : List (Str × V))
 | own (x : Addr)
 | xd (fs : List (Str × V))
 | met (f x : Addr)
 | rng (lo hi : Int)
 | frz (o : Obj) (u : HO)
 | tbl (ps : Array Value)
 | ext (φ : Heap -> Prop)
abbrev Hp := Addr -> Option HO
def upd (H : Hp) (a : Addr) (o : HO) : Hp := fun b => if b = a then some o else H b
theorem Xaa {H : Hp} {a : Addr} {o : HO} : upd H a o a = some o := by unfold upd; rw [if_pos rfl]
theorem Xae {H : Hp} {a b : Addr} {o : HO} (h : b ≠ a) : upd H a o b = H b := by unfold upd; rw [if_neg h]
theorem ne_of {H : Hp} {a b : Addr} {o u : HO} (h : H a = some o) (h' : H b = some u) (d : o ≠ u) : a ≠ b := by
 intro e; subst e; rw [h] at h'; exact d (Option.some.inj h')
theorem Xaf {H : Hp} {a b : Addr} {o : HO} (h : H a = some o) (h' : H b = none) : a ≠ b := by
 intro e; subst e; rw [h] at h'; cases h'
section
variable (P : Program) (w : World)
def Xa5 (H : Hp) (h : Heap) (a : Addr) : HO -> Prop
 | .lst xs => xs.length <= sizeLine /\ ∃ (its : List Value) (n : Nat), Vals xs its /\ h.get? a = some { cls := .type "list", data := .seq its.toArray n }
 | .tup xs => xs.length <= sizeLine /\ ∃ its : List Value, Vals xs its /\ IsTup h a its.toArray
 | .dK kvs => kvs.length <= sizeLine /\ (a == sysModules) = false /\ ∃ vs, KV kvs vs /\ h.DictOf (Xar P w) a vs
 | .dT kvs => kvs.length <= sizeLine /\ (a == sysModules) = false /\ ∃ xs : List (List Key × Addr × Value),
   Paired (fun (p : List Key × V) (q : List Key × Addr × Value) => p.1 = q.1 /\ H q.2.1 = some (.tup (p.1.map kV)) /\ RelV p.2 q.2.2) kvs xs /\
   ∃ o es ep, h.get? a = some o /\ o.ExactDict /\ o.data = .dict es ep /\ es.toList = xs.map (entryOfKey (tupleKind (Xar P w))) /\ (xs.map (·.1)).Nodup
 | .set S n => h.SetOf (intKind P w) a S n
 | .ins C dx fs => H dx = some (.own a) /\ fs.length <= 1000 /\ dx ≠ a /\ h.get? a = some (PySem.W.instObj C dx) /\
   ∃ mA, h.Ns1 dx mA /\ (∀ f, RelO (fs.lookup f) (mA f)) /\ PySem.Within mA (fs.map (·.1))
 | .own _ => ∃ o, h.get? a = some o
 | .xd fs => ∃ mA, h.Ns1 a mA /\ ∀ f, RelO (fs.lookup f) (mA f)
 | .rng lo hi => ∃ t u v, h.get? a = some { cls := .type "range", data := .fields #[.int lo t, .int hi u, .int 1 v] }
 | .frz o u => h.get? a = some o /\ Xa5 H h a u
 | .tbl ps => h.get? a = some { cls := .none, data := .fields ps }
 | .met f x => h.get? a = some (PySem.W.methodObj (.ref f) (.ref x))
 | .ext φ => φ h /\ (∃ o, h.get? a = some o) /\ ∀ h1 h2 : Heap, φ h1 -> (∀ o, h1.get? a = some o -> h2.get? a = some o) -> φ h2
def HOk (H : Hp) (h : Heap) : Prop := ∀ a o, H a = some o -> Xa5 P w H h a o
end
section
variable {P : Program} {w : World} {H H' : Hp} {h h' : Heap} {a : Addr} {o : HO}
theorem Xa5.lt (x : Xa5 P w H h a o) : a < h.objs.size := by
 cases o with
 | lst xs => obtain ⟨_, _, _, _, e⟩ := x; exact Heap.lt_size e
 | tup xs => obtain ⟨_, _, _, p⟩ := x; exact p.lt
 | dK kvs => obtain ⟨_, _, _, _, o, _, _, e, _⟩ := x; exact Heap.lt_size e
 | dT kvs => obtain ⟨_, _, _, _, o, _, _, e, _⟩ := x; exact Heap.lt_size e
 | set S n => obtain ⟨o, _, _, _, e, _⟩ := x; exact Heap.lt_size e
 | ins C dx fs => obtain ⟨_, _, _, e, _⟩ := x; exact Heap.lt_size e
 | own y => obtain ⟨_, e⟩ := x; exact Heap.lt_size e
 | xd fs => obtain ⟨_, ⟨_, _, _, e, _⟩, _⟩ := x; exact Heap.lt_size e
 | rng lo hi => obtain ⟨_, _, _, e⟩ := x; exact Heap.lt_size e
 | frz ob u => obtain ⟨e, _⟩ := x; exact Heap.lt_size e
 | tbl ps => exact Heap.lt_size (show h.get? a = some _ from x)
 | met f y => exact Heap.lt_size (show h.get? a = some _ from x)
 | ext φ => obtain ⟨_, ⟨_, e⟩, _⟩ := x; exact Heap.lt_size e
theorem Paired.mapP {α β : Type} {F G : α -> β -> Prop} : ∀ {l₁ : List α} {l₂ : List β}, Paired F l₁ l₂ -> (∀ a b, F a b -> G a b) -> Paired G l₁ l₂
 | _, _, .nil, _ => .nil
 | _, _, .cons r t, f => .cons (f _ _ r) (Paired.mapP t f)
theorem Xa5.stay (x : Xa5 P w H h a o) (k : ∀ b u, (b = a \/ H b = some (.own a)) -> h.get? b = some u -> h'.get? b = some u)
  (ho : ∀ b, H b = some (.own a) -> H' b = some (.own a)) (ht : ∀ b xs, H b = some (.tup xs) -> H' b = some (.tup xs)) : Xa5 P w H' h' a o := by
 induction o with
 | lst xs => obtain ⟨z, its, n, r, e⟩ := x; exact ⟨z, its, n, r, k _ _ (.inl rfl) e⟩
 | tup xs => obtain ⟨z, its, r, ob, e, c⟩ := x; exact ⟨z, its, r, ob, k _ _ (.inl rfl) e, c⟩
 | dK kvs => obtain ⟨z, y, vs, r, ob, es, ep, e, c⟩ := x; exact ⟨z, y, vs, r, ob, es, ep, k _ _ (.inl rfl) e, c⟩
 | dT kvs =>
  obtain ⟨z, y, xs, r, ob, es, ep, e, c⟩ := x
  exact ⟨z, y, xs, Paired.mapP r fun p q z => ⟨z.1, ht _ _ z.2.1, z.2.2⟩, ob, es, ep, k _ _ (.inl rfl) e, c⟩
 | set S n => obtain ⟨ob, es, ep, t, e, c⟩ := x; exact ⟨ob, es, ep, t, k _ _ (.inl rfl) e, c⟩
 | ins C dx fs =>
  obtain ⟨d, z, ne, e, mA, ⟨od, es, ep, e2, c⟩, r⟩ := x
  exact ⟨ho _ d, z, ne, k _ _ (.inl rfl) e, mA, ⟨od, es, ep, k _ _ (.inr d) e2, c⟩, r⟩
 | own y => obtain ⟨ob, e⟩ := x; exact ⟨ob, k _ _ (.inl rfl) e⟩
 | xd fs => obtain ⟨mA, ⟨od, es, ep, e, c⟩, r⟩ := x; exact ⟨mA, ⟨od, es, ep, k _ _ (.inl rfl) e, c⟩, r⟩
 | rng lo hi => obtain ⟨t, u, v, e⟩ := x; exact ⟨t, u, v, k _ _ (.inl rfl) e⟩
 | frz ob u ih => obtain ⟨e, q⟩ := x; exact ⟨k _ _ (.inl rfl) e, ih q⟩
 | tbl ps =>
  have e : h.get? a = some { cls := .none, data := .fields ps } := x
  show h'.get? a = some { cls := .none, data := .fields ps }
  exact k a _ (.inl rfl) e
 | met f y =>
  have e : h.get? a = some (PySem.W.methodObj (.ref f) (.ref y)) := x
  show h'.get? a = some (PySem.W.methodObj (.ref f) (.ref y))
  exact k a _ (.inl rfl) e
 | ext φ => obtain ⟨p, ⟨o, e⟩, st⟩ := x; exact ⟨st _ _ p fun o q => k _ _ (.inl rfl) q, ⟨o, k _ _ (.inl rfl) e⟩, st⟩
theorem HOk.lt (x : HOk P w H h) (e : H a = some o) : a < h.objs.size := (x a o e).lt
theorem HOk.fresh (x : HOk P w H h) (e : h.objs.size <= a) : H a = none := by
 cases q : H a with
 | none => rfl
 | some u => exact absurd (Nat.lt_of_lt_of_le (x.lt q) e) (Nat.lt_irrefl _)
theorem HOk.kept (x : HOk P w H h) (k : ∀ b u, h.get? b = some u -> h'.get? b = some u) : HOk P w H h' := fun a o e =>
 (x a o e).stay (fun b u _ q => k b u q) (fun _ q => q) fun _ _ q => q
theorem HOk.laid (x : HOk P w H h) (k : ∀ b u, h.get? b = some u -> h'.get? b = some u) (hp : h.objs.size <= a) (new : Xa5 P w (upd H a o) h' a o) : HOk P w (upd H a o) h' := fun b u e => by
 have hn := x.fresh hp
 by_cases hb : b = a
 ·subst hb; rw [Xaa] at e; cases e; exact new
 ·rw [Xae hb] at e
  exact (x b u e).stay (fun c v _ q => k c v q) (fun c q => by rw [Xae (Xaf q hn)]; exact q) fun c xs q => by rw [Xae (Xaf q hn)]; exact q
end
def Rd (H : Hp) (a : Addr) (u : HO) : Prop := H a = some u \/ ∃ o, H a = some (.frz o u)
theorem Rd.ok {P : Program} {w : World} {H : Hp} {h : Heap} {a : Addr} {u : HO} (r : Rd H a u) (x : HOk P w H h) : Xa5 P w H h a u := by
 rcases r with r | ⟨o, r⟩
 ·exact x a u r
 ·obtain ⟨_, q⟩ := x a _ r
  exact q
def Mut : Option HO -> Prop
 | some (.lst _) => True
 | some (.dK _) => True
 | some (.dT _) => True
 | some (.set _ _) => True
 | some (.ins _ _ _) => True
 | some (.ext _) => True
 | _ => False
section
variable {P : Program} {w : World} {H : Hp} {h h' : Heap} {x e : Addr} {o' : HO}
theorem HOk.write (ok : HOk P w H h) (mu : Mut (H x)) (he : e = x \/ H e = some (.own x)) (k : ∀ b u, b ≠ e -> h.get? b = some u -> h'.get? b = some u) (heo : ∃ u, h'.get? e = some u)
  (new : Xa5 P w (upd H x o') h' x o') : HOk P w (upd H x o') h' := fun b u q => by
 have nown : ∀ c y, H c = some (.own y) -> c ≠ x := fun c y r z => by subst z; rw [r] at mu; exact mu
 have ntup : ∀ c xs, H c = some (.tup xs) -> c ≠ x := fun c xs r z => by subst z; rw [r] at mu; exact mu
 by_cases hb : b = x
 ·subst hb; rw [Xaa] at q; cases q; exact new
 ·rw [Xae hb] at q
  by_cases hbe : b = e
  ·have q' : H b = some (.own x) := by
    rcases he with z | z
    ·exact absurd (hbe.trans z) hb
    ·rw [hbe]; exact z
   rw [q] at q'; cases q'
   obtain ⟨v, hv⟩ := heo
   exact ⟨v, by rw [hbe]; exact hv⟩
  ·refine (ok b u q).stay (fun c v hc r => k c v ?_ r) (fun c r => by rw [Xae (nown c b r)]; exact r) fun c xs r => by rw [Xae (ntup c xs r)]; exact r
   rcases hc with rfl | hc
   ·exact hbe
   ·rintro rfl
    rcases he with z | z
    ·exact nown c b hc z
    ·rw [hc] at z; cases z; exact hb rfl
end
structure Un (fs ex : List Addr) (H H' : Hp) (h h' : Heap) : Prop where
 keep : ∀ b o, h.get? b = some o -> H b = none -> b ∉ fs -> b ∉ ex -> h'.get? b = some o
 slot : ∀ b o, h.get? b = some o -> H b = none -> b ∈ fs -> b ∉ ex -> ∃ sl, h'.get? b = some { o with slots := sl }
 free : ∀ b o, h.get? b = some o -> H b = none -> b ∉ ex -> H' b = none
 there : ∀ b o, h.get? b = some o -> b ∉ ex -> ∃ o', h'.get? b = some o'
 tups : ∀ b xs, H b = some (.tup xs) -> H' b = some (.tup xs)
 frzs : ∀ b o u, H b = some (.frz o u) -> H' b = some (.frz o u)
 tbls : ∀ b ps, H b = some (.tbl ps) -> ∃ more, H' b = some (.tbl (ps ++ more))
section
variable {fs fs' ex ex' : List Addr} {H H1 H2 : Hp} {h h1 h2 h' : Heap} {a x e : Addr} {o : HO}
theorem Un.any (u : Un fs ex H H1 h h1) {b : Addr} {ob : Obj} (q : h.get? b = some ob) (n : H b = none) (hx : b ∉ ex) : ∃ sl, h1.get? b = some { ob with slots := sl } := by
 by_cases hb : b ∈ fs
 ·exact u.slot b ob q n hb hx
 ·exact ⟨ob.slots, u.keep b ob q n hb hx⟩
theorem Un.kept (k : ∀ b u, h.get? b = some u -> h'.get? b = some u) : Un fs ex H H h h' :=
 ⟨fun b ob q _ _ _ => k b ob q, fun b ob q _ _ _ => ⟨ob.slots, k b ob q⟩, fun _ _ _ n _ => n, fun b ob q _ => ⟨ob, k b ob q⟩, fun _ _ q => q, fun _ _ _ q => q, fun _ ps q => ⟨#[], by rw [q]; simp⟩⟩
theorem Un.refl : Un fs ex H H h h := Un.kept fun _ _ q => q
theorem Un.laid (k : ∀ b u, h.get? b = some u -> h'.get? b = some u) (hp : h.objs.size <= a) (hn : H a = none) : Un fs ex H (upd H a o) h h' where
 keep := fun b u q _ _ _ => k b u q
 slot := fun b u q _ _ _ => ⟨u.slots, k b u q⟩
 free := fun b u q n _ => by rw [Xae (Nat.ne_of_lt (Nat.lt_of_lt_of_le (Heap.lt_size q) hp))]; exact n
 there := fun b u q _ => ⟨u, k b u q⟩
 tups := fun b xs q => by rw [Xae (Xaf q hn)]; exact q
 frzs := fun b u xs q => by rw [Xae (Xaf q hn)]; exact q
 tbls := fun b ps q => ⟨#[], by rw [Xae (Xaf q hn), q]; simp⟩
theorem Un.write (mu : Mut (H x)) (he : e = x \/ H e = some (.own x)) (k : ∀ b u, b ≠ e -> h.get? b = some u -> h'.get? b = some u) (heo : ∃ u, h'.get? e = some u) : Un fs ex H (upd H x o) h h' := by
 have hx : ∀ b, H b = none -> b ≠ x := fun b n z => by subst z; rw [n] at mu; exact mu
 have hb : ∀ b, H b = none -> b ≠ e := fun b n z => by
  subst z
  rcases he with r | r
  ·exact hx b n r
  ·rw [n] at r; cases r
 have hm : ∀ b u, H b = some u -> ¬ Mut (some u) -> b ≠ x := fun b u q nm z => by subst z; rw [q] at mu; exact nm mu
 refine ⟨fun b u q n _ _ => k b u (hb b n) q, fun b u q n _ _ => ⟨u.slots, k b u (hb b n) q⟩, fun b u q n _ => by rw [Xae (hx b n)]; exact n, fun b u q _ => ?_,
  fun b xs q => by rw [Xae (hm b _ q fun z => z)]; exact q, fun b u xs q => by rw [Xae (hm b _ q fun z => z)]; exact q, fun b ps q => ⟨#[], by rw [Xae (hm b _ q fun z => z), q]; simp⟩⟩
 by_cases hbe : b = e
 ·subst hbe; exact heo
 ·exact ⟨u, k b u hbe q⟩
end
def trk (h : Heap) (H : Hp) : List Addr := (List.range h.objs.size).filter fun a => (H a).isSome
def hidT (h : Heap) (H : Hp) : Heap := PySem.W.hideAll h (trk h H)
theorem Xl9 (h : Heap) (H : Hp) : (hidT h H).objs.size = h.objs.size := PySem.W.hideAll_size _ _
theorem hidT_get {h : Heap} {H : Hp} {b : Addr} {o : Obj} (e : h.get? b = some o) (n : H b = none) : (hidT h H).get? b = some o :=
 PySem.W.hideAll_get _ e fun hm => by
  have q : (H b).isSome = true := (List.mem_filter.mp hm).2
  rw [n] at q; simp at q
theorem of_hidT {h : Heap} {H : Hp} {b : Addr} {o : Obj} (e : (hidT h H).get? b = some o) : h.get? b = some o /\ H b = none := by
 have e' : h.get? b = some o := PySem.W.of_hideAll (trk h H) e
 refine ⟨e', ?_⟩
 cases q : H b with
 | none => rfl
 | some x =>
  have hm : b ∈ trk h H := List.mem_filter.mpr ⟨List.mem_range.mpr (Heap.lt_size e'), by simp [q]⟩
  have z : (hidT h H).get? b = none := PySem.W.hideAll_none (trk h H) hm
  rw [z] at e; cases e
def allNews (g h : Heap) (L : Addr) : List (Addr × Obj) := (List.range h.objs.size).filterMap fun a => if a = L \/ (g.get? a).isSome = true then none else (h.get? a).map fun o => (a, o)
def rest (g h : Heap) (L d : Addr) : List (Addr × Obj) := (allNews g h L).filter fun p => decide (p.1 ≠ d)
structure Mod (K : PySem.W.Frag) (mg : Str -> Option Value) (base : Heap) : Prop where
 kin : K.In base
 glob : base.Ns mainGlobals mg
 blt : ∃ mb, base.Ns builtinsNs mb /\ ∀ x : Str, x ≠ "__name__" -> mb x = bootBuiltins x
 nolimit : base.NoLimit
structure Cx where
 prog : Program
 w : World
 K : PySem.W.Frag
 mg : Str -> Option Value
 base : Heap
 A : Around
 N : List Str
 s₀ : Shared
 H₀ : Hp
 env : Env
 outer : List Env
 stack : List Env
 ex : List Addr
 fn : Str -> Bool
 calm : Bool
 pn : List (Addr × Obj)
 xe : Value -> Shared -> Prop
def frs (l : List Env) : List Addr := l.filterMap (·.frame)
abbrev Cx.fs (X : Cx) : List Addr := frs X.outer
def Vis (sc : Scope) (x : Str) : Prop := sc.names.lookup x = some .local \/ sc.names.lookup x = some .cell \/ sc.names.lookup x = some .free
def Loc (sc : Scope) (x : Str) : Prop := sc.names.lookup x = some .local \/ sc.names.lookup x = some .cell
def Look (env : Env) (h : Heap) (m : Str -> Option Value) (x : Str) (u : Value) : Prop :=
 (env.kindOf x = some .local /\ m x = some u) \/ ((env.kindOf x = some .cell \/ env.kindOf x = some .free) /\ ∃ c, env.cells.lookup x = some c /\ h.IsCell c (some u))
structure Cx.Ok (X : Cx) : Prop where
 mod : Mod X.K X.mg X.base
 kind : X.env.scope.kind = .function
 glob : X.env.globals = mainGlobals
 blt : X.env.builtins = builtinsNs
 above : X.s₀.heap.objs.size <= X.env.locals
 inj : ∀ x y c, X.env.cells.lookup x = some c -> X.env.cells.lookup y = some c -> x = y
 has : ∀ x, (X.env.kindOf x = some .cell \/ X.env.kindOf x = some .free) -> ∃ c, X.env.cells.lookup x = some c
 cab : ∀ x c, X.fn x = true -> X.env.cells.lookup x = some c -> X.s₀.heap.objs.size <= c
 hd : X.calm = true -> X.A.handled = none
 frames : X.A.frames = some X.stack
 stk : X.stack = X.outer \/ (X.stack = X.env :: X.outer /\ X.env.frame = some X.env.locals)
 exf : ∀ b ∈ X.ex, b ≠ X.env.locals /\ ∀ x c, X.env.cells.lookup x = some c -> c ≠ b
 bs : ∀ b o, X.base.get? b = some o -> X.s₀.heap.get? b = some o /\ X.H₀ b = none
 bsz : X.base.objs.size <= X.s₀.heap.objs.size
 noex : ∀ b o, X.base.get? b = some o -> b ∉ X.ex
 exfs : ∀ b ∈ X.ex, b ∉ X.fs
 funs : X.s₀.heap.FunFrames X.base X.outer
 frf : ∀ b ∈ X.fs, X.H₀ b = none
structure Inv (X : Cx) (pins : List (Addr × Obj)) (σ : List (Option V)) (H : Hp) (s : Shared) : Prop where
 ok : X.Ok
 os : s.os = X.s₀.os
 bare : AllBare s.gens
 base : Un X.fs X.ex X.H₀ H X.s₀.heap s.heap
 loc : ∃ m, s.heap.Ns X.env.locals m /\ ∀ (i : Nat) (x : Str) (v : V), X.N[i]? = some x -> σ[i]? = some (some v) -> Vis X.env.scope x -> ∃ u, RelV v u /\ Look X.env s.heap m x u
 cell : ∀ x c, X.env.cells.lookup x = some c -> ∃ v, s.heap.IsCell c v
 free : H X.env.locals = none
 freeC : ∀ x c, X.env.cells.lookup x = some c -> H c = none
 pin : ∀ p ∈ X.pn ++ pins, s.heap.get? p.1 = some p.2 /\ H p.1 = none /\ p.1 ≠ X.env.locals /\ p.1 ∉ X.fs /\ ∀ v, p.2.data ≠ .cell v
 hok : HOk X.prog X.w H s.heap
 len : σ.length = X.N.length
section
variable {X : Cx} {pins : List (Addr × Obj)} {σ : List (Option V)} {H H' : Hp} {s : Shared} {h' : Heap}
theorem Cx.Ok.nofr (ok : X.Ok) {b : Addr} {o : Obj} (e : X.base.get? b = some o) : b ∉ X.fs := fun hb => by
 have := (ok.funs.mem hb).1
 rw [e] at this; cases this
theorem Inv.bs (I : Inv X pins σ H s) : ∀ b o, X.base.get? b = some o -> s.heap.get? b = some o /\ H b = none := fun b o e =>
 ⟨I.base.keep b o (I.ok.bs b o e).1 (I.ok.bs b o e).2 (I.ok.nofr e) (I.ok.noex b o e), I.base.free b o (I.ok.bs b o e).1 (I.ok.bs b o e).2 (I.ok.noex b o e)⟩
theorem Inv.bk (I : Inv X pins σ H s) : ∀ b o, X.base.get? b = some o -> s.heap.get? b = some o := fun b o e => (I.bs b o e).1
theorem Inv.mod (I : Inv X pins σ H s) : Mod X.K X.mg X.base := I.ok.mod
theorem Inv.kIn (I : Inv X pins σ H s) : X.K.In s.heap := I.ok.mod.kin.keeps I.bk
theorem Inv.lt (I : Inv X pins σ H s) : X.env.locals < s.heap.objs.size := let ⟨_, hn, _⟩ := I.loc; hn.lt
theorem Inv.sz (I : Inv X pins σ H s) : X.s₀.heap.objs.size <= s.heap.objs.size := Nat.le_trans I.ok.above (Nat.le_of_lt I.lt)
theorem Inv.nofs (I : Inv X pins σ H s) {a : Addr} (h : s.heap.objs.size <= a) : a ∉ X.fs := fun hb => by
 obtain ⟨_, o, ho, _⟩ := I.ok.funs.mem hb
 exact absurd (Nat.lt_of_lt_of_le (Heap.lt_size ho) (Nat.le_trans I.sz h)) (Nat.lt_irrefl _)
theorem Inv.cne (I : Inv X pins σ H s) : ∀ x c, X.env.cells.lookup x = some c -> c ≠ X.env.locals := fun x c e z => by
 obtain ⟨v, o, ho, hd⟩ := I.cell x c e
 obtain ⟨m, ⟨o', es, ep, ho', hd', _⟩, _⟩ := I.loc
 rw [z, ho'] at ho; cases ho; rw [hd'] at hd; cases hd
theorem Inv.funs (I : Inv X pins σ H s) : s.heap.FunFrames X.base X.outer := by
 have all : ∀ (l : List Env), (∀ b ∈ frs l, b ∈ X.fs) -> X.s₀.heap.FunFrames X.base l -> s.heap.FunFrames X.base l := by
  intro l
  induction l with
  | nil => intro _ _; trivial
  | cons env r ih =>
   intro hs hl
   obtain ⟨hk, ⟨L, o, hf, hn, ho, hd⟩, hr⟩ := hl
   have hL : L ∈ X.fs := hs L (by unfold frs; rw [List.filterMap_cons, hf]; exact List.mem_cons_self)
   obtain ⟨sl, e⟩ := I.base.slot L o ho (I.ok.frf L hL) hL fun z => I.ok.exfs L z hL
   exact ⟨hk, ⟨L, _, hf, hn, e, hd⟩, ih (fun b hb => hs b (by unfold frs; rw [List.filterMap_cons, hf]; exact List.mem_cons_of_mem _ hb)) hr⟩
 exact all X.outer (fun _ hb => hb) I.ok.funs
theorem Inv.stack (I : Inv X pins σ H s) : s.heap.FunFrames X.base X.stack := by
 rcases I.ok.stk with e | ⟨e, hf⟩
 ·rw [e]; exact I.funs
 ·rw [e]
  obtain ⟨m, hn, _⟩ := I.loc
  refine .cons (by rw [I.ok.kind]; decide) hf hn ?_ I.funs
  exact Heap.get?_none_of_le (Nat.le_trans I.ok.bsz I.ok.above)
theorem Inv.stkSub (I : Inv X pins σ H s) : ∀ b ∈ frs X.stack, b ∈ X.env.locals :: X.fs := fun b hb => by
 rcases I.ok.stk with e | ⟨e, hf⟩
 ·rw [e] at hb; exact List.mem_cons_of_mem _ hb
 ·rw [e] at hb
  unfold frs at hb
  rw [List.filterMap_cons, hf] at hb
  exact hb
theorem Inv.stkFree (I : Inv X pins σ H s) : ∀ b ∈ frs X.stack, H b = none := fun b hb => by
 rcases List.mem_cons.mp (I.stkSub b hb) with e | hb
 ·rw [e]; exact I.free
 ·obtain ⟨_, o, ho, _⟩ := I.ok.funs.mem hb
  exact I.base.free b o ho (I.ok.frf b hb) fun z => I.ok.exfs b z hb
theorem Inv.step {g' : Array GenState} {t' : Nat} {d' : Drawn} {ch : List Addr} (I : Inv X pins σ H s)
  (hch : ∀ b ∈ ch, (b ∈ X.ex \/ X.s₀.heap.objs.size <= b) /\ b ≠ X.env.locals /\ (∀ x c, X.env.cells.lookup x = some c -> c ≠ b) /\ ∀ p ∈ X.pn ++ pins, p.1 ≠ b)
  (keep : ∀ b o, b ≠ X.env.locals -> b ∉ X.fs -> b ∉ ch -> s.heap.get? b = some o -> H b = none -> h'.get? b = some o)
  (slot : ∀ b o, b ≠ X.env.locals -> b ∈ X.fs -> b ∉ ch -> s.heap.get? b = some o -> H b = none -> ∃ sl, h'.get? b = some { o with slots := sl }) (free : ∀ b o, b ∉ ch -> s.heap.get? b = some o -> H b = none -> H' b = none)
  (there : ∀ b o, b ∉ ch -> s.heap.get? b = some o -> ∃ o', h'.get? b = some o')
  (tups : ∀ b xs, H b = some (.tup xs) -> H' b = some (.tup xs)) (frzs : ∀ b o u, H b = some (.frz o u) -> H' b = some (.frz o u)) (tbls : ∀ b ps, H b = some (.tbl ps) -> ∃ more, H' b = some (.tbl (ps ++ more)))
  (ns : ∀ m, s.heap.Ns X.env.locals m -> h'.Ns X.env.locals m) (hok : HOk X.prog X.w H' h') (hg : AllBare g') :
  Inv X pins σ H' { s with heap := h', gens := g', drawn := d', toks := t' } := by
 have neL : ∀ b o, X.s₀.heap.get? b = some o -> b ≠ X.env.locals := fun b o e => Nat.ne_of_lt (Nat.lt_of_lt_of_le (Heap.lt_size e) I.ok.above)
 have neC : ∀ b o, X.s₀.heap.get? b = some o -> b ∉ X.ex -> b ∉ ch := fun b o e hx hb => by
  rcases (hch b hb).1 with z | z
  ·exact hx z
  ·exact absurd (Nat.lt_of_lt_of_le (Heap.lt_size e) z) (Nat.lt_irrefl _)
 have cellK : ∀ x c, X.env.cells.lookup x = some c -> ∀ v, s.heap.IsCell c v -> h'.IsCell c v := fun x c e v ⟨o, ho, hd⟩ => by
  have nch : c ∉ ch := fun z => (hch c z).2.2.1 x c e rfl
  by_cases hc : c ∈ X.fs
  ·obtain ⟨sl, q⟩ := slot c o (I.cne x c e) hc nch ho (I.freeC x c e)
   exact ⟨_, q, hd⟩
  ·exact ⟨o, keep c o (I.cne x c e) hc nch ho (I.freeC x c e), hd⟩
 refine ⟨I.ok, I.os, hg, ⟨fun b o e n hb hx => ?_, fun b o e n hb hx => ?_, fun b o e n hx => ?_, fun b o e hx => ?_, fun b xs e => tups b xs (I.base.tups b xs e), fun b o xs e => frzs b o xs (I.base.frzs b o xs e), fun b ps e => ?_⟩, ?_, fun x c e => ?_, ?_, fun x c e => ?_, fun p hp => ?_, hok, I.len⟩
 ·exact keep b o (neL b o e) hb (neC b o e hx) (I.base.keep b o e n hb hx) (I.base.free b o e n hx)
 ·obtain ⟨sl, e1⟩ := I.base.slot b o e n hb hx
  obtain ⟨sl', e2⟩ := slot b _ (neL b o e) hb (neC b o e hx) e1 (I.base.free b o e n hx)
  exact ⟨sl', e2⟩
 ·obtain ⟨o', e1⟩ := I.base.there b o e hx
  exact free b o' (neC b o e hx) e1 (I.base.free b o e n hx)
 ·obtain ⟨o', e1⟩ := I.base.there b o e hx
  exact there b o' (neC b o e hx) e1
 ·obtain ⟨m1, e1⟩ := I.base.tbls b ps e
  obtain ⟨m2, e2⟩ := tbls b _ e1
  exact ⟨m1 ++ m2, by rw [e2, Array.append_assoc]⟩
 ·obtain ⟨m, hn, hl⟩ := I.loc
  refine ⟨m, ns m hn, fun i x v e1 e2 e3 => ?_⟩
  obtain ⟨u, r, l⟩ := hl i x v e1 e2 e3
  refine ⟨u, r, ?_⟩
  rcases l with l | ⟨k, c, e, z⟩
  ·exact .inl l
  ·exact .inr ⟨k, c, e, cellK x c e _ z⟩
 ·obtain ⟨v, z⟩ := I.cell x c e
  exact ⟨v, cellK x c e v z⟩
 ·obtain ⟨m, ⟨o, _, _, ho, _⟩, _⟩ := I.loc
  exact free _ o (fun z => (hch _ z).2.1 rfl) ho I.free
 ·obtain ⟨v, o, ho, hd⟩ := I.cell x c e
  exact free c o (fun z => (hch c z).2.2.1 x c e rfl) ho (I.freeC x c e)
 ·obtain ⟨e, n, ne, nf, d⟩ := I.pin p hp
  have nch : p.1 ∉ ch := fun z => (hch p.1 z).2.2.2 p hp rfl
  exact ⟨keep p.1 p.2 ne nf nch e n, free p.1 p.2 nch e n, ne, nf, d⟩
theorem Inv.un {t' : Nat} (I : Inv X pins σ H s) (u : Un X.fs [] H H' s.heap h') (hok : HOk X.prog X.w H' h') : Inv X pins σ H' { s with heap := h', toks := t' } := by
 obtain ⟨m, ⟨o, es, ep, ho, r⟩, _⟩ := id I.loc
 obtain ⟨sl, hL⟩ := u.any ho I.free (by simp)
 exact I.step (g' := s.gens) (d' := s.drawn) (ch := []) (fun _ z => nomatch z) (fun b o _ hb _ e n => u.keep b o e n hb (by simp)) (fun b o _ hb _ e n => u.slot b o e n hb (by simp)) (fun b o _ e n => u.free b o e n (by simp)) (fun b o _ e => u.there b o e (by simp)) u.tups u.frzs u.tbls (fun m' hm => by
  obtain ⟨o', es', ep', ho', r'⟩ := hm
  rw [ho] at ho'; cases ho'
  exact ⟨_, es', ep', hL, r'⟩) hok I.bare
theorem Inv.call {g' : Array GenState} {t' : Nat} {d' : Drawn} {ch : List Addr} (I : Inv X pins σ H s) (u : Un (frs X.stack) ch H H' s.heap h') (hok : HOk X.prog X.w H' h') (hg : AllBare g')
  (hch : ∀ b ∈ ch, (b ∈ X.ex \/ X.s₀.heap.objs.size <= b) /\ b ≠ X.env.locals /\ (∀ x c, X.env.cells.lookup x = some c -> c ≠ b) /\ ∀ p ∈ X.pn ++ pins, p.1 ≠ b) :
  Inv X pins σ H' { s with heap := h', gens := g', drawn := d', toks := t' } := by
 obtain ⟨m, ⟨o, es, ep, ho, r⟩, _⟩ := id I.loc
 obtain ⟨sl, hL⟩ := u.any ho I.free fun z => (hch _ z).2.1 rfl
 exact I.step (ch := ch) hch (fun b o hL hb hc e n => u.keep b o e n (fun z => (List.mem_cons.mp (I.stkSub b z)).elim hL hb) hc) (fun b o _ _ hc e n => u.any e n hc) (fun b o hc e n => u.free b o e n hc) (fun b o hc e => u.there b o e hc) u.tups u.frzs u.tbls (fun m' hm => by
  obtain ⟨o', es', ep', ho', r'⟩ := hm
  rw [ho] at ho'; cases ho'
  exact ⟨_, es', ep', hL, r'⟩) hok hg
theorem Inv.turned {t' : Nat} {it : Addr} (I : Inv X pins σ H s) (k : ∀ b o, b ≠ it -> s.heap.get? b = some o -> h'.get? b = some o) (hn : H it = none) (hL : it ≠ X.env.locals)
  (h1 : it ∈ X.ex \/ X.s₀.heap.objs.size <= it) (h2 : ∀ x c, X.env.cells.lookup x = some c -> c ≠ it) (h3 : ∀ p ∈ X.pn ++ pins, p.1 ≠ it) : Inv X pins σ H { s with heap := h', toks := t' } := by
 have nit : ∀ b u, H b = some u -> b ≠ it := fun b u e z => by rw [z, hn] at e; cases e
 refine I.step (g' := s.gens) (d' := s.drawn) (ch := [it]) (fun b hb => ?_) (fun b o _ _ hc e _ => k b o (fun z => hc (by simp [z])) e) (fun b o _ _ hc e _ => ⟨o.slots, k b o (fun z => hc (by simp [z])) e⟩) (fun _ _ _ _ n => n)
  (fun b o hc e => ⟨o, k b o (fun z => hc (by simp [z])) e⟩) (fun _ _ e => e) (fun _ _ _ e => e) (fun b ps e => ⟨#[], by rw [e]; simp⟩) (fun m hm => ?_) (fun b u e => ?_) I.bare
 ·have e : b = it := by simpa using hb
  subst e
  exact ⟨h1, hL, h2, h3⟩
 ·obtain ⟨o, es, ep, ho, r⟩ := hm
  exact ⟨o, es, ep, k _ o (Ne.symm hL) ho, r⟩
 ·refine (I.hok b u e).stay (fun c v hc q => k c v ?_ q) (fun _ q => q) fun _ _ q => q
  rcases hc with z | z
  ·rw [z]; exact nit b u e
  ·exact nit c _ z
theorem Inv.tok (I : Inv X pins σ H s) (t : Nat) : Inv X pins σ H { s with toks := t } := I.un (h' := s.heap) (t' := t) Un.refl I.hok
theorem Inv.kept {t' : Nat} (I : Inv X pins σ H s) (k : ∀ b u, s.heap.get? b = some u -> h'.get? b = some u) : Inv X pins σ H { s with heap := h', toks := t' } := I.un (Un.kept k) (I.hok.kept k)
theorem Inv.laid {a : Addr} {o : HO} {t' : Nat} (I : Inv X pins σ H s) (k : ∀ b u, s.heap.get? b = some u -> h'.get? b = some u) (hp : s.heap.objs.size <= a) (new : Xa5 X.prog X.w (upd H a o) h' a o) :
  Inv X pins σ (upd H a o) { s with heap := h', toks := t' } := I.un (Un.laid k hp (I.hok.fresh hp)) (I.hok.laid k hp new)
theorem Inv.write {x e : Addr} {o : HO} {t' : Nat} (I : Inv X pins σ H s) (mu : Mut (H x)) (he : e = x \/ H e = some (.own x)) (k : ∀ b u, b ≠ e -> s.heap.get? b = some u -> h'.get? b = some u) (heo : ∃ u, h'.get? e = some u)
  (new : Xa5 X.prog X.w (upd H x o) h' x o) : Inv X pins σ (upd H x o) { s with heap := h', toks := t' } := I.un (Un.write mu he k heo) (I.hok.write mu he k heo new)
theorem Inv.pins_of {pins' : List (Addr × Obj)} (I : Inv X pins σ H s) (h : ∀ p ∈ pins', s.heap.get? p.1 = some p.2 /\ H p.1 = none /\ p.1 ≠ X.env.locals /\ p.1 ∉ X.fs /\ ∀ v, p.2.data ≠ .cell v) : Inv X pins' σ H s :=
 ⟨I.ok, I.os, I.bare, I.base, I.loc, I.cell, I.free, I.freeC, fun p hp => (List.mem_append.mp hp).elim (fun z => I.pin p (List.mem_append_left _ z)) (h p), I.hok, I.len⟩
theorem Xka {N : List Str} (hN : N.Nodup) {i j : Nat} {x : Str} (a : N[i]? = some x) (b : N[j]? = some x) : i = j := by
 obtain ⟨h1, e1⟩ := List.getElem?_eq_some_iff.mp a
 obtain ⟨h2, e2⟩ := List.getElem?_eq_some_iff.mp b
 exact (List.getElem_inj hN).mp (e1.trans e2.symm)
theorem Xhg {M : Model} {A : Around} {E : Value -> Shared -> Prop} {i : Nat} {x : Str} {v : V} {u : Value} {Q : Unit -> Shared -> Prop} (I : Inv X pins σ H s) (hN : X.N.Nodup) (hi : X.N[i]? = some x) (hx : Loc X.env.scope x) (r : RelV v u)
  (h : ∀ s', Inv X pins (σ.set i (some v)) H s' -> (∃ a, Heap.SameBut a s.heap s'.heap /\ (a = X.env.locals \/ X.env.cells.lookup x = some a)) -> Q () s') (hf : X.fn x = true \/ X.env.scope.names.lookup x = some .local := by first | exact .inl rfl | exact .inr rfl | assumption) : wpAny M A (storeName X.env x u) Q E s := by
 obtain ⟨m, hn, hl⟩ := id I.loc
 have hcls : (X.env.scope.kind == .class || (X.env.scope.kind == .module && X.env.locals != X.env.globals)) = false := by rw [I.ok.kind]; rfl
 have hiσ : i < σ.length := by rw [I.len]; exact (List.getElem?_eq_some_iff.mp hi).1
 have cne := I.cne
 have tracked : ∀ {a : Addr} {h' : Heap}, (∃ o, s.heap.get? a = some o /\ H a = none) -> Heap.SameBut a s.heap h' -> HOk X.prog X.w H h' := fun {a h'} ha hs b ob e => by
  obtain ⟨_, _, hfree⟩ := ha
  refine (I.hok b ob e).stay (fun c w' hc q => (hs.2 c ?_).trans q) (fun _ q => q) fun _ _ q => q
  rintro rfl
  rcases hc with rfl | hc
  ·rw [hfree] at e; cases e
  ·rw [hfree] at hc; cases hc
 rcases hx with hk | hk
 ·refine wpAny_storeName_local hk hn (fun h' hn' hs => ?_) hcls
  obtain ⟨oL, _, _, hoL, _⟩ := id hn
  refine h _ ⟨I.ok, I.os, I.bare, ⟨fun b o e n hb hx => ?_, fun b o e n hb hx => ?_, I.base.free, fun b o e hx => ?_, I.base.tups, I.base.frzs, I.base.tbls⟩, ⟨_, hn', fun j y v' e1 e2 e3 => ?_⟩, fun y c e => ?_, I.free, I.freeC, fun p hp => ?_, tracked ⟨oL, hoL, I.free⟩ hs, by simpa using I.len⟩ ⟨_, hs, .inl rfl⟩
  ·exact (hs.2 b (Nat.ne_of_lt (Nat.lt_of_lt_of_le (Heap.lt_size e) I.ok.above))).trans (I.base.keep b o e n hb hx)
  ·obtain ⟨sl, e1⟩ := I.base.slot b o e n hb hx
   exact ⟨sl, (hs.2 b (Nat.ne_of_lt (Nat.lt_of_lt_of_le (Heap.lt_size e) I.ok.above))).trans e1⟩
  ·obtain ⟨o', e1⟩ := I.base.there b o e hx
   exact ⟨o', (hs.2 b (Nat.ne_of_lt (Nat.lt_of_lt_of_le (Heap.lt_size e) I.ok.above))).trans e1⟩
  ·by_cases hj : j = i
   ·subst hj
    rw [hi] at e1; cases e1
    rw [List.getElem?_set_self hiσ] at e2
    cases e2
    exact ⟨u, r, .inl ⟨hk, by simp⟩⟩
   ·rw [List.getElem?_set_ne (Ne.symm hj)] at e2
    obtain ⟨u', r', q⟩ := hl j y v' e1 e2 e3
    refine ⟨u', r', ?_⟩
    rcases q with ⟨k, e⟩ | ⟨k, c, e, z⟩
    ·refine .inl ⟨k, ?_⟩
     have : y ≠ x := fun e => hj (Xka hN e1 (e ▸ hi))
     simp [this, e]
    ·exact .inr ⟨k, c, e, z.sameBut hs (cne y c e)⟩
  ·obtain ⟨w', z⟩ := I.cell y c e
   exact ⟨w', z.sameBut hs (cne y c e)⟩
  ·obtain ⟨e, n, ne, nf, d⟩ := I.pin p hp
   exact ⟨(hs.2 p.1 ne).trans e, n, ne, nf, d⟩
 ·have hfn : X.fn x = true := by
   rcases hf with z | z
   ·exact z
   ·rw [z] at hk; cases hk
  obtain ⟨c, hc⟩ := I.ok.has x (.inl hk)
  obtain ⟨w', z⟩ := I.cell x c hc
  refine wpAny_storeName_cell I.ok.kind hk hc z (fun h' hc' hs => ?_)
  obtain ⟨oc, hoc, hocd⟩ := id z
  refine h { s with heap := h' } ⟨I.ok, I.os, I.bare, ⟨fun b o e n hb hx => ?_, fun b o e n hb hx => ?_, I.base.free, fun b o e hx => ?_, I.base.tups, I.base.frzs, I.base.tbls⟩, ⟨m, hn.sameBut hs (Ne.symm (cne x c hc)), fun j y v' e1 e2 e3 => ?_⟩, fun y c' e => ?_, I.free, I.freeC, fun p hp => ?_, tracked ⟨oc, hoc, I.freeC x c hc⟩ hs, by simpa using I.len⟩ ⟨c, hs, .inr hc⟩
  ·exact (hs.2 b (Nat.ne_of_lt (Nat.lt_of_lt_of_le (Heap.lt_size e) (I.ok.cab x c hfn hc)))).trans (I.base.keep b o e n hb hx)
  ·obtain ⟨sl, e1⟩ := I.base.slot b o e n hb hx
   exact ⟨sl, (hs.2 b (Nat.ne_of_lt (Nat.lt_of_lt_of_le (Heap.lt_size e) (I.ok.cab x c hfn hc)))).trans e1⟩
  ·obtain ⟨o', e1⟩ := I.base.there b o e hx
   exact ⟨o', (hs.2 b (Nat.ne_of_lt (Nat.lt_of_lt_of_le (Heap.lt_size e) (I.ok.cab x c hfn hc)))).trans e1⟩
  ·by_cases hj : j = i
   ·subst hj
    rw [hi] at e1; cases e1
    rw [List.getElem?_set_self hiσ] at e2
    cases e2
    exact ⟨u, r, .inr ⟨.inl hk, c, hc, hc'⟩⟩
   ·rw [List.getElem?_set_ne (Ne.symm hj)] at e2
    obtain ⟨u', r', q⟩ := hl j y v' e1 e2 e3
    refine ⟨u', r', ?_⟩
    rcases q with q | ⟨k, c', e, z'⟩
    ·exact .inl q
    ·refine .inr ⟨k, c', e, z'.sameBut hs ?_⟩
     rintro rfl
     exact hj (Xka hN e1 (I.ok.inj _ _ _ e hc ▸ hi))
  ·by_cases hcc : c' = c
   ·subst hcc; exact ⟨_, hc'⟩
   ·obtain ⟨w2, z2⟩ := I.cell y c' e
    exact ⟨w2, z2.sameBut hs hcc⟩
  ·obtain ⟨e, n, ne, nf, d⟩ := I.pin p hp
   refine ⟨(hs.2 p.1 ?_).trans e, n, ne, nf, d⟩
   intro q
   rw [q, hoc] at e
   have q' : oc = p.2 := Option.some.inj e
   exact d w' (by rw [<- q']; exact hocd)
theorem Xkb {M : Model} {A : Around} {E : Value -> Shared -> Prop} {i : Nat} {x : Str} {v : V} {u : Value} {Q : Unit -> Shared -> Prop} (I : Inv X pins σ H s) (hN : X.N.Nodup) (hi : X.N[i]? = some x) (hx : Loc X.env.scope x) (r : RelV v u)
  (h : ∀ s', Inv X pins (σ.set i (some v)) H s' -> Q () s') (hf : X.fn x = true \/ X.env.scope.names.lookup x = some .local := by first | exact .inl rfl | exact .inr rfl | assumption) : wpAny M A (storeName X.env x u) Q E s :=
 Xhg I hN hi hx r (fun s' I' _ => h s' I') hf
theorem Inv.call' {s' : Shared} {ch : List Addr} (I : Inv X pins σ H s) (ho : s'.os = s.os) (u : Un (frs X.stack) ch H H' s.heap s'.heap) (hok : HOk X.prog X.w H' s'.heap) (hg : AllBare s'.gens)
  (hch : ∀ b ∈ ch, (b ∈ X.ex \/ X.s₀.heap.objs.size <= b) /\ b ≠ X.env.locals /\ (∀ x c, X.env.cells.lookup x = some c -> c ≠ b) /\ ∀ p ∈ X.pn ++ pins, p.1 ≠ b) : Inv X pins σ H' s' := by
 obtain ⟨h', g', d', t', o'⟩ := s'
 have e : o' = s.os := ho
 subst e
 exact I.call (g' := g') (t' := t') (d' := d') u hok hg hch
end
abbrev XK := Value -> Option Addr -> Hp -> Prop
abbrev St := List (Option V)
abbrev VK := V -> Hp -> Prop
abbrev TE := St -> Hp -> VK -> Prop
abbrev TT := St -> Hp -> (Bool -> Hp -> Prop) -> Prop
abbrev TA := St -> Hp -> (List V -> Hp -> Prop) -> Prop
structure Ends where
 nx : St -> Hp -> Prop
 rt : VK
 bk : St -> Hp -> Prop := fun _ _ => False
 ct : St -> Hp -> Prop := fun _ _ => False
abbrev TS := Ends -> St -> Hp -> Prop
def EP (X : Cx) (pins : List (Addr × Obj)) (σ : St) (Q : VK) (u : Value) (s' : Shared) : Prop := ∃ v H', Inv X pins σ H' s' /\ RelV v u /\ Q v H'
def TP (X : Cx) (pins : List (Addr × Obj)) (σ : St) (Q : Bool -> Hp -> Prop) (b : Bool) (s' : Shared) : Prop := ∃ H', Inv X pins σ H' s' /\ Q b H'
def AP (X : Cx) (pins : List (Addr × Obj)) (σ : St) (Q : List V -> Hp -> Prop) (us : List Value) (s' : Shared) : Prop := ∃ vs H', Inv X pins σ H' s' /\ Vals vs us /\ Q vs H'
def SP (X : Cx) (pins : List (Addr × Obj)) (D : Ends) (f : Flow) (s' : Shared) : Prop :=
 match f with
 | .next => ∃ σ' H', Inv X pins σ' H' s' /\ D.nx σ' H'
 | .brk => ∃ σ' H', Inv X pins σ' H' s' /\ D.bk σ' H'
 | .cont => ∃ σ' H', Inv X pins σ' H' s' /\ D.ct σ' H'
 | .ret u => ∃ v σ' H', Inv X pins σ' H' s' /\ RelV v u /\ D.rt v H'
def PE (X : Cx) (e : Expr) (t : TE) : Prop :=
 ∀ (pins : List (Addr × Obj)) (s : Shared) (σ : St) (H : Hp) (Q : VK), Inv X pins σ H s -> t σ H Q -> wpAny (model X.prog X.w) X.A (eval e X.env) (EP X pins σ Q) X.xe s
def PT (X : Cx) (e : Expr) (t : TT) : Prop :=
 ∀ (pins : List (Addr × Obj)) (s : Shared) (σ : St) (H : Hp) (Q : Bool -> Hp -> Prop), Inv X pins σ H s -> t σ H Q -> wpAny (model X.prog X.w) X.A (isTrue e X.env (eval e X.env)) (TP X pins σ Q) X.xe s
def PW (X : Cx) (e : Expr) (t : TT) : Prop :=
 ∀ (whole : Sem Value) (pins : List (Addr × Obj)) (s : Shared) (σ : St) (H : Hp) (Q : Bool -> Hp -> Prop), Inv X pins σ H s -> t σ H Q -> wpAny (model X.prog X.w) X.A (isTrue e X.env whole) (TP X pins σ Q) X.xe s
theorem PW.pt {X : Cx} {e : Expr} {t : TT} (h : PW X e t) : PT X e t := h _
def PA (X : Cx) (es : List Expr) (t : TA) : Prop :=
 ∀ (pos : Pos) (pins : List (Addr × Obj)) (s : Shared) (σ : St) (H : Hp) (Q : List V -> Hp -> Prop), Inv X pins σ H s -> t σ H Q -> wpAny (model X.prog X.w) X.A (spliced (backTo pos (starEach es X.env))) (AP X pins σ Q) X.xe s
def PS (X : Cx) (st : Stmt) (t : TS) : Prop :=
 ∀ (pins : List (Addr × Obj)) (s : Shared) (σ : St) (H : Hp) (D : Ends), Inv X pins σ H s -> t D σ H -> wpAny (model X.prog X.w) X.A (exec st X.env) (SP X pins D) X.xe s
def PSs (X : Cx) (st : List Stmt) (t : TS) : Prop :=
 ∀ (pins : List (Addr × Obj)) (s : Shared) (σ : St) (H : Hp) (D : Ends), Inv X pins σ H s -> t D σ H -> wpAny (model X.prog X.w) X.A (execs st X.env) (SP X pins D) X.xe s
theorem thn {α : Type} {t : Sem α} {Q Q' : α -> Shared -> Prop} {M : Model} {A : Around} {E : Value -> Shared -> Prop} {s : Shared} (h : wpAny M A t Q E s) (hQ : ∀ a s, Q a s -> Q' a s) : wpAny M A t Q' E s := wpAny_mono h hQ fun _ _ x => x
section
variable {X : Cx}
def tVar (i : Nat) : TE := fun σ H Q => ∃ v, σ[i]? = some (some v) /\ Q v H
def tC (v : V) : TE := fun _ H Q => Q v H
theorem pe_var {i : Nat} {x : Str} {pos : Pos} (hN : X.N[i]? = some x) (hv : Vis X.env.scope x) (hd : (x == ("__debug__" : Str)) = false := by decide) (hcd : (x == ("__classdict__" : Str)) = false := by decide) : PE X (.Name x pos) (tVar i) := by
 intro pins s σ H Q I h
 obtain ⟨v, e, h⟩ := h
 obtain ⟨m, hn, hl⟩ := I.loc
 obtain ⟨u, r, l⟩ := hl i x v hN e hv
 have fin : EP X pins σ Q u s := ⟨v, H, I, r, h⟩
 rcases l with ⟨hk, hm⟩ | ⟨hk, c, hc, hcell⟩
 ·exact wpAny_Name (wpAny_loadName_local I.ok.kind hk hn hm fin) hd
 ·rcases hk with hk | hk
  ·exact wpAny_Name (wpAny_loadName_cell I.ok.kind hk hc hcell fin) hd
  ·exact wpAny_Name (wpAny_loadName_free I.ok.kind hk hc hcell fin hcd) hd
theorem Xai {i j pos} : PE X (.Constant (.int i) j pos) (tC (.int i)) := fun _ _ _ H _ I h => wpAny_Constant_int ⟨.int i, H, I.tok _, ⟨_, rfl⟩, h⟩
theorem Xlb {b j pos} : PE X (.Constant (.bool b) j pos) (tC (.bl b)) := fun _ _ _ H _ I h => Constant_bool ⟨.bl b, H, I, rfl, h⟩
theorem Xa4 {x j pos} : PE X (.Constant (.str x) j pos) (tC (.str x)) := fun _ _ _ H _ I h => Calls.Constant_str ⟨.str x, H, I.tok _, ⟨_, rfl⟩, h⟩
def Gl (X : Cx) (x : Str) : Prop := X.env.kindOf x = some .globalImplicit
theorem Xma {E : Value -> Shared -> Prop} {pins : List (Addr × Obj)} {s : Shared} {σ : St} {H : Hp} {x : Str} {u : Value} {pos : Pos} {Q : Value -> Shared -> Prop} (I : Inv X pins σ H s) (hg : Gl X x) (hm : X.mg x = some u) (h : Q u s)
  (hd : (x == ("__debug__" : Str)) = false := by decide) : wpAny (model X.prog X.w) X.A (eval (.Name x pos) X.env) Q E s :=
 Calls.Name_function_global I.ok.kind hg (Calls.loadGlobal_global (by rw [I.ok.glob]; exact I.mod.glob.keeps I.bk) hm h) hd
theorem Xf6 {E : Value -> Shared -> Prop} {pins : List (Addr × Obj)} {s : Shared} {σ : St} {H : Hp} {x : Str} {u : Value} {pos : Pos} {Q : Value -> Shared -> Prop} (I : Inv X pins σ H s) (hg : Gl X x) (hm : X.mg x = none) (hv : bootBuiltins x = some u) (h : Q u s)
  (hn : x ≠ "__name__" := by decide) (hd : (x == ("__debug__" : Str)) = false := by decide) : wpAny (model X.prog X.w) X.A (eval (.Name x pos) X.env) Q E s := by
 obtain ⟨mb, h1, h2⟩ := I.mod.blt
 exact Calls.Name_function_global I.ok.kind hg (Calls.loadGlobal_builtin (by rw [I.ok.glob]; exact I.mod.glob.keeps I.bk) hm (by rw [I.ok.blt]; exact h1.keeps I.bk) ((h2 x hn).trans hv) h) hd
theorem Xi3 {x : Str} {v : V} {u : Value} {pos : Pos} (hg : Gl X x) (hm : X.mg x = none) (hv : bootBuiltins x = some u) (r : RelV v u) (hn : x ≠ "__name__" := by decide) (hd : (x == ("__debug__" : Str)) = false := by decide) : PE X (.Name x pos) (tC v) :=
 fun _ _ _ H _ I h => Xf6 I hg hm hv ⟨v, H, I, r, h⟩ hn hd
def t2I (ta tb : TE) (k : Int -> Int -> Hp -> Prop) : St -> Hp -> Prop := fun σ H => ta σ H fun x H1 => tb σ H1 fun y H2 => ∃ i j, x = .int i /\ y = .int j /\ k i j H2
def tMul (ta tb : TE) : TE := fun σ H Q => t2I ta tb (fun i j H2 => (-(2 ^ 64) < i /\ i < 2 ^ 64) /\ Q (.int (i * j)) H2) σ H
variable {a b : Expr} {ta tb : TE} {pos : Pos}
def tIsN (ta : TE) : TE := fun σ H Q => ta σ H fun x H1 => Q (.bl (decide (x = .non))) H1
def tB (t : TE) : TT := fun σ H Q => t σ H fun x H1 => ∃ c, x = .bl c /\ Q c H1
theorem Xkc {e : Expr} {t : TE} (h : PE X e t) (he : ∀ whole, isTrue e X.env whole = (do let v <- whole; standAt e.pos; holding [v] (truthy v)) := by intro _; rfl) : PT X e (tB t) := by
 intro pins s σ H Q I hw
 refine isTrue_plain (thn (h pins s σ H _ I hw) fun v s1 ⟨x, H1, I1, r1, q1⟩ => ?_) (he _)
 obtain ⟨d, rfl, q⟩ := q1
 cases r1
 exact wpAny_truthy_bool ⟨H1, I1, q⟩
variable {tA tB' : TT} {rest : List Expr}
def tAnd (t u : TT) : TT := fun σ H Q => t σ H fun c H1 => if c = true then u σ H1 Q else Q false H1
def tOr (t u : TT) : TT := fun σ H Q => t σ H fun c H1 => if c = true then Q true H1 else u σ H1 Q
def tNot (t : TT) : TT := fun σ H Q => t σ H fun c H1 => Q (!c) H1
theorem Xdf (ha : PT X a tA) : PW X (.BoolOp .And [a] pos) tA := by
 intro wh pins s σ H Q I h
 refine isTrue_and (thn (ha pins s σ H Q I h) fun c s1 e => ?_)
 cases c with
 | true => exact isTrue_and_nil e
 | false => exact e
theorem Xmb (ha : PT X a tA) : PW X (.BoolOp .Or [a] pos) tA := by
 intro wh pins s σ H Q I h
 refine isTrue_or (thn (ha pins s σ H Q I h) fun c s1 e => ?_)
 cases c with
 | false => exact isTrue_or_nil e
 | true => exact e
theorem Xe9 (ha : PT X a tA) (hb : PW X (.BoolOp .And (b :: rest) pos) tB') : PW X (.BoolOp .And (a :: b :: rest) pos) (tAnd tA tB') := by
 intro wh pins s σ H Q I h
 refine isTrue_and (thn (ha pins s σ H _ I h) fun c s1 ⟨H1, I1, q1⟩ => ?_)
 cases c with
 | true => exact hb wh pins s1 σ H1 Q I1 q1
 | false => exact ⟨H1, I1, q1⟩
theorem pw_or (ha : PT X a tA) (hb : PW X (.BoolOp .Or (b :: rest) pos) tB') : PW X (.BoolOp .Or (a :: b :: rest) pos) (tOr tA tB') := by
 intro wh pins s σ H Q I h
 refine isTrue_or (thn (ha pins s σ H _ I h) fun c s1 ⟨H1, I1, q1⟩ => ?_)
 cases c with
 | true => exact ⟨H1, I1, q1⟩
 | false => exact hb wh pins s1 σ H1 Q I1 q1
theorem pt_not (ha : PT X a tA) : PT X (.UnaryOp .Not a pos) (tNot tA) := by
 intro pins s σ H Q I h
 exact isTrue_not (ha pins s σ H (fun c H1 => Q (!c) H1) I h)
def tAndV (ta tb : TE) : TE := fun σ H Q => ta σ H fun x H1 => ∃ c, x = .bl c /\ if c = true then tb σ H1 Q else Q (.bl false) H1
theorem Xmc {op} {t : TE} (h : PE X a t) : PE X (.BoolOp op [a] pos) t := fun pins s σ H Q I hw => BoolOp_one (h pins s σ H Q I hw)
theorem Xmd (ha : PE X a ta) (hb : PE X (.BoolOp .And (b :: rest) pos) tb) : PE X (.BoolOp .And (a :: b :: rest) pos) (tAndV ta tb) := by
 intro pins s σ H Q I h
 refine BoolOp_and (thn (ha pins s σ H _ I h) fun v s1 ⟨x, H1, I1, r1, q1⟩ => ?_)
 obtain ⟨c, rfl, q1⟩ := q1
 cases r1
 refine wpAny_truthy_bool ?_
 cases c with
 | true => exact hb pins s1 σ H1 Q I1 q1
 | false => exact ⟨.bl false, H1, I1, rfl, q1⟩
def tIf (t : TT) (ta tb : TE) : TE := fun σ H Q => t σ H fun c H1 => if c = true then ta σ H1 Q else tb σ H1 Q
theorem Xgi {c : Expr} (hc : PT X c tA) (ha : PE X a ta) (hb : PE X b tb) : PE X (.IfExp c a b pos) (tIf tA ta tb) := by
 intro pins s σ H Q I h
 refine wpAny_IfExp (thn (hc pins s σ H _ I h) fun d s1 ⟨H1, I1, q1⟩ => ?_)
 cases d with
 | true => exact ha pins s1 σ H1 Q I1 q1
 | false => exact hb pins s1 σ H1 Q I1 q1
end
def SqL (K : PySem.W.Frag) (H : Hp) (a : Addr) (xs : List V) : Prop :=
 Rd H a (.lst xs) \/
  ∃ (o : Obj) (its : Array Value) (n : Nat), K.lookup a = some o /\ o.cls = .type "list" /\ o.dict = none /\ o.data = .seq its n /\ its.size <= sizeLine /\ Vals xs its.toList
def SqT (K : PySem.W.Frag) (H : Hp) (a : Addr) (xs : List V) : Prop :=
 Rd H a (.tup xs) \/
  ∃ (o : Obj) (its : Array Value) (n : Nat), K.lookup a = some o /\ o.cls = .type "tuple" /\ o.data = .seq its n /\ its.size <= sizeLine /\ Vals xs its.toList
def absV : Value -> Option V
 | .none => some .non
 | .bool b => some (.bl b)
 | .int i _ => some (.int i)
 | .str x _ => some (.str x)
 | .bytes b _ => some (.byt b)
 | .float b _ => some (.flt b)
 | .ref a => some (.ref a)
 | .type n => some (.ty n)
 | _ => none
theorem RelV.abs {x : V} {u : Value} (r : RelV x u) : absV u = some x := by
 cases x with
 | non => cases r; rfl
 | bl _ => cases r; rfl
 | int _ => obtain ⟨t, rfl⟩ := r; rfl
 | str _ => obtain ⟨t, rfl⟩ := r; rfl
 | byt _ => obtain ⟨t, rfl⟩ := r; rfl
 | flt _ => obtain ⟨t, rfl⟩ := r; rfl
 | ref _ => cases r; rfl
 | ty _ => cases r; rfl
theorem RelV.inj {x y : V} {u : Value} (r : RelV x u) (q : RelV y u) : x = y := Option.some.inj (r.abs.symm.trans q.abs)
theorem Vals.inj : ∀ {xs ys : List V} {us : List Value}, Vals xs us -> Vals ys us -> xs = ys
 | _, _, _, .nil, .nil => rfl
 | _, _, _, .cons r t, .cons r' t' => by rw [r.inj r', Vals.inj t t']
section
variable {X : Cx} {pins : List (Addr × Obj)} {σ : St} {H : Hp} {s : Shared} {a : Addr} {xs ys : List V}
theorem SqL.of {K : PySem.W.Frag} (h : H a = some (.lst xs)) : SqL K H a xs := .inl (.inl h)
theorem SqT.of {K : PySem.W.Frag} (h : H a = some (.tup xs)) : SqT K H a xs := .inl (.inl h)
theorem Inv.list (I : Inv X pins σ H s) (h : SqL X.K H a xs) : ∃ its : List Value, Vals xs its /\ PlainL s.heap a its.toArray /\ xs.length <= sizeLine := by
 rcases h with h | ⟨o, its, n, hk, hc, hd, hs, hz, r⟩
 ·obtain ⟨z, its, n, r, e⟩ := h.ok I.hok
  exact ⟨its, r, ⟨_, n, e, rfl, rfl, rfl⟩, z⟩
 ·refine ⟨its.toList, r, ⟨o, n, I.kIn a o hk, hc, hd, by simpa using hs⟩, ?_⟩
  have e := r.length
  simp only [Array.length_toList] at e
  omega
theorem Inv.tuple (I : Inv X pins σ H s) (h : SqT X.K H a xs) : ∃ its : List Value, Vals xs its /\ IsTup s.heap a its.toArray /\ xs.length <= sizeLine := by
 rcases h with h | ⟨o, its, n, hk, hc, hs, hz, r⟩
 ·obtain ⟨z, its, r, p⟩ := h.ok I.hok
  exact ⟨its, r, p, z⟩
 ·refine ⟨its.toList, r, ⟨o, I.kIn a o hk, hc, n, by simpa using hs⟩, ?_⟩
  have e := r.length
  simp only [Array.length_toList] at e
  omega
theorem Inv.list_inj (I : Inv X pins σ H s) (h : SqL X.K H a xs) (h' : SqL X.K H a ys) : xs = ys := by
 obtain ⟨its, r, ⟨o, n, e, _, _, d⟩, _⟩ := I.list h
 obtain ⟨its', r', ⟨o', n', e', _, _, d'⟩, _⟩ := I.list h'
 rw [e] at e'; cases e'
 rw [d] at d'
 injection d' with d1 _
 have : its = its' := by simpa using congrArg Array.toList d1
 subst this
 exact r.inj r'
theorem Inv.tuple_inj (I : Inv X pins σ H s) (h : SqT X.K H a xs) (h' : SqT X.K H a ys) : xs = ys := by
 obtain ⟨its, r, ⟨o, e, _, n, d⟩, _⟩ := I.tuple h
 obtain ⟨its', r', ⟨o', e', _, n', d'⟩, _⟩ := I.tuple h'
 rw [e] at e'; cases e'
 rw [d] at d'
 injection d' with d1 _
 have : its = its' := by simpa using congrArg Array.toList d1
 subst this
 exact r.inj r'
end
abbrev Cx.wish (X : Cx) (E : Value -> Shared -> Prop) : Cx := { X with xe := E }
abbrev Cx.nox (X : Cx) : Cx := X.wish fun _ _ => False
theorem Cx.Ok.wish {X : Cx} (ok : X.Ok) (E : Value -> Shared -> Prop) : (X.wish E).Ok :=
 ⟨ok.mod, ok.kind, ok.glob, ok.blt, ok.above, ok.inj, ok.has, ok.cab, ok.hd, ok.frames, ok.stk, ok.exf, ok.bs, ok.bsz, ok.noex, ok.exfs, ok.funs, ok.frf⟩
theorem Cx.Ok.unwish {X : Cx} {E : Value -> Shared -> Prop} (ok : (X.wish E).Ok) : X.Ok :=
 ⟨ok.mod, ok.kind, ok.glob, ok.blt, ok.above, ok.inj, ok.has, ok.cab, ok.hd, ok.frames, ok.stk, ok.exf, ok.bs, ok.bsz, ok.noex, ok.exfs, ok.funs, ok.frf⟩
section
variable {X : Cx} {pins : List (Addr × Obj)} {σ : St} {H : Hp} {s : Shared} {E : Value -> Shared -> Prop}
theorem Inv.wish (I : Inv X pins σ H s) (E : Value -> Shared -> Prop) : Inv (X.wish E) pins σ H s := ⟨I.ok.wish E, I.os, I.bare, I.base, I.loc, I.cell, I.free, I.freeC, I.pin, I.hok, I.len⟩
theorem Inv.unwish (I : Inv (X.wish E) pins σ H s) : Inv X pins σ H s := ⟨I.ok.unwish, I.os, I.bare, I.base, I.loc, I.cell, I.free, I.freeC, I.pin, I.hok, I.len⟩
theorem SP.unwish {D : Ends} {f : Flow} {s' : Shared} (h : SP (X.wish E) pins D f s') : SP X pins D f s' := by
 cases f with
 | next => obtain ⟨σ', H', I, q⟩ := h; exact ⟨σ', H', I.unwish, q⟩
 | brk => obtain ⟨σ', H', I, q⟩ := h; exact ⟨σ', H', I.unwish, q⟩
 | cont => obtain ⟨σ', H', I, q⟩ := h; exact ⟨σ', H', I.unwish, q⟩
 | ret u => obtain ⟨v, σ', H', I, r, q⟩ := h; exact ⟨v, σ', H', I.unwish, r, q⟩
theorem PSs.nox {st : List Stmt} {t : TS} (h : PSs X.nox st t) : PSs X st t := fun pins s σ H D I hw =>
 wpAny_mono (h pins s σ H D (I.wish _) hw) (fun _ _ q => q.unwish) fun _ _ z => False.elim z
end
section
variable {X : Cx} {st : Stmt} {rest : List Stmt} {t u : TS} {e : Expr} {te : TE} {pos : Pos}
def tNext : TS := fun D σ H => D.nx σ H
def tSeq (t u : TS) : TS := fun D σ H => t { D with nx := u D } σ H
theorem Xa8 : PSs X [] tNext := fun _ _ σ H _ I h => wpAny_execs_nil ⟨σ, H, I, h⟩
theorem Xac (h1 : PS X st t) (h2 : PSs X rest u) : PSs X (st :: rest) (tSeq t u) := by
 intro pins s σ H D I h
 refine wpAny_execs_cons (thn (h1 pins s σ H { D with nx := u D } I h) fun f s1 q => ?_)
 cases f with
 | next =>
  obtain ⟨σ', H', I', q⟩ := q
  exact h2 pins s1 σ' H' D I' q
 | ret v => exact q
 | brk => exact q
 | cont => exact q
theorem Xah (h1 : PS X st t) : PSs X [st] t := by
 intro pins s σ H D I h
 refine wpAny_execs_cons (thn (h1 pins s σ H D I h) fun f s1 q => ?_)
 cases f with
 | next => exact wpAny_execs_nil q
 | ret v => exact q
 | brk => exact q
 | cont => exact q
theorem Inv.quiet {pins : List (Addr × Obj)} {σ : St} {H : Hp} {s : Shared} (I : Inv X pins σ H s) : interactive X.env = false := by simp [interactive, I.ok.kind]
def tDrop (te : TE) : TS := fun D σ H => te σ H fun _ H1 => D.nx σ H1
theorem Xfa (he : PE X e te) (hs : swapsWith e none pos.line X.env = pure false := by rfl) : PS X (.Expr e pos) (tDrop te) := by
 intro pins s σ H D I h
 exact wpAny_Expr_any (thn (he pins s σ H _ I h) fun v s1 ⟨x, H1, I1, r1, q1⟩ => ⟨σ, H1, I1, q1⟩) I.quiet hs
def tRet (te : TE) : TS := fun D σ H => te σ H D.rt
theorem Xat (he : PE X e te) : PS X (.Return (some e) pos) (tRet te) := by
 intro pins s σ H D I h
 exact wpAny_Return_some (thn (he pins s σ H _ I h) fun v s1 ⟨x, H1, I1, r1, q1⟩ => ⟨x, σ, H1, I1, r1, q1⟩)
def tIfS (c : TT) (t u : TS) : TS := fun D σ H => c σ H fun b H1 => if b = true then t D σ H1 else u D σ H1
theorem Xct {c : Expr} {a b : List Stmt} {tc : TT} (hc : PT X c tc) (ha : PSs X a t) (hb : PSs X b u) : PS X (.If c a b pos) (tIfS tc t u) := by
 intro pins s σ H D I h
 refine wpAny_If (thn (hc pins s σ H _ I h) fun d s1 ⟨H1, I1, q1⟩ => ?_)
 cases d with
 | true => exact ha pins s1 σ H1 D I1 q1
 | false => exact hb pins s1 σ H1 D I1 q1
def tNever : TS := fun _ _ _ => False
end
abbrev TG := V -> St -> Hp -> (St -> Hp -> Prop) -> Prop
abbrev TGs := List V -> St -> Hp -> (St -> Hp -> Prop) -> Prop
def PG (X : Cx) (target : Expr) (t : TG) : Prop :=
 ∀ (pins : List (Addr × Obj)) (s : Shared) (σ : St) (H : Hp) (v : V) (u : Value) (Q : St -> Hp -> Prop), Inv X pins σ H s -> RelV v u -> t v σ H Q ->
  wpAny (model X.prog X.w) X.A (assign target X.env u) (fun _ s' => ∃ σ' H', Inv X pins σ' H' s' /\ Q σ' H') X.xe s
def PGs (X : Cx) (ts : List Expr) (t : TGs) : Prop :=
 ∀ (pins : List (Addr × Obj)) (s : Shared) (σ : St) (H : Hp) (vs : List V) (us : List Value) (Q : St -> Hp -> Prop), Inv X pins σ H s -> Vals vs us -> t vs σ H Q ->
  wpAny (model X.prog X.w) X.A (assignInOrder ((assignEach ts X.env).map (·.2)) us) (fun _ s' => ∃ σ' H', Inv X pins σ' H' s' /\ Q σ' H') X.xe s
abbrev TSet := V -> V -> V -> Hp -> (Hp -> Prop) -> Prop
def PSet (X : Cx) (t : TSet) : Prop :=
 ∀ (pins : List (Addr × Obj)) (s : Shared) (σ : St) (H : Hp) (o i v : V) (ov iv u : Value) (Q : Hp -> Prop), Inv X pins σ H s -> RelV o ov -> RelV i iv -> RelV v u -> t o i v H Q ->
  wpAny (model X.prog X.w) X.A (setItem ov iv u) (fun _ s' => ∃ H', Inv X pins σ H' s' /\ Q H') X.xe s
abbrev TIp := V -> V -> Hp -> VK -> Prop
section
variable {X : Cx} {pos : Pos}
def Xdm (i : Nat) : TG := fun v σ H Q => Q (σ.set i (some v)) H
theorem Xao {i : Nat} {x : Str} (hN : X.N.Nodup) (hi : X.N[i]? = some x) (hx : Loc X.env.scope x) (hf : X.fn x = true \/ X.env.scope.names.lookup x = some .local := by first | exact .inl rfl | exact .inr rfl | assumption) : PG X (.Name x pos) (Xdm i) := by
 intro pins s σ H v u Q I r h
 exact wpAny_assign_Name (Xkb I hN hi hx r (fun s' I' => ⟨_, H, I', h⟩) hf)
def gNil : TGs := fun vs σ H Q => vs = [] /\ Q σ H
def gCons (t : TG) (u : TGs) : TGs := fun vs σ H Q => ∃ v r, vs = v :: r /\ t v σ H fun σ' H' => u r σ' H' Q
theorem Xgj : PGs X [] gNil := by
 intro pins s σ H vs us Q I r h
 obtain ⟨e, h⟩ := h
 subst e
 cases r
 exact assignInOrder_nil ⟨σ, H, I, h⟩
theorem Xbt {e : Expr} {es : List Expr} {t : TG} {u : TGs} (h1 : PG X e t) (h2 : PGs X es u)
  (hs : (assignEach (e :: es) X.env).map (·.2) = assign e X.env :: (assignEach es X.env).map (·.2) := by rfl) : PGs X (e :: es) (gCons t u) := by
 intro pins s σ H vs us Q I r h
 obtain ⟨v, vr, e1, h⟩ := h
 subst e1
 cases r with
 | cons r rr =>
  rw [hs]
  refine assignInOrder_cons (thn (h1 pins s σ H _ _ _ I r h) fun _ s1 ⟨σ1, H1, I1, q1⟩ => ?_)
  exact h2 pins s1 σ1 H1 _ _ Q I1 rr q1
def gTup (K : PySem.W.Frag) (n : Nat) (t : TGs) : TG := fun v σ H Q => ∃ a xs, v = .ref a /\ SqT K H a xs /\ xs.length = n /\ t xs σ H Q
theorem pg_tup {es : List Expr} {k : Nat} {t : TGs} {n : Nat} (hc : X.calm = true) (h : PGs X es t)
  (hn : (assignEach es X.env).length = n := by rfl) (hst : (assignEach es X.env).findIdx? (·.1) = none := by rfl) : PG X (.Tuple es k pos) (gTup X.K n t) := by
 intro pins s σ H v u Q I r hw
 obtain ⟨a, xs, e1, hq, hl, hw⟩ := hw
 subst e1
 cases r
 obtain ⟨its, rv, ht, hz⟩ := I.tuple hq
 refine assign_Tuple_tuple (I.ok.hd hc) ht (by simp [hn, <- hl, rv.length]) hst fun h' hx => ?_
 have I1 : Inv X pins σ H { s with heap := h' } := I.kept (t' := s.toks) fun b o e => hx b o (Nat.ne_of_lt (Heap.lt_size e)) e
 exact h pins _ σ H xs _ Q I1 (by simpa using rv) hw
def gSub (to ti : TE) (t : TSet) : TG := fun v σ H Q => to σ H fun o H1 => ti σ H1 fun i H2 => t o i v H2 fun H3 => Q σ H3
theorem Xfb {o i : Expr} {to ti : TE} {t : TSet} (ho : PE X o to) (hi : PE X i ti) (hs : PSet X t)
  (ha : ∀ v, assign (.Subscript o i pos) X.env v = (do
   let ov <- holding [v] (eval o X.env)
   let iv <- holding [v, ov] (eval i X.env)
   standAt pos
   holding [v, ov, iv] (setItem ov iv v)
   release [v, ov, iv] []) := by intro _; rfl) : PG X (.Subscript o i pos) (gSub to ti t) := by
 intro pins s σ H v u Q I r h
 rw [ha]
 refine wpAny_bind (wpAny_holding (thn (ho pins s σ H _ I h) fun ov s1 ⟨x, H1, I1, r1, q1⟩ => ?_))
 refine wpAny_bind (wpAny_holding (thn (hi pins s1 σ H1 _ I1 q1) fun iv s2 ⟨y, H2, I2, r2, q2⟩ => ?_))
 refine wpAny_bind (wpAny_standAt (wpAny_bind (wpAny_holding (thn (hs pins s2 σ H2 x y v ov iv u _ I2 r1 r2 r q2) fun _ s3 ⟨H3, I3, q3⟩ => ?_))))
 exact wpAny_release ⟨σ, H3, I3, q3⟩
def tAsg (te : TE) (g : TG) : TS := fun D σ H => te σ H fun x H1 => g x σ H1 D.nx
theorem Xen {tg e : Expr} {te : TE} {g : TG} (he : PE X e te) (hg : PG X tg g) (hs : swapsWithSole [tg] e pos.line X.env = pure false := by rfl) (hw : swappedStores [tg] e X.env = pure none := by rfl)
  (h1 : (assignEach [tg] X.env).map (·.2) = [assign tg X.env] := by rfl) : PS X (.Assign [tg] e pos) (tAsg te g) := by
 intro pins s σ H D I h
 refine wpAny_Assign_stores (thn (he pins s σ H _ I h) fun v s1 ⟨x, H1, I1, r1, q1⟩ => ?_) hs hw
 rw [h1]
 exact thn (hg pins s1 σ H1 x v _ I1 r1 q1) fun _ s2 q => q
theorem Xal {i : Nat} {x : Str} {e : Expr} {te : TE} {pos' : Pos} (hN : X.N.Nodup) (hi : X.N[i]? = some x) (hx : Loc X.env.scope x) (he : PE X e te) (hs : swapsWith e (some (.Name x pos')) pos.line X.env = pure false := by rfl) (hf : X.fn x = true \/ X.env.scope.names.lookup x = some .local := by first | exact .inl rfl | exact .inr rfl | assumption) :
  PS X (.Assign [.Name x pos'] e pos) (tAsg te (Xdm i)) := by
 intro pins s σ H D I h
 refine wpAny_Assign_Name (thn (he pins s σ H _ I h) fun v s1 ⟨y, H1, I1, r1, q1⟩ => ?_) hs
 exact Xkb I1 hN hi hx r1 (fun s2 I2 => ⟨_, H1, I2, q1⟩) hf
def tPar (i j : Nat) (ta : TA) : TS := fun D σ H => ta σ H fun vs H1 => ∃ v w, vs = [v, w] /\ D.nx ((σ.set i (some v)).set j (some w)) H1
def tAug (i : Nat) (te : TE) (ti : TIp) : TS := fun D σ H => ∃ x, σ[i]? = some (some x) /\ te σ H fun y H1 => ti x y H1 fun z H2 => D.nx (σ.set i (some z)) H2
def tAugS (to ti te : TE) (tget : V -> V -> Hp -> VK -> Prop) (tip : TIp) (tset : TSet) : TS := fun D σ H => to σ H fun o H1 => ti σ H1 fun i H2 => tget o i H2 fun x H3 => te σ H3 fun y H4 => tip x y H4 fun z H5 => tset o i z H5 fun H6 => D.nx σ H6
def PGet (X : Cx) (t : V -> V -> Hp -> VK -> Prop) : Prop :=
 ∀ (pins : List (Addr × Obj)) (s : Shared) (σ : St) (H : Hp) (o i : V) (ov iv : Value) (Q : VK), Inv X pins σ H s -> RelV o ov -> RelV i iv -> t o i H Q ->
  wpAny (model X.prog X.w) X.A (getItem ov iv) (EP X pins σ Q) X.xe s
def ipI (f : Int -> Int -> Int) : TIp := fun x y H Q => ∃ i j, x = .int i /\ y = .int j /\ Q (.int (f i j)) H
end
section
variable {X : Cx} {pos : Pos}
def tWhile (c : TT) (tb : TS) : TS := fun D σ H => ∃ W : Nat -> St -> Hp -> Prop, (∃ m, W m σ H) /\ ∀ m σ H, W m σ H ->
 c σ H fun b H1 => if b = true then ∃ N : St -> Hp -> Prop, (∀ σ' H', N σ' H' -> ∃ m', m' < m /\ W m' σ' H') /\ tb { D with nx := N, ct := N, bk := D.nx } σ H1 else D.nx σ H1
end
structure It where
 go : Nat -> Hp -> Prop
 yld : Nat -> Hp -> V -> Hp -> Prop
 stop : Nat -> Hp -> Prop
def FpOk (X : Cx) (pins : List (Addr × Obj)) (H : Hp) (b : Addr) : Prop :=
 H b = none /\ b ≠ X.env.locals /\ b ∉ X.fs /\ (b ∈ X.ex \/ X.s₀.heap.objs.size <= b) /\ (∀ x c, X.env.cells.lookup x = some c -> c ≠ b) /\ ∀ p ∈ X.pn ++ pins, p.1 ≠ b
theorem Inv.fpOk {X : Cx} {pins : List (Addr × Obj)} {σ : St} {H H' : Hp} {s : Shared} {b : Addr} (I : Inv X pins σ H s) (hb : s.heap.objs.size <= b) (hn : H' b = none) : FpOk X pins H' b := by
 refine ⟨hn, Nat.ne_of_gt (Nat.lt_of_lt_of_le I.lt hb), I.nofs hb, .inr (Nat.le_trans I.sz hb), fun x c e z => ?_, fun p hp z => ?_⟩
 ·obtain ⟨v, q⟩ := I.cell x c e
  exact absurd (Nat.lt_of_lt_of_le q.lt (by rw [z]; exact hb)) (Nat.lt_irrefl _)
 ·exact absurd (Nat.lt_of_lt_of_le (Heap.lt_size (I.pin p hp).1) (by rw [z]; exact hb)) (Nat.lt_irrefl _)
structure Turn (P : Program) (w : World) (K : PySem.W.Frag) (tg : Expr) (J : It) (fp : List Addr) (it : Addr) (tn : Nat -> Heap -> Prop) : Prop where
 mem : it ∈ fp
 obj : ∀ i h, tn i h -> ∀ b ∈ fp, ∃ o, h.get? b = some o /\ ∀ v, o.data ≠ .cell v
 keep : ∀ i h h', tn i h -> (∀ b ∈ fp, ∀ o, h.get? b = some o -> h'.get? b = some o) -> tn i h'
 item : ∀ (X : Cx), X.prog = P -> X.w = w -> X.K = K -> X.calm = true -> ∀ (i : Nat) (pins : List (Addr × Obj)) (s : Shared) (σ : St) (H : Hp) (E : Value -> Shared -> Prop), Inv X pins σ H s -> (∀ b ∈ fp, FpOk X pins H b) -> tn i s.heap -> J.go i H ->
  wpAny (model P w) X.A (pyNext (.ref it)) (fun r s1 => ∃ u, r = some u /\
   wpAny (model P w) X.A (letOwnedTupleGo tg (.ref it) u) (fun _ s2 => ∃ x H', Inv X pins σ H' s2 /\ RelV x u /\ J.yld i H x H' /\ tn (i + 1) s2.heap /\ ∀ b ∈ fp, H' b = none) E s1) E s
 done : ∀ (X : Cx), X.prog = P -> X.w = w -> X.K = K -> X.calm = true -> ∀ (i : Nat) (pins : List (Addr × Obj)) (s : Shared) (σ : St) (H : Hp) (E : Value -> Shared -> Prop), Inv X pins σ H s -> (∀ b ∈ fp, FpOk X pins H b) -> tn i s.heap -> J.stop i H ->
  wpAny (model P w) X.A (pyNext (.ref it)) (fun r s1 => r = none /\ Inv X pins σ H s1) E s
 self : ∀ (A : Around) (i : Nat) (s : Shared) (Q : Value -> Shared -> Prop) (E : Value -> Shared -> Prop), tn i s.heap -> Q (.ref it) s -> wpAny (model P w) A (pyIter (.ref it)) Q E s
abbrev TI := St -> Hp -> (It -> Hp -> Prop) -> Prop
def PIE (X : Cx) (pins : List (Addr × Obj)) (σ : St) (tg : Expr) (R : It -> Hp -> Prop) (itv : Value) (s2 : Shared) : Prop :=
 ∃ (it : Addr) (fp : List Addr) (tn : Nat -> Heap -> Prop) (J : It) (H' : Hp), itv = .ref it /\ Inv X pins σ H' s2 /\ Turn X.prog X.w X.K tg J fp it tn /\ tn 0 s2.heap /\ (∀ b ∈ fp, FpOk X pins H' b) /\ R J H'
def PI (X : Cx) (tg iter : Expr) (wi : TI) : Prop :=
 ∀ (pins : List (Addr × Obj)) (s : Shared) (σ : St) (H : Hp) (R : It -> Hp -> Prop), Inv X pins σ H s -> wi σ H R ->
  wpAny (model X.prog X.w) X.A (eval iter X.env) (fun v s1 => wpAny (model X.prog X.w) X.A (pyIter v) (PIE X pins σ tg R) X.xe s1) X.xe s
theorem go_of {M : Model} {A : Around} {E : Value -> Shared -> Prop} {s : Shared} {tg : Expr} {it : Addr} {u : Value} {o : Obj} {n : String} {vs : Array Value} {Q : Unit -> Shared -> Prop} (ho : s.heap.get? it = some o) (hc : o.cls = .type n) (hd : o.data = .fields vs)
    (hn : ["enumerate", "zip", "dict_itemiterator", "dict_reverseitemiterator", "odict_iterator", "itertools.zip_longest", "itertools.pairwise"].contains n = false) (hQ : Q () s) : wpAny M A (letOwnedTupleGo tg (.ref it) u) Q E s := by
  unfold letOwnedTupleGo
  cases tg <;> first
    | exact wpAny_pure hQ
    | (cases u <;> first
        | exact wpAny_pure hQ
        | (refine wpAny_bind (wpAny_load ho ?_)
           rw [hc, hd]
           show wpAny M A (if (["enumerate", "zip", "dict_itemiterator", "dict_reverseitemiterator", "odict_iterator", "itertools.zip_longest", "itertools.pairwise"].contains n && vs[0]? == some (rawInt _)) = true then _ else _) Q E s
           rw [if_neg (by intro h; rw [hn, Bool.false_and] at h; cases h)]
           exact wpAny_pure hQ))
def Itl (K : PySem.W.Frag) (a : Addr) : It :=
 ⟨fun i H => ∃ xs x, SqL K H a xs /\ xs[i]? = some x, fun i H x H' => H' = H /\ ∀ xs, SqL K H a xs -> xs[i]? = some x, fun i H => ∃ xs, SqL K H a xs /\ xs.length <= i⟩
def Itt (K : PySem.W.Frag) (a : Addr) : It :=
 ⟨fun i H => ∃ xs x, SqT K H a xs /\ xs[i]? = some x, fun i H x H' => H' = H /\ ∀ xs, SqT K H a xs -> xs[i]? = some x, fun i H => ∃ xs, SqT K H a xs /\ xs.length <= i⟩
def Itr (lo : Int) (n : Nat) : It := ⟨fun i _ => i < n, fun i H x H' => H' = H /\ x = .int (lo + i), fun i _ => n <= i⟩
theorem Xme {P : Program} {w : World} {K : PySem.W.Frag} {tg : Expr} (a it : Addr) : Turn P w K tg (Itl K a) [it] it (fun i h => h.IsListIter it a i) where
 mem := by simp
 obj := fun i h st b hb => by
  have e : b = it := by simpa using hb
  subst e
  obtain ⟨o, e, c, d⟩ := st
  exact ⟨o, e, fun v z => by rw [d] at z; cases z⟩
 keep := fun i h h' st k => st.at fun o e => k it (by simp) o e
 item := by
  intro X hP hw hK hc i pins s σ H E I hf st hg
  subst hP hw hK
  obtain ⟨xs, x, hq, hx⟩ := hg
  obtain ⟨its, rv, p, hz⟩ := I.list hq
  obtain ⟨u, hu, ru⟩ := rv.get hx
  obtain ⟨f0, f1, f2, f3, f4, f5⟩ := hf it (by simp)
  refine wpAny_pyNext_list_item st p.isList (x := u) (by simpa using hu) fun h' st' sb => ?_
  have I1 : Inv X pins σ H { s with heap := h' } := I.turned (t' := s.toks) (fun b o hb e => (sb.2 b hb).trans e) f0 f1 f3 f4 f5
  obtain ⟨o, e, c, d⟩ := id st'
  exact ⟨u, rfl, go_of (s := { s with heap := h' }) e c d (by decide) ⟨x, H, I1, ru, ⟨rfl, fun ys hy => by rw [I.list_inj hy hq]; exact hx⟩, st', fun b hb => (hf b hb).1⟩⟩
 done := by
  intro X hP hw hK hc i pins s σ H E I hf st hg
  subst hP hw hK
  obtain ⟨xs, hq, hx⟩ := hg
  obtain ⟨its, rv, p, hz⟩ := I.list hq
  obtain ⟨f0, f1, f2, f3, f4, f5⟩ := hf it (by simp)
  have hl := rv.length
  exact wpAny_pyNext_list_end (I.ok.hd hc) st p.isList (by simp; omega) fun h' eb => ⟨rfl, I.turned (t' := s.toks) (fun b o hb e => eb b o hb e) f0 f1 f3 f4 f5⟩
 self := fun _ _ _ _ _ st h => wpAny_pyIter_listiter st h
theorem Xlc {P : Program} {w : World} {K : PySem.W.Frag} {tg : Expr} (a it : Addr) : Turn P w K tg (Itt K a) [it] it (fun i h => h.IsTupleIter it a i) where
 mem := by simp
 obj := fun i h st b hb => by
  have e : b = it := by simpa using hb
  subst e
  obtain ⟨o, e, c, d⟩ := st
  exact ⟨o, e, fun v z => by rw [d] at z; cases z⟩
 keep := fun i h h' st k => st.at fun o e => k it (by simp) o e
 item := by
  intro X hP hw hK hc i pins s σ H E I hf st hg
  subst hP hw hK
  obtain ⟨xs, x, hq, hx⟩ := hg
  obtain ⟨its, rv, p, hz⟩ := I.tuple hq
  obtain ⟨u, hu, ru⟩ := rv.get hx
  obtain ⟨f0, f1, f2, f3, f4, f5⟩ := hf it (by simp)
  refine wpAny_pyNext_tuple_item st (show s.heap.IsTuple a its.toArray from p) (x := u) (by simpa using hu) fun h' st' sb => ?_
  have I1 : Inv X pins σ H { s with heap := h' } := I.turned (t' := s.toks) (fun b o hb e => (sb.2 b hb).trans e) f0 f1 f3 f4 f5
  obtain ⟨o, e, c, d⟩ := id st'
  exact ⟨u, rfl, go_of (s := { s with heap := h' }) e c d (by decide) ⟨x, H, I1, ru, ⟨rfl, fun ys hy => by rw [I.tuple_inj hy hq]; exact hx⟩, st', fun b hb => (hf b hb).1⟩⟩
 done := by
  intro X hP hw hK hc i pins s σ H E I hf st hg
  subst hP hw hK
  obtain ⟨xs, hq, hx⟩ := hg
  obtain ⟨its, rv, p, hz⟩ := I.tuple hq
  obtain ⟨f0, f1, f2, f3, f4, f5⟩ := hf it (by simp)
  have hl := rv.length
  exact wpAny_pyNext_tuple_end (I.ok.hd hc) st (show s.heap.IsTuple a its.toArray from p) (by simp; omega) fun h' eb => ⟨rfl, I.turned (t' := s.toks) (fun b o hb e => eb b o hb e) f0 f1 f3 f4 f5⟩
 self := fun _ _ _ _ _ st h => wpAny_pyIter_tupleiter st h
theorem Xld {P : Program} {w : World} {K : PySem.W.Frag} {tg : Expr} (it : Addr) (lo : Int) (n : Nat) : Turn P w K tg (Itr lo n) [it] it (fun i h => IsRangeIter h it (lo + (i : Nat) * 1) ((n : Int) - (i : Nat)) 1) where
 mem := by simp
 obj := fun i h st b hb => by
  have e : b = it := by simpa using hb
  subst e
  exact ⟨_, st, fun v z => by
   have z' : Data.fields _ = Data.cell v := z
   cases z'⟩
 keep := fun i h h' st k => k it (by simp) _ st
 item := by
  intro X hP hw hK hc i pins s σ H E I hf st hg
  subst hP hw hK
  obtain ⟨f0, f1, f2, f3, f4, f5⟩ := hf it (by simp)
  have W := Walks.range (prog := X.prog) (w := X.w) (I.ok.hd hc) it lo 1 n
  refine W.item i s _ _ hg st fun v h' tk hv st' kk => ?_
  obtain ⟨t, rfl⟩ := hv
  have I1 : Inv X pins σ H { s with heap := h', toks := tk } := I.turned (fun b o hb e => kk b o (by simpa using hb) e) f0 f1 f3 f4 f5
  refine ⟨_, rfl, go_of (s := { s with heap := h', toks := tk }) (n := "range_iterator") st' rfl rfl (by decide) ⟨.int (lo + i), H, I1, ⟨t, ?_⟩, ⟨rfl, rfl⟩, st', fun b hb => (hf b hb).1⟩⟩
  rw [Int.mul_one]
 done := by
  intro X hP hw hK hc i pins s σ H E I hf st hg
  subst hP hw hK
  obtain ⟨f0, f1, f2, f3, f4, f5⟩ := hf it (by simp)
  exact wpAny_pyNext_range_end (I.ok.hd hc) st (by have : n <= i := hg; omega) fun h' eb => ⟨rfl, I.turned (t' := s.toks) (fun b o hb e => eb b o hb e) f0 f1 f3 f4 f5⟩
 self := fun _ _ _ _ _ st h => wpAny_pyIter_rangeiter st h
section
variable {X : Cx} {tg : Expr}
def iList (K : PySem.W.Frag) (tl : TE) : TI := fun σ H R => tl σ H fun x H1 => ∃ a, x = .ref a /\ (∃ xs, SqL K H1 a xs) /\ R (Itl K a) H1
def iTup (K : PySem.W.Frag) (tl : TE) : TI := fun σ H R => tl σ H fun x H1 => ∃ a, x = .ref a /\ (∃ xs, SqT K H1 a xs) /\ R (Itt K a) H1
theorem Xbr {l : Expr} {tl : TE} (hl : PE X l tl) : PI X tg l (iList X.K tl) := by
 intro pins s σ H R I h
 refine thn (hl pins s σ H _ I h) fun v s1 ⟨x, H1, I1, r1, q1⟩ => ?_
 obtain ⟨a, e, ⟨xs, hq⟩, q⟩ := q1
 subst e
 cases r1
 obtain ⟨its, rv, p, hz⟩ := I1.list hq
 refine wpAny_pyIter_list p.isList ?_
 refine ⟨s1.heap.objs.size, [s1.heap.objs.size], _, _, H1, rfl, I1.kept (t' := s1.toks) fun b o e => Heap.get?_push_of_some _ e, Xme a _, ⟨_, Heap.get?_push_size _ rfl, rfl, rfl⟩, fun b hb => ?_, q⟩
 have e : b = s1.heap.objs.size := by simpa using hb
 subst e
 exact I1.fpOk (Nat.le_refl _) (I1.hok.fresh (Nat.le_refl _))
theorem pi_tup {l : Expr} {tl : TE} (hl : PE X l tl) : PI X tg l (iTup X.K tl) := by
 intro pins s σ H R I h
 refine thn (hl pins s σ H _ I h) fun v s1 ⟨x, H1, I1, r1, q1⟩ => ?_
 obtain ⟨a, e, ⟨xs, hq⟩, q⟩ := q1
 subst e
 cases r1
 obtain ⟨its, rv, p, hz⟩ := I1.tuple hq
 refine wpAny_pyIter_tuple (show s1.heap.IsTuple a its.toArray from p) ?_
 refine ⟨s1.heap.objs.size, [s1.heap.objs.size], _, _, H1, rfl, I1.kept (t' := s1.toks) fun b o e => Heap.get?_push_of_some _ e, Xlc a _, ⟨_, Heap.get?_push_size _ rfl, rfl, rfl⟩, fun b hb => ?_, q⟩
 have e : b = s1.heap.objs.size := by simpa using hb
 subst e
 exact I1.fpOk (Nat.le_refl _) (I1.hok.fresh (Nat.le_refl _))
theorem range_it {pins : List (Addr × Obj)} {σ : St} {H : Hp} {s : Shared} {R : It -> Hp -> Prop} {E : Value -> Shared -> Prop} {lo hi : Int} {t u v : Tok} {tk : Nat} (I : Inv X pins σ H s) (h1 : -(2 ^ 62) <= lo) (h2 : lo < 2 ^ 62) (h3 : -(2 ^ 62) <= hi) (h4 : hi < 2 ^ 62)
  (q : R (Itr lo (hi - lo).toNat) H) : wpAny (model X.prog X.w) X.A (pyIter (.ref s.heap.objs.size)) (PIE X pins σ tg R) E { s with heap := s.heap.push { cls := .type "range", data := .fields #[.int lo t, .int hi u, .int 1 v] }, toks := tk } := by
 refine wpAny_pyIter_range (IsRange.new ..) (small_one h1 h2 h3 h4) ?_
 have I1 : Inv X pins σ H { s with heap := s.heap.push { cls := .type "range", data := .fields #[.int lo t, .int hi u, .int 1 v] }, toks := tk } := I.kept fun b o e => Heap.get?_push_of_some _ e
 refine ⟨(s.heap.push { cls := .type "range", data := .fields #[.int lo t, .int hi u, .int 1 v] }).objs.size, [(s.heap.push { cls := .type "range", data := .fields #[.int lo t, .int hi u, .int 1 v] }).objs.size], _, _, H, rfl,
  I1.kept (t' := tk) fun b o e => Heap.get?_push_of_some _ e, Xld _ lo (hi - lo).toNat, ?_, fun b hb => ?_, q⟩
 ·have e1 : lo + ((0 : Nat) : Int) * 1 = lo := by simp
  have e2 : (((hi - lo).toNat : Nat) : Int) - ((0 : Nat) : Int) = Builtin.Range.rangeSize lo hi 1 := by rw [rangeSize_one]; split <;> omega
  show IsRangeIter _ _ (lo + ((0 : Nat) : Int) * 1) ((((hi - lo).toNat : Nat) : Int) - ((0 : Nat) : Int)) 1
  rw [e1, e2]
  exact Heap.get?_push_size _ rfl
 ·have e : b = (s.heap.push { cls := .type "range", data := .fields #[.int lo t, .int hi u, .int 1 v] }).objs.size := by simpa using hb
  subst e
  exact I1.fpOk (Nat.le_refl _) (I1.hok.fresh (Nat.le_refl _))
def iRng1 (ta : TA) : TI := fun σ H R => ta σ H fun vs H1 => ∃ j : Int, vs = [.int j] /\ -(2 ^ 62) <= j /\ j < 2 ^ 62 /\ R (Itr 0 j.toNat) H1
theorem Xcu {a : Expr} {ta : TA} {p pos : Pos} (hg : Gl X "range") (hm : X.mg "range" = none) (ha : PA X [a] ta) (hs : starEach [a] X.env = [(false, eval a X.env)] := by rfl) : PI X tg (.Call (.Name "range" p) [a] [] pos) (iRng1 ta) := by
 intro pins s σ H R I h
 refine Call_ (Xf6 I hg hm boot_range (PyProof.Rows.callWith_type1 (thn (ha pos pins s σ H _ I h) fun us s1 ⟨vs, H1, I1, r1, q1⟩ => ?_) hs rfl))
 obtain ⟨j, e, q1, q2, q⟩ := q1
 subst e
 cases r1 with
 | cons r rr =>
  cases rr
  obtain ⟨t, rfl⟩ := r
  exact call_range_1 (range_it I1 (by omega) (by omega) q1 q2 (by simpa using q))
def tFor (wi : TI) (g : TG) (tb : TS) : TS := fun D σ H => wi σ H fun J H1 => ∃ W : Nat -> Nat -> St -> Hp -> Prop, (∃ m, W 0 m σ H1) /\ ∀ i m σ H, W i m σ H ->
 (J.stop i H /\ D.nx σ H) \/ (J.go i H /\ ∃ N : St -> Hp -> Prop, (∀ σ' H', N σ' H' -> ∃ m', m' < m /\ W (i + 1) m' σ' H') /\ ∀ x H', J.yld i H x H' -> g x σ H' fun σ2 H2 => tb { D with nx := N, ct := N, bk := D.nx } σ2 H2)
def Xhh (fp : List Addr) (h : Heap) : List (Addr × Obj) := fp.filterMap fun b => (h.get? b).map fun o => (b, o)
theorem Xc6 {fp : List Addr} {h : Heap} {b : Addr} {o : Obj} (hb : b ∈ fp) (e : h.get? b = some o) : (b, o) ∈ Xhh fp h := List.mem_filterMap.mpr ⟨b, hb, by rw [e]; rfl⟩
theorem Xmf {fp : List Addr} {h : Heap} {p : Addr × Obj} (hp : p ∈ Xhh fp h) : p.1 ∈ fp /\ h.get? p.1 = some p.2 := by
 obtain ⟨b, hb, e⟩ := List.mem_filterMap.mp hp
 cases q : h.get? b with
 | none => rw [q] at e; cases e
 | some o =>
  rw [q] at e
  have e' : (b, o) = p := Option.some.inj e
  subst e'
  exact ⟨hb, q⟩
theorem Inv.pinned {pins : List (Addr × Obj)} {σ : St} {H : Hp} {s : Shared} {fp : List Addr} (I : Inv X pins σ H s) (hf : ∀ b ∈ fp, FpOk X pins H b) (ho : ∀ b ∈ fp, ∃ o, s.heap.get? b = some o /\ ∀ v, o.data ≠ .cell v) : Inv X (pins ++ Xhh fp s.heap) σ H s :=
 I.pins_of fun p hp => (List.mem_append.mp hp).elim (fun z => I.pin p (List.mem_append_right _ z)) fun z => by
  obtain ⟨hb, e⟩ := Xmf z
  obtain ⟨f0, f1, f2, _⟩ := hf p.1 hb
  obtain ⟨o, e', d⟩ := ho p.1 hb
  rw [e] at e'; cases e'
  exact ⟨e, f0, f1, f2, d⟩
theorem Inv.unpinned {pins pl : List (Addr × Obj)} {σ : St} {H : Hp} {s : Shared} (I : Inv X (pins ++ pl) σ H s) : Inv X pins σ H s := I.pins_of fun p hp => I.pin p (List.mem_append_right _ (List.mem_append_left _ hp))
theorem Xcb {iter : Expr} {body : List Stmt} {wi : TI} {g : TG} {tb : TS} {pos : Pos} (hp : PassesOwn (model X.prog X.w) X.A X.env X.xe) (hc : X.calm = true) (hi : PI X tg iter wi) (hg : PG X tg g) (hb : PSs X body tb)
  (hs : ∀ x, foldedSetIterable iter X.env x = pure x := by intro _; rfl) : PS X (.For tg iter body [] pos) (tFor wi g tb) := by
 intro pins s σ H D I h
 refine wpAny_For (thn (hi pins s σ H _ I h) fun v s1 h1 => thn h1 fun itv s2 h2 => ?_) hs
 obtain ⟨it, fp, tn, J, H2, e, I2, T, st2, f2, W, ⟨m0, w0⟩, turn⟩ := h2
 subst e
 have stat : ∀ {H' : Hp}, (∀ b ∈ fp, H' b = none) -> ∀ b ∈ fp, FpOk X pins H' b := fun hn b hb => ⟨hn b hb, (f2 b hb).2⟩
 refine codeAny_forLoop_any (fun n s' => ∃ i σ' H', Inv X pins σ' H' s' /\ tn i s'.heap /\ (∀ b ∈ fp, H' b = none) /\ W i n σ' H') ?_ m0 ⟨0, σ, H2, I2, st2, fun b hb => (f2 b hb).1, w0⟩
 rintro n s3 ⟨i, σ3, H3, I3, st3, fr3, w3⟩
 rcases turn i n σ3 H3 w3 with ⟨stop, qn⟩ | ⟨go, N, hN, step⟩
 ·refine wpAny_passesOwn hp (thn (T.done X rfl rfl rfl hc i pins s3 σ3 H3 X.xe I3 (stat fr3) st3 stop) fun r s4 ⟨hr, I4⟩ => ?_)
  subst hr
  exact wpAny_execs_nil ⟨σ3, H3, I4, qn⟩
 ·refine wpAny_passesOwn hp (thn (T.item X rfl rfl rfl hc i pins s3 σ3 H3 X.xe I3 (stat fr3) st3 go) fun r s4 ⟨u, hr, h4⟩ => ?_)
  subst hr
  refine wpAny_passesOwn hp (thn h4 fun _ s5 ⟨x, H5, I5, r5, y5, st5, fr5⟩ => ?_)
  have I5' := I5.pinned (stat fr5) (T.obj _ _ st5)
  refine wpAny_passesOwn hp (thn (hg _ s5 σ3 H5 x u _ I5' r5 (step x H5 y5)) fun _ s6 ⟨σ6, H6, I6, q6⟩ => ?_)
  refine wpAny_passesOwn hp (thn (hb _ s6 σ6 H6 _ I6 q6) fun f s7 q7 => ?_)
  have again : ∀ {σ7 : St} {H7 : Hp}, Inv X (pins ++ Xhh fp s5.heap) σ7 H7 s7 -> N σ7 H7 -> ∃ m, m < n /\ ∃ i σ' H', Inv X pins σ' H' s7 /\ tn i s7.heap /\ (∀ b ∈ fp, H' b = none) /\ W i m σ' H' := fun {σ7 H7} I7 n7 => by
   obtain ⟨m', hm, w7⟩ := hN σ7 H7 n7
   refine ⟨m', hm, i + 1, σ7, H7, I7.unpinned, T.keep _ _ _ st5 fun b hb o e => (I7.pin (b, o) (List.mem_append_right _ (List.mem_append_right _ (Xc6 hb e)))).1, fun b hb => ?_, w7⟩
   obtain ⟨o, e, d⟩ := T.obj _ _ st5 b hb
   exact (I7.pin (b, o) (List.mem_append_right _ (List.mem_append_right _ (Xc6 hb e)))).2.1
  cases f with
  | next => obtain ⟨σ7, H7, I7, n7⟩ := q7; exact again I7 n7
  | cont => obtain ⟨σ7, H7, I7, n7⟩ := q7; exact again I7 n7
  | brk => obtain ⟨σ7, H7, I7, q7⟩ := q7; exact ⟨σ7, H7, I7.unpinned, q7⟩
  | ret v => obtain ⟨x7, σ7, H7, I7, r7, q7⟩ := q7; exact ⟨x7, σ7, H7, I7.unpinned, r7, q7⟩
end
theorem Xb1 {K : PySem.W.Frag} {a : Addr} {xs : List V} {g : TG} {tb : TS} {D : Ends} {σ : St} {H : Hp} (Pv : Nat -> St -> Hp -> Prop) (h0 : Pv 0 σ H) (hl : ∀ i σ H, i <= xs.length -> Pv i σ H -> SqL K H a xs)
  (hs : ∀ i x σ H, xs[i]? = some x -> Pv i σ H -> g x σ H fun σ2 H2 => tb { D with nx := Pv (i + 1), ct := Pv (i + 1), bk := D.nx } σ2 H2) (hd : ∀ σ H, Pv xs.length σ H -> D.nx σ H) :
  ∃ W : Nat -> Nat -> St -> Hp -> Prop, (∃ m, W 0 m σ H) /\ ∀ i m σ H, W i m σ H ->
   ((Itl K a).stop i H /\ D.nx σ H) \/ ((Itl K a).go i H /\ ∃ N : St -> Hp -> Prop, (∀ σ' H', N σ' H' -> ∃ m', m' < m /\ W (i + 1) m' σ' H') /\ ∀ x H', (Itl K a).yld i H x H' -> g x σ H' fun σ2 H2 => tb { D with nx := N, ct := N, bk := D.nx } σ2 H2) := by
 refine ⟨fun i m σ H => m = xs.length - i /\ i <= xs.length /\ Pv i σ H, ⟨xs.length, by simp, Nat.zero_le _, h0⟩, ?_⟩
 rintro i m σ H ⟨rfl, hi, p⟩
 have q := hl i σ H hi p
 by_cases hlt : i < xs.length
 ·refine .inr ⟨⟨xs, xs[i], q, by simp [hlt]⟩, Pv (i + 1), fun σ' H' p' => ⟨xs.length - (i + 1), by omega, rfl, hlt, p'⟩, fun x H' y => ?_⟩
  obtain ⟨e, y⟩ := y
  subst e
  exact hs i x σ _ (y xs q) p
 ·have e : i = xs.length := by omega
  subst e
  exact .inl ⟨⟨xs, q, Nat.le_refl _⟩, hd σ H p⟩
theorem Xcv {lo : Int} {n : Nat} {g : TG} {tb : TS} {D : Ends} {σ : St} {H : Hp} (Pv : Nat -> St -> Hp -> Prop) (h0 : Pv 0 σ H)
  (hs : ∀ i σ H, i < n -> Pv i σ H -> g (.int (lo + i)) σ H fun σ2 H2 => tb { D with nx := Pv (i + 1), ct := Pv (i + 1), bk := D.nx } σ2 H2) (hd : ∀ σ H, Pv n σ H -> D.nx σ H) :
  ∃ W : Nat -> Nat -> St -> Hp -> Prop, (∃ m, W 0 m σ H) /\ ∀ i m σ H, W i m σ H ->
   ((Itr lo n).stop i H /\ D.nx σ H) \/ ((Itr lo n).go i H /\ ∃ N : St -> Hp -> Prop, (∀ σ' H', N σ' H' -> ∃ m', m' < m /\ W (i + 1) m' σ' H') /\ ∀ x H', (Itr lo n).yld i H x H' -> g x σ H' fun σ2 H2 => tb { D with nx := N, ct := N, bk := D.nx } σ2 H2) := by
 refine ⟨fun i m σ H => m = n - i /\ i <= n /\ Pv i σ H, ⟨n, by simp, Nat.zero_le _, h0⟩, ?_⟩
 rintro i m σ H ⟨rfl, hi, p⟩
 by_cases hlt : i < n
 ·refine .inr ⟨hlt, Pv (i + 1), fun σ' H' p' => ⟨n - (i + 1), by omega, rfl, hlt, p'⟩, fun x H' y => ?_⟩
  obtain ⟨e, y⟩ := y
  subst e y
  exact hs i σ _ hlt p
 ·have e : i = n := by omega
  subst e
  exact .inl ⟨Nat.le_refl _, hd σ H p⟩
abbrev R2 := V -> V -> Hp -> VK -> Prop
def OpR (X : Cx) (f : Value -> Value -> Sem Value) (r : R2) : Prop :=
 ∀ (pins : List (Addr × Obj)) (s : Shared) (σ : St) (H : Hp) (x y : V) (v u : Value) (Q : VK), Inv X pins σ H s -> RelV x v -> RelV y u -> r x y H Q ->
  wpAny (model X.prog X.w) X.A (f v u) (EP X pins σ Q) X.xe s
def UnR (X : Cx) (f : Value -> Sem Value) (r : V -> Hp -> VK -> Prop) : Prop :=
 ∀ (pins : List (Addr × Obj)) (s : Shared) (σ : St) (H : Hp) (x : V) (v : Value) (Q : VK), Inv X pins σ H s -> RelV x v -> r x H Q ->
  wpAny (model X.prog X.w) X.A (f v) (EP X pins σ Q) X.xe s
def Xdg (X : Cx) (f : Value) (r : List V -> Hp -> VK -> Prop) : Prop :=
 ∀ (pins : List (Addr × Obj)) (s : Shared) (σ : St) (H : Hp) (xs : List V) (us : List Value) (Q : VK), Inv X pins σ H s -> Vals xs us -> r xs H Q ->
  wpAny (model X.prog X.w) X.A (call f us) (EP X pins σ Q) X.xe s
def TruR (X : Cx) (r : V -> Hp -> (Bool -> Hp -> Prop) -> Prop) : Prop :=
 ∀ (pins : List (Addr × Obj)) (s : Shared) (σ : St) (H : Hp) (x : V) (v : Value) (Q : Bool -> Hp -> Prop), Inv X pins σ H s -> RelV x v -> r x H Q ->
  wpAny (model X.prog X.w) X.A (truthy v) (TP X pins σ Q) X.xe s
def tOp (r : R2) (ta tb : TE) : TE := fun σ H Q => ta σ H fun x H1 => tb σ H1 fun y H2 => r x y H2 Q
def tUn (r : V -> Hp -> VK -> Prop) (ta : TE) : TE := fun σ H Q => ta σ H fun x H1 => r x H1 Q
def rI (C : Int -> Int -> Prop) (g : Int -> Int -> V) : R2 := fun x y H Q => ∃ i j, x = .int i /\ y = .int j /\ C i j /\ Q (g i j) H
def rI0 (g : Int -> Int -> V) : R2 := fun x y H Q => ∃ i j, x = .int i /\ y = .int j /\ Q (g i j) H
def rU (g : Int -> V) : V -> Hp -> VK -> Prop := fun x H Q => ∃ i, x = .int i /\ Q (g i) H
section
variable {X : Cx} {a b c : Expr} {ta tb tc : TE} {pos : Pos}
theorem binT (ha : PE X a ta) (hb : PE X b tb) {pins : List (Addr × Obj)} {s : Shared} {σ : St} {H : Hp} {R : V -> V -> Hp -> Prop} (I : Inv X pins σ H s)
  (h : ta σ H fun x H1 => tb σ H1 fun y H2 => R x y H2) {Q : Value -> Shared -> Prop} {f : Value -> Value -> Sem Value}
  (hf : ∀ v u s2 x y H2, Inv X pins σ H2 s2 -> RelV x v -> RelV y u -> R x y H2 -> wpAny (model X.prog X.w) X.A (f v u) Q X.xe s2) :
  wpAny (model X.prog X.w) X.A (eval a X.env) (fun v s₁ => wpAny (model X.prog X.w) X.A (eval b X.env) (fun u s₂ => wpAny (model X.prog X.w) X.A (f v u) Q X.xe s₂) X.xe s₁) X.xe s := by
 refine thn (ha pins s σ H _ I h) fun v s1 ⟨x, H1, I1, r1, q1⟩ => ?_
 refine thn (hb pins s1 σ H1 _ I1 q1) fun u s2 ⟨y, H2, I2, r2, q2⟩ => ?_
 exact hf v u s2 x y H2 I2 r1 r2 q2
theorem Xau {op : Operator} {r : R2} (ho : OpR X (binaryOp op) r) (ha : PE X a ta) (hb : PE X b tb) : PE X (.BinOp a op b pos) (tOp r ta tb) := by
 intro pins s σ H Q I h
 exact wpAny_BinOp (binT ha hb I h fun v u s2 x y H2 I2 rx ry q => ho pins s2 σ H2 x y v u Q I2 rx ry q)
theorem pe_un {op : UnaryOp} {r : V -> Hp -> VK -> Prop} (ho : UnR X (unaryOp op) r) (ha : PE X a ta) : PE X (.UnaryOp op a pos) (tUn r ta) := by
 intro pins s σ H Q I h
 exact UnaryOp_ (thn (ha pins s σ H _ I h) fun v s1 ⟨x, H1, I1, r1, q1⟩ => ho pins s1 σ H1 x v Q I1 r1 q1)
theorem opI {f : Value -> Value -> Sem Value} {C : Int -> Int -> Prop} {g : Int -> Int -> Int}
  (rule : ∀ (i j : Int) (t u : Tok) (s : Shared) (Q : Value -> Shared -> Prop) (E : Value -> Shared -> Prop), C i j -> Q (.int (g i j) s.toks) { s with toks := s.toks + 1 } -> wpAny (model X.prog X.w) X.A (f (.int i t) (.int j u)) Q E s) :
  OpR X f (rI C fun i j => .int (g i j)) := by
 intro pins s σ H x y v u Q I rx ry h
 obtain ⟨i, j, rfl, rfl, hc, q⟩ := h
 obtain ⟨t, rfl⟩ := rx
 obtain ⟨t', rfl⟩ := ry
 exact rule i j t t' s _ _ hc ⟨.int (g i j), H, I.tok _, ⟨_, rfl⟩, q⟩
theorem opI0 {f : Value -> Value -> Sem Value} {g : Int -> Int -> Int}
  (rule : ∀ (i j : Int) (t u : Tok) (s : Shared) (Q : Value -> Shared -> Prop) (E : Value -> Shared -> Prop), Q (.int (g i j) s.toks) { s with toks := s.toks + 1 } -> wpAny (model X.prog X.w) X.A (f (.int i t) (.int j u)) Q E s) :
  OpR X f (rI0 fun i j => .int (g i j)) := by
 intro pins s σ H x y v u Q I rx ry h
 obtain ⟨i, j, rfl, rfl, q⟩ := h
 obtain ⟨t, rfl⟩ := rx
 obtain ⟨t', rfl⟩ := ry
 exact rule i j t t' s _ _ ⟨.int (g i j), H, I.tok _, ⟨_, rfl⟩, q⟩
theorem opB0 {f : Value -> Value -> Sem Value} {g : Int -> Int -> Bool}
  (rule : ∀ (i j : Int) (t u : Tok) (s : Shared) (Q : Value -> Shared -> Prop) (E : Value -> Shared -> Prop), Q (.bool (g i j)) s -> wpAny (model X.prog X.w) X.A (f (.int i t) (.int j u)) Q E s) :
  OpR X f (rI0 fun i j => .bl (g i j)) := by
 intro pins s σ H x y v u Q I rx ry h
 obtain ⟨i, j, rfl, rfl, q⟩ := h
 obtain ⟨t, rfl⟩ := rx
 obtain ⟨t', rfl⟩ := ry
 exact rule i j t t' s _ _ ⟨.bl (g i j), H, I, rfl, q⟩
def CDiv (i j : Int) : Prop := 0 < j /\ j < 1073741824
def CPow (i j : Int) : Prop := 0 <= j /\ j <= 1000000 /\ i.natAbs < 2 ^ 64
def CMul (i j : Int) : Prop := (-(2 ^ 64) < i /\ i < 2 ^ 64) \/ (-(2 ^ 64) < j /\ j < 2 ^ 64)
theorem CMul.ok {i j : Int} (h : CMul i j) : IntMulOk i j := by
 rcases h with ⟨h1, h2⟩ | ⟨h1, h2⟩
 ·exact .of_left (intBits_le_64 h1 h2)
 ·exact .of_right (intBits_le_64 h1 h2)
theorem Xbm : OpR X (binaryOp .Add) (rI0 fun i j => .int (i + j)) := opI0 fun _ _ _ _ _ _ _ q => add_int q
theorem op_sub : OpR X (binaryOp .Sub) (rI0 fun i j => .int (i - j)) := opI0 fun _ _ _ _ _ _ _ q => sub_int q
theorem op_mul : OpR X (binaryOp .Mult) (rI CMul fun i j => .int (i * j)) := opI fun _ _ _ _ _ _ _ hc q => mul_int q hc.ok
theorem Xi4 : OpR X (binaryOp .FloorDiv) (rI CDiv fun i j => .int (i / j)) := opI fun i j _ _ _ _ _ hc q => by
 have h1 : (0 : Int) < j := hc.1
 have h2 : j < 1073741824 := hc.2
 exact floordiv_int (by omega) (by rw [Int.fdiv_eq_ediv_of_nonneg i (by omega)]; exact q) (.inl (PyProof.noPylong_small (by omega)))
theorem Xf7 : OpR X (binaryOp .Mod) (rI (fun _ j => 0 < j) fun i j => .int (i % j)) := opI fun i j _ _ _ _ _ hc q => by
 have h1 : (0 : Int) < j := hc
 exact mod_int' (by omega) (by rw [Int.fmod_eq_emod_of_nonneg i (by omega)]; exact q)
theorem op_pow : OpR X (binaryOp .Pow) (rI CPow fun i j => .int (i ^ j.toNat)) := opI fun _ _ _ _ _ _ _ hc q => pow_int_small hc.1 hc.2.1 hc.2.2 q
theorem unI {f : Value -> Sem Value} {g : Int -> Int}
  (rule : ∀ (i : Int) (t : Tok) (s : Shared) (Q : Value -> Shared -> Prop) (E : Value -> Shared -> Prop), Q (.int (g i) s.toks) { s with toks := s.toks + 1 } -> wpAny (model X.prog X.w) X.A (f (.int i t)) Q E s) :
  UnR X f (rU fun i => .int (g i)) := by
 intro pins s σ H x v Q I rx h
 obtain ⟨i, rfl, q⟩ := h
 obtain ⟨t, rfl⟩ := rx
 exact rule i t s _ _ ⟨.int (g i), H, I.tok _, ⟨_, rfl⟩, q⟩
theorem un_neg : UnR X (unaryOp .USub) (rU fun i => .int (-i)) := unI fun _ _ _ _ _ q => neg_int q
end
def scal : V -> V -> Bool
 | .non, .non => true | .non, .int _ => true | .int _, .non => true | .non, .bl _ => true | .bl _, .non => true | .non, .str _ => true | .str _, .non => true
 | .int _, .int _ => true | .bl _, .bl _ => true | .str _, .str _ => true | .byt _, .byt _ => true
 | .int _, .str _ => true | .str _, .int _ => true | .bl _, .str _ => true | .str _, .bl _ => true
 | _, _ => false
def rEq : R2 := fun x y H Q => scal x y = true /\ Q (.bl (decide (x = y))) H
def rNe : R2 := fun x y H Q => scal x y = true /\ Q (.bl (!decide (x = y))) H
theorem Xmg {i j : Int} : decide (V.int i = V.int j) = (i == j) := by
 rw [Bool.eq_iff_iff]
 simp
theorem Xmh {i j : Bool} : decide (V.bl i = V.bl j) = (i == j) := by
 rw [Bool.eq_iff_iff]
 simp
theorem Xmi {i j : Str} : decide (V.str i = V.str j) = (i == j) := by
 rw [Bool.eq_iff_iff]
 simp
theorem Xmj {i j : Array UInt8} : decide (V.byt i = V.byt j) = (i.toList == j.toList) := by
 rw [Bool.eq_iff_iff]
 cases i
 cases j
 simp
section
variable {X : Cx} {a b c : Expr} {ta tb tc : TE} {pos : Pos}
theorem Xax {pins : List (Addr × Obj)} {σ : St} {H : Hp} {s : Shared} {Q : VK} {k k' : Bool} (I : Inv X pins σ H s) (q : Q (.bl k) H) (e : k = k') : EP X pins σ Q (.bool k') s := by
 subst e
 exact ⟨.bl k, H, I, rfl, q⟩
theorem Xfc : OpR X (compareOp .Eq) rEq := by
 intro pins s σ H x y v u Q I rx ry h
 obtain ⟨hs, q⟩ := h
 cases x with
 | non =>
  cases rx
  cases y with
  | non => cases ry; exact PySem.EqNone.eq_none_none (Xax I q (by simp))
  | bl j => cases ry; exact PySem.EqNone.eq_none_bool (Xax I q (by simp))
  | int j => obtain ⟨t', rfl⟩ := ry; exact PySem.EqNone.eq_none_int (Xax I q (by simp))
  | str j => obtain ⟨t', rfl⟩ := ry; exact PySem.EqNone.eq_none_str (Xax I q (by simp))
  | _ => exact absurd (show false = true from hs) Bool.false_ne_true
 | bl i =>
  cases rx
  cases y with
  | non => cases ry; exact PySem.EqNone.eq_bool_none (Xax I q (by simp))
  | bl j => cases ry; exact eq_bool (Xax I q Xmh)
  | str j => obtain ⟨t', rfl⟩ := ry; exact PySem.EqMixed.eq_bool_str (Xax I q (by simp))
  | _ => exact absurd (show false = true from hs) Bool.false_ne_true
 | int i =>
  obtain ⟨t, rfl⟩ := rx
  cases y with
  | non => cases ry; exact PySem.EqNone.eq_int_none (Xax I q (by simp))
  | int j => obtain ⟨t', rfl⟩ := ry; exact eq_int (Xax I q Xmg)
  | str j => obtain ⟨t', rfl⟩ := ry; exact PySem.EqMixed.eq_int_str (Xax I q (by simp))
  | _ => exact absurd (show false = true from hs) Bool.false_ne_true
 | str i =>
  obtain ⟨t, rfl⟩ := rx
  cases y with
  | non => cases ry; exact PySem.EqNone.eq_str_none (Xax I q (by simp))
  | bl j => cases ry; exact PySem.EqMixed.eq_str_bool (Xax I q (by simp))
  | int j => obtain ⟨t', rfl⟩ := ry; exact PySem.EqMixed.eq_str_int (Xax I q (by simp))
  | str j => obtain ⟨t', rfl⟩ := ry; exact eq_str (Xax I q Xmi)
  | _ => exact absurd (show false = true from hs) Bool.false_ne_true
 | byt i =>
  obtain ⟨t, rfl⟩ := rx
  cases y with
  | byt j => obtain ⟨t', rfl⟩ := ry; exact PySem.W.eq_bytes (Xax I q Xmj)
  | _ => exact absurd (show false = true from hs) Bool.false_ne_true
 | _ => cases y <;> exact absurd (show false = true from hs) Bool.false_ne_true
theorem op_ne : OpR X (compareOp .NotEq) rNe := by
 intro pins s σ H x y v u Q I rx ry h
 obtain ⟨hs, q⟩ := h
 cases x with
 | non =>
  cases rx
  cases y with
  | non => cases ry; exact PySem.EqNone.ne_none_none (Xax I q (by simp))
  | bl j => cases ry; exact PySem.EqNone.ne_none_bool (Xax I q (by simp))
  | int j => obtain ⟨t', rfl⟩ := ry; exact PySem.EqNone.ne_none_int (Xax I q (by simp))
  | str j => obtain ⟨t', rfl⟩ := ry; exact PySem.EqNone.ne_none_str (Xax I q (by simp))
  | _ => exact absurd (show false = true from hs) Bool.false_ne_true
 | bl i =>
  cases rx
  cases y with
  | non => cases ry; exact PySem.EqNone.ne_bool_none (Xax I q (by simp))
  | bl j => cases ry; exact ne_bool (Xax I q (congrArg not Xmh))
  | str j => obtain ⟨t', rfl⟩ := ry; exact PySem.EqMixed.ne_bool_str (Xax I q (by simp))
  | _ => exact absurd (show false = true from hs) Bool.false_ne_true
 | int i =>
  obtain ⟨t, rfl⟩ := rx
  cases y with
  | non => cases ry; exact PySem.EqNone.ne_int_none (Xax I q (by simp))
  | int j => obtain ⟨t', rfl⟩ := ry; exact ne_int (Xax I q (congrArg not Xmg))
  | str j => obtain ⟨t', rfl⟩ := ry; exact PySem.EqMixed.ne_int_str (Xax I q (by simp))
  | _ => exact absurd (show false = true from hs) Bool.false_ne_true
 | str i =>
  obtain ⟨t, rfl⟩ := rx
  cases y with
  | non => cases ry; exact PySem.EqNone.ne_str_none (Xax I q (by simp))
  | bl j => cases ry; exact PySem.EqMixed.ne_str_bool (Xax I q (by simp))
  | int j => obtain ⟨t', rfl⟩ := ry; exact PySem.EqMixed.ne_str_int (Xax I q (by simp))
  | str j => obtain ⟨t', rfl⟩ := ry; exact ne_str (Xax I q (congrArg not Xmi))
  | _ => exact absurd (show false = true from hs) Bool.false_ne_true
 | byt i =>
  obtain ⟨t, rfl⟩ := rx
  cases y with
  | byt j => obtain ⟨t', rfl⟩ := ry; exact PySem.W.ne_bytes (Xax I q (congrArg not Xmj))
  | _ => exact absurd (show false = true from hs) Bool.false_ne_true
 | _ => cases y <;> exact absurd (show false = true from hs) Bool.false_ne_true
theorem Xet : OpR X (compareOp .Lt) (rI0 fun i j => .bl (decide (i < j))) := opB0 fun _ _ _ _ _ _ _ q => lt_int q
theorem op_gt : OpR X (compareOp .Gt) (rI0 fun i j => .bl (decide (j < i))) := opB0 fun _ _ _ _ _ _ _ q => gt_int q
theorem op_ge : OpR X (compareOp .GtE) (rI0 fun i j => .bl (decide (j <= i))) := opB0 fun _ _ _ _ _ _ _ q => ge_int q
theorem Xhi : OpR X (compareOp .Lt) (fun x y H Q => ∃ i j, x = .str i /\ y = .str j /\ Q (.bl (decide (i.cps.toList < j.cps.toList))) H) := by
 intro pins s σ H x y v u Q I rx ry h
 obtain ⟨i, j, rfl, rfl, q⟩ := h
 obtain ⟨t, rfl⟩ := rx
 obtain ⟨t', rfl⟩ := ry
 exact lt_str (Xax I q rfl)
def isObj : HO -> Bool
 | .lst _ => true
 | .ins _ _ _ => true
 | _ => false
theorem nomark (b : Expr) {op : CmpOp} (h : op ≠ .In := by decide) (h2 : op ≠ .NotIn := by decide) : behindInMarks op b = false := by
 have e1 : (op == CmpOp.In) = false := by cases op <;> first | rfl | exact absurd rfl h
 have e2 : (op == CmpOp.NotIn) = false := by cases op <;> first | rfl | exact absurd rfl h2
 cases b <;> simp [behindInMarks, e1, e2]
theorem Xfd {op : CmpOp} {r : R2} (ho : OpR X (compareOp op) r) (ha : PE X a ta) (hb : PE X b tb) (hm : behindInMarks op b = false) : PE X (.Compare a [op] [b] pos) (tOp r ta tb) := by
 intro pins s σ H Q I h
 exact wpAny_Compare1 (binT ha hb I h fun v u s2 x y H2 I2 rx ry q => ho pins s2 σ H2 x y v u Q I2 rx ry q) hm
def tTest (t : TE) : TT := fun σ H Q => t σ H fun x H' => ∃ k, x = .bl k /\ Q k H'
theorem Xap {op : CmpOp} {r : R2} (ho : OpR X (compareOp op) r) (ha : PE X a ta) (hb : PE X b tb) (hm : behindInMarks op b = false) : PT X (.Compare a [op] [b] pos) (tTest (tOp r ta tb)) := by
 intro pins s σ H Q I h
 refine wpAny_isTrue_Compare1 (thn (ha pins s σ H _ I h) fun v s1 ⟨x, H1, I1, r1, q1⟩ => thn (hb pins s1 σ H1 _ I1 q1) fun u s2 ⟨y, H2, I2, r2, q2⟩ =>
  thn (ho pins s2 σ H2 x y v u _ I2 r1 r2 q2) fun c s3 ⟨z, H3, I3, r3, k, e, q3⟩ => ?_) hm
 subst e
 cases r3
 exact wpAny_truthy_bool ⟨H3, I3, q3⟩
def Xmk (r r' : R2) (ta tb tc : TE) : TE := fun σ H Q => ta σ H fun x H1 => tb σ H1 fun y H2 => r x y H2 fun z H3 => ∃ k, z = .bl k /\
 (if k = true then tc σ H3 fun w' H4 => r' y w' H4 Q else Q (.bl false) H3)
theorem Xkd {op op' : CmpOp} {r r' : R2} (ho : OpR X (compareOp op) r) (ho' : OpR X (compareOp op') r') (ha : PE X a ta) (hb : PE X b tb) (hc : PE X c tc)
  (hm : lastMarks [op, op'] [b, c] = false := by with_unfolding_all rfl) : PE X (.Compare a [op, op'] [b, c] pos) (Xmk r r' ta tb tc) := by
 intro pins s σ H Q I h
 refine Compare_chain (thn (ha pins s σ H _ I h) fun v s1 ⟨x, H1, I1, r1, q1⟩ => chain_link (thn (hb pins s1 σ H1 _ I1 q1) fun u s2 ⟨y, H2, I2, r2, q2⟩ =>
  thn (ho pins s2 σ H2 x y v u _ I2 r1 r2 q2) fun d s3 ⟨z, H3, I3, r3, k, e, q3⟩ => ?_)) hm
 subst e
 cases r3
 refine wpAny_truthy_bool ?_
 cases k with
 | false => exact ite_ff ⟨.bl false, H3, I3, rfl, q3⟩
 | true => exact ite_tt (chain_last (thn (hc pins s3 σ H3 _ I3 q3) fun w' s4 ⟨z', H4, I4, r4, q4⟩ => ho' pins s4 σ H4 y z' u w' Q I4 r2 r4 q4))
theorem pt_chain {op op' : CmpOp} {r r' : R2} (ho : OpR X (compareOp op) r) (ho' : OpR X (compareOp op') r') (ha : PE X a ta) (hb : PE X b tb) (hc : PE X c tc)
  (hm : lastMarks [op, op'] [b, c] = false := by with_unfolding_all rfl) : PT X (.Compare a [op, op'] [b, c] pos) (tTest (Xmk r r' ta tb tc)) := by
 intro pins s σ H Q I h
 refine isTrue_chain (thn (ha pins s σ H _ I h) fun v s1 ⟨x, H1, I1, r1, q1⟩ => test_link (thn (hb pins s1 σ H1 _ I1 q1) fun u s2 ⟨y, H2, I2, r2, q2⟩ =>
  thn (ho pins s2 σ H2 x y v u _ I2 r1 r2 q2) fun d s3 ⟨z, H3, I3, r3, k, e, q3⟩ => ?_)) hm
 subst e
 cases r3
 refine wpAny_truthy_bool ?_
 cases k with
 | false =>
  obtain ⟨k', e', q'⟩ := q3
  cases e'
  exact ite_ff ⟨H3, I3, q'⟩
 | true =>
  refine ite_tt (test_last (thn (hc pins s3 σ H3 _ I3 q3) fun w' s4 ⟨z', H4, I4, r4, q4⟩ => thn (ho' pins s4 σ H4 y z' u w' _ I4 r2 r4 q4) fun d' s5 ⟨z2, H5, I5, r5, k2, e2, q5⟩ => ?_))
  subst e2
  cases r5
  exact wpAny_truthy_bool ⟨H5, I5, q5⟩
def TruV (K : PySem.W.Frag) (x : V) (H : Hp) (k : Bool) : Prop :=
 match x with
 | .non => k = false
 | .bl b => k = b
 | .int i => k = (i != 0)
 | .str y => y.length <= sizeLine /\ k = ((y.length : Int) != 0)
 | .byt y => y.size <= sizeLine /\ k = ((y.size : Int) != 0)
 | .ref p => (∃ xs, SqL K H p xs /\ k = !xs.isEmpty) \/ (∃ xs, SqT K H p xs /\ k = !xs.isEmpty) \/ ∃ kvs, H p = some (.dK kvs) /\ k = !kvs.isEmpty
 | _ => False
theorem line63 : (sizeLine : Nat) < 2 ^ 63 := by rw [sizeLine_eq]; decide
theorem Xd9 : OpR X (binaryOp .Add) (fun x y H Q => ∃ i j, x = .str i /\ y = .str j /\ i.length + j.length <= sizeLine /\ Q (.str (i ++ j)) H) := by
 intro pins s σ H x y v u Q I rx ry h
 obtain ⟨i, j, rfl, rfl, hz, q⟩ := h
 obtain ⟨t, rfl⟩ := rx
 obtain ⟨t', rfl⟩ := ry
 exact add_str (fun t' tk => ⟨.str (i ++ j), H, I.tok _, ⟨_, rfl⟩, q⟩) hz
theorem vals1 {x : V} {us : List Value} (r : Vals [x] us) : ∃ u, us = [u] /\ RelV x u := by
 cases r with
 | cons r1 r2 => cases r2; exact ⟨_, rfl, r1⟩
theorem vals2 {x y : V} {us : List Value} (r : Vals [x, y] us) : ∃ u w', us = [u, w'] /\ RelV x u /\ RelV y w' := by
 cases r with
 | cons r1 r2 =>
  cases r2 with
  | cons r3 r4 => cases r4; exact ⟨_, _, rfl, r1, r3⟩
theorem Xml (hc : X.calm = true) : Xdg X (.builtin "min") (fun xs H Q => ∃ i j, xs = [.int i, .int j] /\ Q (.int (if j < i then j else i)) H) := by
 intro pins s σ H xs us Q I r h
 obtain ⟨i, j, rfl, q⟩ := h
 obtain ⟨u, w', rfl, ⟨t, rfl⟩, ⟨t', rfl⟩⟩ := vals2 r
 refine min_two_ints (I.ok.hd hc) fun h' tk k => ⟨_, H, I.kept k, ?_, q⟩
 by_cases hj : j < i
 ·rw [if_pos hj, if_pos hj]; exact ⟨_, rfl⟩
 ·rw [if_neg hj, if_neg hj]; exact ⟨_, rfl⟩
theorem Xmm : Xdg X (.type "int") (fun xs H Q => (∃ i, xs = [.int i] /\ Q (.int i) H) \/ ∃ k, xs = [.bl k] /\ Q (.int (if k then 1 else 0)) H) := by
 intro pins s σ H xs us Q I r h
 rcases h with ⟨i, rfl, q⟩ | ⟨k, rfl, q⟩
 ·obtain ⟨u, rfl, t, rfl⟩ := vals1 r
  exact call_int_int ⟨.int i, H, I, ⟨_, rfl⟩, q⟩
 ·obtain ⟨u, rfl, r1⟩ := vals1 r
  cases r1
  exact call_int_bool ⟨.int (if k then 1 else 0), H, I.tok _, ⟨_, rfl⟩, q⟩
def LenV (K : PySem.W.Frag) (x : V) (H : Hp) (n : Nat) : Prop :=
 match x with
 | .str y => y.length <= sizeLine /\ n = y.length
 | .byt y => y.size <= sizeLine /\ n = y.size
 | .ref p => (∃ xs, SqL K H p xs /\ n = xs.length) \/ ∃ xs, SqT K H p xs /\ n = xs.length
 | _ => False
end
structure ObjM (h : Heap) (x dx C : Addr) (mA : Str -> Option Value) : Prop where
 obj : h.get? x = some (PySem.W.instObj C dx)
 ns : h.Ns1 dx mA
 ne : dx ≠ x
theorem Xmn {h : Heap} {dx : Addr} {mA : Str -> Option Value} (n : h.Ns1 dx mA) : ∃ od, h.get? dx = some od /\ ∀ name, PySem.W.lookIn name od = some (mA name) := by
 obtain ⟨o, es, ep, ho, hd, hk, _, hm⟩ := n
 refine ⟨o, ho, fun name => ?_⟩
 have e := hm name
 unfold nsFind findBy at e
 rw [<- Array.find?_toList] at e
 unfold PySem.W.lookIn
 rw [hd]
 dsimp only
 split
 ·rename_i y q
  rw [q] at e
  exact congrArg some e
 ·rename_i q
  rw [q] at e
  have a : es.toList.any (·.refKey) = false := by
   rw [List.any_eq_false]
   intro y hy
   obtain ⟨z, t, hkey⟩ := hk y (Array.mem_toList_iff.mp hy)
   simp [DictEntry.refKey, hkey]
  have a' : ¬ es.toList.any (·.refKey) = true := by rw [a]; exact Bool.false_ne_true
  rw [if_neg a']
  exact congrArg some e
theorem ObjM.look {h : Heap} {x dx C : Addr} {mA : Str -> Option Value} (I : ObjM h x dx C mA) : ∃ od, PySem.W.InstAt h x (PySem.W.instObj C dx) C (some od) /\ ∀ name, PySem.W.lookIn name od = some (mA name) :=
 let ⟨od, ho, hl⟩ := Xmn I.ns
 ⟨od, ⟨I.obj, rfl, rfl, ho⟩, hl⟩
section
variable {prog : Program} {w : World} {A : Around} {E : Value -> Shared -> Prop} {s : Shared} {K : PySem.W.Frag} {x dx C f : Addr} {mA : Str -> Option Value} {name : Str} {v : Value}
end
def putF (f : Str) (v : V) : List (Str × V) -> List (Str × V)
 | [] => [(f, v)]
 | (g, x) :: r => if g = f then (g, v) :: r else (g, x) :: putF f v r
theorem RelO.some_of {v : V} {o : Option Value} (r : RelO (some v) o) : ∃ u, o = some u /\ RelV v u := by
 cases o with
 | none => exact (show False from r).elim
 | some u => exact ⟨u, rfl, r⟩
section
variable {P : Program} {w : World} {H H' : Hp} {h h' : Heap} {a C dx : Addr} {fs fs' : List (Str × V)}
theorem ins_get (hok : HOk P w H h) (e : H a = some (.ins C dx fs)) : ∃ mA, ObjM h a dx C mA /\ (∀ f, RelO (fs.lookup f) (mA f)) /\ PySem.Within mA (fs.map (·.1)) /\ fs.length <= 1000 /\ H dx = some (.own a) := by
 obtain ⟨d, z, ne, ob, mA, n, r, q⟩ := (show Xa5 P w H h a (.ins C dx fs) from hok a _ e)
 exact ⟨mA, ⟨ob, n, ne⟩, r, q, z, d⟩
end
structure Cls (K : PySem.W.Frag) (C : Addr) : Prop where
 pg : PySem.W.plainGet K C Str.empty = true
 hd : PySem.W.hasDictIn K C = true
 po : PySem.W.plainOver K C = true
 sa : PySem.W.findIn K (.ref C) "__setattr__" = some (some (.builtin "object.__setattr__"))
theorem Cls.get {K : PySem.W.Frag} {C : Addr} (c : Cls K C) (f : Str) : PySem.W.plainGet K C f = true := c.pg
def Xmo (K : PySem.W.Frag) (C : Addr) (f : Str) : Prop := PySem.W.findIn K (.ref C) f = some none
structure Con (K : PySem.W.Frag) (C : Addr) (f : Str) (v : V) (u : Value) : Prop where
 at_ : PySem.W.findIn K (.ref C) f = some (some u)
 rel : RelV v u
 get : PySem.W.specialIn K u "__get__" = some none
 cp : PySem.W.copiedNames.contains f = false
structure Meth (K : PySem.W.Frag) (C : Addr) (m : Str) (f : Addr) : Prop where
 at_ : PySem.W.findIn K (.ref C) m = some (some (.ref f))
 fn : PySem.W.isFn K (.ref f) = true
 kp : PySem.W.keepIn K (.ref f) = true
section
variable {X : Cx} {pins : List (Addr × Obj)} {σ : St} {H : Hp} {s : Shared} {a C dx : Addr} {fs : List (Str × V)} {f : Str} {v : V} {A : Around} {E : Value -> Shared -> Prop}
end
def tFld (K : PySem.W.Frag) (ta : TE) (f : Str) : TE := fun σ H Q => ta σ H fun x H1 => ∃ a C dx fs v, x = .ref a /\ H1 a = some (.ins C dx fs) /\ Cls K C /\ Xmo K C f /\ fs.lookup f = some v /\ Q v H1
def tCon (K : PySem.W.Frag) (ta : TE) (f : Str) : TE := fun σ H Q => ta σ H fun x H1 => ∃ a C dx fs v u, x = .ref a /\ H1 a = some (.ins C dx fs) /\ Cls K C /\ Con K C f v u /\ fs.lookup f = none /\ Q v H1
def sFld (K : PySem.W.Frag) (ta tv : TE) (f : Str) : TS := fun D σ H => tv σ H fun y H1 => ta σ H1 fun x H2 => ∃ a C dx fs, x = .ref a /\ H2 a = some (.ins C dx fs) /\ Cls K C /\ Xmo K C f /\ fs.length < 1000 /\
 D.nx σ (upd H2 a (.ins C dx (putF f y fs)))
def InOp (X : Cx) (op : Operator) (rd : V -> V -> Hp -> VK -> Prop) : Prop :=
 ∀ (pins : List (Addr × Obj)) (s : Shared) (σ : St) (H : Hp) (x y : V) (u v : Value) (Q : VK), Inv X pins σ H s -> RelV x u -> RelV y v -> rd x y H Q -> wpAny (model X.prog X.w) X.A (inplaceOp op u v) (EP X pins σ Q) X.xe s
def sFldAug (K : PySem.W.Frag) (ta tv : TE) (rd : V -> V -> Hp -> VK -> Prop) (f : Str) : TS := fun D σ H => ta σ H fun x H1 => ∃ a C dx fs v, x = .ref a /\ H1 a = some (.ins C dx fs) /\ Cls K C /\ Xmo K C f /\ fs.lookup f = some v /\
 tv σ H1 fun y H2 => rd v y H2 fun z H3 => ∃ dx' fs', H3 a = some (.ins C dx' fs') /\ fs'.length < 1000 /\ D.nx σ (upd H3 a (.ins C dx' (putF f z fs')))
section
variable {X : Cx} {o e value : Expr} {f : Str} {pos pos' tpos : Pos} {ta tv : TE}
end
section
variable {X : Cx} {pins : List (Addr × Obj)} {σ : St} {H : Hp} {s : Shared} {A : Around} {E : Value -> Shared -> Prop} {Q : Value -> Shared -> Prop} {c : Value} {b : Bool}
inductive TyOf (K : PySem.W.Frag) (H : Hp) : V -> Value -> Prop where
 | non : TyOf K H .non (.type "NoneType")
 | bl (x : Bool) : TyOf K H (.bl x) (.type "bool")
 | int (i : Int) : TyOf K H (.int i) (.type "int")
 | str (x : Str) : TyOf K H (.str x) (.type "str")
 | flt (x : UInt64) : TyOf K H (.flt x) (.type "float")
 | lst {a : Addr} {xs : List V} (e : H a = some (.lst xs)) : TyOf K H (.ref a) (.type "list")
 | frz {a : Addr} {o : Obj} {xs : List V} (e : H a = some (.frz o (.lst xs))) : TyOf K H (.ref a) (.type "list")
 | tup {a : Addr} {xs : List V} (e : H a = some (.tup xs)) : TyOf K H (.ref a) (.type "tuple")
 | dK {a : Addr} {kvs : List (Key × V)} (e : H a = some (.dK kvs)) : TyOf K H (.ref a) (.type "dict")
 | dT {a : Addr} {kvs : List (List Key × V)} (e : H a = some (.dT kvs)) : TyOf K H (.ref a) (.type "dict")
 | ins {a C dx : Addr} {fs : List (Str × V)} (e : H a = some (.ins C dx fs)) (cl : Cls K C) (ha : PySem.W.findIn K (.ref C) "__class__" = some (some (.builtin "object.__class__")))
   (hn : PySem.W.specialIn K (.builtin "object.__class__") "__get__" = some (some (.builtin "getset_descriptor.__get__"))) (htk : PySem.W.takesIn K (.builtin "object.__class__") = some true)
   (hm : PySem.W.mroIn K C (.type "object") = some true) : TyOf K H (.ref a) (.ref C)
theorem Xmp {x : V} {u t : Value} (I : Inv X pins σ H s) (rx : RelV x u) (ty : TyOf X.K H x t) (e : PySem.W.kitOne X.K t c = some b) (h : ∀ tk, Q (.bool b) { s with toks := tk }) :
  wpAny (model X.prog X.w) A (call (.builtin "isinstance") [u, c]) Q E s := by
 cases ty with
 | non => cases (show u = Value.none from rx); exact PySem.W.kia_one PySem.W.kitx_none I.kIn True.intro e (fun z => nomatch z) h
 | bl y => cases (show u = Value.bool y from rx); exact PySem.W.kia_one PySem.W.kitx_bool I.kIn True.intro e (fun z => nomatch z) h
 | int i => obtain ⟨t, q⟩ := (show ∃ t, u = Value.int i t from rx); cases q; exact PySem.W.kia_one PySem.W.kitx_int I.kIn True.intro e (fun z => nomatch z) h
 | str y => obtain ⟨t, q⟩ := (show ∃ t, u = Value.str y t from rx); cases q; exact PySem.W.kia_one PySem.W.kitx_str I.kIn True.intro e (fun z => nomatch z) h
 | flt y => obtain ⟨t, q⟩ := (show ∃ t, u = Value.float y t from rx); cases q; exact PySem.W.kia_one PySem.W.kitx_float I.kIn True.intro e (fun z => nomatch z) h
 | @lst a xs ea =>
  cases (show u = Value.ref a from rx)
  obtain ⟨_, _, n, _, h1⟩ := (show Xa5 X.prog X.w H s.heap a (.lst xs) from I.hok a _ ea)
  exact PySem.W.kia_one PySem.W.kitx_list I.kIn ⟨_, h1, rfl⟩ e (fun z => nomatch z) h
 | @frz a ob xs ea =>
  cases (show u = Value.ref a from rx)
  obtain ⟨_, _, _, n, _, h1⟩ := (show Xa5 X.prog X.w H s.heap a (.frz ob (.lst xs)) from I.hok a _ ea)
  exact PySem.W.kia_one PySem.W.kitx_list I.kIn ⟨_, h1, rfl⟩ e (fun z => nomatch z) h
 | @tup a xs ea =>
  cases (show u = Value.ref a from rx)
  obtain ⟨_, _, _, p⟩ := (show Xa5 X.prog X.w H s.heap a (.tup xs) from I.hok a _ ea)
  obtain ⟨o, h1, h2, _⟩ := p
  exact PySem.W.kia_one PySem.W.kitx_tuple I.kIn ⟨o, h1, h2⟩ e (fun z => nomatch z) h
 | @dK a kvs ea =>
  cases (show u = Value.ref a from rx)
  obtain ⟨_, _, vs, _, p⟩ := (show Xa5 X.prog X.w H s.heap a (.dK kvs) from I.hok a _ ea)
  obtain ⟨o, es, ep, h1, h2, _⟩ := p
  exact PySem.W.kia_one PySem.W.kitx_dict I.kIn ⟨o, h1, h2.1⟩ e (fun z => nomatch z) h
 | @dT a kvs ea =>
  cases (show u = Value.ref a from rx)
  obtain ⟨_, _, xs, _, o, es, ep, h1, h2, _⟩ := (show Xa5 X.prog X.w H s.heap a (.dT kvs) from I.hok a _ ea)
  exact PySem.W.kia_one PySem.W.kitx_dict I.kIn ⟨o, h1, h2.1⟩ e (fun z => nomatch z) h
 | @ins a C dx fs ea cl ha hn htk hm =>
  cases (show u = Value.ref a from rx)
  obtain ⟨mA, O, _⟩ := ins_get I.hok ea
  obtain ⟨od, J, _⟩ := O.look
  exact PySem.W.kia_one (PySem.W.kitx_own (cl.get _) cl.hd ha hn htk hm) I.kIn J e (fun z => nomatch z) h
end
structure Room (k : Nat) (A : Around) : Prop where
 hd : A.handled = none
 dp : A.depth + 3 * k + 5 < recursionLimit
 un : A.units + 16 * k + 200 < cLine
 gd : A.guards = some []
theorem Room.mono {j k : Nat} {A : Around} (r : Room k A) (h : j <= k) : Room j A := ⟨r.hd, by have := r.dp; omega, by have := r.un; omega, r.gd⟩
theorem Room.deeper {k : Nat} {A : Around} (r : Room (k + 1) A) (env : Env) : Room k (A.deeper env) :=
 ⟨r.hd, by have := r.dp; show A.depth + 1 + 3 * k + 5 < _; omega, by have := r.un; show A.units + 3 + 16 * k + 200 < _; omega, r.gd⟩
theorem Room.in1 {k : Nat} {A : Around} (r : Room (k + 1) A) : Room k A.in1 :=
 ⟨r.hd, by have := r.dp; show A.depth + 3 * k + 5 < _; omega, by have := r.un; show A.units + 1 + 16 * k + 200 < _; omega, r.gd⟩
theorem Room.depth {k : Nat} {A : Around} (r : Room k A) : A.depth < recursionLimit := by have := r.dp; omega
theorem Room.units {k : Nat} {A : Around} (r : Room k A) : A.units + 64 < cLine := by have := r.un; omega
def tNil : TA := fun _ H Q => Q [] H
def Xle (ta : TE) (tr : TA) : TA := fun σ H Q => ta σ H fun x H1 => tr σ H1 fun xs H2 => Q (x :: xs) H2
section
variable {X : Cx} {e : Expr} {es : List Expr} {te : TE} {t : TA} {pos : Pos}
theorem Xad : PA X [] tNil := fun _ _ _ _ H Q I h => Calls.spliced_nil ⟨[], H, I, .nil, h⟩
theorem Xab (ha : PE X e te) (hr : PA X es t) (hs : starEach (e :: es) X.env = (false, eval e X.env) :: starEach es X.env := by rfl) : PA X (e :: es) (Xle te t) := by
 intro pos pins s σ H Q I h
 rw [hs]
 show wpAny _ _ (spliced ((false, eval e X.env) :: backTo pos (starEach es X.env))) _ _ s
 refine Calls.spliced_cons (thn (ha pins s σ H _ I h) fun u s1 ⟨x, H1, I1, r1, q1⟩ => ?_)
 exact thn (hr pos pins s1 σ H1 _ I1 q1) fun us s2 ⟨xs, H2, I2, r2, q2⟩ => ⟨x :: xs, H2, I2, .cons r1 r2, q2⟩
def tTup (t : TA) : TE := fun σ H Q => t σ H fun xs H1 => xs.length <= sizeLine /\ ∀ p, H1 p = none -> Q (.ref p) (upd H1 p (.tup xs))
def tLst (t : TA) : TE := fun σ H Q => t σ H fun xs H1 => xs.length <= sizeLine /\ ∀ p, H1 p = none -> Q (.ref p) (upd H1 p (.lst xs))
theorem Xcc {x1} (h : PA X es t) : PE X (.Tuple es x1 pos) (tTup t) := by
 intro pins s σ H Q I hq
 refine wpAny_Tuple_spliced (thn (h pos pins s σ H _ I hq) fun us s1 ⟨xs, H1, I1, r, z, q⟩ => ⟨by rw [<- r.length]; exact z, ?_⟩)
 have hf : H1 s1.heap.objs.size = none := I1.hok.fresh (Nat.le_refl _)
 refine ⟨.ref s1.heap.objs.size, upd H1 s1.heap.objs.size (.tup xs), I1.laid (t' := s1.toks) (fun b u e => Heap.get?_push_of_some _ e) (Nat.le_refl _) ?_, rfl, q _ hf⟩
 exact ⟨z, us, r, ⟨_, Heap.get?_push_size _ rfl, rfl, _, rfl⟩⟩
theorem Xbv (h : PA X es t) : PE X (.List es pos) (tLst t) := by
 intro pins s σ H Q I hq
 refine wpAny_List_spliced (thn (h pos pins s σ H _ I hq) fun us s1 ⟨xs, H1, I1, r, z, q⟩ => ⟨by rw [<- r.length]; exact z, ?_⟩)
 have hf : H1 s1.heap.objs.size = none := I1.hok.fresh (Nat.le_refl _)
 refine ⟨.ref s1.heap.objs.size, upd H1 s1.heap.objs.size (.lst xs), I1.laid (t' := s1.toks) (fun b u e => Heap.get?_push_of_some _ e) (Nat.le_refl _) ?_, rfl, q _ hf⟩
 exact ⟨z, us, 0, r, Heap.get?_push_size _ rfl⟩
end
abbrev Sp := List V -> Hp -> VK -> XK -> Prop
abbrev CXT := List Env -> Hp -> Shared -> XK -> Value -> Shared -> Prop
structure Env0 (P : Program) (w : World) (K : PySem.W.Frag) (mg : Str -> Option Value) (base : Heap) (A : Around) (outer : List Env) (s : Shared) (H : Hp) : Prop where
 frames : A.frames = some outer
 mod : Mod K mg base
 bs : ∀ b o, base.get? b = some o -> s.heap.get? b = some o /\ H b = none
 bsz : base.objs.size <= s.heap.objs.size
 funs : s.heap.FunFrames base outer
 frf : ∀ b ∈ frs outer, H b = none
 hok : HOk P w H s.heap
 bare : AllBare s.gens
def CE (outer : List Env) (P : Program) (w : World) (H : Hp) (s : Shared) (Q : VK) (u : Value) (s' : Shared) : Prop :=
 ∃ v H', s'.os = s.os /\ AllBare s'.gens /\ Un (frs outer) [] H H' s.heap s'.heap /\ HOk P w H' s'.heap /\ RelV v u /\ Q v H'
def CR (CX : CXT) (outer : List Env) (P : Program) (w : World) (H : Hp) (s : Shared) (Q : VK) (E : XK) (r : Result) (s' : Shared) : Prop :=
 match r with
 | .ok (.ret u) => CE outer P w H s Q u s'
 | .ok _ => False
 | .error e => CX outer H s E e s'
structure FnOk (P : Program) (w : World) (K : PySem.W.Frag) (mg : Str -> Option Value) (base : Heap) (CX : CXT) (k : Nat) (f : Addr) (fd : FuncData) (ps : List Str) (sp : Sp) : Prop where
 len : ∀ vs H Q E, sp vs H Q E -> vs.length = ps.length
 run : ∀ (A : Around) (outer : List Env) (s : Shared) (H : Hp) (args : Args) (us : List Value) (vs : List V) (Q : VK) (E : XK), Room k A -> Env0 P w K mg base A outer s H -> BindsTo s fd args (ps.zip us) -> Vals vs us -> sp vs H Q E ->
  codeAny (model P w) A (.call (.ref f) args) (CR CX outer P w H s Q E) s
theorem Env0.in1 {P : Program} {w : World} {K : PySem.W.Frag} {mg : Str -> Option Value} {base : Heap} {A : Around} {outer : List Env} {s : Shared} {H : Hp} (e : Env0 P w K mg base A outer s H) :
  Env0 P w K mg base A.in1 outer s H := ⟨e.frames, e.mod, e.bs, e.bsz, e.funs, e.frf, e.hok, e.bare⟩
section
variable {X : Cx} {pins : List (Addr × Obj)} {σ : St} {H : Hp} {s s' : Shared}
theorem Inv.env0 (I : Inv X pins σ H s) : Env0 X.prog X.w X.K X.mg X.base X.A X.stack s H :=
 ⟨I.ok.frames, I.ok.mod, I.bs, Nat.le_trans I.ok.bsz I.sz, I.stack, I.stkFree, I.hok, I.bare⟩
theorem Inv.after {Q : VK} {u : Value} (I : Inv X pins σ H s) (h : CE X.stack X.prog X.w H s Q u s') : EP X pins σ Q u s' := by
 obtain ⟨v, H', os, bare, un, hok, r, q⟩ := h
 obtain ⟨hh, g, d, t, os'⟩ := s'
 obtain rfl : os' = s.os := os
 exact ⟨v, H', I.call (h' := hh) (g' := g) (d' := d) (t' := t) (ch := []) un hok bare (fun b z => absurd z (by simp)), r, q⟩
end
def tCall (sp : Sp) (dvs : List V) (E : XK) (t : TA) : TE := fun σ H Q => t σ H fun vs H1 => sp (vs ++ dvs) H1 Q E
def tMeth (C : Addr) (m : Str) (sp : Sp) (dvs : List V) (E : XK) (ta : TE) (t : TA) : TE := fun σ H Q => ta σ H fun x H1 => ∃ a dx fs, x = .ref a /\ H1 a = some (.ins C dx fs) /\ fs.lookup m = none /\
 t σ H1 fun vs H2 => sp (x :: (vs ++ dvs)) H2 Q E
def tMake (C : Addr) (sp : Sp) (dvs : List V) (E : XK) (t : TA) : TE := fun σ H Q => t σ H fun vs H1 => ∀ x dx, H1 x = none -> H1 dx = none -> dx ≠ x ->
 sp (.ref x :: (vs ++ dvs)) (upd (upd H1 dx (.own x)) x (.ins C dx [])) (fun v H2 => v = .non /\ Q (.ref x) H2) E
def Binds (K : PySem.W.Frag) (fd : FuncData) (ps : List Str) (ds : List Value) : Prop :=
 ∀ (s : Shared) (us : List Value), K.In s.heap -> (us ++ ds).length = ps.length -> BindsTo s fd ⟨us, []⟩ (ps.zip (us ++ ds))
theorem Binds.all {K : PySem.W.Frag} {fd : FuncData} {ps : List Str} (h : ∀ us : List Value, us.length = ps.length -> bindArgs fd ⟨us, []⟩ = pure (ps.zip us)) : Binds K fd ps [] := fun s us _ hl => by
 rw [List.append_nil] at hl ⊢
 exact .of_eq (h us hl)
def Passes (CX : CXT) (X : Cx) (E : XK) : Prop := ∀ (pins : List (Addr × Obj)) (σ : St) (H : Hp) (s : Shared) (e : Value) (s' : Shared), Inv X pins σ H s -> CX X.stack H s E e s' -> X.xe e s'
section
variable {X : Cx} {CX : CXT} {k : Nat} {f C : Addr} {fd : FuncData} {ps : List Str} {sp : Sp} {dvs : List V} {ds : List Value} {E : XK} {x m : Str} {p pos apos : Pos} {e o : Expr} {es : List Expr} {ta : TE} {t : TA}
theorem run_fn {pins : List (Addr × Obj)} {σ : St} {H : Hp} {s : Shared} {Q : VK} {us : List Value} {vs : List V} (F : FnOk X.prog X.w X.K X.mg X.base CX k f fd ps sp) (hr : Room k X.A) (hb : Binds X.K fd ps ds) (hd : Vals dvs ds) (hx : Passes CX X E)
  (I : Inv X pins σ H s) (r : Vals vs us) (h : sp (vs ++ dvs) H Q E) : wpAny (model X.prog X.w) X.A (call (.ref f) us) (EP X pins σ Q) X.xe s := by
 have r2 : Vals (vs ++ dvs) (us ++ ds) := r.append hd
 have hl : (us ++ ds).length = ps.length := by rw [<- r2.length]; exact F.len _ _ _ _ h
 refine wpAny_call (codeAny_mono (F.run X.A X.stack s H ⟨us, []⟩ (us ++ ds) (vs ++ dvs) Q E hr I.env0 (hb s us I.kIn hl) r2 h) fun r s' hq => ?_)
 cases r with
 | error e => exact hx pins σ H s e s' I hq
 | ok fl =>
  cases fl with
  | ret u => exact I.after hq
  | next => exact False.elim hq
  | brk => exact False.elim hq
  | cont => exact False.elim hq
theorem pe_call (F : FnOk X.prog X.w X.K X.mg X.base CX k f fd ps sp) (hr : Room k X.A) (hg : Gl X x) (hm : X.mg x = some (.ref f)) (hk : PySem.W.keepIn X.K (.ref f) = true) (hb : Binds X.K fd ps ds) (hd : Vals dvs ds) (hx : Passes CX X E)
  (ha : PA X (e :: es) t) (hdb : (x == ("__debug__" : Str)) = false := by decide) (he : starEach (e :: es) X.env = (false, eval e X.env) :: starEach es X.env := by rfl) (hpl : (backTo pos (starEach es X.env)).any (·.1) = false := by rfl) :
  PE X (.Call (.Name x p) (e :: es) [] pos) (tCall sp dvs E t) := by
 intro pins s σ H Q I h
 refine wpAny_Call_Name_kw (Xma I hg hm ?_ hdb)
 refine PySem.W.callWith_K (h₀ := X.base) I.ok.mod.kin hk (thn (ha pos pins s σ H _ I h) fun us s1 ⟨vs, H1, I1, r, q⟩ => ⟨I1.kIn, ?_⟩) he hpl
 exact run_fn F hr hb hd hx I1 r q
structure Mk (K : PySem.W.Frag) (C f : Addr) : Prop where
 makes : PySem.W.makesIn K C = true
 init : PySem.W.findIn K (.ref C) "__init__" = some (some (.ref f))
 fn : PySem.W.isFn K (.ref f) = true
 kp : PySem.W.keepIn K (.ref C) = true
end
def PK (X : Cx) (kws : List Keyword) (t : TA) : Prop :=
 ∀ (pos : Pos) (pins : List (Addr × Obj)) (s : Shared) (σ : St) (H : Hp) (Q : List V -> Hp -> Prop), Inv X pins σ H s -> t σ H Q -> wpAny (model X.prog X.w) X.A (evalAll ((backToKw pos (keywordEach kws X.env)).map (·.2))) (AP X pins σ Q) X.xe s
section
variable {X : Cx} {CX : CXT} {k : Nat} {f C : Addr} {fd : FuncData} {ps ks : List Str} {sp : Sp} {E : XK} {x m : Str} {p pos apos kpos : Pos} {e o : Expr} {es : List Expr} {kws : List Keyword} {te ta : TE} {t tk : TA} {nm : Option Str}
theorem pk_nil : PK X [] tNil := fun _ _ _ _ H Q I h => wpAny_evalAll_nil ⟨[], H, I, .nil, h⟩
theorem pk_cons (ha : PE X e te) (hr : PK X kws t) : PK X (⟨nm, e, kpos⟩ :: kws) (Xle te t) := by
 intro pos pins s σ H Q I h
 show wpAny _ _ (evalAll ((do let v <- eval e X.env; standAt pos; pure v) :: (backToKw pos (keywordEach kws X.env)).map (·.2))) _ _ s
 refine wpAny_evalAll_cons (wpAny_bind (thn (ha pins s σ H _ I h) fun u s1 ⟨x, H1, I1, r1, q1⟩ => wpAny_bind (wpAny_standAt (wpAny_pure ?_))))
 exact thn (hr pos pins s1 σ H1 _ I1 q1) fun us s2 ⟨xs, H2, I2, r2, q2⟩ => ⟨x :: xs, H2, I2, .cons r1 r2, q2⟩
structure KBinds (K : PySem.W.Frag) (fd : FuncData) (ps ks : List Str) (g : List Value -> List Value -> List Value) (gV : List V -> List V -> List V) : Prop where
 to : ∀ (s : Shared) (us ws : List Value), K.In s.heap -> (g us ws).length = ps.length -> BindsTo s fd ⟨us, ks.zip ws⟩ (ps.zip (g us ws))
 rel : ∀ {vs : List V} {us : List Value} {zs : List V} {ws : List Value}, Vals vs us -> Vals zs ws -> Vals (gV vs zs) (g us ws)
variable {g : List Value -> List Value -> List Value} {gV : List V -> List V -> List V}
end
structure FnScope (N P : List Str) (sc : Scope) : Prop where
 kind : sc.kind = .function
 co : sc.isCoroutine = false
 gen : sc.isGenerator = false
 nd : N.Nodup
 pre : N.take P.length = P
 par : ∀ x ∈ P, sc.names.lookup x = some .local \/ sc.names.lookup x = some .cell
 nofree : ∀ y ∈ sc.names, y.2 ≠ .free
theorem Xhj {kindOf : Str -> Option NameKind} {x : Str} : ∀ {binds : List (Str × Value)} {m : Str -> Option Value}, (∀ v, (x, v) ∉ binds) -> bindL kindOf binds m x = m x
 | [], _, _ => rfl
 | (n, v) :: r, m, h => by
  unfold bindL
  rw [Xhj fun w hw => h w (List.mem_cons_of_mem _ hw)]
  split
  ·have : x ≠ n := by rintro rfl; exact h v List.mem_cons_self
   simp [this]
  ·rfl
theorem Xhk {kindOf : Str -> Option NameKind} {x : Str} : ∀ {binds : List (Str × Value)} {m : Str -> Option Value}, (∀ v, (x, v) ∉ binds) -> bindC kindOf binds m x = m x
 | [], _, _ => rfl
 | (n, v) :: r, m, h => by
  unfold bindC
  rw [Xhk fun w hw => h w (List.mem_cons_of_mem _ hw)]
  split
  ·rfl
  ·have : x ≠ n := by rintro rfl; exact h v List.mem_cons_self
   simp [this]
theorem Xhl {kindOf : Str -> Option NameKind} {x : Str} {v : Value} : ∀ {P : List Str} {vs : List Value} {i : Nat} {m : Str -> Option Value}, P.Nodup -> P[i]? = some x -> vs[i]? = some v -> kindOf x = some .local ->
  bindL kindOf (P.zip vs) m x = some v
 | [], _, _, _, _, h, _, _ => by simp at h
 | _ :: _, [], _, _, _, _, h, _ => by simp at h
 | p :: P, w :: vs, 0, m, nd, h1, h2, hk => by
  simp at h1 h2; subst h1; subst h2
  show bindL kindOf ((p, w) :: P.zip vs) m p = _
  unfold bindL
  rw [Xhj fun v hv => (List.nodup_cons.mp nd).1 (List.of_mem_zip hv).1, if_pos hk]
  simp
 | p :: P, w :: vs, i + 1, m, nd, h1, h2, hk => by
  show bindL kindOf ((p, w) :: P.zip vs) m x = _
  unfold bindL
  exact Xhl (i := i) (List.nodup_cons.mp nd).2 (by simpa using h1) (by simpa using h2) hk
theorem Xhm {kindOf : Str -> Option NameKind} {x : Str} {v : Value} : ∀ {P : List Str} {vs : List Value} {i : Nat} {m : Str -> Option Value}, P.Nodup -> P[i]? = some x -> vs[i]? = some v -> kindOf x ≠ some .local ->
  bindC kindOf (P.zip vs) m x = some v
 | [], _, _, _, _, h, _, _ => by simp at h
 | _ :: _, [], _, _, _, _, h, _ => by simp at h
 | p :: P, w :: vs, 0, m, nd, h1, h2, hk => by
  simp at h1 h2; subst h1; subst h2
  show bindC kindOf ((p, w) :: P.zip vs) m p = _
  unfold bindC
  rw [Xhk fun v hv => (List.nodup_cons.mp nd).1 (List.of_mem_zip hv).1, if_neg hk]
  simp
 | p :: P, w :: vs, i + 1, m, nd, h1, h2, hk => by
  show bindC kindOf ((p, w) :: P.zip vs) m x = _
  unfold bindC
  exact Xhm (i := i) (List.nodup_cons.mp nd).2 (by simpa using h1) (by simpa using h2) hk
def start (N : List Str) (vs : List V) : St := vs.map some ++ List.replicate (N.length - vs.length) none
def cxOf (CX : CXT) (P : Program) (w : World) (K : PySem.W.Frag) (mg : Str -> Option Value) (base : Heap) (N : List Str) (qual : Str) (scope : Scope) (f : Addr) (cd : Value) (A : Around) (outer : List Env) (s : Shared) (H : Hp) (E : XK) : Cx where
 prog := P
 w := w
 K := K
 mg := mg
 base := base
 A := A.deeper (envOfC qual scope s.heap.objs.size f cd)
 N := N
 s₀ := s
 H₀ := H
 env := envOfC qual scope s.heap.objs.size f cd
 outer := outer
 stack := envOfC qual scope s.heap.objs.size f cd :: outer
 ex := []
 calm := true
 fn := fun _ => true
 pn := []
 xe := fun e s' => wpAny (model P w) (A.deeper (envOfC qual scope s.heap.objs.size f cd)) (leaving (envOfC qual scope s.heap.objs.size f cd) e) (fun _ s'' => CX outer H s E e s'') (fun e' s'' => CX outer H s E e' s'') s'
theorem Xke {sc : Scope} {n : Nat} {x : Str} (h : sc.names.lookup x = some .cell) : ∃ c, (cellsFrom n sc.names []).lookup x = some c := by
 have q := PySem.W.cellsFrom_some sc.names n [] (.inl h)
 exact Option.isSome_iff_exists.mp q
theorem Xhn {CX : CXT} {P : Program} {w : World} {K : PySem.W.Frag} {mg : Str -> Option Value} {base : Heap} {N ps : List Str} {qual : Str} {scope : Scope} {f : Addr} {cd : Value} {A : Around} {outer : List Env} {s s1 : Shared} {H : Hp} {E : XK} {us : List Value} {vs : List V}
  (S : FnScope N ps scope) (hd : A.handled = none) (e0 : Env0 P w K mg base A outer s H) (hl : vs.length = ps.length) (r : Vals vs us)
  (x : InCallC s s.heap.objs.size (bindL (envOfC qual scope s.heap.objs.size f cd).kindOf (ps.zip us) fun _ => none) (cellsFrom (s.heap.objs.size + 1) scope.names []) (bindC (envOfC qual scope s.heap.objs.size f cd).kindOf (ps.zip us) fun _ => none) s1) :
  Inv (cxOf CX P w K mg base N qual scope f cd A outer s H E) [] (start N vs) H s1 := by
 have hpl : ps.length <= N.length := by have := congrArg List.length S.pre; rw [List.length_take] at this; omega
 obtain ⟨h1, tk, rfl, hk⟩ := x.done
 have noA : ∀ b : Addr, b ∉ (cxOf CX P w K mg base N qual scope f cd A outer s H E).ex := fun b z => absurd (show b ∈ ([] : List Addr) from z) (by simp)
 refine ⟨⟨e0.mod, S.kind, rfl, rfl, Nat.le_refl _, fun y z c h1 h2 => ?_, fun y hy => ?_, fun y c _ h => ?_, fun _ => hd, Around.frames_deeper e0.frames, .inr ⟨rfl, rfl⟩, fun b z => absurd z (noA b), e0.bs, e0.bsz, fun b _ _ => noA b, fun b z => absurd z (noA b), e0.funs, e0.frf⟩,
  rfl, e0.bare, Un.kept hk, ⟨_, x.toInCall.ns, fun i y v h1 h2 h3 => ?_⟩, fun y c h => ⟨_, x.cell y c h⟩, e0.hok.fresh (Nat.le_refl _), fun y c h => ?_, fun p hp => absurd (show p ∈ ([] : List (Addr × Obj)) from hp) (by simp), e0.hok.kept hk, ?_⟩
 ·exact name_of_addr x.apart (PySem.mem_of_lookup h1) (PySem.mem_of_lookup h2)
 ·have hy : scope.names.lookup y = some .cell \/ scope.names.lookup y = some .free := hy
  rcases hy with hy | hy
  ·exact Xke hy
  ·exact absurd rfl (S.nofree _ (PySem.mem_of_lookup hy))
 ·exact Nat.le_of_lt (x.above y c (PySem.mem_of_lookup h))
 ·have hi : i < vs.length := by
   unfold start at h2
   by_cases hi : i < vs.length
   ·exact hi
   ·rw [List.getElem?_append_right (by simpa using hi)] at h2
    rw [List.getElem?_replicate] at h2
    split at h2 <;> cases h2
  have ha : vs[i]? = some v := by
   unfold start at h2
   rw [List.getElem?_append_left (by simpa using hi), List.getElem?_map] at h2
   cases e : vs[i]? with
   | none => rw [e] at h2; cases h2
   | some a => rw [e] at h2; cases h2; rfl
  obtain ⟨u, hu, rv⟩ := r.get ha
  have hp : ps[i]? = some y := by
   rw [<- S.pre, List.getElem?_take_of_lt (by omega)]; exact h1
  have ndP : ps.Nodup := by rw [<- S.pre]; exact S.nd.sublist (List.take_sublist _ _)
  refine ⟨u, rv, ?_⟩
  rcases S.par y (List.mem_of_getElem? hp) with k | k
  ·exact .inl ⟨k, Xhl ndP hp hu k⟩
  ·obtain ⟨c, e⟩ := Xke (n := s.heap.objs.size + 1) k
   refine .inr ⟨.inl k, c, e, ?_⟩
   have q := x.cell y c e
   rw [Xhm ndP hp hu (by show scope.names.lookup y ≠ _; rw [k]; decide)] at q
   exact q
 ·exact e0.hok.fresh (Nat.le_of_lt (x.above y c (PySem.mem_of_lookup h)))
 ·unfold start
  show _ = N.length
  rw [List.length_append, List.length_map, List.length_replicate]
  omega
theorem fn_of {CX : CXT} {P : Program} {w : World} {K : PySem.W.Frag} {mg : Str -> Option Value} {base : Heap} {k : Nat} {f : Addr} {name qual : Str} {params : Arguments} {body : List Stmt} {scope : Scope} {dV kV doc pm cdv ct oc : Value} {an od : Option Addr}
  {osl : Array (Option Value)} {N ps : List Str} {sp : Sp} (lk : K.lookup f = some ⟨oc, od, .func (PySem.W.fnOf name qual params body scope dV kV doc pm an cdv ct), osl⟩) (hcd : PySem.W.codeIn K cdv qual = true) (S : FnScope N ps scope)
  (len : ∀ vs H Q E, sp vs H Q E -> vs.length = ps.length)
  (hbody : ∀ (A : Around) (outer : List Env) (s : Shared) (H : Hp) (vs : List V) (Q : VK) (E : XK), Room k (A.deeper (envOfC qual scope s.heap.objs.size f cdv)) -> sp vs H Q E ->
   ∃ t, PSs (cxOf CX P w K mg base N qual scope f cdv A outer s H E) body t /\ t { nx := fun _ H' => Q .non H', rt := Q } (start N vs) H) :
  FnOk P w K mg base CX (k + 1) f (PySem.W.fnOf name qual params body scope dV kV doc pm an cdv ct) ps sp := by
 refine ⟨len, fun A outer s H args us vs Q E hr e0 hb r hsp => ?_⟩
 have hl := len _ _ _ _ hsp
 have KX : K.In s.heap := e0.mod.kin.keeps fun b o e => (e0.bs b o e).1
 have lim : s.heap.NoLimit := e0.mod.nolimit.keeps fun b o e => (e0.bs b o e).1
 have hkind : ∀ y ∈ ps.zip us, scope.names.lookup y.1 = some .local \/ (scope.names.lookup y.1 = some .cell /\ ((cellsFrom (s.heap.objs.size + 1) scope.names []).lookup y.1).isSome = true) := fun ⟨n, v⟩ hy => by
  rcases S.par n (List.of_mem_zip hy).1 with q | q
  ·exact .inl q
  ·exact .inr ⟨q, PySem.W.cellsFrom_some _ _ _ (.inl q)⟩
 refine codeAny_call_function hr.depth (KX _ _ lk) rfl S.co S.gen rfl (PySem.W.codeRec_of KX hcd) (hb _ _ _ _ ?_)
 refine wpAny_newFunctionEnv_cells S.kind hkind fun env he s1 x => ?_
 subst he
 refine ⟨lim.keeps x.toInCall.keep, codeAny_func ?_⟩
 obtain ⟨t, ht, hq⟩ := hbody A outer s H vs Q E (hr.deeper _) hsp
 have I : Inv (cxOf CX P w K mg base N qual scope f cdv A outer s H E) [] (start N vs) H s1 := Xhn S hr.hd e0 hl r x
 refine wpAny_mono (ht [] s1 (start N vs) H _ I hq) (fun fl s' hs => ?_) fun e s' hs => hs
 have fin : ∀ {σ' : St} {H' : Hp} {v : V} {u : Value}, Inv (cxOf CX P w K mg base N qual scope f cdv A outer s H E) [] σ' H' s' -> RelV v u -> Q v H' -> CE outer P w H s Q u s' :=
  fun {σ' H' v u} J rv q => ⟨v, H', J.os, J.bare, J.base, J.hok, rv, q⟩
 cases fl with
 | ret u =>
  obtain ⟨v, σ', H', J, rv, q⟩ := hs
  exact fin J rv q
 | next =>
  obtain ⟨σ', H', J, q⟩ := hs
  exact fin (v := V.non) (u := Value.none) J rfl q
 | brk =>
  obtain ⟨_, _, _, q⟩ := hs
  exact False.elim q
 | cont =>
  obtain ⟨_, _, _, q⟩ := hs
  exact False.elim q
section
variable {X : Cx} {x : Str} {p pos : Pos} {e : Expr} {es : List Expr} {t : TA} {id T : String} {r : List V -> Hp -> VK -> Prop}
def tCB (r : List V -> Hp -> VK -> Prop) (t : TA) : TE := fun σ H Q => t σ H fun vs H1 => r vs H1 Q
theorem Xak (hc : Xdg X (.builtin id) r) (hg : Gl X x) (hm : X.mg x = none) (hv : bootBuiltins x = some (.builtin id)) (ha : PA X (e :: es) t) (hn : x ≠ "__name__" := by decide) (hdb : (x == ("__debug__" : Str)) = false := by decide)
  (he : starEach (e :: es) X.env = (false, eval e X.env) :: starEach es X.env := by rfl) (hpl : (backTo pos (starEach es X.env)).any (·.1) = false := by rfl) : PE X (.Call (.Name x p) (e :: es) [] pos) (tCB r t) := by
 intro pins s σ H Q I h
 refine wpAny_Call_Name_kw (Xf6 I hg hm hv ?_ hn hdb)
 exact PyProof.Rows.callWith_builtin1 (thn (ha pos pins s σ H _ I h) fun us s1 ⟨vs, H1, I1, r1, q1⟩ => hc pins s1 σ H1 vs us Q I1 r1 q1) he hpl
theorem Xbn (hc : Xdg X (.type T) r) (hg : Gl X x) (hm : X.mg x = none) (hv : bootBuiltins x = some (.type T)) (ha : PA X (e :: es) t) (hn : x ≠ "__name__" := by decide) (hdb : (x == ("__debug__" : Str)) = false := by decide)
  (he : starEach (e :: es) X.env = (false, eval e X.env) :: starEach es X.env := by rfl) (hpl : (backTo pos (starEach es X.env)).any (·.1) = false := by rfl) : PE X (.Call (.Name x p) (e :: es) [] pos) (tCB r t) := by
 intro pins s σ H Q I h
 refine wpAny_Call_Name_kw (Xf6 I hg hm hv ?_ hn hdb)
 exact PyProof.Rows.callWith_type1 (thn (ha pos pins s σ H _ I h) fun us s1 ⟨vs, H1, I1, r1, q1⟩ => hc pins s1 σ H1 vs us Q I1 r1 q1) he hpl
end
end L2
namespace HT
open PySem PyProof.Rows
def lexLt : List Int -> List Int -> Bool
 | [], [] => false
 | [], _ :: _ => true
 | _ :: _, [] => false
 | x :: xs, y :: ys => if x = y then lexLt xs ys else decide (x < y)
section
open PySem.SeqAt
open PySem.AutoSeq1 (wpAny_loadPart')
open PySem.MeetsSeq PySem.MeetsSeq2 PySem.MeetsSeq3
end
section
variable {prog : Program} {w : World} {A : Around} {E : Value -> Shared -> Prop} {s : Shared}
theorem cat_tup {t b : Addr} {vs ws : List Value} {Q : Value -> Shared -> Prop} (ht : IsTup s.heap t vs.toArray) (hb : IsTup s.heap b ws.toArray) (hv : vs ≠ [])
  (h1 : ws = [] -> Q (.ref t) s) (h2 : ws ≠ [] -> Q (.ref s.heap.objs.size) { s with heap := s.heap.push { cls := .type "tuple", data := .seq (vs ++ ws).toArray } })
  (hsz : vs.length + ws.length <= sizeLine) : wpAny (model prog w) A (binaryOp .Add (.ref t) (.ref b)) Q E s := by
 obtain ⟨⟨cls, dd, data, sl⟩, ho, hc, n, hd⟩ := id ht
 obtain ⟨⟨cls2, dd2, data2, sl2⟩, ho2, hc2, n2, hd2⟩ := id hb
 simp only at hc hd hc2 hd2
 subst hc hd hc2 hd2
 have e : vs.toArray ++ ws.toArray = (vs ++ ws).toArray := by simp
 by_cases hw : ws = []
 ·exact concat_meets ⟨_, ho, rfl⟩ ⟨_, ho2, rfl⟩ noFill_tuple_add seq_tuple_add PySem.F.slot_tuple_add PySem.F.entry_tuple_add (PySem.F.args_tuple_add_2 _ _)
   (tuple_addW1 t b vs.toArray ws.toArray n n2 dd dd2 sl sl2 (by simpa using hv) (by simp [hw])) ⟨ho, ho2, h1 hw⟩
 ·refine concat_meets ⟨_, ho, rfl⟩ ⟨_, ho2, rfl⟩ noFill_tuple_add seq_tuple_add PySem.F.slot_tuple_add PySem.F.entry_tuple_add (PySem.F.args_tuple_add_2 _ _)
   (tuple_addW2 t b vs.toArray ws.toArray n n2 dd dd2 sl sl2 (by simpa using hv) (by simpa using hw) (by rw [List.size_toArray, List.size_toArray]; exact hsz)) ⟨ho, ho2, ?_⟩
  rw [e]
  exact h2 hw
def sIx (n d : Nat) : Option Int -> Nat
 | none => d
 | some v => if v < 0 then (v + (n : Int)).toNat else min v.toNat n
theorem sIx_none (n d : Nat) : sIx n d none = d := rfl
theorem sIx_nat (n d k : Nat) : sIx n d (some (k : Int)) = min k n := by
 show (if (k : Int) < 0 then ((k : Int) + (n : Int)).toNat else min (k : Int).toNat n) = min k n
 rw [if_neg (by omega), Int.toNat_natCast]
end
end HT
namespace L2
open PySem PySem.Spec PyProof.Rows
abbrev TO := St -> Hp -> (Option Int -> Hp -> Prop) -> Prop
def PO (X : Cx) (e : Option Expr) (t : TO) : Prop :=
 ∀ (pins : List (Addr × Obj)) (s : Shared) (σ : St) (H : Hp) (Q : Option Int -> Hp -> Prop), Inv X pins σ H s -> t σ H Q ->
  wpAny (model X.prog X.w) X.A (evalPart e X.env) (fun u s' => ∃ o H', Inv X pins σ H' s' /\ IsPart u o /\ Q o H') X.xe s
def tNoPart : TO := fun _ H Q => Q none H
def tPart (t : TE) : TO := fun σ H Q => t σ H fun x H1 => ∃ i, x = .int i /\ Q (some i) H1
section
variable {X : Cx} {e : Expr} {te : TE} {lo hi : Option Expr} {tl th : TO} {pos p2 : Pos}
theorem Xch : PO X none tNoPart := by
 intro pins s σ H Q I h
 rw [evalPart_none]
 exact wpAny_pure ⟨none, H, I, .none, h⟩
theorem Xbw (h : PE X e te) : PO X (some e) (tPart te) := by
 intro pins s σ H Q I hw
 rw [evalPart_some]
 refine thn (h pins s σ H _ I hw) fun u s1 ⟨x, H1, I1, r1, q1⟩ => ?_
 obtain ⟨i, rfl, q⟩ := q1
 obtain ⟨t, rfl⟩ := r1
 exact ⟨some i, H1, I1, .int i t, q⟩
def SlR (X : Cx) (r : V -> Option Int -> Option Int -> Hp -> VK -> Prop) : Prop :=
 ∀ (pins : List (Addr × Obj)) (s : Shared) (σ : St) (H : Hp) (x : V) (v vl vu : Value) (lo hi : Option Int) (sl : Addr) (Q : VK), Inv X pins σ H s -> RelV x v -> s.heap.IsSliceOf sl vl vu .none -> IsPart vl lo -> IsPart vu hi -> r x lo hi H Q ->
  ∃ T id, typeLookup (.type T) "__getitem__" = pure (some (.builtin id)) /\ s.TypeIs v T /\ wpAny (model X.prog X.w) X.A (getItem v (.ref sl)) (EP X pins σ Q) X.xe s
def tSl (r : V -> Option Int -> Option Int -> Hp -> VK -> Prop) (te : TE) (tl th : TO) : TE := fun σ H Q => te σ H fun x H1 => tl σ H1 fun l H2 => th σ H2 fun u H3 => r x l u H3 Q
theorem Xbk {r : V -> Option Int -> Option Int -> Hp -> VK -> Prop} (hr : SlR X r) (he : PE X e te) (hl : PO X lo tl) (hu : PO X hi th) : PE X (.Subscript e (.Slice lo hi none p2) pos) (tSl r te tl th) := by
 intro pins s σ H Q I h
 refine Subscript_ (thn (he pins s σ H _ I h) fun v s1 ⟨x, H1, I1, r1, q1⟩ => ?_)
 refine wpAny_Slice (thn (hl pins s1 σ H1 _ I1 q1) fun vl s2 ⟨l, H2, I2, pl, q2⟩ => thn (hu pins s2 σ H2 _ I2 q2) fun vu s3 ⟨u, H3, I3, pu, q3⟩ => ?_)
 rw [evalPart_none]
 refine wpAny_pure ?_
 have I4 : Inv X pins σ H3 { s3 with heap := s3.heap.push { cls := .type "slice", data := .fields #[vl, vu, .none] } } := I3.kept (t' := s3.toks) fun b ob q => Heap.get?_push_of_some _ q
 obtain ⟨T, id, hT, ht, hg⟩ := hr pins { s3 with heap := s3.heap.push { cls := .type "slice", data := .fields #[vl, vu, .none] } } σ H3 x v vl vu l u s3.heap.objs.size Q I4 r1 (Heap.IsSliceOf.new ..) pl pu q3
 show wpAny (model X.prog X.w) X.A (subscriptTail e (.Slice lo hi none p2) v (.ref s3.heap.objs.size)) (EP X pins σ Q) X.xe { s3 with heap := s3.heap.push { cls := .type "slice", data := .fields #[vl, vu, .none] } }
 exact tail_any (ops := [.ref s3.heap.objs.size, v]) ht hT hg (by with_unfolding_all rfl)
def cutV (xs : List V) (lo hi : Option Int) : List V := (xs.drop (HT.sIx xs.length 0 lo)).take (HT.sIx xs.length xs.length hi - HT.sIx xs.length 0 lo)
theorem Xi5 (xs : List V) (lo hi : Option Int) : (cutV xs lo hi).length <= xs.length := by
 unfold cutV
 rw [List.length_take, List.length_drop]
 omega
def rSlT (K : PySem.W.Frag) : V -> Option Int -> Option Int -> Hp -> VK -> Prop := fun x lo hi H Q => ∃ a xs, x = .ref a /\ SqT K H a xs /\
 ¬ (HT.sIx xs.length 0 lo = 0 /\ HT.sIx xs.length xs.length hi = xs.length) /\ ∀ p, H p = none -> Q (.ref p) (upd H p (.tup (cutV xs lo hi)))
def rCatT (K : PySem.W.Frag) : R2 := fun x y H Q => ∃ a b xs ys, x = .ref a /\ y = .ref b /\ SqT K H a xs /\ SqT K H b ys /\ xs ≠ [] /\ xs.length + ys.length <= sizeLine /\
 (ys = [] -> Q (.ref a) H) /\ (ys ≠ [] -> ∀ p, H p = none -> Q (.ref p) (upd H p (.tup (xs ++ ys))))
theorem Vals.nil_iff {xs : List V} {us : List Value} (r : Vals xs us) : us = [] ↔ xs = [] := by
 cases r with
 | nil => simp
 | cons _ _ => simp
theorem op_catT : OpR X (binaryOp .Add) (rCatT X.K) := by
 intro pins s σ H x y v u Q I rx ry h
 obtain ⟨a, b, xs, ys, rfl, rfl, ha, hb, hx, hz, q1, q2⟩ := h
 cases rx
 cases ry
 obtain ⟨its, r1, p1, _⟩ := I.tuple ha
 obtain ⟨its2, r2, p2, _⟩ := I.tuple hb
 refine HT.cat_tup p1 p2 (fun z => hx (r1.nil_iff.mp z)) (fun z => ⟨.ref a, H, I, rfl, q1 (r2.nil_iff.mp z)⟩) (fun z => ?_) (by rw [<- r1.length, <- r2.length]; exact hz)
 refine ⟨.ref s.heap.objs.size, _, I.laid (t' := s.toks) (o := .tup (xs ++ ys)) (fun b ob q => Heap.get?_push_of_some _ q) (Nat.le_refl _) ?_, rfl, q2 (fun w => z (r2.nil_iff.mpr w)) _ (I.hok.fresh (Nat.le_refl _))⟩
 exact ⟨by rw [List.length_append]; exact hz, _, r1.append r2, IsTup.new _ _⟩
end
def ixN (n : Nat) (i : Int) : Option Nat := if 0 <= i then (if i < n then some i.toNat else none) else if -(n : Int) <= i then some (i + n).toNat else none
def atI {α : Type} (xs : List α) (i : Int) : Option α := (ixN xs.length i).bind fun j => xs[j]?
theorem Xmq {n : Nat} {i : Int} {j : Nat} (h : ixN n i = some j) : seqIndex? i n = some j /\ j < n /\ -(n : Int) <= i /\ i < n := by
 unfold ixN at h
 by_cases h0 : 0 <= i
 ·rw [if_pos h0] at h
  by_cases h1 : i < n
  ·rw [if_pos h1] at h
   have e : i.toNat = j := Option.some.inj h
   exact ⟨by rw [seqIndex_of h0 h1, e], by omega, by omega, h1⟩
  ·rw [if_neg h1] at h; cases h
 ·rw [if_neg h0] at h
  by_cases h1 : -(n : Int) <= i
  ·rw [if_pos h1] at h
   have e : (i + n).toNat = j := Option.some.inj h
   exact ⟨by rw [seqIndex_neg (by omega) h1, e], by omega, h1, by omega⟩
  ·rw [if_neg h1] at h; cases h
theorem Xi6 {α : Type} {xs : List α} {i : Int} {v : α} (h : atI xs i = some v) : ∃ j, seqIndex? i xs.length = some j /\ xs[j]? = some v /\ j < xs.length /\ -(xs.length : Int) <= i /\ i < xs.length := by
 unfold atI at h
 cases e : ixN xs.length i with
 | none => rw [e] at h; cases h
 | some j =>
  rw [e] at h
  obtain ⟨h1, h2, h3, h4⟩ := Xmq e
  exact ⟨j, h1, h, h2, h3, h4⟩
theorem Xfe {α : Type} {xs : List α} {j : Nat} {v : α} (h : xs[j]? = some v) : atI xs (j : Int) = some v := by
 have hj : j < xs.length := (List.getElem?_eq_some_iff.mp h).1
 have e : ixN xs.length (j : Int) = some j := by
  unfold ixN
  rw [if_pos (by omega), if_pos (by omega)]; simp
 unfold atI; rw [e]; exact h
def PlainIx (b : Expr) : Prop := ∀ o i, subscripted b false o i = operate [o, i] (getItem o i)
def IxR (X : Cx) (r : R2) : Prop :=
 ∀ (value slice : Expr) (pins : List (Addr × Obj)) (s : Shared) (σ : St) (H : Hp) (x y : V) (v u : Value) (Q : VK), Inv X pins σ H s -> RelV x v -> RelV y u -> r x y H Q ->
  subscripted slice false v u = operate [v, u] (getItem v u) -> wpAny (model X.prog X.w) X.A (subscriptTail value slice v u) (EP X pins σ Q) X.xe s
def MtR (X : Cx) (id : String) (r : V -> List V -> Hp -> VK -> Prop) : Prop :=
 ∀ (pins : List (Addr × Obj)) (s : Shared) (σ : St) (H : Hp) (x : V) (xs : List V) (v : Value) (us : List Value) (Q : VK), Inv X pins σ H s -> RelV x v -> Vals xs us -> r x xs H Q ->
  wpAny (model X.prog X.w) X.A (call (.builtin id) (v :: us)) (EP X pins σ Q) X.xe s
section
variable {X : Cx} {a b : Expr} {ta tb : TE} {pos : Pos}
theorem Xa3 {r : R2} (hr : IxR X r) (ha : PE X a ta) (hb : PE X b tb) (hs : PlainIx b) : PE X (.Subscript a b pos) (tOp r ta tb) := by
 intro pins s σ H Q I h
 exact Subscript_ (binT ha hb I h fun v u s2 x y H2 I2 rx ry q => hr a b pins s2 σ H2 x y v u Q I2 rx ry q (hs _ _))
def rIxL (K : PySem.W.Frag) : R2 := fun x y H Q => ∃ p xs i v, x = .ref p /\ y = .int i /\ SqL K H p xs /\ atI xs i = some v /\ Q v H
def rIxT (K : PySem.W.Frag) : R2 := fun x y H Q => ∃ p xs i v, x = .ref p /\ y = .int i /\ SqT K H p xs /\ atI xs i = some v /\ Q v H
def rIxS : R2 := fun x y H Q => ∃ z i c, x = .str z /\ y = .int i /\ z.length <= sizeLine /\ atI z.cps.toList i = some c /\ Q (.str ⟨#[c]⟩) H
theorem Xav : IxR X (rIxL X.K) := by
 intro value slice pins s σ H x y v u Q I rx ry h hs
 obtain ⟨p, xs, i, z, rfl, rfl, hq, he, q⟩ := h
 cases rx
 obtain ⟨t, rfl⟩ := ry
 obtain ⟨its, r, pl, hz⟩ := I.list hq
 obtain ⟨j, h1, h2, h3, h4, h5⟩ := Xi6 he
 obtain ⟨w, ew, rw'⟩ := r.get h2
 have hl := r.length
 have hn := line63
 have fin : EP X pins σ Q w s := ⟨z, H, I, rw', q⟩
 by_cases h0 : 0 <= i
 ·have hj : i.toNat = j := by
   rw [seqIndex_of h0 h5] at h1
   exact Option.some.inj h1
  exact item_listR pl.isList h0 (by omega) (by rw [hj]; simpa using ew) fin hs
 ·have hj : (i + (its.toArray.size : Int)).toNat = j := by
   rw [seqIndex_neg (by omega) h4] at h1
   rw [List.size_toArray, <- hl]
   exact Option.some.inj h1
  exact subscriptTail_builtinR (x := w) pl.isList.typeIs slot_list_getitem.lookup
   (wpAny_getItem_list_neg (Q := fun r s' => r = w /\ EP X pins σ Q r s') pl.isList (by omega) (by rw [List.size_toArray] <;> omega) (by omega) (by rw [hj]; simpa using ew) ⟨rfl, fin⟩) hs
theorem Xmr : IxR X (rIxT X.K) := by
 intro value slice pins s σ H x y v u Q I rx ry h hs
 obtain ⟨p, xs, i, z, rfl, rfl, hq, he, q⟩ := h
 cases rx
 obtain ⟨t, rfl⟩ := ry
 obtain ⟨its, r, pl, hz⟩ := I.tuple hq
 obtain ⟨j, h1, h2, h3, h4, h5⟩ := Xi6 he
 obtain ⟨w, ew, rw'⟩ := r.get h2
 have hl := r.length
 have hn := line63
 have fin : EP X pins σ Q w s := ⟨z, H, I, rw', q⟩
 exact subscriptTail_builtinR (x := w) pl.typeIs slot_tuple_getitem.lookup
  (getItem_tuple (j := j) (Q := fun r s' => r = w /\ EP X pins σ Q r s') pl (by omega) (by omega) (by rw [List.size_toArray, <- hl]; exact h1) (by simpa using ew) ⟨rfl, fin⟩) hs
theorem ix_str : IxR X rIxS := by
 intro value slice pins s σ H x y v u Q I rx ry h hs
 obtain ⟨z, i, c, rfl, rfl, hz, he, q⟩ := h
 obtain ⟨t, rfl⟩ := rx
 obtain ⟨t', rfl⟩ := ry
 obtain ⟨j, h1, h2, h3, h4, h5⟩ := Xi6 he
 have hl : z.cps.toList.length = z.length := by simp [Str.length]
 rw [hl] at h1 h4 h5
 have hn := line63
 exact tail_any (typeIs_str s z t) slot_str_getitem.lookup (getItem_str (c := c) (by
  have e1 : decide (i < -(2 ^ 63 : Int)) = false := decide_eq_false (by omega)
  have e2 : decide (i ≥ 2 ^ 63) = false := decide_eq_false (by omega)
  rw [e1, e2, Bool.or_false]) (by rw [h1]; simpa using h2) ⟨.str ⟨#[c]⟩, H, I.tok _, ⟨_, rfl⟩, q⟩) hs
def rIx (K : PySem.W.Frag) : R2 := fun x y H Q => rIxL K x y H Q \/ rIxT K x y H Q \/ rIxS x y H Q
theorem Xlf (its : List Value) (n j : Nat) (u : Value) : Obj.mapSeq (·.setIfInBounds j u) { cls := .type "list", data := .seq its.toArray n } = { cls := .type "list", data := .seq (its.set j u).toArray n } := by
 simp [Obj.mapSeq]
theorem Inv.lst {pins : List (Addr × Obj)} {σ : St} {H : Hp} {s : Shared} {p : Addr} {xs : List V} (I : Inv X pins σ H s) (h : H p = some (.lst xs)) :
  ∃ (its : List Value) (n : Nat), Vals xs its /\ s.heap.get? p = some { cls := .type "list", data := .seq its.toArray n } /\ xs.length <= sizeLine := by
 obtain ⟨z, its, n, r, e⟩ := I.hok p _ h
 exact ⟨its, n, r, e, z⟩
theorem Inv.lstUpd {pins : List (Addr × Obj)} {σ : St} {H : Hp} {s : Shared} {p : Addr} {xs ys : List V} {its its' : List Value} {n n' : Nat} {f : Obj -> Obj} (I : Inv X pins σ H s) (h : H p = some (.lst xs))
  (ho : s.heap.get? p = some { cls := .type "list", data := .seq its.toArray n }) (hf : f { cls := .type "list", data := .seq its.toArray n } = { cls := .type "list", data := .seq its'.toArray n' }) (r : Vals ys its') (hz : ys.length <= sizeLine) (t : Nat) :
  Inv X pins σ (upd H p (.lst ys)) { s with heap := s.heap.update p f, toks := t } := by
 have e : (s.heap.update p f).get? p = some { cls := .type "list", data := .seq its'.toArray n' } := by
  rw [Heap.get?_update_self f ho (by rw [hf] <;> rfl), hf]
 refine I.write (x := p) (e := p) (by rw [h]; trivial) (.inl rfl) (fun b u hb q => (Heap.get?_update_other _ _ (Ne.symm hb)).trans q) ⟨_, e⟩ ?_
 exact ⟨hz, its', n', r, e⟩
def rSetL : V -> V -> V -> Hp -> (Hp -> Prop) -> Prop := fun o i v H Q => ∃ p xs k j, o = .ref p /\ i = .int k /\ H p = some (.lst xs) /\ ixN xs.length k = some j /\ Q (upd H p (.lst (xs.set j v)))
theorem Xci : PSet X rSetL := by
 intro pins s σ H o i v ov iv u Q I ro ri rv h
 obtain ⟨p, xs, k, j, rfl, rfl, hp, hj, q⟩ := h
 cases ro
 obtain ⟨t, rfl⟩ := ri
 obtain ⟨its, n, r, ho, hz⟩ := I.lst hp
 obtain ⟨h1, h2, h3, h4⟩ := Xmq hj
 have hl := r.length
 have hn := line63
 have I' : Inv X pins σ (upd H p (.lst (xs.set j v))) { s with heap := s.heap.update p (Obj.mapSeq (·.setIfInBounds j u)) } :=
  I.lstUpd hp ho (Xlf its n j u) (r.set rv j) (by rw [List.length_set]; exact hz) s.toks
 by_cases h0 : 0 <= k
 ·have hk : k.toNat = j := by
   rw [seqIndex_of h0 h4] at h1
   exact Option.some.inj h1
  exact PySem.W.ki_setAt ho h0 (by omega) (by rw [List.size_toArray, <- hl]; exact h4) (by rw [hk]; exact ⟨_, I', q⟩)
 ·have hk : (k + (its.toArray.size : Int)).toNat = j := by
   rw [seqIndex_neg (by omega) h3] at h1
   rw [List.size_toArray, <- hl]
   exact Option.some.inj h1
  exact PySem.W.ki_setBack ho (by omega) (by rw [List.size_toArray, <- hl]; exact h3) (by omega) (by rw [hk]; exact ⟨_, I', q⟩)
theorem Xho (lo hi : Option Int) (n : Nat) : (sliceBounds lo hi none n).1 = ((HT.sIx n 0 lo : Nat) : Int) /\ (sliceBounds lo hi none n).2.1 = ((HT.sIx n n hi : Nat) : Int) /\ (sliceBounds lo hi none n).2.2 = 1 := by
 refine ⟨?_, ?_, rfl⟩
 ·cases lo with
  | none => simp [sliceBounds, HT.sIx]
  | some i =>
   simp only [sliceBounds, HT.sIx, Option.getD_none, show (1 : Int) > 0 by decide, if_true]
   by_cases h : i < 0
   ·simp only [h, if_true] <;> omega
   ·simp only [h, if_false] <;> omega
 ·cases hi with
  | none => simp [sliceBounds, HT.sIx]
  | some i =>
   simp only [sliceBounds, HT.sIx, Option.getD_none, show (1 : Int) > 0 by decide, if_true]
   by_cases h : i < 0
   ·simp only [h, if_true] <;> omega
   ·simp only [h, if_false] <;> omega
theorem Xgk (its : List Value) (lo hi : Option Int) : slicePick its.toArray lo hi none = ((its.drop (HT.sIx its.length 0 lo)).take (HT.sIx its.length its.length hi - HT.sIx its.length 0 lo)).toArray := by
 obtain ⟨h1, h2, h3⟩ := Xho lo hi its.toArray.size
 unfold slicePick
 rw [h1, h2, h3]
 simp only [sliceRange_one, pick_run, List.size_toArray] <;> rfl
def rSlL (K : PySem.W.Frag) : V -> Option Int -> Option Int -> Hp -> VK -> Prop := fun x lo hi H Q => ∃ a xs, x = .ref a /\ SqL K H a xs /\ ∀ p, H p = none -> Q (.ref p) (upd H p (.lst (cutV xs lo hi)))
theorem Xca : SlR X (rSlL X.K) := by
 intro pins s σ H x v vl vu lo hi sl Q I rx hs pl pu h
 obtain ⟨a, xs, rfl, hx, q⟩ := h
 cases rx
 obtain ⟨its, r, ht, hz⟩ := I.list hx
 have hlen := r.length
 refine ⟨"list", _, slot_list_getitem.lookup, ht.isList.typeIs, ?_⟩
 refine wpAny_getItem_list_slice ht.isList hs pl pu .none (by simp) ?_ (by rw [List.size_toArray] <;> omega)
 rw [Xgk, <- hlen]
 refine ⟨.ref s.heap.objs.size, _, I.laid (t' := s.toks) (o := .lst (cutV xs lo hi)) (fun b ob q => Heap.get?_push_of_some _ q) (Nat.le_refl _) ?_, rfl, q _ (I.hok.fresh (Nat.le_refl _))⟩
 exact ⟨Nat.le_trans (Xi5 xs lo hi) hz, _, 0, (r.drop (HT.sIx xs.length 0 lo)).take (HT.sIx xs.length xs.length hi - HT.sIx xs.length 0 lo), Heap.get?_push_size _ rfl⟩
def Xgl : V -> Bool
 | .non => true
 | .bl _ => true
 | .int _ => true
 | .str _ => true
 | _ => false
def eqV : V -> V -> Bool
 | .non, .non => true
 | .bl a, .bl b => a == b
 | .bl a, .int b => (if a then 1 else 0) == b
 | .int a, .bl b => a == (if b then 1 else 0)
 | .int a, .int b => a == b
 | .str a, .str b => a == b
 | _, _ => false
theorem eqAt_V {A : Around} {s : Shared} {y x : V} {u v : Value} (ry : RelV y u) (rx : RelV x v) (fy : Xgl y = true) (fx : Xgl x = true) : SeqAt.EqAt A s u v (eqV y x) := by
 cases y with
 | non =>
  cases ry
  cases x with
  | non => cases rx; exact SeqAt.EqAt.same _
  | bl b => cases rx; exact SeqAt.EqAt.none_bool b
  | int b => obtain ⟨t, rfl⟩ := rx; exact SeqAt.EqAt.none_int b t
  | str b => obtain ⟨t, rfl⟩ := rx; exact SeqAt.EqAt.none_str b t
  | _ => exact absurd (show false = true from fx) Bool.false_ne_true
 | bl a =>
  cases ry
  cases x with
  | non => cases rx; exact SeqAt.EqAt.bool_none a
  | bl b => cases rx; exact SeqAt.EqAt.bool_bool a b
  | int b => obtain ⟨t, rfl⟩ := rx; exact SeqAt.EqAt.bool_int a b t
  | str b => obtain ⟨t, rfl⟩ := rx; exact SeqAt.EqAt.bool_str a b t
  | _ => exact absurd (show false = true from fx) Bool.false_ne_true
 | int a =>
  obtain ⟨t', rfl⟩ := ry
  cases x with
  | non => cases rx; exact SeqAt.EqAt.int_none a t'
  | bl b => cases rx; exact SeqAt.EqAt.int_bool a t' b
  | int b => obtain ⟨t, rfl⟩ := rx; exact SeqAt.EqAt.int_int a t' b t
  | str b => obtain ⟨t, rfl⟩ := rx; exact SeqAt.EqAt.int_str a t' b t
  | _ => exact absurd (show false = true from fx) Bool.false_ne_true
 | str a =>
  obtain ⟨t', rfl⟩ := ry
  cases x with
  | non => cases rx; exact SeqAt.EqAt.str_none a t'
  | bl b => cases rx; exact SeqAt.EqAt.str_bool a t' b
  | int b => obtain ⟨t, rfl⟩ := rx; exact SeqAt.EqAt.str_int a t' b t
  | str b => obtain ⟨t, rfl⟩ := rx; exact SeqAt.EqAt.str_str a t' b t
  | _ => exact absurd (show false = true from fx) Bool.false_ne_true
 | _ => exact absurd (show false = true from fy) Bool.false_ne_true
def eqU (x : V) (u : Value) : Bool := match u with
 | .none => eqV .non x
 | .bool b => eqV (.bl b) x
 | .int i _ => eqV (.int i) x
 | .str z _ => eqV (.str z) x
 | _ => false
theorem eqU_of {x y : V} {u : Value} (r : RelV y u) (f : Xgl y = true) : eqU x u = eqV y x := by
 cases y with
 | non => cases r; rfl
 | bl b => cases r; rfl
 | int i => obtain ⟨t, rfl⟩ := r; rfl
 | str z => obtain ⟨t, rfl⟩ := r; rfl
 | _ => exact absurd (show false = true from f) Bool.false_ne_true
theorem Xff {x : V} : ∀ {xs : List V} {us : List Value}, Vals xs us -> xs.all Xgl = true -> us.any (eqU x) = xs.any fun y => eqV y x
 | _, _, .nil, _ => rfl
 | y :: xs, u :: us, .cons r t, f => by
  rw [List.all_cons, Bool.and_eq_true] at f
  rw [List.any_cons, List.any_cons, eqU_of r f.1, Xff t f.2]
theorem Xdn {A : Around} {s : Shared} {x : V} {v : Value} (rx : RelV x v) (fx : Xgl x = true) : ∀ {xs : List V} {us : List Value}, Vals xs us -> xs.all Xgl = true -> ∀ u ∈ us, SeqAt.EqAt A s u v (eqU x u)
 | _, _, .nil, _ => fun u hu => by cases hu
 | y :: xs, u :: us, .cons r t, f => fun u' hu => by
  rw [List.all_cons, Bool.and_eq_true] at f
  rcases List.mem_cons.mp hu with rfl | hu
  ·rw [eqU_of r f.1]; exact eqAt_V r rx f.1 fx
  ·exact Xdn rx fx t f.2 u' hu
def inV (x : V) (xs : List V) : Bool := xs.any fun y => eqV y x
def rIn (K : PySem.W.Frag) (neg : Bool) : R2 := fun x y H Q => ∃ p xs, y = .ref p /\ (SqL K H p xs \/ SqT K H p xs) /\ Xgl x = true /\ xs.all Xgl = true /\ Q (.bl (if neg then !inV x xs else inV x xs)) H
theorem Xfg : OpR X (compareOp .In) (rIn X.K false) := by
 intro pins s σ H x y v u Q I rx ry h
 obtain ⟨p, xs, rfl, hq, fx, fs, q⟩ := h
 cases ry
 rcases hq with hq | hq
 ·obtain ⟨its, r, pl, hz⟩ := I.list hq
  refine SeqAt.in_listAt (eqU x) pl.isList (fun w hw => Xdn rx fx r fs w (by simpa using hw)) ⟨.bl _, H, I, rfl, ?_⟩
  rw [show its.toArray.any (eqU x) = its.any (eqU x) by simp, Xff r fs]
  exact q
 ·obtain ⟨its, r, pl, hz⟩ := I.tuple hq
  refine SeqAt.in_tupleAt (eqU x) pl (fun w hw => Xdn rx fx r fs w (by simpa using hw)) ⟨.bl _, H, I, rfl, ?_⟩
  rw [show its.toArray.any (eqU x) = its.any (eqU x) by simp, Xff r fs]
  exact q
theorem Xeo : OpR X (compareOp .NotIn) (rIn X.K true) := by
 intro pins s σ H x y v u Q I rx ry h
 obtain ⟨p, xs, rfl, hq, fx, fs, q⟩ := h
 cases ry
 rcases hq with hq | hq
 ·obtain ⟨its, r, pl, hz⟩ := I.list hq
  refine SeqAt.notIn_listAt (eqU x) pl.isList (fun w hw => Xdn rx fx r fs w (by simpa using hw)) ⟨.bl _, H, I, rfl, ?_⟩
  rw [show its.toArray.any (eqU x) = its.any (eqU x) by simp, Xff r fs]
  exact q
 ·obtain ⟨its, r, pl, hz⟩ := I.tuple hq
  refine SeqAt.notIn_tupleAt (eqU x) pl (fun w hw => Xdn rx fx r fs w (by simpa using hw)) ⟨.bl _, H, I, rfl, ?_⟩
  rw [show its.toArray.any (eqU x) = its.any (eqU x) by simp, Xff r fs]
  exact q
theorem Xan : Xdg X (.builtin "len") (fun xs H Q => ∃ p ys, xs = [.ref p] /\ (SqL X.K H p ys \/ SqT X.K H p ys) /\ Q (.int ys.length) H) := by
 intro pins s σ H xs us Q I r h
 obtain ⟨p, ys, rfl, hq, q⟩ := h
 obtain ⟨u, rfl, rx⟩ := vals1 r
 cases rx
 have hn := line63
 rcases hq with hq | hq
 ·obtain ⟨its, r', pl, hz⟩ := I.list hq
  have hlen := r'.length
  exact Calls.call_len_list pl.isList (by simp only [List.size_toArray] <;> omega) ⟨.int ys.length, H, I.tok _, ⟨s.toks + 1, by rw [List.size_toArray, hlen]⟩, q⟩
 ·obtain ⟨its, r', pl, hz⟩ := I.tuple hq
  have hlen := r'.length
  exact len_tuple pl (by simp only [List.size_toArray] <;> omega) ⟨.int ys.length, H, I.tok _, ⟨s.toks + 1, by rw [List.size_toArray, hlen]⟩, q⟩
theorem Xep : Xdg X (.type "list") (fun xs H Q => ∃ p ys, xs = [.ref p] /\ (SqL X.K H p ys \/ SqT X.K H p ys) /\ ∀ l, H l = none -> Q (.ref l) (upd H l (.lst ys))) := by
 intro pins s σ H xs us Q I r h
 obtain ⟨p, ys, rfl, hq, q⟩ := h
 obtain ⟨u, rfl, rx⟩ := vals1 r
 cases rx
 have fin : ∀ (its : List Value), Vals ys its -> ys.length <= sizeLine -> ∀ (h' : Heap) (c' : Nat), (∀ b o', s.heap.get? b = some o' -> h'.get? b = some o') ->
   h'.get? s.heap.objs.size = some { cls := .type "list", dict := none, data := .seq its.toArray c', slots := #[] } -> EP X pins σ Q (.ref s.heap.objs.size) { s with heap := h' } := fun its r' hz h' c' kp e =>
  ⟨.ref s.heap.objs.size, _, I.laid (t' := s.toks) kp (Nat.le_refl _) (show Xa5 X.prog X.w _ h' _ (.lst ys) from ⟨hz, its, c', r', e⟩), rfl, q _ (I.hok.fresh (Nat.le_refl _))⟩
 rcases hq with hq | hq
 ·obtain ⟨its, r', pl, hz⟩ := I.list hq
  have hlen := r'.length
  obtain ⟨o, ho, hc, n, hd⟩ := pl.isList
  exact call_list_seq p (.inl rfl) ho hc hd (fun h' c' kp e => fin its r' hz h' c' kp e) (by simp only [List.size_toArray] <;> omega)
 ·obtain ⟨its, r', pl, hz⟩ := I.tuple hq
  have hlen := r'.length
  obtain ⟨o, ho, hc, n, hd⟩ := pl
  exact call_list_seq p (.inr rfl) ho hc hd (fun h' c' kp e => fin its r' hz h' c' kp e) (by simp only [List.size_toArray] <;> omega)
theorem Xdo : Xdg X (.type "tuple") (fun xs H Q => ∃ p ys, xs = [.ref p] /\ ((SqL X.K H p ys /\ ∀ l, H l = none -> Q (.ref l) (upd H l (.tup ys))) \/ (SqT X.K H p ys /\ Q (.ref p) H))) := by
 intro pins s σ H xs us Q I r h
 obtain ⟨p, ys, rfl, h⟩ := h
 obtain ⟨u, rfl, rx⟩ := vals1 r
 cases rx
 rcases h with ⟨hq, q⟩ | ⟨hq, q⟩
 ·obtain ⟨its, r', pl, hz⟩ := I.list hq
  have hlen := r'.length
  refine call_tuple_list pl.isList (fun h' kp => ?_) (by simp only [List.size_toArray] <;> omega)
  have I1 : Inv X pins σ H { s with heap := h' } := I.kept (t' := s.toks) kp
  have I2 : Inv X pins σ (upd H h'.objs.size (.tup ys)) { s with heap := h'.push { cls := .type "tuple", data := .seq its.toArray } } :=
   I1.laid (t' := s.toks) (fun b o e => Heap.get?_push_of_some _ e) (Nat.le_refl _) (show Xa5 X.prog X.w _ _ _ (.tup ys) from ⟨hz, its, r', IsTup.new _ _⟩)
  exact ⟨.ref h'.objs.size, _, I2, rfl, q _ (I1.hok.fresh (Nat.le_refl _))⟩
 ·obtain ⟨its, r', pl, hz⟩ := I.tuple hq
  exact call_tuple_same pl ⟨.ref p, H, I, rfl, q⟩
def tyV (K : PySem.W.Frag) (T : String) (x : V) (H : Hp) : Prop := match x with
 | .str _ => T = "str"
 | .int _ => T = "int"
 | .ref p => (T = "list" /\ ∃ xs, SqL K H p xs) \/ (T = "tuple" /\ ∃ o, K.lookup p = some o /\ o.cls = .type "tuple" /\ o.dict = none) \/
   (T = "dict" /\ ((∃ kvs, H p = some (.dK kvs)) \/ ∃ kvs, H p = some (.dT kvs))) \/ (T = "set" /\ ∃ S n, H p = some (.set S n))
 | _ => False
theorem tyV_is {pins : List (Addr × Obj)} {σ : St} {H : Hp} {s : Shared} {T : String} {x : V} {v : Value} (I : Inv X pins σ H s) (r : RelV x v) (ty : tyV X.K T x H) :
  s.TypeIs v T /\ ∀ a, v = .ref a -> ∃ ob, s.heap.get? a = some ob /\ ob.dict = none := by
 cases x with
 | str z =>
  obtain ⟨t, rfl⟩ := r
  cases (show T = "str" from ty)
  exact ⟨typeIs_str s z t, fun _ e => nomatch e⟩
 | int i =>
  obtain ⟨t, rfl⟩ := r
  cases (show T = "int" from ty)
  exact ⟨typeIs_int s i t, fun _ e => nomatch e⟩
 | ref p =>
  cases r
  rcases ty with ⟨rfl, xs, hq⟩ | ⟨rfl, o, hk, hc, hd⟩ | ⟨rfl, hk⟩ | ⟨rfl, S, n, hk⟩
  ·obtain ⟨its, _, pl, _⟩ := I.list hq
   refine ⟨pl.isList.typeIs, fun a e => ?_⟩
   cases e
   obtain ⟨o, n, e, c, hd, _⟩ := pl
   exact ⟨o, e, hd⟩
  ·refine ⟨⟨o, I.kIn p o hk, hc⟩, fun a e => ?_⟩
   cases e
   exact ⟨o, I.kIn _ o hk, hd⟩
  ·have z : ∃ o, s.heap.get? p = some o /\ o.ExactDict := by
    rcases hk with ⟨kvs, hk⟩ | ⟨kvs, hk⟩
    ·obtain ⟨_, _, _, _, o, _, _, e, ex, _⟩ := I.hok p _ hk
     exact ⟨o, e, ex⟩
    ·obtain ⟨_, _, _, _, o, _, _, e, ex, _⟩ := I.hok p _ hk
     exact ⟨o, e, ex⟩
   obtain ⟨o, e, ex⟩ := z
   refine ⟨⟨o, e, ex.1⟩, fun a e2 => ?_⟩
   cases e2
   exact ⟨o, e, ex.2.1⟩
  ·obtain ⟨o, _, _, _, e, ex, _⟩ := I.hok p _ hk
   refine ⟨⟨o, e, ex.1⟩, fun a e2 => ?_⟩
   cases e2
   exact ⟨o, e, ex.2.1⟩
 | _ => exact False.elim ty
def tBM (K : PySem.W.Frag) (T : String) (r : V -> List V -> Hp -> VK -> Prop) (to : TE) (t : TA) : TE := fun σ H Q => to σ H fun x H1 => tyV K T x H1 /\ t σ H1 fun xs H2 => r x xs H2 Q
variable {o e : Expr} {es : List Expr} {to : TE} {t : TA} {name : Str} {apos cpos : Pos} {T id : String} {r : V -> List V -> Hp -> VK -> Prop}
theorem pe_bm (pa : PlainAttrs T) (slot : Slot T name id) (hty : typeOf (.builtin id) = pure (.type "method_descriptor")) (hm : MtR X id r) (ho : PE X o to) (ha : PA X (e :: es) t)
  (hbase : attributeBase o name X.env (eval o X.env) = eval o X.env := by rfl)
  (hfew : ((backTo cpos (starEach (e :: es) X.env)).all (fun x => !x.1) && (backToKw cpos (keywordEach [] X.env)).all (fun x => x.1.isSome)
   && decide ((e :: es).length + ([] : List Keyword).length + (if ([] : List Keyword).isEmpty then 0 else 1) < 30)) = true := by rfl)
  (hline : (apos.endLine == cpos.line) = true := by rfl) (hs : starEach (e :: es) X.env = (false, eval e X.env) :: starEach es X.env := by rfl) (hplain : (backTo cpos (starEach es X.env)).any (·.1) = false := by rfl) :
  PE X (.Call (.Attribute o name apos) (e :: es) [] cpos) (tBM X.K T r to t) := by
 intro pins s σ H Q I h
 refine wpAny_Call_method_late hbase hfew hline rfl (thn (ho pins s σ H _ I h) fun v s1 ⟨x, H1, I1, r1, ty, q1⟩ => ?_)
 obtain ⟨h1, h2⟩ := tyV_is I1 r1 ty
 refine ⟨T, id, pa, slot, hty, h1, h2, ?_⟩
 have hA := ha cpos pins s1 σ H1 _ I1 q1
 rw [hs] at hA ⊢
 refine Calls.callWith_builtin (by show (false || (backTo cpos (starEach es X.env)).any (·.1)) = false; rw [hplain] <;> rfl) (Calls.evalArgs_plain ?_)
 exact thn hA fun us s2 ⟨vs, H2, I2, r2, q2⟩ => hm pins s2 σ H2 x vs v us Q I2 r1 r2 q2
end
def MtM (X : Cx) (id : String) (r : V -> List V -> Hp -> VK -> Prop) : Prop :=
 ∀ (pins : List (Addr × Obj)) (s : Shared) (σ : St) (H : Hp) (x : V) (xs : List V) (v : Value) (us : List Value) (Q : VK), Inv X pins σ H s -> RelV x v -> Vals xs us -> r x xs H Q ->
  wpAny (model X.prog X.w) X.A (call (.builtin id) (v :: us)) (EP X pins σ Q) X.xe s
theorem Vals.one : ∀ {x : V} {us : List Value}, Vals [x] us -> ∃ u, us = [u] /\ RelV x u
 | _, _, .cons r .nil => ⟨_, rfl, r⟩
theorem Vals.two {x y : V} {us : List Value} (h : Vals [x, y] us) : ∃ u v, us = [u, v] /\ RelV x u /\ RelV y v := by
 cases h with
 | cons r t =>
  cases t with
  | cons q z => cases z; exact ⟨_, _, rfl, r, q⟩
theorem Vals.reverse {xs : List V} {us : List Value} (h : Vals xs us) : Vals xs.reverse us.reverse := by
 induction h with
 | nil => exact .nil
 | cons r t ih => rw [List.reverse_cons, List.reverse_cons]; exact Vals.append ih (.cons r .nil)
theorem Vals.rep {xs : List V} {us : List Value} (h : Vals xs us) : ∀ k : Nat, Vals (List.replicate k xs).flatten (List.replicate k us).flatten
 | 0 => .nil
 | k + 1 => by
  rw [List.replicate_succ, List.replicate_succ, List.flatten_cons, List.flatten_cons]
  exact Vals.append h (Vals.rep h k)
theorem Xhp (its : List Value) : ∀ (k : Nat) (acc : List Value),
  List.foldl (fun x1 x2 => x1 ++ x2) acc.toArray (List.replicate k its.toArray) = (acc ++ (List.replicate k its).flatten).toArray
 | 0, acc => by simp
 | k + 1, acc => by
  have e : acc.toArray ++ its.toArray = (acc ++ its).toArray := by simp
  have e2 : (acc ++ its) ++ (List.replicate k its).flatten = acc ++ (List.replicate (k + 1) its).flatten := by
   rw [List.replicate_succ, List.flatten_cons, List.append_assoc]
  rw [<- e2, <- Xhp its k (acc ++ its), <- e, List.replicate_succ, List.foldl_cons]
section
variable {X : Cx} {pins : List (Addr × Obj)} {σ : St} {H : Hp} {s : Shared} {l b : Addr} {xs ys zs : List V}
theorem Inv.lset {its its' : List Value} {n : Nat} {f : Array Value -> Array Value} {t' : Nat} (I : Inv X pins σ H s) (hH : H l = some (.lst xs))
  (e : s.heap.get? l = some { cls := .type "list", data := .seq its.toArray n }) (hf : f its.toArray = its'.toArray) (hv : Vals ys its') (hz : ys.length <= sizeLine) :
  Inv X pins σ (upd H l (.lst ys)) { s with heap := s.heap.update l (Obj.mapSeq f), toks := t' } := by
 have q := PySem.IsL.update e f
 rw [hf] at q
 refine I.write (x := l) (e := l) (by rw [hH]; exact trivial) (.inl rfl) (fun b' u hb hu => (Heap.get?_update_other s.heap (Obj.mapSeq f) (Ne.symm hb)).trans hu) ⟨_, q⟩ ?_
 exact ⟨hz, its', _, hv, q⟩
theorem Inv.lnew {its : List Value} {t' : Nat} (I : Inv X pins σ H s) (hv : Vals ys its) (hz : ys.length <= sizeLine) :
  Inv X pins σ (upd H s.heap.objs.size (.lst ys)) { s with heap := s.heap.push { cls := .type "list", data := .seq its.toArray }, toks := t' } :=
 I.laid (fun _ _ q => Heap.get?_push_of_some _ q) (Nat.le_refl _) ⟨hz, its, 0, hv, Heap.get?_push_size _ rfl⟩
theorem Inv.fresh (I : Inv X pins σ H s) : H s.heap.objs.size = none := I.hok.fresh (Nat.le_refl _)
theorem Inv.lstM (I : Inv X pins σ H s) (hH : H l = some (.lst xs)) : xs.length <= sizeLine /\ ∃ (its : List Value) (n : Nat), Vals xs its /\ xs.length = its.length /\ s.heap.get? l = some { cls := .type "list", data := .seq its.toArray n } := by
 obtain ⟨z, its, n, r, e⟩ := I.hok l _ hH
 exact ⟨z, its, n, r, r.length, e⟩
theorem notLongL {n : Nat} (h : n <= sizeLine) : Builtin.List.listTooLong n = false := by
 unfold Builtin.List.listTooLong
 exact decide_eq_false (by omega)
end
section
variable {X : Cx}
def Xi7 : V -> List V -> Hp -> VK -> Prop := fun x vs H Q => ∃ l xs y, x = .ref l /\ vs = [y] /\ H l = some (.lst xs) /\ xs.length < sizeLine /\ Q .non (upd H l (.lst (xs ++ [y])))
theorem Xcw : MtM X "list.append" Xi7 := by
 intro pins s σ H x vs v us Q I rx rv h
 obtain ⟨l, xs, y, rfl, rfl, hH, hz, q⟩ := h
 cases rx
 obtain ⟨u, rfl, ru⟩ := rv.one
 obtain ⟨z, its, n, r, hl, e⟩ := I.lstM hH
 refine call_meets F.slot_list_append ⟨_, e, rfl⟩ F.entry_list_append (F.args_list_append_2 _ _) (PySem.list_append l its.toArray n u (by rw [List.size_toArray]; omega)) ⟨e, ?_⟩
 refine ⟨.non, _, I.lset (its' := its ++ [u]) hH e (by simp) (r.append (.cons ru .nil)) ?_, rfl, q⟩
 rw [List.length_append, List.length_singleton]
 omega
def rCat : R2 := fun x y H Q => ∃ l b xs zs, x = .ref l /\ y = .ref b /\ H l = some (.lst xs) /\ H b = some (.lst zs) /\ xs.length + zs.length <= sizeLine /\ ∀ p, H p = none -> Q (.ref p) (upd H p (.lst (xs ++ zs)))
theorem Xb2 : OpR X (binaryOp .Add) rCat := by
 intro pins s σ H x y v u Q I rx ry h
 obtain ⟨l, b, xs, zs, rfl, rfl, hH, hB, hz, q⟩ := h
 cases rx
 cases ry
 obtain ⟨z, its, n, r, hl, e⟩ := I.lstM hH
 obtain ⟨z2, its2, n2, r2, hl2, e2⟩ := I.lstM hB
 refine PySem.P.add_list e e2 ?_ (by rw [List.size_toArray, List.size_toArray]; omega)
 have ea : its.toArray ++ its2.toArray = (its ++ its2).toArray := by simp
 rw [ea]
 exact ⟨.ref _, _, I.lnew (t' := s.toks) (r.append r2) (by rw [List.length_append]; omega), rfl, q _ I.fresh⟩
def rRep : R2 := fun x y H Q => ∃ l k xs, x = .ref l /\ y = .int k /\ H l = some (.lst xs) /\ -(2 ^ 63) <= k /\ k < 2 ^ 63 /\ xs.length * k.toNat <= sizeLine /\
 ∀ p, H p = none -> Q (.ref p) (upd H p (.lst (List.replicate k.toNat xs).flatten))
theorem len_rep {α : Type} (xs : List α) (k : Nat) : (List.replicate k xs).flatten.length = k * xs.length := by
 induction k with
 | zero => simp
 | succ k ih => rw [List.replicate_succ, List.flatten_cons, List.length_append, ih, Nat.succ_mul, Nat.add_comm]
theorem op_rep : OpR X (binaryOp .Mult) rRep := by
 intro pins s σ H x y v u Q I rx ry h
 obtain ⟨l, k, xs, rfl, rfl, hH, h1, h2, hz, q⟩ := h
 cases rx
 obtain ⟨t, rfl⟩ := ry
 obtain ⟨z, its, n, r, hl, e⟩ := I.lstM hH
 have hlen : its.toArray.size * k.toNat <= sizeLine := by rw [List.size_toArray, <- hl]; exact hz
 have hcap : ¬ its.toArray.size * k.toNat > (2 ^ 63 - 1) / 8 := by
  have : (sizeLine : Nat) <= (2 ^ 63 - 1) / 8 := by decide
  omega
 have hfit : ¬ (!Builtin.List.listFitsIndex k) = true := by
  rw [fitsIndex_both h1 h2]
  exact Bool.false_ne_true
 have hlong : ¬ Builtin.List.listTooLong (its.toArray.size * k.toNat) = true := by
  rw [notLongL hlen]
  exact Bool.false_ne_true
 have hnew : List.foldl (fun x1 x2 => x1 ++ x2) #[] (List.replicate (if its.toArray.isEmpty = true then 0 else k.toNat) its.toArray) = (List.replicate k.toNat its).flatten.toArray := by
  have f0 : ∀ m : Nat, List.foldl (fun x1 x2 => x1 ++ x2) #[] (List.replicate m its.toArray) = (List.replicate m its).flatten.toArray := fun m => by
   have := Xhp its m []
   rw [List.nil_append] at this
   exact this
  rw [f0]
  cases its with
  | nil => simp
  | cons a r' => rw [if_neg (by simp)]
 refine wpAny_binaryOp_repeat_ref (T := "list") (U := "int") (by decide) ⟨_, e, rfl⟩ (fun s' => typeIs_int s' k t) noFill_list_mul F.fills_int_mul F.slot_int_rmul repeat_list F.slot_int_index.lookup
  (call_meets F.slot_int_rmul (typeIs_int s k t) F.entry_int_rmul (F.args_int_rmul_2 _ _) (int___rmul___int_list k t l its.toArray n)
   ⟨e, rfl, ⟨_, e, rfl⟩, call_meets F.slot_list_mul ⟨_, e, rfl⟩ F.entry_list_mul (F.args_list_mul_2 _ _) (AutoListH.list___mul___list_int_3 l its.toArray n k t hfit hcap hlong) ⟨e, ?_⟩⟩)
 rw [hnew]
 exact ⟨.ref _, _, I.lnew (t' := s.toks) (r.rep k.toNat) (by rw [len_rep, Nat.mul_comm]; exact hz), rfl, q _ I.fresh⟩
end
section
variable {prog : Program} {w : World} {A : Around} {E : Value -> Shared -> Prop} {s : Shared}
end
section
variable {X : Cx}
end
section
variable {κ : Type} [DecidableEq κ]
def valV (kvs : List (κ × V)) (k : κ) : Option V := (kvs.find? fun kv => decide (kv.1 = k)).map (·.2)
def putK (kvs : List (κ × V)) (k : κ) (v : V) : List (κ × V) :=
 if (kvs.any fun kv => decide (kv.1 = k)) = true then kvs.map (fun kv => if kv.1 = k then (kv.1, v) else kv) else kvs ++ [(k, v)]
def dropK (kvs : List (κ × V)) (k : κ) : List (κ × V) := kvs.filter fun kv => decide (kv.1 ≠ k)
theorem Xbb {p : κ × V} {r : List (κ × V)} {k : κ} (e : p.1 = k) : valV (p :: r) k = some p.2 := by simp [valV, List.find?_cons, e]
theorem Xbc {p : κ × V} {r : List (κ × V)} {k : κ} (e : ¬ p.1 = k) : valV (p :: r) k = valV r k := by simp [valV, List.find?_cons, e]
theorem Xb3 (k : κ) : ∀ kvs : List (κ × V), (kvs.any fun kv => decide (kv.1 = k)) = (valV kvs k).isSome
 | [] => rfl
 | p :: r => by
  rw [List.any_cons]
  by_cases e : p.1 = k
  ·simp only [Xbb e, decide_eq_true e, Bool.true_or, Option.isSome_some]
  ·rw [Xbc e, decide_eq_false e, Bool.false_or]; exact Xb3 k r
theorem Xkf (k j : κ) (y : V) : ∀ kvs : List (κ × V), valV (kvs.map fun kv => if kv.1 = k then (kv.1, y) else kv) j = (valV kvs j).map fun x => if j = k then y else x
 | [] => rfl
 | p :: r => by
  have ih := Xkf k j y r
  rw [List.map_cons]
  by_cases h : p.1 = k
  ·rw [if_pos h]
   by_cases e : p.1 = j
   ·rw [Xbb (p := (p.1, y)) e, Xbb e, Option.map_some, if_pos (e.symm.trans h)]
   ·rw [Xbc (p := (p.1, y)) e, Xbc e, ih]
  ·rw [if_neg h]
   by_cases e : p.1 = j
   ·rw [Xbb (p := p) e, Xbb e, Option.map_some, if_neg (fun z => h (e.trans z))]
   ·rw [Xbc (p := p) e, Xbc e, ih]
theorem Xhq (k j : κ) (y : V) : ∀ kvs : List (κ × V), valV kvs k = none -> valV (kvs ++ [(k, y)]) j = if j = k then some y else valV kvs j
 | [], _ => by
  by_cases e : k = j
  ·rw [if_pos e.symm]; exact Xbb (p := (k, y)) e
  ·rw [if_neg (fun z => e z.symm)]; exact Xbc (p := (k, y)) e
 | p :: r, hn => by
  rw [List.cons_append]
  have hk : ¬ p.1 = k := fun z => by rw [Xbb z] at hn; cases hn
  rw [Xbc hk] at hn
  have ih := Xhq k j y r hn
  by_cases e : p.1 = j
  ·rw [Xbb e, Xbb e, if_neg (fun z => hk (e.trans z))]
  ·rw [Xbc e, Xbc e, ih]
theorem Xev (kvs : List (κ × V)) (k j : κ) (y : V) : valV (putK kvs k y) j = if j = k then some y else valV kvs j := by
 unfold putK
 by_cases a : (kvs.any fun kv => decide (kv.1 = k)) = true
 ·rw [if_pos a, Xkf]
  rw [Xb3] at a
  by_cases e : j = k
  ·obtain ⟨x, hx⟩ := Option.isSome_iff_exists.mp a
   rw [if_pos e, e, hx, Option.map_some, if_pos rfl]
  ·rw [if_neg e]
   cases valV kvs j with
   | none => rfl
   | some x => rw [Option.map_some, if_neg e]
 ·rw [if_neg a]
  refine Xhq k j y kvs ?_
  rw [Xb3] at a
  cases q : valV kvs k with
  | none => rfl
  | some x => rw [q] at a; exact (a rfl).elim
theorem Xcj (kvs : List (κ × V)) (k : κ) (v : V) : (putK kvs k v).length <= kvs.length + 1 := by
 unfold putK
 split
 ·rw [List.length_map]; omega
 ·rw [List.length_append, List.length_cons, List.length_nil]; omega
theorem Xew {kvs : List (κ × V)} {k : κ} (v : V) (h : valV kvs k = none) : putK kvs k v = kvs ++ [(k, v)] := by
 unfold putK
 rw [Xb3, h]
 exact if_neg (by decide)
theorem RelO.isSome_eq {o : Option V} {u : Option Value} (r : RelO o u) : o.isSome = u.isSome := by
 cases o with
 | none => cases u with
  | none => rfl
  | some _ => exact (show False from r).elim
 | some _ => cases u with
  | none => exact (show False from r).elim
  | some _ => rfl
theorem RelO.getD {o : Option V} {u : Option Value} {d : V} {d' : Value} (r : RelO o u) (rd : RelV d d') : RelV (o.getD d) (u.getD d') := by
 cases o with
 | none => cases u with
  | none => exact rd
  | some _ => exact (show False from r).elim
 | some _ => cases u with
  | none => exact (show False from r).elim
  | some _ => exact r
theorem KV.val {kvs : List (κ × V)} {vs : List (κ × Value)} (r : KV kvs vs) (k : κ) : RelO (valV kvs k) (valueAt vs k) := by
 unfold KV at r
 induction r with
 | nil => exact True.intro
 | @cons p q ps qs h t ih =>
  obtain ⟨h1, h2⟩ := h
  by_cases e : p.1 = k
  ·have e' : q.1 = k := h1.symm.trans e
   have b : valueAt (q :: qs) k = some q.2 := by simp [valueAt, List.find?_cons, e']
   rw [Xbb e, b]; exact h2
  ·have e' : ¬ q.1 = k := fun z => e (h1.trans z)
   have b : valueAt (q :: qs) k = valueAt qs k := by simp [valueAt, List.find?_cons, e']
   rw [Xbc e, b]; exact ih
theorem KV.any {kvs : List (κ × V)} {vs : List (κ × Value)} (r : KV kvs vs) (k : κ) : (kvs.any fun kv => decide (kv.1 = k)) = vs.any fun kv => decide (kv.1 = k) := by
 unfold KV at r
 induction r with
 | nil => rfl
 | cons h t ih => rw [List.any_cons, List.any_cons, ih, h.1]
theorem KV.repl {kvs : List (κ × V)} {vs : List (κ × Value)} (r : KV kvs vs) (k : κ) {y : V} {u : Value} (ry : RelV y u) :
  KV (kvs.map fun kv => if kv.1 = k then (kv.1, y) else kv) (vs.map fun kv => if kv.1 = k then (kv.1, u) else kv) := by
 unfold KV at r ⊢
 induction r with
 | nil => exact .nil
 | @cons p q ps qs h t ih =>
  rw [List.map_cons, List.map_cons]
  refine .cons ?_ ih
  obtain ⟨h1, h2⟩ := h
  by_cases e : p.1 = k
  ·rw [if_pos e, if_pos (h1.symm.trans e)]; exact ⟨h1, ry⟩
  ·rw [if_neg e, if_neg (fun z => e (h1.trans z))]; exact ⟨h1, h2⟩
theorem KV.put {kvs : List (κ × V)} {vs : List (κ × Value)} (r : KV kvs vs) (k : κ) {y : V} {u : Value} (ry : RelV y u) : KV (putK kvs k y) (stored vs k u) := by
 unfold putK stored
 rw [r.any k]
 by_cases e : (vs.any fun kv => decide (kv.1 = k)) = true
 ·rw [if_pos e, if_pos e]; exact r.repl k ry
 ·rw [if_neg e, if_neg e]; exact Paired.snoc r ⟨rfl, ry⟩
theorem KV.keys {kvs : List (κ × V)} {vs : List (κ × Value)} (r : KV kvs vs) : kvs.map (·.1) = vs.map (·.1) := by
 unfold KV at r
 induction r with
 | nil => rfl
 | cons h t ih => rw [List.map_cons, List.map_cons, ih, h.1]
theorem KV.length {kvs : List (κ × V)} {vs : List (κ × Value)} (r : KV kvs vs) : kvs.length = vs.length := Paired.length r
end
theorem Xms {P : Program} {w : World} {k : Key} {u : Value} (r : RelV (kV k) u) : (Xar P w).is k u = true := by
 cases k with
 | inl i => obtain ⟨t, e⟩ := (show ∃ t, u = Value.int i t from r); subst e; exact Xi1 P w i t
 | inr x => obtain ⟨t, e⟩ := (show ∃ t, u = Value.str x t from r); subst e; exact Xi2 P w x t
theorem Xhr {P : Program} {w : World} : ∀ {ks : List Key} {us : List Value}, Vals (ks.map kV) us -> ItemsAre (Xar P w) ks us
 | [], _, r => by rw [List.map_nil] at r; cases r; exact .nil
 | k :: ks, _, r => by
  rw [List.map_cons] at r
  cases r with
  | cons h t => exact .cons (Xms h) (Xhr t)
abbrev KT (H : Hp) : List (List Key × V) -> List (List Key × Addr × Value) -> Prop := Paired fun p q => p.1 = q.1 /\ H q.2.1 = some (.tup (p.1.map kV)) /\ RelV p.2 q.2.2
theorem KT.val {H : Hp} {kvs : List (List Key × V)} {xs : List (List Key × Addr × Value)} (r : KT H kvs xs) (k : List Key) : RelO (valV kvs k) ((atKey xs k).map (·.2)) := by
 induction r with
 | nil => exact True.intro
 | @cons p q ps qs h t ih =>
  obtain ⟨h1, _, h2⟩ := h
  by_cases e : p.1 = k
  ·have e' : q.1 = k := h1.symm.trans e
   have b : atKey (q :: qs) k = some q.2 := by simp [atKey, List.find?_cons, e']
   rw [Xbb e, b]; exact h2
  ·have e' : ¬ q.1 = k := fun z => e (h1.trans z)
   have b : atKey (q :: qs) k = atKey qs k := by simp [atKey, List.find?_cons, e']
   rw [Xbc e, b]; exact ih
theorem KT.repl {H : Hp} {kvs : List (List Key × V)} {xs : List (List Key × Addr × Value)} (r : KT H kvs xs) (k : List Key) {y : V} {u : Value} (ry : RelV y u) :
  KT H (kvs.map fun kv => if kv.1 = k then (kv.1, y) else kv) (xs.map (putAt k u)) := by
 induction r with
 | nil => exact .nil
 | @cons p q ps qs h t ih =>
  rw [List.map_cons, List.map_cons]
  refine .cons ?_ ih
  obtain ⟨h1, h2, h3⟩ := h
  unfold putAt
  by_cases e : p.1 = k
  ·rw [if_pos e, if_pos (h1.symm.trans e)]; exact ⟨h1, h2, ry⟩
  ·rw [if_neg e, if_neg (fun z => e (h1.trans z))]; exact ⟨h1, h2, h3⟩
theorem KT.put {H : Hp} {kvs : List (List Key × V)} {xs : List (List Key × Addr × Value)} (r : KT H kvs xs) (k : List Key) {b : Addr} {y : V} {u : Value} (hb : H b = some (.tup (k.map kV))) (ry : RelV y u) :
  KT H (putK kvs k y) (storedH xs k b u) := by
 have e : (kvs.any fun kv => decide (kv.1 = k)) = (atKey xs k).isSome := by
  rw [Xb3, (r.val k).isSome_eq, Option.isSome_map]
 unfold putK storedH
 rw [e]
 by_cases q : (atKey xs k).isSome = true
 ·rw [if_pos q, if_pos q]; exact r.repl k ry
 ·rw [if_neg q, if_neg q]; exact Paired.snoc r ⟨rfl, hb, ry⟩
theorem KT.keeps {H H' : Hp} {kvs : List (List Key × V)} {xs : List (List Key × Addr × Value)} (r : KT H kvs xs) (ht : ∀ b ys, H b = some (.tup ys) -> H' b = some (.tup ys)) : KT H' kvs xs :=
 Paired.mapP r fun _ _ z => ⟨z.1, ht _ _ z.2.1, z.2.2⟩
section
variable {P : Program} {w : World} {H : Hp} {h : Heap} {a : Addr}
theorem rd_of {u : HO} (ok : HOk P w H h) (e : Rd H a u) : Xa5 P w H h a u := e.ok ok
theorem Xlg {kvs : List (Key × V)} (ok : HOk P w H h) (e : Rd H a (.dK kvs)) : kvs.length <= sizeLine /\ (a == sysModules) = false /\ ∃ vs, KV kvs vs /\ h.DictOf (Xar P w) a vs :=
 show Xa5 P w H h a (.dK kvs) from rd_of ok e
theorem dk_of {kvs : List (Key × V)} (ok : HOk P w H h) (e : H a = some (.dK kvs)) : kvs.length <= sizeLine /\ (a == sysModules) = false /\ ∃ vs, KV kvs vs /\ h.DictOf (Xar P w) a vs := Xlg ok (.inl e)
theorem Xkg {ks : List Key} (ok : HOk P w H h) (e : H a = some (.tup (ks.map kV))) : (tupleKind (Xar P w)).is h ks a := by
 obtain ⟨_, its, r, o, h1, h2, n, h3⟩ := (show Xa5 P w H h a (.tup (ks.map kV)) from ok a _ e)
 exact ⟨o, its.toArray, n, h1, h2, h3, by simpa using Xhr r⟩
theorem Xmt {kvs : List (List Key × V)} (ok : HOk P w H h) (e : Rd H a (.dT kvs)) : kvs.length <= sizeLine /\ (a == sysModules) = false /\
  ∃ xs, KT H kvs xs /\ h.DictOfH (tupleKind (Xar P w)) a xs := by
 obtain ⟨z, y, xs, r, o, es, ep, h1, h2, h3, h4, h5⟩ := (show Xa5 P w H h a (.dT kvs) from rd_of ok e)
 refine ⟨z, y, xs, r, o, es, ep, h1, h2, h3, h4, fun x hx => ?_, h5⟩
 have all : ∀ {l : List (List Key × V)} {m : List (List Key × Addr × Value)}, KT H l m -> ∀ x ∈ m, (tupleKind (Xar P w)).is h x.1 x.2.1 := by
  intro l m q
  induction q with
  | nil => intro x hx; exact nomatch hx
  | @cons p q ps qs hq t ih =>
   intro x hx
   rcases List.mem_cons.mp hx with e | hx
   ·subst e
    exact Xkg ok (by rw [<- hq.1]; exact hq.2.1)
   ·exact ih x hx
 exact all r x hx
theorem dt_of {kvs : List (List Key × V)} (ok : HOk P w H h) (e : H a = some (.dT kvs)) : kvs.length <= sizeLine /\ (a == sysModules) = false /\
  ∃ xs, KT H kvs xs /\ h.DictOfH (tupleKind (Xar P w)) a xs := Xmt ok (.inl e)
end
def DGet (H : Hp) (a : Addr) (y : V) (r : Option V) : Prop :=
 (∃ kvs k, Rd H a (.dK kvs) /\ y = kV k /\ r = valV kvs k) \/ ∃ kvs k b, Rd H a (.dT kvs) /\ y = .ref b /\ H b = some (.tup (k.map kV)) /\ r = valV kvs k
def DPut (H : Hp) (a : Addr) (y v : V) (H' : Hp) : Prop :=
 (∃ kvs k, H a = some (.dK kvs) /\ y = kV k /\ kvs.length < sizeLine /\ H' = upd H a (.dK (putK kvs k v))) \/
 ∃ kvs k b, H a = some (.dT kvs) /\ y = .ref b /\ H b = some (.tup (k.map kV)) /\ kvs.length < sizeLine /\ H' = upd H a (.dT (putK kvs k v))
theorem DGet.k {H : Hp} {a : Addr} {kvs : List (Key × V)} {k : Key} (e : H a = some (.dK kvs)) : DGet H a (kV k) (valV kvs k) := .inl ⟨kvs, k, .inl e, rfl, rfl⟩
theorem DPut.k {H : Hp} {a : Addr} {kvs : List (Key × V)} {k : Key} {v : V} (e : H a = some (.dK kvs)) (hl : kvs.length < sizeLine) : DPut H a (kV k) v (upd H a (.dK (putK kvs k v))) := .inl ⟨kvs, k, e, rfl, hl, rfl⟩
section
variable {X : Cx} {pins : List (Addr × Obj)} {σ : St} {H : Hp} {s : Shared} {a : Addr} {y v : V} {u r : Value} {o : Option V} {A : Around} {E : Value -> Shared -> Prop}
theorem Inv.big (I : Inv X pins σ H s) : sysModules < s.heap.objs.size := by
 have h : mainGlobals < s.heap.objs.size := (I.mod.glob.keeps I.bk).lt
 exact Nat.lt_trans (by decide) h
theorem d_getItem {Q : Value -> Shared -> Prop} (hu : A.units + 1 < cLine) (I : Inv X pins σ H s) (g : DGet H a y (some v)) (ry : RelV y u) (h : ∀ w' s', Inv X pins σ H s' -> RelV v w' -> Q w' s') :
  wpAny (model X.prog X.w) A (getItem (.ref a) u) Q E s := by
 rcases g with ⟨kvs, k, e, ey, l⟩ | ⟨kvs, k, b, e, ey, eb, l⟩
 ·subst ey
  obtain ⟨z, hd, vs, rel, dd⟩ := Xlg I.hok e
  obtain ⟨w', hw, rw'⟩ := RelO.some_of (v := v) (o := valueAt vs k) (by rw [l]; exact rel.val k)
  exact wpAny_getItem_of (Xms ry) dd.mapOf hw (h w' _ (I.tok _) rw')
 ·subst ey
  cases (show u = Value.ref b from ry)
  obtain ⟨z, hd, xs, rel, dd⟩ := Xmt I.hok e
  obtain ⟨w', hw, rw'⟩ := RelO.some_of (v := v) (o := (atKey xs k).map (·.2)) (by rw [l]; exact rel.val k)
  obtain ⟨p, hp, hp2⟩ := Option.map_eq_some_iff.mp hw
  refine wpAny_getItem_heap (tupleKind_room_in1 hu) (Xkg I.hok eb) dd hp ?_
  rw [hp2]
  exact h w' _ (I.tok _) rw'
theorem Xi8 {h' : Heap} {t' : Nat} {ob : HO} (I : Inv X pins σ H s) (mu : Mut (H a)) (hs : Heap.SameBut a s.heap h') (he : ∃ q, h'.get? a = some q) (new : Xa5 X.prog X.w (upd H a ob) h' a ob) :
  Inv X pins σ (upd H a ob) { s with heap := h', toks := t' } :=
 I.write (x := a) (e := a) mu (.inl rfl) (fun b q hb z => (hs.2 b hb).trans z) he new
theorem dk_new {P : Program} {w : World} {H' : Hp} {h' : Heap} {kvs : List (Key × V)} {vs : List (Key × Value)} (z : kvs.length <= sizeLine) (hd : (a == sysModules) = false) (rel : KV kvs vs) (dd : h'.DictOf (Xar P w) a vs) :
  Xa5 P w H' h' a (.dK kvs) := ⟨z, hd, vs, rel, dd⟩
theorem Xmu {H' : Hp} {Q : Unit -> Shared -> Prop} (hu : A.units + 1 < cLine) (I : Inv X pins σ H s) (g : DPut H a y v H') (ry : RelV y u) (rv : RelV v r) (h : ∀ s', Inv X pins σ H' s' -> Q () s') :
  wpAny (model X.prog X.w) A (setItem (.ref a) u r) Q E s := by
 rcases g with ⟨kvs, k, e, ey, l, eH⟩ | ⟨kvs, k, b, e, ey, eb, l, eH⟩
 ·subst ey eH
  obtain ⟨z, hd, vs, rel, dd⟩ := dk_of I.hok e
  have hz : vs.length <= sizeLine := by rw [<- rel.length]; exact z
  have hl : (putK kvs k v).length <= sizeLine := by have := Xcj kvs k v; omega
  refine wpAny_setItem_pairs (hsz := hz) (Xms ry) dd fun h' dd' hs => h _ ?_
  have he : ∃ q, h'.get? a = some q := let ⟨q, _, _, hq, _⟩ := dd'; ⟨q, hq⟩
  exact Xi8 I (by rw [e]; exact True.intro) hs he (dk_new hl hd (rel.put k rv) dd')
 ·subst ey eH
  cases (show u = Value.ref b from ry)
  obtain ⟨z, hd, xs, rel, dd⟩ := dt_of I.hok e
  have hz : xs.length <= sizeLine := by rw [<- Paired.length rel]; exact z
  have hl : (putK kvs k v).length <= sizeLine := by have := Xcj kvs k v; omega
  refine wpAny_setItem_heap (hsz := hz) (tupleKind_room_in1 hu) (Xkg I.hok eb) dd fun h' dd' hs => h _ ?_
  obtain ⟨q, es, ep, hq, h2, h3, h4, _, h5⟩ := dd'
  refine Xi8 I (by rw [e]; exact True.intro) hs ⟨q, hq⟩ ⟨hl, hd, _, (rel.put k eb rv).keeps fun c ys ec => ?_, q, es, ep, hq, h2, h3, h4, h5⟩
  rw [Xae (ne_of ec e (fun z => nomatch z))]
  exact ec
end
section
variable {X : Cx} {pins : List (Addr × Obj)} {σ : St} {H : Hp} {s : Shared} {a : Addr} {kvs : List (Key × V)} {k : Key} {u : Value} {A : Around} {E : Value -> Shared -> Prop}
end
def NoSl (i : Expr) : Prop := ∀ ov iv, subscripted i false ov iv = operate [ov, iv] (getItem ov iv)
theorem subD_of {prog : Program} {w : World} {A : Around} {E : Value -> Shared -> Prop} {s : Shared} {env : Env} {value slice : Expr} {pos : Pos} {T id : String} {Q : Value -> Shared -> Prop}
  (hl : typeLookup (.type T) "__getitem__" = pure (some (.builtin id))) (hs : NoSl slice)
  (h : wpAny (model prog w) A (eval value env) (fun o s₁ => wpAny (model prog w) A (eval slice env) (fun i s₂ => s₂.TypeIs o T /\ wpAny (model prog w) A (getItem o i) Q E s₂) E s₁) E s) :
  wpAny (model prog w) A (eval (.Subscript value slice pos) env) Q E s := by
 refine Subscript_ (wpAny_mono h (fun o s₁ h₁ => wpAny_mono h₁ (fun i s₂ h₂ => ?_) fun _ _ x => x) fun _ _ x => x)
 obtain ⟨hT, h₂⟩ := h₂
 unfold subscriptTail
 refine wpAny_bind ?_
 rw [getitemInPython_of_ne hT.not_modules]
 refine wpAny_bind (wpAny_specialOf hT hl ?_)
 have fin : wpAny (model prog w) A (subscripted slice false o i) (fun r s₃ => wpAny (model prog w) A (letTemporaryGo value o r >>= fun _ => pure r) Q E s₃) E s₂ := by
  rw [hs o i]
  exact wpAny_operating (wpAny_mono h₂ (fun r s₃ h₃ => wpAny_bind (wpAny_letTemporaryGo (wpAny_pure h₃))) fun _ _ x => x)
 first
  | exact wpAny_pure (wpAny_bind fin)
  | exact wpAny_bind (wpAny_pure (wpAny_bind fin))
  | exact wpAny_bind fin
theorem Xi9 {X : Cx} {pins : List (Addr × Obj)} {σ : St} {H : Hp} {s : Shared} {a : Addr} {y : V} {o : Option V} (I : Inv X pins σ H s) (g : DGet H a y o) : s.TypeIs (.ref a) "dict" := by
 rcases g with ⟨kvs, k, e, _, _⟩ | ⟨kvs, k, b, e, _, _, _⟩
 ·obtain ⟨_, _, vs, _, dd⟩ := Xlg I.hok e
  exact dd.typeIs
 ·obtain ⟨_, _, xs, _, dd⟩ := Xmt I.hok e
  exact dd.typeIs
def tDGet (td ty : TE) : TE := fun σ H Q => td σ H fun x H1 => ty σ H1 fun y H2 => ∃ a v, x = .ref a /\ DGet H2 a y (some v) /\ Q v H2
def tDIn (ty td : TE) : TE := fun σ H Q => ty σ H fun y H1 => td σ H1 fun x H2 => ∃ a o, x = .ref a /\ DGet H2 a y o /\ Q (.bl o.isSome) H2
def sDPut (td ty tv : TE) : TS := fun D σ H => tv σ H fun v H1 => td σ H1 fun x H2 => ty σ H2 fun y H3 => ∃ a H4, x = .ref a /\ DPut H3 a y v H4 /\ D.nx σ H4
def sDAug (td ty tv : TE) (rd : V -> V -> Hp -> VK -> Prop) : TS := fun D σ H => td σ H fun x H1 => ty σ H1 fun y H2 => ∃ a v, x = .ref a /\ DGet H2 a y (some v) /\
 tv σ H2 fun y2 H3 => rd v y2 H3 fun z H4 => ∃ H5, DPut H4 a y z H5 /\ D.nx σ H5
def sDDel (td ty : TE) : TS := fun D σ H => td σ H fun x H1 => ty σ H1 fun y H2 => ∃ a kvs k, x = .ref a /\ H2 a = some (.dK kvs) /\ y = kV k /\ (valV kvs k).isSome = true /\ D.nx σ (upd H2 a (.dK (dropK kvs k)))
section
variable {X : Cx} {o i e value : Expr} {pos pos' tpos : Pos} {td ty tv : TE}
theorem Xbx (hu : X.A.units + 1 < cLine) (ho : PE X o td) (hi : PE X i ty) (hs : NoSl i) : PE X (.Subscript o i pos) (tDGet td ty) := by
 intro pins s σ H Q I h
 refine subD_of PySem.F.slot_dict_getitem.lookup hs (thn (ho pins s σ H _ I h) fun u s1 ⟨x, H1, I1, rx, q1⟩ => thn (hi pins s1 σ H1 _ I1 q1) fun iv s2 ⟨y, H2, I2, ry, a, v, ex, g, q2⟩ => ?_)
 subst ex
 obtain rfl : u = Value.ref a := rx
 exact ⟨Xi9 I2 g, d_getItem hu I2 g ry fun w' s3 I3 rw' => ⟨v, H2, I3, rw', q2⟩⟩
theorem ps_dput (hu : X.A.units + 1 < cLine) (ho : PE X o td) (hi : PE X i ty) (hv : PE X value tv) (hs : swapsWith value (some (.Subscript o i pos')) pos.line X.env = pure false) :
  PS X (.Assign [.Subscript o i pos'] value pos) (sDPut td ty tv) := by
 intro pins s σ H D I h
 refine wpAny_Assign_Subscript (thn (hv pins s σ H _ I h) fun r s1 ⟨v, H1, I1, rv, q1⟩ => thn (ho pins s1 σ H1 _ I1 q1) fun u s2 ⟨x, H2, I2, rx, q2⟩ => thn (hi pins s2 σ H2 _ I2 q2) fun iv s3 ⟨y, H3, I3, ry, a, H4, ex, g, q3⟩ => ?_) hs
 subst ex
 obtain rfl : u = Value.ref a := rx
 exact Xmu hu I3 g ry rv fun s4 I4 => ⟨σ, H4, I4, q3⟩
end
theorem Xkh {P : Program} {w : World} {H : Hp} (h : Heap) (hb : sysModules < h.objs.size) : Xa5 P w H (h.push { cls := .type "dict", data := .dict #[] }) h.objs.size (.dK []) :=
 ⟨Nat.zero_le _, beq_eq_false_iff_ne.mpr (Ne.symm (Nat.ne_of_lt hb)), [], .nil, Heap.DictOf.new h⟩
def tDNewK : TE := fun _ H Q => ∀ p, H p = none -> Q (.ref p) (upd H p (.dK []))
section
variable {X : Cx} {pos : Pos}
theorem pe_dnewK : PE X (.Dict [] [] pos) tDNewK := fun pins s σ H Q I h =>
 wpAny_Dict_empty ⟨.ref s.heap.objs.size, _, I.laid (a := s.heap.objs.size) (o := .dK []) (t' := s.toks) (fun _ _ q => Heap.get?_push_of_some _ q) (Nat.le_refl _) (Xkh s.heap I.big), rfl, h _ (I.hok.fresh (Nat.le_refl _))⟩
end
def tPairs : List (TE × TE) -> St -> Hp -> (List (V × V) -> Hp -> Prop) -> Prop
 | [], _, H, Q => Q [] H
 | (tk, tv) :: r, σ, H, Q => tk σ H fun x H1 => tv σ H1 fun y H2 => tPairs r σ H2 fun ps H3 => Q ((x, y) :: ps) H3
def mergeK (kvs more : List (Key × V)) : List (Key × V) := more.foldl (fun acc kv => putK acc kv.1 kv.2) kvs
def tDisp (trs : List (TE × TE)) : TE := fun σ H Q => ∀ p, H p = none -> tPairs trs σ (upd H p (.dK [])) fun ps H2 => H2 p = some (.dK []) /\ ∃ kvs : List (Key × V), ps = kvs.map (fun kv => (kV kv.1, kv.2)) /\ kvs.length <= 15 /\ Q (.ref p) (upd H2 p (.dK (mergeK [] kvs)))
structure M1 (X : Cx) (o : Expr) (m : Str) (apos : Pos) (e : Expr) (cpos : Pos) : Prop where
 base : attributeBase o m X.env (eval o X.env) = eval o X.env
 few : ((backTo cpos (starEach [e] X.env)).all (fun x => !x.1) && (backToKw cpos (keywordEach [] X.env)).all (fun x => x.1.isSome)
  && decide (([e] : List Expr).length + ([] : List Keyword).length + (if ([] : List Keyword).isEmpty then 0 else 1) < 30)) = true
 line : (apos.endLine == cpos.line) = true
 trees : backTo cpos (starEach [e] X.env) = [(false, eval e X.env)]
structure M2 (X : Cx) (o : Expr) (m : Str) (apos : Pos) (e f : Expr) (cpos : Pos) : Prop where
 base : attributeBase o m X.env (eval o X.env) = eval o X.env
 few : ((backTo cpos (starEach [e, f] X.env)).all (fun x => !x.1) && (backToKw cpos (keywordEach [] X.env)).all (fun x => x.1.isSome)
  && decide (([e, f] : List Expr).length + ([] : List Keyword).length + (if ([] : List Keyword).isEmpty then 0 else 1) < 30)) = true
 line : (apos.endLine == cpos.line) = true
 trees : backTo cpos (starEach [e, f] X.env) = [(false, eval e X.env), (false, eval f X.env)]
def IsD (H : Hp) (a : Addr) : Prop := (∃ kvs, Rd H a (.dK kvs)) \/ ∃ kvs, Rd H a (.dT kvs)
theorem isD_at {X : Cx} {pins : List (Addr × Obj)} {σ : St} {H : Hp} {s : Shared} {a : Addr} (I : Inv X pins σ H s) (d : IsD H a) :
  s.TypeIs (.ref a) "dict" /\ (∀ b, Value.ref a = .ref b -> ∃ ob, s.heap.get? b = some ob /\ ob.dict = none) /\ (a == sysModules) = false := by
 rcases d with ⟨kvs, e⟩ | ⟨kvs, e⟩
 ·obtain ⟨_, hd, vs, _, dd⟩ := Xlg I.hok e
  refine ⟨dd.typeIs, fun b q => ?_, hd⟩
  cases q
  obtain ⟨ob, _, _, h1, h2, _⟩ := dd
  exact ⟨ob, h1, h2.2.1⟩
 ·obtain ⟨_, hd, xs, _, dd⟩ := Xmt I.hok e
  refine ⟨dd.typeIs, fun b q => ?_, hd⟩
  cases q
  obtain ⟨ob, _, _, h1, h2, _⟩ := dd
  exact ⟨ob, h1, h2.2.1⟩
section
variable {X : Cx} {pins : List (Addr × Obj)} {σ : St} {H : Hp} {s : Shared} {a : Addr} {y d : V} {u r : Value} {o : Option V} {A : Around} {E : Value -> Shared -> Prop}
theorem d_get2 {Q : Value -> Shared -> Prop} (hu : A.units + 1 < cLine) (I : Inv X pins σ H s) (g : DGet H a y o) (ry : RelV y u) (rd : RelV d r) (h : ∀ w' s', Inv X pins σ H s' -> RelV (o.getD d) w' -> Q w' s') :
  wpAny (model X.prog X.w) A (call (.builtin "dict.get") [.ref a, u, r]) Q E s := by
 rcases g with ⟨kvs, k, e, ey, l⟩ | ⟨kvs, k, b, e, ey, eb, l⟩
 ·subst ey
  obtain ⟨z, hd, vs, rel, dd⟩ := Xlg I.hok e
  refine call_meetsIn PySem.F.slot_dict_get dd.typeIs PySem.F.entry_dict_get (PySem.F.args_dict_get_3 _ _ _) (meets_dict_get_default (Xar X.prog X.w) a (Xms ry) hd r) ⟨_, dd.mapOf, h _ _ (I.tok _) ?_⟩
  rw [l]
  exact (rel.val k).getD rd
 ·subst ey
  cases (show u = Value.ref b from ry)
  obtain ⟨z, hd, xs, rel, dd⟩ := Xmt I.hok e
  refine call_meetsIn PySem.F.slot_dict_get dd.typeIs PySem.F.entry_dict_get (PySem.F.args_dict_get_3 _ _ _) (meetsH_dict_get_default (tupleKind (Xar X.prog X.w)) a b hd r) ⟨tupleKind_room_in1 hu, k, xs, Xkg I.hok eb, dd, h _ _ (I.tok _) ?_⟩
  rw [l]
  exact (rel.val k).getD rd
end
def tDGet2 (td ty tx : TE) : TE := fun σ H Q => td σ H fun x H1 => ∃ a, x = .ref a /\ IsD H1 a /\ ty σ H1 fun y H2 => tx σ H2 fun z H3 => ∃ o, DGet H3 a y o /\ Q (o.getD z) H3
def tDPop1 (td ty : TE) : TE := fun σ H Q => td σ H fun x H1 => ∃ a, x = .ref a /\ IsD H1 a /\ ty σ H1 fun y H2 => ∃ kvs k v, H2 a = some (.dK kvs) /\ y = kV k /\ valV kvs k = some v /\ Q v (upd H2 a (.dK (dropK kvs k)))
section
variable {X : Cx} {o e f : Expr} {apos cpos : Pos} {td ty tx : TE}
theorem pe_dget2 (hu : X.A.units + 1 < cLine) (ho : PE X o td) (he : PE X e ty) (hf : PE X f tx) (m : M2 X o "get" apos e f cpos) : PE X (.Call (.Attribute o "get" apos) [e, f] [] cpos) (tDGet2 td ty tx) := by
 intro pins s σ H Q I h
 refine wpAny_Call_method m.base m.few m.line PySem.F.plainAttrs_dict PySem.F.slot_dict_get PySem.F.type_dict_get (thn (ho pins s σ H _ I h) fun u s1 ⟨x, H1, I1, rx, a, ex, d, q1⟩ => ?_)
 subst ex
 obtain rfl : u = Value.ref a := rx
 obtain ⟨t1, t2, _⟩ := isD_at I1 d
 refine ⟨t1, t2, ?_⟩
 rw [m.trees]
 refine Calls.callWith_builtin rfl (Calls.evalArgs_plain (Calls.spliced_cons (thn (he pins s1 σ H1 _ I1 q1) fun iv s2 ⟨y, H2, I2, ry, q2⟩ =>
  Calls.spliced_cons (thn (hf pins s2 σ H2 _ I2 q2) fun fv s3 ⟨z, H3, I3, rz, ov, g, q3⟩ => Calls.spliced_nil ?_))))
 exact d_get2 hu I3 g ry rz fun w' s4 I4 rw' => ⟨_, H3, I4, rw', q3⟩
end
section
variable {X : Cx} {pins : List (Addr × Obj)} {σ : St} {H : Hp} {s : Shared} {a : Addr} {kvs : List (Key × V)} {A : Around} {E : Value -> Shared -> Prop}
end
section
variable {X : Cx} {pins : List (Addr × Obj)} {σ : St} {H : Hp} {s : Shared} {a : Addr} {y : V} {u : Value} {A : Around} {E : Value -> Shared -> Prop}
end
end L2
namespace Att
open PySem PySem.W PySem.Calls PyProof.Rows
theorem Xfh {P : Params} {h : Heap} : ∀ (ns : List Int) (vs : List Value), WellAll P h vs (ns.map WData.int) -> IntsAre vs ns := by
 intro ns
 induction ns with
 | nil =>
  intro vs w
  rw [List.map_nil] at w
  cases w
  exact .nil
 | cons n ns ih =>
  intro vs w
  rw [List.map_cons] at w
  cases w with
  | cons a b =>
   cases a
   exact .cons _ _ (ih _ b)
theorem Xmv {l : OpenLaw} {n : Nat} (hn : l.most = some n) {P : Params} {h : Heap} {args : List WData} {vals : List Value}
  (hpre : l.row.toRowW.claim.pre args = true) (hwl : WellAll P h vals args) :
  ∃ a vs ns, vals = [Value.ref a] /\ args = [WData.list (ns.map WData.int)] /\ h.get? a = some { cls := .type "list", data := .seq vs.toArray } /\ IntsAre vs ns /\ ns.length <= n := by
 have hsh : WShape.hasAll [] args [.list .int] = true := (pre_splitW hpre).1
 have hc : l.pre.holds [] { args := args } = true := (pre_splitW hpre).2
 obtain ⟨d, r, rfl, h1, h2⟩ := hasAllW_cons hsh
 obtain rfl := hasAllW_nil h2
 obtain ⟨xs, rfl, h3⟩ := hasW_list h1
 obtain ⟨ns, rfl⟩ := items_int h3
 have hlen : ns.length <= n := by
  unfold OpenLaw.pre at hc
  have h4 : (WTm.not (.lt (.lit (.int (n : Int))) (.len (.arg 0)))).holds [] { args := [.list (ns.map .int)] } = true := by
   have h4 := (holds_andW hc).1
   rw [hn] at h4
   exact h4
  have h5 := condW_of h4 (w_not (w_lt w_lit (w_len_list (w_arg rfl))))
  rw [List.length_map] at h5
  refine Nat.le_of_not_lt fun q => ?_
  have q' : (n : Int) < ((ns.length : Nat) : Int) := by omega
  first
   | (rw [decide_eq_true q'] at h5; exact absurd h5 (by decide))
   | (simp at h5; omega)
 cases hwl with
 | cons w1 w2 =>
  cases w2
  cases w1 with
  | list ho hall => exact ⟨_, _, ns, rfl, rfl, ho, Xfh ns _ hall, hlen⟩
theorem Xmw (l : OpenLaw) (args : List WData) : l.row.toRowW.claim.post args (.bool true) args = true :=
 postW_of (r := l.row.toRowW) (X := (true == true))
  (show WShape.has [] (.bool true) .bool = true by first | rfl | decide | simp [WShape.has, WShape.arms, WShape.armsAll])
  (show (WTm.eq .res (.lit (.bool true))).value [] { args := args, res := some (.bool true), after := args } = some (.bool (true == true)) from w_eq_bool (w_res rfl) w_lit) rfl
theorem attach_call {l : OpenLaw} {n : Nat} {q : Program} {loose : List Str} {XP : (Str -> Option Value) -> Heap -> Prop} {YP : World -> Heap -> Prop} {d : DefRec}
  (hn : l.most = some n) (hdf : d.params.defaults = [])
  (call : ∀ (w : World) (s₀ s₁ : Shared) (mg mb : Str -> Option Value) (fa : Addr) (o : Obj) (pm cd doc : Value) (a : Addr) (vs : List Value) (ns : List Int),
   Ground q loose [] XP w s₀ mg mb s₁.heap -> YP w s₁.heap ->
   s₁.heap.get? fa = some o -> o.data = .func (docDef d.name d.params d.body d.scope pm cd doc) -> s₁.heap.CodeRec cd d.name -> mg d.name = some (.ref fa) ->
   s₁.heap.get? a = some { cls := .type "list", data := .seq vs.toArray } -> IntsAre vs ns -> ns.length <= n -> s₁.gens = #[] ->
   codeAny (model l.prog w) callerA (.call (.ref fa) ⟨[.ref a], []⟩) (fun r s' => r = .ok (.ret (.bool true)) /\ OldK s₁.heap s'.heap /\ s'.os = s₁.os /\ AllBare s'.gens) s₁) :
  WalkO q loose XP YP l.row.toRowW d [] (fun f vs => PySem.call f vs) := by
 intro w s₀ s₁ mg mb G Y fa o pm cd doc dV kV ho hd hcd hD hmg hg args vals as hpre hlay hrd hwl hlo
 obtain rfl : dV = .none := Dflts.none hD hdf
 obtain rfl : kV = .none := Dflts.noKw hD
 obtain ⟨a, vs, ns, rfl, rfl, hobj, hints, hlen⟩ := Xmv hn hpre hwl
 refine enter_call (codeAny_mono (call w s₀ s₁ mg mb fa o pm cd doc a vs ns G Y ho (fd_plain hd) hcd hmg hobj hints hlen hg) fun r s' hq => ?_)
 obtain ⟨rfl, h2, h3, h4⟩ := hq
 exact ⟨.inl ⟨.bool true, .bool true, [], rfl, fun _ => rfl, .bool true, Xmw l _, fun _ => ⟨List.Pairwise.nil, fun _ hm => (nomatch hm)⟩⟩, h2, h3, h4⟩
section
variable {prog : Program} {w : World} {A : Around} {E : Value -> Shared -> Prop} {s : Shared} {K : Frag}
def ledger (h : Heap) (L d : Addr) : List (Addr × Obj) := (List.range h.objs.size).filterMap fun a => if a = L \/ a = d then none else (h.get? a).map fun o => (a, o)
end
end Att
namespace L2
open PySem PySem.Spec PyProof.Rows
theorem Xhs : ∀ {vs : List Value} {ns : List Int}, IntsAre vs ns -> Vals (ns.map V.int) vs
 | _, _, .nil => .nil
 | _, _, .cons n t h => .cons ⟨t, rfl⟩ (Xhs h)
def Only (H : Hp) : Prop := ∀ b, H b = none \/ ∃ o xs, H b = some (.frz o (.lst xs))
abbrev KOf {K : PySem.W.Frag} {h : Heap} (_ : K.In h) : PySem.W.Frag := K
def inClass (s : Stmt) (j : Nat) : Stmt := match s with
 | .ClassDef _ _ _ body _ _ _ _ _ _ _ => body.getD j (.Pass ⟨0, 0, 0, 0⟩)
 | _ => .Pass ⟨0, 0, 0, 0⟩
def Xck (s : Stmt) : Arguments := match s with
 | .FunctionDef _ a _ _ _ _ _ _ _ _ => a
 | _ => { posonlyargs := [], args := [], vararg := none, kwonlyargs := [], kw_defaults := [], kwarg := none, defaults := [] }
def Xbf (s : Stmt) : List Stmt := match s with
 | .FunctionDef _ _ b _ _ _ _ _ _ _ => b
 | _ => []
def defScope (s : Stmt) : Scope := match s with
 | .FunctionDef _ _ _ _ _ _ sc _ _ _ => sc
 | _ => { kind := .function, names := [], isGenerator := false, isCoroutine := false }
abbrev CX0 : CXT := fun _ _ _ _ _ _ => False
abbrev E0 : XK := fun _ _ _ => False
theorem pass0 {X : Cx} : Passes CX0 X E0 := fun _ _ _ _ _ _ _ h => h.elim
structure Fun (K : PySem.W.Frag) (x qual : Str) (st : Stmt) (f : Addr) (fd : FuncData) : Prop where
 ex : ∃ (oc : Value) (od : Option Addr) (kV doc pm : Value) (an : Option Addr) (cdv ct : Value) (osl : Array (Option Value)),
  fd = PySem.W.fnOf x qual (Xck st) (Xbf st) (defScope st) .none kV doc pm an cdv ct /\ K.lookup f = some ⟨oc, od, .func fd, osl⟩ /\ PySem.W.codeIn K cdv qual = true
 kp : PySem.W.keepIn K (.ref f) = true
section
variable {P : Program} {w : World} {K : PySem.W.Frag} {mg : Str -> Option Value} {base : Heap}
theorem Fun.ok {x qual : Str} {st : Stmt} {f : Addr} {fd : FuncData} {N ps : List Str} {k : Nat} {sp : Sp} (F : Fun K x qual st f fd) (S : FnScope N ps (defScope st)) (len : ∀ vs H Q E, sp vs H Q E -> vs.length = ps.length)
  (hbody : ∀ (cdv : Value) (A : Around) (outer : List Env) (s : Shared) (H : Hp) (vs : List V) (Q : VK) (E : XK), Room k (A.deeper (envOfC qual (defScope st) s.heap.objs.size f cdv)) -> sp vs H Q E ->
   ∃ t, PSs (cxOf CX0 P w K mg base N qual (defScope st) f cdv A outer s H E).nox (Xbf st) t /\ t { nx := fun _ H' => Q .non H', rt := Q } (start N vs) H) : FnOk P w K mg base CX0 (k + 1) f fd ps sp := by
 obtain ⟨oc, od, kV, doc, pm, an, cdv, ct, osl, rfl, lk, hcd⟩ := F.ex
 refine fn_of lk hcd S len fun A outer s H vs Q E hr hsp => ?_
 obtain ⟨t, h, q⟩ := hbody cdv A outer s H vs Q E hr hsp
 exact ⟨t, h.nox, q⟩
theorem Fun.binds {x qual : Str} {st : Stmt} {f : Addr} {fd : FuncData} {ps : List Str} (F : Fun K x qual st f fd)
  (h : ∀ (kV doc pm : Value) (an : Option Addr) (cdv ct : Value) (us : List Value), us.length = ps.length -> bindArgs (PySem.W.fnOf x qual (Xck st) (Xbf st) (defScope st) .none kV doc pm an cdv ct) ⟨us, []⟩ = pure (ps.zip us)) : Binds K fd ps [] := by
 obtain ⟨oc, od, kV, doc, pm, an, cdv, ct, osl, rfl, lk, hcd⟩ := F.ex
 exact .all (h kV doc pm an cdv ct)
theorem fun_mk {x qual : Str} {st : Stmt} {f : Addr} {oc : Value} {od an : Option Addr} {osl : Array (Option Value)} {kV doc pm cdv ct : Value} (l : K.lookup f = some ⟨oc, od, .func (PySem.W.fnOf x qual (Xck st) (Xbf st) (defScope st) .none kV doc pm an cdv ct), osl⟩)
  (c : PySem.W.codeIn K cdv qual = true) (k : PySem.W.keepIn K (.ref f) = true) : Fun K x qual st f (PySem.W.fnOf x qual (Xck st) (Xbf st) (defScope st) .none kV doc pm an cdv ct) := ⟨⟨oc, od, kV, doc, pm, an, cdv, ct, osl, rfl, l, c⟩, k⟩
end
theorem Xmx {A : Around} {k : Nat} (hr : Room k A) : A.units + 1 < cLine := Nat.lt_of_le_of_lt (Nat.add_le_add_left (by decide : 1 <= 64) _) hr.units
section
variable {X : Cx}
theorem pv (i : Nat) {x : Str} {pos : Pos} (hN : X.N[i]? = some x := by rfl) (hv : Vis X.env.scope x := by first | exact Or.inl rfl | exact Or.inr (Or.inl rfl) | exact Or.inr (Or.inr rfl)) (hd : (x == ("__debug__" : Str)) = false := by decide)
  (hcd : (x == ("__classdict__" : Str)) = false := by decide) : PE X (.Name x pos) (tVar i) := pe_var hN hv hd hcd
end
theorem iteF {A B : Prop} (h : B) : if false = true then A else B := by
 rw [if_neg Bool.false_ne_true]
 exact h
theorem iteT {A B : Prop} (h : A) : if true = true then A else B := by
 rw [if_pos rfl]
 exact h
theorem iteNS {c A B : Prop} [Decidable c] (hc : c) (h : B) : if (!decide c) = true then A else B := by
 rw [decide_eq_true hc]
 exact iteF h
def Same (H H' : Hp) : Prop := ∀ b o, H b = some o -> H' b = some o
theorem Same.refl (H : Hp) : Same H H := fun _ _ h => h
theorem Same.trans {H H1 H2 : Hp} (a : Same H H1) (b : Same H1 H2) : Same H H2 := fun c o h => b c o (a c o h)
theorem Same.free {H H' : Hp} (e : Same H H') {l : Addr} (h : H' l = Option.none) : H l = Option.none := by
 cases q : H l with
 | none => rfl
 | some o =>
  rw [e l o q] at h
  cases h
theorem Same.seq {K : PySem.W.Frag} {H H' : Hp} {a : Addr} {xs : List V} (e : Same H H') (h : SqL K H a xs) : SqL K H' a xs := by
 rcases h with (h | ⟨o, h⟩) | h
 ·exact .inl (.inl (e _ _ h))
 ·exact .inl (.inr ⟨o, e _ _ h⟩)
 ·exact .inr h
section
variable {X : Cx}
end
section
variable {κ : Type} [DecidableEq κ]
theorem valV_not {kvs : List (κ × V)} {k : κ} (h : valV kvs k = none) : ¬ k ∈ kvs.map (·.1) := by
 intro m
 obtain ⟨p, hp, e⟩ := List.mem_map.mp m
 have q : (kvs.any fun kv => decide (kv.1 = k)) = true := List.any_eq_true.mpr ⟨p, hp, decide_eq_true e⟩
 rw [Xb3, h] at q
 exact absurd q (by simp)
theorem Xgm {kvs : List (κ × V)} {k : κ} {v : V} (h : valV kvs k = some v) : k ∈ kvs.map (·.1) := by
 have q : (kvs.any fun kv => decide (kv.1 = k)) = true := by
  rw [Xb3, h]
  all_goals rfl
 obtain ⟨p, hp, e⟩ := List.any_eq_true.mp q
 exact List.mem_map.mpr ⟨p, hp, of_decide_eq_true e⟩
theorem nd_snoc : ∀ {l : List κ} {k : κ}, l.Nodup -> ¬ k ∈ l -> (l ++ [k]).Nodup
 | [], k, _, _ => by simp
 | a :: r, k, h, hk => by
  obtain ⟨h1, h2⟩ := List.nodup_cons.mp h
  show (a :: (r ++ [k])).Nodup
  refine List.nodup_cons.mpr ⟨fun m => ?_, nd_snoc h2 fun m => hk (List.mem_cons.mpr (Or.inr m))⟩
  rcases List.mem_append.mp m with q | q
  ·exact h1 q
  ·exact hk (List.mem_cons.mpr (Or.inl (List.mem_singleton.mp q).symm))
theorem nd_putK {kvs : List (κ × V)} {k : κ} (v : V) (hn : (kvs.map (·.1)).Nodup) (h : valV kvs k = none) : ((putK kvs k v).map (·.1)).Nodup := by
 rw [Xew v h, List.map_append]
 exact nd_snoc hn (valV_not h)
end
def Xdh (env : Env) : List (Str × NameKind) -> List (Str × Addr) -> List (Str × Addr)
 | [], cs => cs
 | (n, k) :: r, cs => if k == .free then Xdh env r ((n, (env.cells.lookup n).getD 0) :: cs) else Xdh env r cs
theorem Xgn {env : Env} : ∀ (names : List (Str × NameKind)) (cs : List (Str × Addr)), (∀ x ∈ names, x.2 = .free -> ∃ c, env.cells.lookup x.1 = some c) ->
  (forIn names cs fun (x : Str × NameKind) r => (if (x.2 == .free) = true then do let c <- cellOf env x.1; pure (ForInStep.yield ((x.1, c) :: r)) else pure (ForInStep.yield r) : Sem (ForInStep (List (Str × Addr))))) = pure (Xdh env names cs)
 | [], cs, _ => rfl
 | (n, k) :: r, cs, h => by
  rw [List.forIn_cons]
  cases hk : (k == NameKind.free) with
  | true =>
   have hk' : k = .free := by simpa using hk
   obtain ⟨c, hc⟩ := h (n, k) List.mem_cons_self hk'
   have e1 : cellOf env n = pure c := by unfold cellOf; rw [hc]
   simp only [hk, if_true, e1, pure_bind]
   rw [Xgn r _ fun x hx => h x (List.mem_cons_of_mem _ hx)]
   show _ = pure (if (k == NameKind.free) = true then _ else _)
   rw [hk, if_pos rfl, hc]
   rfl
  | false =>
   simp only [hk, Bool.false_eq_true, if_false, pure_bind]
   rw [Xgn r _ fun x hx => h x (List.mem_cons_of_mem _ hx)]
   show _ = pure (if (k == NameKind.free) = true then _ else _)
   rw [hk, if_neg Bool.false_ne_true]
theorem Xki {scope : Scope} {env : Env} (h : ∀ x ∈ scope.names, x.2 = .free -> ∃ c, env.cells.lookup x.1 = some c) : closureFor scope env = pure (Xdh env scope.names []) := by
 have e := Xgn scope.names [] h
 have q : closureFor scope env = (forIn scope.names [] fun (x : Str × NameKind) r => (if (x.2 == .free) = true then do let c <- cellOf env x.1; pure (ForInStep.yield ((x.1, c) :: r)) else pure (ForInStep.yield r) : Sem (ForInStep (List (Str × Addr))))) >>= fun cs => pure cs := rfl
 rw [q, e]
 rfl
theorem Xgo {env : Env} {x : Str} {c : Addr} : ∀ (names : List (Str × NameKind)) (cs : List (Str × Addr)), (∀ x ∈ names, x.2 = .free -> ∃ c, env.cells.lookup x.1 = some c) ->
  (Xdh env names cs).lookup x = some c -> cs.lookup x = some c \/ env.cells.lookup x = some c
 | [], cs, _, h => .inl h
 | (n, k) :: r, cs, hf, h => by
  unfold Xdh at h
  split at h
  ·rename_i hk
   rcases Xgo r _ (fun x hx => hf x (List.mem_cons_of_mem _ hx)) h with q | q
   ·rw [List.lookup_cons] at q
    split at q
    ·rename_i e
     have e' : x = n := by simpa using e
     subst e'
     obtain ⟨c', hc⟩ := hf (x, k) List.mem_cons_self (by simpa using hk)
     have hc' : env.cells.lookup x = some c' := hc
     rw [hc'] at q ⊢
     exact .inr q
    ·exact .inl q
   ·exact .inr q
  ·exact Xgo r _ (fun x hx => hf x (List.mem_cons_of_mem _ hx)) h
theorem Xea {env : Env} {x : Str} : ∀ (names : List (Str × NameKind)) (cs : List (Str × Addr)), ((cs.lookup x).isSome = true \/ (x, NameKind.free) ∈ names) -> ((Xdh env names cs).lookup x).isSome = true
 | [], cs, h => by
  rcases h with h | h
  ·exact h
  ·cases h
 | (n, k) :: r, cs, h => by
  unfold Xdh
  split
  ·refine Xea r _ ?_
   rw [List.lookup_cons]
   rcases h with h | h
   ·left
    split
    ·rfl
    ·exact h
   ·rcases List.mem_cons.mp h with e | h
    ·left
     cases e
     simp
    ·exact .inr h
  ·rename_i hk
   refine Xea r _ ?_
   rcases h with h | h
   ·exact .inl h
   ·rcases List.mem_cons.mp h with e | h
    ·cases e
     exact absurd rfl hk
    ·exact .inr h
theorem Xdb {env : Env} {x : Str} {k' : NameKind} : ∀ {names : List (Str × NameKind)},
  (names.map fun (n, k) => if (k == NameKind.free && env.scope.kind == .function && env.kindOf n == some .cell) then (n, NameKind.cell) else (n, k)).lookup x = some k' -> ∃ k, names.lookup x = some k /\ (k' = k \/ k = .free)
 | [], h => by simp at h
 | (n, k) :: r, h => by
  have ih := @Xdb env x k' r
  have h' : List.lookup x ((if (k == NameKind.free && env.scope.kind == .function && env.kindOf n == some .cell) = true then (n, NameKind.cell) else (n, k)) :: _) = _ := h
  rw [List.lookup_cons]
  by_cases hc : (k == NameKind.free && env.scope.kind == .function && env.kindOf n == some .cell) = true
  ·rw [if_pos hc, List.lookup_cons] at h'
   cases hx : x == n with
   | true =>
    have hk : k = .free := by
     simp only [Bool.and_eq_true, beq_iff_eq] at hc
     exact hc.1.1
    exact ⟨k, rfl, .inr hk⟩
   | false =>
    rw [hx] at h'
    exact ih h'
  ·rw [if_neg hc, List.lookup_cons] at h'
   cases hx : x == n with
   | true =>
    rw [hx] at h'
    exact ⟨k, rfl, .inl (Option.some.inj h').symm⟩
   | false =>
    rw [hx] at h'
    exact ih h'
theorem Xeb : ∀ (names : List (Str × NameKind)) (h : Heap) (acc : List (Str × Addr)) (x : Str) (c : Addr), (cellsFrom h.objs.size names acc).lookup x = some c ->
  (h.objs.size <= c /\ (x, NameKind.cell) ∈ names /\ (pushCells h names).IsCell c none) \/ acc.lookup x = some c
 | [], _, _, _, _, e => .inr e
 | (name, kind) :: r, h, acc, x, c, e => by
  unfold cellsFrom at e
  unfold pushCells
  by_cases hk : (kind == NameKind.cell) = true
  ·rw [if_pos hk] at e ⊢
   have hk' : kind = .cell := by simpa using hk
   have sz : (h.push { cls := .type "cell", data := .cell none }).objs.size = h.objs.size + 1 := Heap.size_push ..
   rw [<- sz] at e
   rcases Xeb r _ _ x c e with ⟨a1, a2, a3⟩ | a
   ·exact .inl ⟨by omega, List.mem_cons_of_mem _ a2, a3⟩
   ·rw [List.lookup_cons] at a
    cases hx : x == name with
    | true =>
     rw [hx] at a
     cases a
     have : x = name := by simpa using hx
     subst this
     refine .inl ⟨Nat.le_refl _, by rw [hk']; exact List.mem_cons_self, ?_⟩
     exact ⟨_, pushCells_keeps r _ _ _ (Heap.get?_push_size _ rfl), rfl⟩
    | false => rw [hx] at a; exact .inr a
  ·rw [if_neg hk] at e ⊢
   rcases Xeb r h acc x c e with ⟨a1, a2, a3⟩ | a
   ·exact .inl ⟨a1, List.mem_cons_of_mem _ a2, a3⟩
   ·exact .inr a
theorem Xfi : ∀ (names : List (Str × NameKind)) (n : Nat) (acc : List (Str × Addr)), (∀ x y c, acc.lookup x = some c -> acc.lookup y = some c -> x = y) -> (∀ x c, acc.lookup x = some c -> c < n) ->
  ∀ x y c, (cellsFrom n names acc).lookup x = some c -> (cellsFrom n names acc).lookup y = some c -> x = y
 | [], _, _, h, _ => h
 | (name, kind) :: r, n, acc, h, hb => by
  unfold cellsFrom
  by_cases hk : (kind == NameKind.cell) = true
  ·rw [if_pos hk]
   refine Xfi r (n + 1) _ (fun x y c e1 e2 => ?_) (fun x c e => ?_)
   ·rw [List.lookup_cons] at e1 e2
    cases hx : x == name with
    | true =>
     cases hy : y == name with
     | true => rw [beq_iff_eq.mp hx, beq_iff_eq.mp hy]
     | false =>
      rw [hx] at e1; rw [hy] at e2
      cases e1
      exact absurd (hb y _ e2) (Nat.lt_irrefl _)
    | false =>
     cases hy : y == name with
     | true =>
      rw [hx] at e1; rw [hy] at e2
      cases e2
      exact absurd (hb x _ e1) (Nat.lt_irrefl _)
     | false => rw [hx] at e1; rw [hy] at e2; exact h x y c e1 e2
   ·rw [List.lookup_cons] at e
    cases hx : x == name with
    | true => rw [hx] at e; cases e; exact Nat.lt_succ_self _
    | false => rw [hx] at e; exact Nat.lt_succ_of_lt (hb x c e)
  ·rw [if_neg hk]
   exact Xfi r n acc h hb
theorem Xfj {env : Env} {x : Str} {c : Addr} : ∀ (names : List (Str × NameKind)) (cs : List (Str × Addr)), (Xdh env names cs).lookup x = some c -> cs.lookup x = some c \/ (x, NameKind.free) ∈ names
 | [], cs, h => .inl h
 | (n, k) :: r, cs, h => by
  unfold Xdh at h
  split at h
  ·rename_i hk
   have hk' : k = .free := by simpa using hk
   rcases Xfj r _ h with q | q
   ·rw [List.lookup_cons] at q
    cases hx : x == n with
    | true =>
     have : x = n := by simpa using hx
     subst this
     exact .inr (by rw [hk']; exact List.mem_cons_self)
    | false => rw [hx] at q; exact .inl q
   ·exact .inr (List.mem_cons_of_mem _ q)
  ·rcases Xfj r _ h with q | q
   ·exact .inl q
   ·exact .inr (List.mem_cons_of_mem _ q)
theorem Xlh {M : Model} {A : Around} {E : Value -> Shared -> Prop} {s : Shared} {scope : Scope} {globals : Addr} {closure : List (Str × Addr)} {qual : Str} {outer : Env} {Q : Env -> Shared -> Prop}
  (h : Q (newEnv scope s.heap.objs.size globals (cellsFrom (s.heap.objs.size + 1) scope.names closure) qual none .none (some outer) builtinsNs) { s with heap := pushCells (s.heap.push { cls := .type "dict", data := .dict #[] }) scope.names }) :
  wpAny M A (newFunctionEnv scope globals closure [] qual none .none (some outer)) Q E s := by
 simp only [newFunctionEnv, Option.isSome_some, if_true]
 refine wpAny_bind (wpAny_alloc ?_)
 refine wpAny_bind (wpAny_layCells _ (fun name kind cells => by cases hkc : kind == NameKind.cell <;> simp [hkc]) _ _ _ _ ?_)
 rw [show ({ s with heap := s.heap.push { cls := .type "dict", data := .dict #[] } } : Shared).heap.objs.size = s.heap.objs.size + 1 from Heap.size_push ..]
 refine wpAny_bind ?_
 rw [List.forIn_nil]
 exact wpAny_pure (wpAny_pure h)
def Xht (X : Cx) (scope : Scope) (s0 : Shared) : List (Str × Addr) := cellsFrom (s0.heap.objs.size + 1) scope.names (Xdh X.env scope.names [])
def Cx.comp (X : Cx) (N : List Str) (scope : Scope) (s0 : Shared) (H0 : Hp) (ex : List Addr) : Cx where
 prog := X.prog
 w := X.w
 K := X.K
 mg := X.mg
 base := X.base
 A := X.A
 N := N
 s₀ := s0
 H₀ := H0
 env := compEnvC scope (Xht X scope s0) s0.heap.objs.size X.env
 outer := X.stack
 stack := X.stack
 ex := ex
 fn := fun x => decide (scope.names.lookup x = some .cell)
 calm := X.calm
 pn := []
 xe := fun _ _ => False
def capS (cap : List (Option Nat)) (σ : St) : St := cap.map fun o => o.bind fun j => (σ[j]?).join
structure CompScope (X : Cx) (N : List Str) (cap : List (Option Nat)) (scope : Scope) : Prop where
 kind : scope.kind = .function
 uniq : ∀ y ∈ scope.names, scope.names.lookup y.1 = some y.2
 free : ∀ y ∈ scope.names, y.2 = .free -> X.env.kindOf y.1 = some .cell \/ X.env.kindOf y.1 = some .free
 len : cap.length = N.length
 cap : ∀ (i : Nat) (x : Str) (j : Nat), N[i]? = some x -> cap[i]? = some (some j) -> X.N[j]? = some x /\ scope.names.lookup x = some .free
def PIfs (X : Cx) (ifs : List Expr) (t : TT) : Prop :=
 ∀ (pins : List (Addr × Obj)) (s : Shared) (σ : St) (H : Hp) (Q : Bool -> Hp -> Prop), Inv X pins σ H s -> t σ H Q ->
  wpAny (model X.prog X.w) X.A (forIn ifs true fun c r => if r = true then do let ok <- isTrue c X.env (eval c X.env); pure (ForInStep.yield ok) else pure (ForInStep.yield r)) (TP X pins σ Q) X.xe s
def tYes : TT := fun _ H Q => Q true H
theorem Xcl {X : Cx} : PIfs X [] tYes := fun _ _ _ H _ I h => wpAny_tests_nil ⟨H, I, h⟩
theorem Xdp {X : Cx} {c : Expr} {t : TT} (h : PT X c t) : PIfs X [c] t := fun pins s σ H Q I hw => wpAny_tests_one (h pins s σ H Q I hw)
def tBlk (cap : List (Option Nat)) (g : TG) (tt : TT) (te : TE) (J : It) (σ : St) (H1 : Hp) (F : Addr -> Hp -> Prop) : Prop :=
 ∀ D, H1 D = none -> ∃ W : Nat -> Nat -> St -> Hp -> Prop, (∃ m, W 0 m (capS cap σ) (upd H1 D (.lst []))) /\ ∀ i m σ1 H2, W i m σ1 H2 ->
  (J.stop i H2 /\ F D H2) \/ (J.go i H2 /\ ∀ x H3, J.yld i H2 x H3 -> g x σ1 H3 fun σ2 H4 => tt σ2 H4 fun b H5 =>
   if b = true then te σ2 H5 fun y H6 => ∃ ys, H6 D = some (.lst ys) /\ ys.length < sizeLine /\ ∃ m', m' < m /\ W (i + 1) m' σ2 (upd H6 D (.lst (ys ++ [y])))
   else ∃ m', m' < m /\ W (i + 1) m' σ2 H5)
theorem Xeq {env : Env} {x : Str} : ∀ {names : List (Str × NameKind)} {k : NameKind}, names.lookup x = some k ->
  (names.map fun (n, k) => if (k == NameKind.free && env.scope.kind == .function && env.kindOf n == some .cell) then (n, NameKind.cell) else (n, k)).lookup x = some (if (k == NameKind.free && env.scope.kind == .function && env.kindOf x == some .cell) then NameKind.cell else k)
 | [], _, h => by simp at h
 | (n, q) :: r, k, h => by
  have ih := @Xeq env x r k
  show List.lookup x ((if (q == NameKind.free && env.scope.kind == .function && env.kindOf n == some .cell) = true then (n, NameKind.cell) else (n, q)) :: _) = _
  rw [List.lookup_cons] at h
  cases hx : x == n with
  | true =>
   rw [hx] at h
   cases h
   have : x = n := by simpa using hx
   subst this
   by_cases hc : (q == NameKind.free && env.scope.kind == .function && env.kindOf x == some .cell) = true
   ·rw [if_pos hc, if_pos hc, List.lookup_cons, hx]
   ·rw [if_neg hc, if_neg hc, List.lookup_cons, hx]
  | false =>
   rw [hx] at h
   by_cases hc : (q == NameKind.free && env.scope.kind == .function && env.kindOf n == some .cell) = true
   ·rw [if_pos hc, List.lookup_cons, hx]; exact ih h
   ·rw [if_neg hc, List.lookup_cons, hx]; exact ih h
section
variable {X : Cx} {N : List Str} {cap : List (Option Nat)} {scope : Scope} {pins : List (Addr × Obj)} {σ : St} {H H' : Hp} {s s' : Shared} {fp : List Addr}
theorem Xec (C : CompScope X N cap scope) (ok : X.Ok) : ∀ x ∈ scope.names, x.2 = .free -> ∃ c, X.env.cells.lookup x.1 = some c := fun x hx hf => ok.has x.1 (C.free x hx hf)
theorem Xex (C : CompScope X N cap scope) (ok : X.Ok) {x : Str} {c : Addr} (h : (Xdh X.env scope.names []).lookup x = some c) : X.env.cells.lookup x = some c := by
 rcases Xgo scope.names [] (Xec C ok) h with q | q
 ·simp at q
 ·exact q
theorem Xkj (C : CompScope X N cap scope) (ok : X.Ok) {x : Str} (h : scope.names.lookup x = some .free) : ∃ c, (Xdh X.env scope.names []).lookup x = some c :=
 Option.isSome_iff_exists.mp (Xea scope.names [] (.inr (PySem.mem_of_lookup h)))
theorem Xhu (C : CompScope X N cap scope) (ok : X.Ok) {h : Heap} (hz : h.objs.size = s.heap.objs.size + 1) {x : Str} {c : Addr} (e : (Xht X scope s).lookup x = some c) :
  (s.heap.objs.size < c /\ scope.names.lookup x = some .cell /\ (pushCells h scope.names).IsCell c none) \/ (scope.names.lookup x = some .free /\ X.env.cells.lookup x = some c) := by
 unfold Xht at e
 rw [<- hz] at e
 rcases Xeb scope.names h _ x c e with ⟨a1, a2, a3⟩ | a
 ·exact .inl ⟨by omega, C.uniq _ a2, a3⟩
 ·refine .inr ⟨?_, Xex C ok a⟩
  rcases Xfj scope.names [] a with q | q
  ·simp at q
  ·exact C.uniq _ q
theorem inv_comp (C : CompScope X N cap scope) (I : Inv X pins σ H s) (hf : ∀ b ∈ fp, FpOk X pins H b) (hfl : ∀ b ∈ fp, b < s.heap.objs.size) {tk : Nat} :
  Inv (X.comp N scope s H fp) [] (capS cap σ) H { s with heap := pushCells (s.heap.push { cls := .type "dict", data := .dict #[] }) scope.names, toks := tk } := by
 have hC : H s.heap.objs.size = none := I.hok.fresh (Nat.le_refl _)
 have hz : (s.heap.push { cls := .type "dict", data := .dict #[] }).objs.size = s.heap.objs.size + 1 := Heap.size_push ..
 have hns : (pushCells (s.heap.push { cls := .type "dict", data := .dict #[] }) scope.names).Ns s.heap.objs.size fun _ => none := (Heap.Ns.new s.heap (.type "dict")).keeps (pushCells_keeps _ _)
 have hk : ∀ b o, s.heap.get? b = some o -> (pushCells (s.heap.push { cls := .type "dict", data := .dict #[] }) scope.names).get? b = some o := fun b o e => pushCells_keeps _ _ b o (Heap.get?_push_of_some _ e)
 have look : ∀ {x c}, (X.comp N scope s H fp).env.cells.lookup x = some c -> _ := fun {x c} h => Xhu (s := s) C I.ok hz h
 have clt : ∀ x c, X.env.cells.lookup x = some c -> c < s.heap.objs.size := fun x c h => by
  obtain ⟨v, q⟩ := I.cell x c h
  exact q.lt
 have kind : ∀ x k, (relabel scope X.env).names.lookup x = some k -> k = .cell \/ k = .free -> scope.names.lookup x = some .cell \/ scope.names.lookup x = some .free := fun x k e hk => by
  obtain ⟨k0, e0, z⟩ := Xdb e
  rcases z with z | z
  ·rw [<- z] at e0
   rcases hk with q | q
   ·rw [q] at e0; exact .inl e0
   ·rw [q] at e0; exact .inr e0
  ·rw [z] at e0; exact .inr e0
 refine ⟨⟨I.ok.mod, C.kind, I.ok.glob, I.ok.blt, Nat.le_refl _, ?inj, fun x hx => ?has, fun x c h e => ?cab, I.ok.hd, I.ok.frames, .inl rfl, fun b hb => ⟨Nat.ne_of_lt (hfl b hb), fun x c h => ?exf⟩,
   I.bs, Nat.le_trans I.ok.bsz I.sz, fun b o e hb => ?noex, fun b hb hs => ?exfs, I.stack, I.stkFree⟩,
  rfl, I.bare, Un.kept hk, ⟨_, hns, fun i x v h1' h2 h3 => ?loc⟩, fun x c h => ?cell, hC, fun x c h => ?freeC, fun p hp => absurd (show p ∈ ([] : List (Addr × Obj)) from hp) (by simp), I.hok.kept hk, ?len⟩
 case inj =>
  refine Xfi scope.names _ _ (fun x y c e1 e2 => I.ok.inj x y c (Xex C I.ok e1) (Xex C I.ok e2)) fun x c e => Nat.lt_succ_of_lt (clt x c (Xex C I.ok e))
 case has =>
  have hx' : (relabel scope X.env).names.lookup x = some .cell \/ (relabel scope X.env).names.lookup x = some .free := hx
  refine Option.isSome_iff_exists.mp (PySem.W.cellsFrom_some scope.names _ _ ?_)
  rcases (hx'.elim (fun q => kind x _ q (.inl rfl)) fun q => kind x _ q (.inr rfl)) with q | q
  ·exact .inl q
  ·obtain ⟨c, hc⟩ := Xkj C I.ok q
   exact .inr (by rw [hc]; rfl)
 case cab =>
  have h : scope.names.lookup x = some .cell := of_decide_eq_true h
  rcases look e with ⟨a, _⟩ | ⟨a, _⟩
  ·exact Nat.le_of_lt a
  ·rw [h] at a; cases a
 case exf =>
  rcases look h with ⟨a, _⟩ | ⟨_, a⟩
  ·exact fun z => Nat.lt_irrefl _ (Nat.lt_trans a (by rw [z]; exact hfl b hb))
  ·exact (hf b hb).2.2.2.2.1 x c a
 case noex =>
  obtain ⟨_, _, _, z, _⟩ := hf b hb
  rcases z with z | z
  ·exact I.ok.noex b o e z
  ·exact absurd (Nat.lt_of_lt_of_le (Heap.lt_size e) (Nat.le_trans I.ok.bsz z)) (Nat.lt_irrefl _)
 case exfs =>
  obtain ⟨_, f1, f2, _⟩ := hf b hb
  rcases List.mem_cons.mp (I.stkSub b hs) with e | e
  ·exact f1 e
  ·exact f2 e
 case loc =>
  have h2' : (cap.map fun o => o.bind fun j => (σ[j]?).join)[i]? = some (some v) := h2
  rw [List.getElem?_map] at h2'
  cases hc : cap[i]? with
  | none => rw [hc] at h2'; cases h2'
  | some o =>
   rw [hc] at h2'
   cases o with
   | none => cases h2'
   | some j =>
    have h2'' : (σ[j]?).join = some v := Option.some.inj h2'
    have hσ : σ[j]? = some (some v) := by
     cases hj : σ[j]? with
     | none => rw [hj] at h2''; cases h2''
     | some o => rw [hj] at h2''; exact congrArg some h2''
    obtain ⟨hN, hfr⟩ := C.cap i x j h1' hc
    obtain ⟨m, hn, hl⟩ := I.loc
    have hkind : X.env.kindOf x = some .cell \/ X.env.kindOf x = some .free := C.free (x, .free) (PySem.mem_of_lookup hfr) rfl
    obtain ⟨u, r, l⟩ := hl j x v hN hσ (by rcases hkind with q | q; exact .inr (.inl q); exact .inr (.inr q))
    refine ⟨u, r, .inr ⟨?_, ?_⟩⟩
    ·show (relabel scope X.env).names.lookup x = some .cell \/ (relabel scope X.env).names.lookup x = some .free
     have := Xeq (env := X.env) hfr
     have e : (relabel scope X.env).names.lookup x = _ := this
     rw [e]
     split
     ·exact .inl rfl
     ·exact .inr rfl
    ·obtain ⟨c, hcl⟩ := Xkj C I.ok hfr
     obtain ⟨c2, hc2⟩ := Option.isSome_iff_exists.mp (PySem.W.cellsFrom_some scope.names (s.heap.objs.size + 1) (Xdh X.env scope.names []) (x := x) (.inr (by rw [hcl]; rfl)))
     rcases look (x := x) (c := c2) hc2 with ⟨_, a, _⟩ | ⟨_, a⟩
     ·rw [hfr] at a; cases a
     ·rcases l with ⟨k, _⟩ | ⟨_, c', e, z⟩
      ·rcases hkind with q | q
       ·rw [k] at q; cases q
       ·rw [k] at q; cases q
      ·rw [a] at e
       cases e
       obtain ⟨o, ho, hd⟩ := z
       exact ⟨c2, hc2, o, hk c2 o ho, hd⟩
 case cell =>
  rcases look h with ⟨_, _, a⟩ | ⟨_, a⟩
  ·exact ⟨none, a⟩
  ·obtain ⟨v, o, ho, hd⟩ := I.cell x c a
   exact ⟨v, o, hk c o ho, hd⟩
 case freeC =>
  rcases look h with ⟨a, _⟩ | ⟨_, a⟩
  ·exact I.hok.fresh (Nat.le_of_lt a)
  ·exact I.freeC x c a
 case len =>
  show (cap.map _).length = N.length
  rw [List.length_map, C.len]
end
def tComp (cap : List (Option Nat)) (wi : TI) (g : TG) (tt : TT) (te : TE) : TE := fun σ H Q => wi σ H fun J H1 => tBlk cap g tt te J σ H1 fun D H2 => Q (.ref D) H2
def tCompS (i : Nat) (cap : List (Option Nat)) (wi : TI) (g : TG) (tt : TT) (te : TE) : TS := fun D σ H => wi σ H fun J H1 => tBlk cap g tt te J σ H1 fun l H2 => D.nx (σ.set i (some (.ref l))) H2
theorem Xa5.there {P : Program} {w : World} {H : Hp} {h : Heap} {a : Addr} {o : HO} (x : Xa5 P w H h a o) : ∃ u, h.get? a = some u := by
 cases o with
 | lst xs => obtain ⟨_, _, _, _, e⟩ := x; exact ⟨_, e⟩
 | tup xs => obtain ⟨_, _, _, o, e, _⟩ := x; exact ⟨_, e⟩
 | dK kvs => obtain ⟨_, _, _, _, o, _, _, e, _⟩ := x; exact ⟨_, e⟩
 | dT kvs => obtain ⟨_, _, _, _, o, _, _, e, _⟩ := x; exact ⟨_, e⟩
 | set S n => obtain ⟨o, _, _, _, e, _⟩ := x; exact ⟨_, e⟩
 | ins C dx fs => obtain ⟨_, _, _, e, _⟩ := x; exact ⟨_, e⟩
 | own y => exact x
 | xd fs => obtain ⟨_, ⟨_, _, _, e, _⟩, _⟩ := x; exact ⟨_, e⟩
 | rng lo hi => obtain ⟨_, _, _, e⟩ := x; exact ⟨_, e⟩
 | frz ob u => obtain ⟨e, _⟩ := x; exact ⟨_, e⟩
 | tbl ps => exact ⟨_, (show h.get? a = some _ from x)⟩
 | met f y => exact ⟨_, (show h.get? a = some _ from x)⟩
 | ext φ => obtain ⟨_, e, _⟩ := x; exact e
structure Flown (P : Program) (w : World) (outer : List Env) (H : Hp) (hc : Heap) (H' : Hp) (ex C : Addr) (B : Heap) (a0 : Value) (h : Heap) : Prop where
 un : Un (frs outer) [] H H' hc h
 hok : HOk P w H' h
 fly : Heap.FlyingW B outer ex (.ref C) a0 h
 inB : ∀ b o, h.get? b = some o -> b ∉ frs outer -> ((∃ o', hc.get? b = some o') \/ H' b ≠ none) -> B.get? b = some o
 frf : ∀ b ∈ frs outer, H' b = none
theorem Flown.move {P : Program} {w : World} {outer : List Env} {H H' : Hp} {hc B h h' : Heap} {ex C : Addr} {a0 : Value} (F : Flown P w outer H hc H' ex C B a0 h) (st : B.StaysIn h') (up : h.UpToSlots h') :
  Un (frs outer) [] H H' hc h' /\ HOk P w H' h' /\ ∀ b o, h'.get? b = some o -> b ∉ frs outer -> ((∃ o', hc.get? b = some o') \/ H' b ≠ none) -> B.get? b = some o := by
 have nf : ∀ b ∈ frs outer, ∀ o, h.get? b = some o -> ∀ vs, o.data ≠ .fields vs := fun b hb o e => by
  obtain ⟨_, o', e', d⟩ := F.fly.2.2.1.mem hb
  rw [e] at e'; cases e'
  exact d
 have tr : ∀ b o, H' b = some o -> b ∉ frs outer := fun b o e hb => by rw [F.frf b hb] at e; cases e
 have old : ∀ b, (∃ o', hc.get? b = some o') \/ H' b ≠ none -> ∃ o, h.get? b = some o := fun b hb => by
  rcases hb with ⟨o', e⟩ | hb
  ·obtain ⟨o, e'⟩ := F.un.there b o' e (by simp)
   exact ⟨o, e'⟩
  ·cases q : H' b with
   | none => exact absurd q hb
   | some u => exact (F.hok b u q).there
 refine ⟨⟨fun b o e n hb hx => ?_, fun b o e n hb hx => ?_, F.un.free, fun b o e hx => ?_, F.un.tups, F.un.frzs, F.un.tbls⟩, fun a o e => ?_, fun b o e hb hw => ?_⟩
 ·exact st b o (F.inB b o (F.un.keep b o e n hb hx) hb (.inl ⟨o, e⟩))
 ·obtain ⟨sl, e1⟩ := F.un.slot b o e n hb hx
  obtain ⟨sl', e2⟩ := up b _ e1 (nf b hb _ e1)
  exact ⟨sl', e2⟩
 ·obtain ⟨o1, e1⟩ := F.un.there b o e hx
  by_cases hb : b ∈ frs outer
  ·obtain ⟨sl', e2⟩ := up b _ e1 (nf b hb _ e1)
   exact ⟨_, e2⟩
  ·exact ⟨o1, st b o1 (F.inB b o1 e1 hb (.inl ⟨o, e⟩))⟩
 ·refine (F.hok a o e).stay (fun b u hb q => ?_) (fun _ q => q) fun _ _ q => q
  have hn : H' b ≠ none := by
   rcases hb with z | z
   ·rw [z, e]; simp
   ·rw [z]; simp
  have hb' : b ∉ frs outer := fun z => hn (F.frf b z)
  exact st b u (F.inB b u q hb' (.inr hn))
 ·obtain ⟨o1, e1⟩ := old b hw
  have e2 := F.inB b o1 e1 hb hw
  have e3 := st b o1 e2
  rw [e] at e3; cases e3
  exact e2
def CX1 (P : Program) (w : World) : CXT := fun outer H s E e s' =>
 ∃ ex C H' B a0, e = .ref ex /\ s'.os = s.os /\ AllBare s'.gens /\ Flown P w outer H s.heap H' ex C B a0 s'.heap /\ E (.ref C) none H'
section
variable {P : Program} {w : World} {K : PySem.W.Frag} {mg : Str -> Option Value} {base : Heap} {N : List Str} {qual : Str} {scope : Scope} {f : Addr} {cd : Value} {A : Around} {outer : List Env} {s : Shared} {H : Hp} {E : XK}
def Leaves (X : Cx) (E : XK) : Prop := ∀ (pins : List (Addr × Obj)) (σ : St) (H : Hp) (s : Shared) (h' : Heap) (ex C : Addr) (args : List Value),
 Inv X pins σ H s -> Heap.MadeExcOf s.heap h' ex (.ref C) args -> E (.ref C) none H -> X.xe (.ref ex) { s with heap := h' }
theorem leaves1 : Leaves (cxOf (CX1 P w) P w K mg base N qual scope f cd A outer s H E) E := by
 intro pins σ H1 s1 h' ex C args I hm hE
 show wpAny (model P w) (A.deeper (envOfC qual scope s.heap.objs.size f cd)) (leaving (envOfC qual scope s.heap.objs.size f cd) (.ref ex)) _ _ { s1 with heap := h' }
 have hst : (cxOf (CX1 P w) P w K mg base N qual scope f cd A outer s H E).stack = envOfC qual scope s.heap.objs.size f cd :: outer := rfl
 have hin : ∀ env ∈ (envOfC qual scope s.heap.objs.size f cd :: outer), ∀ b, env.frame = some b -> b ∈ frs (envOfC qual scope s.heap.objs.size f cd :: outer) := fun env he b hb => List.mem_filterMap.mpr ⟨env, he, hb⟩
 have hFun : s1.heap.FunFrames base (envOfC qual scope s.heap.objs.size f cd :: outer) := I.stack
 have hB : (PySem.W.hideAll s1.heap (frs (envOfC qual scope s.heap.objs.size f cd :: outer))).StaysIn s1.heap := fun b o q => PySem.W.of_hideAll _ q
 have getB : ∀ b o, s1.heap.get? b = some o -> b ∉ frs (envOfC qual scope s.heap.objs.size f cd :: outer) -> (PySem.W.hideAll s1.heap (frs (envOfC qual scope s.heap.objs.size f cd :: outer))).get? b = some o := fun b o e n => PySem.W.hideAll_get _ e n
 have sub : ∀ b, b ∈ frs (envOfC qual scope s.heap.objs.size f cd :: outer) -> b = s.heap.objs.size \/ b ∈ frs outer := fun b hb => List.mem_cons.mp (I.stkSub b hb)
 have sup : ∀ b, b ∈ frs outer -> b ∈ frs (envOfC qual scope s.heap.objs.size f cd :: outer) := fun b hb => by
  unfold frs at hb ⊢
  rw [List.filterMap_cons]
  split
  ·exact hb
  ·exact List.mem_cons_of_mem _ hb
 have frFree : ∀ b, b ∈ frs (envOfC qual scope s.heap.objs.size f cd :: outer) -> H1 b = none := fun b hb => I.stkFree b hb
 refine wpAny_leaves_madeW (A := A.deeper (envOfC qual scope s.heap.objs.size f cd)) (L := s.heap.objs.size) I.ok.frames rfl hB (PySem.W.funFrames_hide hFun hin) hm fun h'' t f1 _ _ up => ?_
 have old : ∀ b o, s.heap.get? b = some o -> b ∉ frs outer -> b ∉ frs (envOfC qual scope s.heap.objs.size f cd :: outer) := fun b o e nb hb => by
  rcases sub b hb with z | z
  ·exact absurd (Heap.lt_size e) (by rw [z]; exact Nat.lt_irrefl _)
  ·exact nb z
 have nf : ∀ b ∈ frs (envOfC qual scope s.heap.objs.size f cd :: outer), ∀ o, s1.heap.get? b = some o -> ∀ vs, o.data ≠ .fields vs := fun b hb o e => by
  obtain ⟨_, o', e', d⟩ := hFun.mem hb
  rw [e] at e'; cases e'
  exact d
 refine ⟨ex, C, H1, _, _, rfl, I.os, I.bare, ⟨⟨fun b o e n hb hx => ?_, fun b o e n hb hx => ?_, I.base.free, fun b o e hx => ?_, I.base.tups, I.base.frzs, I.base.tbls⟩, fun a o e => ?_, f1, fun b o e hb hw => ?_, fun b hb => frFree b (sup b hb)⟩, hE⟩
 ·exact f1.1 b o (getB b o (I.base.keep b o e n hb hx) (old b o e hb))
 ·obtain ⟨sl, e1⟩ := I.base.slot b o e n hb hx
  obtain ⟨sl', e2⟩ := up b _ (hm.keeps _ _ e1) (nf b (sup b hb) _ e1)
  exact ⟨sl', e2⟩
 ·obtain ⟨o1, e1⟩ := I.base.there b o e hx
  by_cases hb : b ∈ frs (envOfC qual scope s.heap.objs.size f cd :: outer)
  ·obtain ⟨sl', e2⟩ := up b _ (hm.keeps _ _ e1) (nf b hb _ e1)
   exact ⟨_, e2⟩
  ·exact ⟨o1, f1.1 b o1 (getB b o1 e1 hb)⟩
 ·refine (I.hok a o e).stay (fun b u hb q => ?_) (fun _ q => q) fun _ _ q => q
  have hn : H1 b ≠ none := by
   rcases hb with z | z
   ·rw [z, e]; simp
   ·rw [z]; simp
  exact f1.1 b u (getB b u q fun z => hn (frFree b z))
 ·have : ∃ o1, s1.heap.get? b = some o1 /\ b ∉ frs (envOfC qual scope s.heap.objs.size f cd :: outer) := by
   rcases hw with ⟨o', e'⟩ | hw
   ·obtain ⟨o1, e1⟩ := I.base.there b o' e' (fun z => absurd (show b ∈ ([] : List Addr) from z) (by simp))
    exact ⟨o1, e1, old b o' e' hb⟩
   ·cases q : H1 b with
    | none => exact absurd q hw
    | some u =>
     obtain ⟨o1, e1⟩ := (I.hok b u q).there
     exact ⟨o1, e1, fun z => hw (frFree b z)⟩
  obtain ⟨o1, e1, nb⟩ := this
  have e2 := getB b o1 e1 nb
  have e3 := f1.1 b o1 e2
  rw [e] at e3; cases e3
  exact e2
theorem pass1 : Passes (CX1 P w) (cxOf (CX1 P w) P w K mg base N qual scope f cd A outer s H E) E := by
 intro pins σ H1 s1 e s' I h
 obtain ⟨ex, C, H', B, a0, rfl, hos, hbare, F, hE⟩ := h
 show wpAny (model P w) (A.deeper (envOfC qual scope s.heap.objs.size f cd)) (leaving (envOfC qual scope s.heap.objs.size f cd) (.ref ex)) _ _ s'
 have sub : ∀ b, b ∈ frs (envOfC qual scope s.heap.objs.size f cd :: outer) -> b = s.heap.objs.size \/ b ∈ frs outer := fun b hb => List.mem_cons.mp (I.stkSub b hb)
 have sup : ∀ b, b ∈ frs outer -> b ∈ frs (envOfC qual scope s.heap.objs.size f cd :: outer) := fun b hb => by
  unfold frs at hb ⊢
  rw [List.filterMap_cons]
  split
  ·exact hb
  ·exact List.mem_cons_of_mem _ hb
 have old : ∀ b o, s.heap.get? b = some o -> b ∉ frs outer -> b ∉ frs (envOfC qual scope s.heap.objs.size f cd :: outer) := fun b o e nb hb => by
  rcases sub b hb with z | z
  ·exact absurd (Heap.lt_size e) (by rw [z]; exact Nat.lt_irrefl _)
  ·exact nb z
 have F' : Flown P w (envOfC qual scope s.heap.objs.size f cd :: outer) H1 s1.heap H' ex C B a0 s'.heap := F
 refine wpAny_leaves_onW (A := A.deeper (envOfC qual scope s.heap.objs.size f cd)) (L := s.heap.objs.size) I.ok.frames rfl F'.fly fun h'' f1 up => ?_
 obtain ⟨un, hok, inB⟩ := F'.move f1.1 up
 refine ⟨ex, C, H', B, a0, rfl, hos.trans I.os, hbare, ⟨?_, hok, f1, fun b o e hb hw => ?_, fun b hb => F'.frf b (sup b hb)⟩, hE⟩
 ·have un0 : Un (frs outer) [] H H1 s.heap s1.heap := I.base
  refine ⟨fun b o e n hb hx => ?_, fun b o e n hb hx => ?_, fun b o e n hx => ?_, fun b o e hx => ?_, fun b xs e => un.tups b xs (un0.tups b xs e), fun b ob u e => un.frzs b ob u (un0.frzs b ob u e), fun b ps e => ?_⟩
  ·exact un.keep b o (un0.keep b o e n hb hx) (un0.free b o e n hx) (old b o e hb) hx
  ·obtain ⟨sl, e1⟩ := un0.slot b o e n hb hx
   obtain ⟨sl', e2⟩ := un.slot b _ e1 (un0.free b o e n hx) (sup b hb) hx
   exact ⟨sl', e2⟩
  ·obtain ⟨o1, e1⟩ := un0.there b o e hx
   exact un.free b o1 e1 (un0.free b o e n hx) hx
  ·obtain ⟨o1, e1⟩ := un0.there b o e hx
   exact un.there b o1 e1 hx
  ·obtain ⟨m1, e1⟩ := un0.tbls b ps e
   obtain ⟨m2, e2⟩ := un.tbls b _ e1
   exact ⟨m1 ++ m2, by rw [e2, Array.append_assoc]⟩
 ·refine inB b o e ?_ ?_
  ·rcases hw with ⟨o', e'⟩ | hw
   ·exact old b o' e' hb
   ·intro z
    exact hw (F'.frf b z)
  ·rcases hw with ⟨o', e'⟩ | hw
   ·obtain ⟨o1, e1⟩ := (show Un (frs outer) [] H H1 s.heap s1.heap from I.base).there b o' e' (by simp)
    exact .inl ⟨o1, e1⟩
   ·exact .inr hw
end
abbrev bmV : List Value := [.type "ValueError", .type "Exception", .type "BaseException", .type "object"]
theorem Xmy {K : PySem.W.Frag} {h : Heap} {C : Addr} {bmB : List Value} {newId : String} (X : K.In h) (q : PySem.W.excIn K C bmB newId = true) :
  ∃ bm N nm q bs hdct sn sub ab col dd k0 k1 k2 k3 k5 mN, h.get? C = some (excClassObj nm q C N bs bm hdct sn sub ab col dd k0 k1 k2 k3 k5 newId) /\ h.Ns N mN /\ mN "__init__" = none /\ OwnTail h bmB bm := by
 unfold PySem.W.excIn at q
 split at q
 ·rename_i dd cd sl ho
  split at q
  ·rename_i C' bm k0 k1 k2 k3 n k5 hm hs
   simp only [Bool.and_eq_true, beq_iff_eq, Bool.not_eq_true'] at q
   obtain ⟨⟨⟨⟨⟨rfl, rfl⟩, hdel⟩, ht⟩, hok⟩, hni⟩ := q
   obtain ⟨nm, bs, mro, ns, qn, hd, sn, sub, ab, col, del⟩ := cd
   dsimp only at hm hdel hok hni
   subst hm hdel
   have hsl : sl = #[k0, k1, k2, k3, some (.builtin n), k5] := by
    obtain ⟨l⟩ := sl
    simp only at hs
    rw [hs]
   subst hsl
   exact ⟨bm, ns, nm, qn, bs, hd, sn, sub, ab, col, dd, k0, k1, k2, k3, k5, _, X _ _ ho, .of_isNs (PySem.W.isNs_of_in X hok), PySem.W.nsMap_none_of_in X hok hni, PySem.W.tail_of_in X ht⟩
  ·cases q
 ·cases q
def tRaise (C : Addr) (E : XK) (t : TA) : TS := fun _ σ H => t σ H fun vs H1 => vs.length <= sizeLine /\ E (.ref C) none H1
theorem ps_raise {X : Cx} {C : Addr} {E : XK} {x : Str} {np cpos pos : Pos} {e : Expr} {es : List Expr} {t : TA} (hc : PySem.W.excIn X.K C bmV "ValueError.__new__" = true) (hcalm : X.calm = true) (hx : Leaves X E) (hg : Gl X x) (hm : X.mg x = some (.ref C))
  (ha : PA X (e :: es) t) (hdb : (x == ("__debug__" : Str)) = false := by decide) (he : starEach (e :: es) X.env = (false, eval e X.env) :: starEach es X.env := by rfl) (hpl : (backTo cpos (starEach es X.env)).any (·.1) = false := by rfl) :
  PS X (.Raise (some (.Call (.Name x np) (e :: es) [] cpos)) none pos) (tRaise C E t) := by
 intro pins s σ H D I h
 obtain ⟨tl, N, nm, q, bs, hdct, sn, sub, ab, col, dd, k0, k1, k2, k3, k5, mN, hC, hN, hni, T⟩ := Xmy I.mod.kin hc
 refine wpAny_Raise_call_subT (C := C) (nm := nm) (q := q) (N := N) (bs := bs) (bm := tl) (hdct := hdct) (sn := sn) (sub := sub) (ab := ab) (col := col) (dd := dd) (k0 := k0) (k1 := k1) (k2 := k2) (k3 := k3) (k5 := k5)
  PySem.F.excBase_ValueError (mN := mN) (T.hasType PySem.F.excBase_ValueError.hasBase) (I.ok.hd hcalm) (by rw [he]; show (false || (backTo cpos (starEach es X.env)).any (·.1)) = false; rw [hpl]; rfl) hni (Xma I hg hm ⟨rfl, ?_⟩ hdb)
 have hh := thn (ha cpos pins s σ H _ I h) (Q' := fun vs s₂ => vs.length <= sizeLine /\ (∀ b o, X.base.get? b = some o -> s₂.heap.get? b = some o) /\ ∀ h' e, Heap.MadeExcOf s₂.heap h' e (.ref C) vs -> X.xe (.ref e) { s₂ with heap := h' })
  (fun us s2 ⟨vs, H2, I2, r2, hl, hE⟩ => ⟨by rw [<- r2.length]; exact hl, I2.bk, fun h' ex hmk => hx pins σ H2 s2 h' ex C us I2 hmk hE⟩)
 rw [he] at hh ⊢
 exact Calls.evalArgs_plain (wpAny_mono hh (fun vs s₂ h₂ => ⟨rfl, h₂.1, h₂.2.1 _ _ hC, hN.keeps h₂.2.1, T.keeps h₂.2.1, h₂.2.2⟩) fun _ _ y => y)
theorem Fun.ok1 {P : Program} {w : World} {K : PySem.W.Frag} {mg : Str -> Option Value} {base : Heap} {x qual : Str} {st : Stmt} {f : Addr} {fd : FuncData} {N ps : List Str} {k : Nat} {sp : Sp} (F : Fun K x qual st f fd) (S : FnScope N ps (defScope st)) (len : ∀ vs H Q E, sp vs H Q E -> vs.length = ps.length)
  (hbody : ∀ (cdv : Value) (A : Around) (outer : List Env) (s : Shared) (H : Hp) (vs : List V) (Q : VK) (E : XK), Room k (A.deeper (envOfC qual (defScope st) s.heap.objs.size f cdv)) -> sp vs H Q E ->
   ∃ t, PSs (cxOf (CX1 P w) P w K mg base N qual (defScope st) f cdv A outer s H E) (Xbf st) t /\ t { nx := fun _ H' => Q .non H', rt := Q } (start N vs) H) : FnOk P w K mg base (CX1 P w) (k + 1) f fd ps sp := by
 obtain ⟨oc, od, kV, doc, pm, an, cdv, ct, osl, rfl, lk, hcd⟩ := F.ex
 exact fn_of lk hcd S len fun A outer s H vs Q E hr hsp => hbody cdv A outer s H vs Q E hr hsp
abbrev Cx.re (X : Cx) (pn : List (Addr × Obj)) (A : Around) (c : Bool) (E : Value -> Shared -> Prop) : Cx := { X with pn := pn, A := A, calm := c, xe := E }
section
variable {X : Cx} {pins pins' pn : List (Addr × Obj)} {σ : St} {H : Hp} {s : Shared} {A : Around} {c : Bool} {E : Value -> Shared -> Prop}
end
def excP (ex C : Addr) (h : Heap) : Prop := ∃ o vs, h.get? ex = some o /\ o.cls = .ref C /\ o.data = .fields vs
def ExcO (ex C : Addr) : HO := .ext (excP ex C)
def Cx.tryC (X : Cx) (pn : List (Addr × Obj)) (R : Addr -> St -> Hp -> Prop) : Cx := X.re pn X.A X.calm fun e s1 =>
 ∃ σ Hc sc, Inv (X.re pn X.A X.calm fun _ _ => True) [] σ Hc sc /\ CX1 X.prog X.w X.stack Hc sc (fun c _ H1 => ∃ C, c = .ref C /\ R C σ H1) e s1
def Cx.suite (X : Cx) (pn : List (Addr × Obj)) (ex : Addr) : Cx := X.re pn (X.A.mark (some (.ref ex))) false fun _ _ => False
section
variable {X : Cx} {pn : List (Addr × Obj)} {R : Addr -> St -> Hp -> Prop} {k : Nat} {f : Addr} {fd : FuncData} {ps : List Str} {sp : Sp} {dvs : List V} {ds : List Value} {x : Str} {p pos : Pos} {e : Expr} {es : List Expr} {t : TA}
end
section
variable {X : Cx} {pos np hpos : Pos} {body : List Stmt} {b0 : Stmt} {suite : List Stmt} {n x : Str} {i : Nat} {Cc : Addr} {tb : (Addr -> St -> Hp -> Prop) -> TS} {th : TS}
def tTry (K : PySem.W.Frag) (i : Nat) (Cc : Addr) (tb : (Addr -> St -> Hp -> Prop) -> TS) (th : TS) : TS := fun D σ H => ∃ R : Addr -> St -> Hp -> Prop, tb R D σ H /\ ∀ C σ1 H1, R C σ1 H1 -> PySem.W.exmOne K (.ref C) (.ref Cc) = some true /\
 ∀ ex, H1 ex = none -> th { nx := fun σ2 H2 => D.nx (σ2.set i none) H2, rt := D.rt, bk := fun σ2 H2 => D.bk (σ2.set i none) H2, ct := fun σ2 H2 => D.ct (σ2.set i none) H2 } (σ1.set i (some (.ref ex))) (upd H1 ex (ExcO ex C))
end
section
variable {X : Cx} {pos p2 : Pos} {e : Expr} {te : TE}
def tRev (K : PySem.W.Frag) (te : TE) : TE := fun σ H Q => te σ H fun x H1 => ∃ a xs, x = .ref a /\ SqL K H1 a xs /\ ∀ p, H1 p = none -> Q (.ref p) (upd H1 p (.lst xs.reverse))
theorem pe_rev {k : Nat} {p3 p4 : Pos} (he : PE X e te) : PE X (.Subscript e (.Slice none none (some (.UnaryOp .USub (.Constant (.int 1) k p3) p4)) p2) pos) (tRev X.K te) := by
 intro pins s σ H Q I h
 refine Subscript_ (thn (he pins s σ H _ I h) fun v s1 ⟨x, H1, I1, r1, q1⟩ => ?_)
 have hstep : PE X (.UnaryOp .USub (.Constant (.int 1) k p3) p4) (tUn (rU fun i => .int (-i)) (tC (.int 1))) := pe_un un_neg Xai
 refine wpAny_Slice ?_
 rw [evalPart_none]
 refine wpAny_pure (wpAny_pure ?_)
 rw [evalPart_some]
 refine thn (hstep pins s1 σ H1 (fun y H2 => y = .int (-1) /\ H2 = H1) I1 ⟨1, rfl, rfl, rfl⟩) fun u s2 ⟨y, H2, I2, r2, ey, eH⟩ => ?_
 subst ey eH
 obtain ⟨t, rfl⟩ := r2
 obtain ⟨a, xs, ex, hx, q⟩ := q1
 subst ex
 cases r1
 obtain ⟨its, r, ht, hz⟩ := I2.list hx
 have I4 : Inv X pins σ H2 { s2 with heap := s2.heap.push { cls := .type "slice", data := .fields #[.none, .none, .int (-1) t] } } := I2.kept (t' := s2.toks) fun b ob q => Heap.get?_push_of_some _ q
 obtain ⟨its4, r4, ht4, hz4⟩ := I4.list hx
 have hlen := r4.length
 refine tail_any (ops := [.ref a, .ref s2.heap.objs.size]) ht4.isList.typeIs slot_list_getitem.lookup (wpAny_getItem_list_slice ht4.isList (Heap.IsSliceOf.new ..) .none .none (.int (-1) t) (by simp) ?_ (by rw [List.size_toArray] <;> omega)) (by with_unfolding_all rfl)
 rw [PySem.W.krv_pick]
 refine ⟨.ref _, _, I4.laid (t' := s2.toks) (o := .lst xs.reverse) (fun b ob q => Heap.get?_push_of_some _ q) (Nat.le_refl _) ?_, rfl, q _ (I4.hok.fresh (Nat.le_refl _))⟩
 exact ⟨by rw [List.length_reverse]; exact hz4, _, 0, Vals.reverse r4, Heap.get?_push_size _ rfl⟩
def gTupL (K : PySem.W.Frag) (n : Nat) (t : TGs) : TG := fun v σ H Q => ∃ a xs, v = .ref a /\ SqL K H a xs /\ xs.length = n /\ t xs σ H Q
theorem pg_tupL {es : List Expr} {k : Nat} {t : TGs} {n : Nat} (hc : X.calm = true) (h : PGs X es t)
  (hn : (assignEach es X.env).length = n := by rfl) (hst : (assignEach es X.env).findIdx? (·.1) = none := by rfl) : PG X (.Tuple es k pos) (gTupL X.K n t) := by
 intro pins s σ H v u Q I r hw
 obtain ⟨a, xs, e1, hq, hl, hw⟩ := hw
 subst e1
 cases r
 obtain ⟨its, rv, ht, hz⟩ := I.list hq
 rw [assign_Tuple]
 refine wpAny_bind (wpAny_standAt ?_)
 unfold unpack
 have hlen : (assignEach es X.env).length = its.toArray.size := by rw [hn, <- hl, List.size_toArray]; exact rv.length
 rw [hlen, hst]
 refine wpAny_bind (wpAny_holding (PySem.W.kun_itemsOf (I.ok.hd hc) ht.isList fun h' hx => ?_))
 have I1 : Inv X pins σ H { s with heap := h' } := I.kept (t' := s.toks) fun b o e => hx b o (Nat.ne_of_lt (Heap.lt_size e)) e
 exact h pins _ σ H xs _ Q I1 (by simpa using rv) hw
def repS (z : Str) (n : Nat) : Str := ⟨(List.replicate n z.cps).foldl (· ++ ·) #[]⟩
theorem repS_one (z : Str) : repS z 1 = z := by
 obtain ⟨c⟩ := z
 show (⟨(#[] : Array Nat) ++ c⟩ : Str) = ⟨c⟩
 rw [Array.empty_append]
theorem Xhv (z : Array Nat) : ∀ (n : Nat) (a : Array Nat), ((List.replicate n z).foldl (· ++ ·) a).size = a.size + n * z.size
 | 0, a => by simp
 | n + 1, a => by
  rw [List.replicate_succ, List.foldl_cons, Xhv z n, Array.size_append, Nat.succ_mul]
  omega
theorem Xgp (z : Str) (n : Nat) : (repS z n).length = n * z.length := by
 have e := Xhv z.cps n #[]
 show ((List.replicate n z.cps).foldl (· ++ ·) #[]).size = n * z.cps.size
 simpa using e
theorem repS_nil {z : Str} (h : z.length = 0) (n : Nat) : repS z n = z := by
 have e := Xgp z n
 rw [h, Nat.mul_zero] at e
 generalize repS z n = y at e
 obtain ⟨c⟩ := z
 obtain ⟨d⟩ := y
 have h' : c.size = 0 := h
 have e' : d.size = 0 := e
 rw [Array.size_eq_zero_iff] at h' e'
 rw [h', e']
theorem Xli : OpR X (binaryOp .Mult) (fun x y H Q => ∃ z n, x = .str z /\ y = .int n /\ 0 <= n /\ n <= 1000 /\ z.length <= 1000 /\ Q (.str (repS z n.toNat)) H) := by
 intro pins s σ H x y v u Q I rx ry h
 obtain ⟨z, n, rfl, rfl, h0, h1, hz, q⟩ := h
 obtain ⟨t, rfl⟩ := rx
 obtain ⟨t', rfl⟩ := ry
 have hle : z.length * n.toNat <= 1000 * 1000 := Nat.mul_le_mul hz (by omega)
 refine PySem.P.mul_str ?_ (fun hn hz1 => ?_) (fun hn hz1 => ?_) ?_
 ·have h2 : ¬ n < -(2 ^ 63 : Int) := by omega
  have h3 : ¬ n ≥ 2 ^ 63 := by omega
  rw [decide_eq_false h2, decide_eq_false h3]
  rfl
 ·have h4 : (1000 : Int) <= (2 ^ 63 - 1) / n := by
   refine (Int.le_ediv_iff_mul_le (by omega)).mpr ?_
   have : (1000 : Int) * n <= 1000 * 1000 := by omega
   omega
  omega
 ·show Builtin.Str.tooLong _ = false
  unfold Builtin.Str.tooLong
  first
   | (refine decide_eq_false ?_; have := hle; rw [sizeLine_eq]; omega)
   | (simp; omega)
 ·by_cases hn : n < 1
  ·rw [if_pos hn]
   have : n = 0 := by omega
   subst this
   exact ⟨by decide, .str Str.empty, H, I.tok _, ⟨_, rfl⟩, q⟩
  ·rw [if_neg hn]
   by_cases hc : (n == 1 || z.length == 0) = true
   ·rw [if_pos hc]
    have e : repS z n.toNat = z := by
     rcases Bool.or_eq_true_iff.mp hc with e | e
     ·have e' : n = 1 := by simpa using e
      subst e'
      exact repS_one z
     ·exact repS_nil (by simpa using e) _
    rw [e] at q
    exact ⟨.str z, H, I, ⟨_, rfl⟩, q⟩
   ·rw [if_neg hc]
    refine ⟨?_, .str (repS z n.toNat), H, I.tok _, ⟨_, rfl⟩, q⟩
    show (repS z n.toNat).length <= sizeLine
    rw [Xgp, Nat.mul_comm, sizeLine_eq]
    omega
theorem Xkk : X.calm = true -> Xdg X (.builtin "all") (fun xs H Q => ∃ (a : Addr) (bs : List Bool), xs = [.ref a] /\ H a = some (.lst (bs.map V.bl)) /\ Q (.bl (bs.all id)) H) := by
 intro hc pins s σ H xs us Q I r h
 obtain ⟨a, bs, rfl, ha, q⟩ := h
 obtain ⟨u, rfl, ru⟩ := vals1 r
 cases ru
 obtain ⟨its, rv, p, hz⟩ := I.list (SqL.of ha)
 have hl := rv.length
 rw [List.length_map] at hl
 refine call_all_walk (wpAny_pyIter_list p.isList ?_)
 have hlt : a ≠ s.heap.objs.size := by
  obtain ⟨o, ho, _⟩ := p.isList
  exact Nat.ne_of_lt (Heap.lt_size ho)
 refine ⟨s.heap.objs.size, _, _, _, _, _, fun j => bs.getD j false, rfl, Walks.list (A := X.A.in1) (show X.A.in1.handled = none from I.ok.hd hc) s.heap.objs.size a hlt its.toArray, ⟨⟨_, Heap.get?_push_size _ rfl, rfl, rfl⟩, p.isList.push _⟩, fun i v s' Q' E' hP hQ => ?_, fun h' tk k => ?_⟩
 ·have hv : its[i]? = some v := by simpa using hP
  have hi : i < its.length := (List.getElem?_eq_some_iff.mp hv).1
  have g : (bs.map V.bl)[i]? = some (.bl (bs[i]'(by omega))) := by
   rw [List.getElem?_map, List.getElem?_eq_getElem (by omega)]
   rfl
  obtain ⟨u, hu, ru⟩ := rv.get g
  rw [hv] at hu
  cases hu
  cases ru
  have e : bs.getD i false = bs[i]'(by omega) := by simp [List.getD, (by omega : i < bs.length)]
  have hQ' : Q' (bs.getD i false) s' := hQ
  rw [e] at hQ'
  exact wpAny_truthy_bool hQ'
 ·refine ⟨.bl (bs.all id), H, I.kept (t' := tk) fun b o e => k b o (fun z => ?_) (Heap.get?_push_of_some _ e), ?_, q⟩
  ·have z' : b = s.heap.objs.size := by simpa using z
   exact absurd (Heap.lt_size e) (by rw [z']; exact Nat.lt_irrefl _)
  ·show Value.bool _ = Value.bool _
   congr 1
   rw [List.size_toArray, <- hl]
   rw [Bool.eq_iff_iff, List.all_eq_true, List.all_eq_true]
   constructor
   ·intro hx b hb
    obtain ⟨j, hj, rfl⟩ := List.mem_iff_getElem.mp hb
    have := hx j (List.mem_range.mpr hj)
    simpa [List.getD, hj] using this
   ·intro hx j hj
    have hj' := List.mem_range.mp hj
    have := hx _ (List.getElem_mem hj')
    simpa [List.getD, hj'] using this
end
def Itd (d : Addr) (o : Obj) (kvs : List (Key × V)) : It :=
 ⟨fun i H => H d = some (.frz o (.dK kvs)) /\ i < kvs.length, fun i H x H' => H' = H /\ ∃ p, kvs[i]? = some p /\ x = kV p.1, fun i H => H d = some (.frz o (.dK kvs)) /\ kvs.length <= i⟩
theorem rel_key {P : Program} {w : World} {k : Key} {u : Value} (h : (Xar P w).is k u = true) : RelV (kV k) u := by
 rcases Xay (show Xgh k u = true from h) with ⟨i, t, rfl, rfl⟩ | ⟨x, t, rfl, rfl⟩
 ·exact ⟨t, rfl⟩
 ·exact ⟨t, rfl⟩
theorem kv_at : ∀ {kvs : List (Key × V)} {vs : List (Key × Value)} {i : Nat} {p : Key × V}, KV kvs vs -> kvs[i]? = some p -> ∃ u, vs[i]? = some (p.1, u)
 | _, _, _, _, .nil, e => by simp at e
 | _, _, 0, p, .cons (b := b) r _, e => by
  simp at e; subst e
  obtain ⟨k, u⟩ := b
  obtain ⟨r1, r2⟩ := r
  exact ⟨u, by simp only [List.getElem?_cons_zero, Option.some.injEq, Prod.mk.injEq]; exact ⟨r1.symm, trivial⟩⟩
 | _, _, i + 1, p, .cons _ t, e => by
  obtain ⟨u, h⟩ := kv_at (i := i) t (by simpa using e)
  exact ⟨u, by simpa using h⟩
theorem Xfk {P : Program} {w : World} {K : PySem.W.Frag} {tg : Expr} (d it : Addr) (o : Obj) (es : Array DictEntry) (ep : Nat) (hd : o.data = .dict es ep) (kvs : List (Key × V)) (hne : d ≠ it) :
  Turn P w K tg (Itd d o kvs) [it] it (fun i h => h.IsKeyIter it d i kvs.length ep) where
 mem := by simp
 obj := fun i h st b hb => by
  have e : b = it := by simpa using hb
  subst e
  obtain ⟨o, e, c, d⟩ := st
  exact ⟨o, e, fun v z => by rw [d] at z; cases z⟩
 keep := fun i h h' st k => by
  obtain ⟨o, e, r⟩ := st
  exact ⟨o, k it (by simp) o e, r⟩
 item := by
  intro X hP hw hK hc i pins s σ H E I hf st hg
  subst hP hw hK
  obtain ⟨hH, hi⟩ := hg
  obtain ⟨ho, hz, hm, vs, rv, o', es', ep', ho', hex, hd', r'⟩ := I.hok d _ hH
  rw [ho] at ho'; cases ho'
  rw [hd] at hd'
  cases hd'
  have hlen : kvs.length = vs.length := Paired.length rv
  obtain ⟨f0, f1, f2, f3, f4, f5⟩ := hf it (by simp)
  have hp : kvs[i]? = some (kvs[i]'hi) := List.getElem?_eq_getElem hi
  obtain ⟨u, hu⟩ := kv_at rv hp
  rw [hlen] at st
  refine wpAny_pyNext_dict_item (knd := Xar X.prog X.w) st ⟨o, es, ho, hex, hd, r'⟩ hu fun key h' hk st' sb => ?_
  have I1 : Inv X pins σ H { s with heap := h' } := I.turned (t' := s.toks) (fun b o hb e => (sb.2 b hb).trans e) f0 f1 f3 f4 f5
  obtain ⟨o2, e2, c2, d2⟩ := id st'
  refine ⟨key, rfl, go_of (s := { s with heap := h' }) e2 c2 d2 (by decide) ⟨_, H, I1, rel_key hk, ⟨rfl, _, hp, rfl⟩, ?_, fun b hb => (hf b hb).1⟩⟩
  rw [hlen]
  exact st'
 done := by
  intro X hP hw hK hc i pins s σ H E I hf st hg
  subst hP hw hK
  obtain ⟨hH, hi⟩ := hg
  obtain ⟨ho, hz, hm, vs, rv, o', es', ep', ho', hex, hd', r'⟩ := I.hok d _ hH
  rw [ho] at ho'; cases ho'
  rw [hd] at hd'
  cases hd'
  have hlen : kvs.length = vs.length := Paired.length rv
  obtain ⟨f0, f1, f2, f3, f4, f5⟩ := hf it (by simp)
  rw [hlen] at st
  exact wpAny_pyNext_dict_end (knd := Xar X.prog X.w) (I.ok.hd hc) st ⟨o, es, ho, hex, hd, r'⟩ (List.getElem?_eq_none (by omega)) fun h' eb => ⟨rfl, I.turned (t' := s.toks) (fun b o hb e => eb b o hb e) f0 f1 f3 f4 f5⟩
 self := fun A i s Q E st h => by
  refine wpAny_pyIter_slot st.typeIs PySem.F.slot_dict_keyiterator_iter (wpAny_call_entry PySem.F.slot_dict_keyiterator_iter st.typeIs PySem.F.entry_dict_keyiterator_iter ?_ (PySem.F.args_dict_keyiterator_iter_1 _))
  show wpAny _ _ (ret (.ref it)) _ _ s
  exact wpAny_pure ⟨_, rfl, "dict_keyiterator", _, st.typeIs, PySem.F.slot_dict_keyiterator_next.lookup, h⟩
section
variable {X : Cx} {tg : Expr}
theorem Inv.freeze {pins : List (Addr × Obj)} {σ : St} {H : Hp} {s : Shared} {d : Addr} {kvs : List (Key × V)} {o : Obj} (I : Inv X pins σ H s) (hH : H d = some (.dK kvs)) (ho : s.heap.get? d = some o) : Inv X pins σ (upd H d (.frz o (.dK kvs))) s := by
 have ne : ∀ {b : Addr} {u : HO}, H b = some u -> (HO.dK kvs ≠ u) -> b ≠ d := fun {b u} e n => ne_of e hH (fun z => n z.symm)
 refine ⟨I.ok, I.os, I.bare, ⟨I.base.keep, I.base.slot, fun b ob e n hx => ?_, I.base.there, fun b xs e => ?_, fun b ob u e => ?_, fun b ps e => ?_⟩, I.loc, I.cell, ?_, fun x c e => ?_, fun p hp' => ?_, fun b ob e => ?_, I.len⟩
 ·have q := I.base.free b ob e n hx
  rw [Xae (fun z => by rw [z, hH] at q; cases q)]
  exact q
 ·have q := I.base.tups b xs e
  rw [Xae (ne q (by simp))]
  exact q
 ·have q := I.base.frzs b ob u e
  rw [Xae (ne q (by simp))]
  exact q
 ·obtain ⟨more, q⟩ := I.base.tbls b ps e
  exact ⟨more, by rw [Xae (ne q (by simp))]; exact q⟩
 ·rw [Xae (fun z => by have := I.free; rw [z, hH] at this; cases this)]
  exact I.free
 ·have q := I.freeC x c e
  rw [Xae (fun z => by rw [z, hH] at q; cases q)]
  exact q
 ·obtain ⟨e, n, r⟩ := I.pin p hp'
  exact ⟨e, by rw [Xae (fun z => by rw [z, hH] at n; cases n)]; exact n, r⟩
 ·by_cases hb : b = d
  ·subst hb
   rw [Xaa] at e
   cases e
   exact ⟨ho, (I.hok b _ hH).stay (fun _ _ _ q => q) (fun c q => by rw [Xae (ne q (by simp))]; exact q) fun c xs q => by rw [Xae (ne q (by simp))]; exact q⟩
  ·rw [Xae hb] at e
   exact (I.hok b ob e).stay (fun _ _ _ q => q) (fun c q => by rw [Xae (ne q (by simp))]; exact q) fun c xs q => by rw [Xae (ne q (by simp))]; exact q
def iDict (tl : TE) : TI := fun σ H R => tl σ H fun x H1 => ∃ d kvs, x = .ref d /\ H1 d = some (.dK kvs) /\ ∀ o, R (Itd d o kvs) (upd H1 d (.frz o (.dK kvs)))
theorem pi_dict {l : Expr} {tl : TE} (hl : PE X l tl) : PI X tg l (iDict tl) := by
 intro pins s σ H R I h
 refine thn (hl pins s σ H _ I h) fun v s1 ⟨x, H1, I1, r1, q1⟩ => ?_
 obtain ⟨d, kvs, e, hH, q⟩ := q1
 subst e
 cases r1
 obtain ⟨hz, hm, vs, rv, o, es, ep, ho, hex, hd, r⟩ := I1.hok d _ hH
 have hlen : kvs.length = vs.length := Paired.length rv
 refine wpAny_pyIter_dict (knd := Xar X.prog X.w) hm ⟨o, es, ho, hex, hd, r⟩ ?_
 have I2 := I1.freeze hH ho
 refine ⟨s1.heap.objs.size, [s1.heap.objs.size], _, _, _, rfl, I2.kept (t' := s1.toks) fun b o e => Heap.get?_push_of_some _ e, Xfk d _ o es ep hd kvs (Nat.ne_of_lt (Heap.lt_size ho)), ⟨_, Heap.get?_push_size _ rfl, rfl, by rw [hlen]; rfl⟩, fun b hb => ?_, q o⟩
 have e : b = s1.heap.objs.size := by simpa using hb
 subst e
 exact I2.fpOk (Nat.le_refl _) (I2.hok.fresh (Nat.le_refl _))
end
def PJ (X : Cx) (es : List Expr) (t : St -> Hp -> (Hp -> Prop) -> Prop) : Prop :=
 ∀ (out : Str) (pins : List (Addr × Obj)) (s : Shared) (σ : St) (H : Hp) (Q : Hp -> Prop), Inv X pins σ H s -> t σ H Q -> out.length + 5000 * es.length <= sizeLine ->
  wpAny (model X.prog X.w) X.A (joinParts out (evalEach es X.env)) (fun u s' => ∃ z tk H', u = .str z tk /\ Inv X pins σ H' s' /\ Q H') X.xe s
def tJNil : St -> Hp -> (Hp -> Prop) -> Prop := fun _ H Q => Q H
def tJStr (t : St -> Hp -> (Hp -> Prop) -> Prop) : St -> Hp -> (Hp -> Prop) -> Prop := t
section
variable {X : Cx} {es : List Expr} {t : St -> Hp -> (Hp -> Prop) -> Prop} {e : Expr} {te : TE} {pos : Pos}
theorem pj_nil : PJ X [] tJNil := fun out pins s σ H Q I h hz => joinParts_nil ⟨out, _, H, rfl, I.tok _, h⟩ (by simpa using hz)
theorem Xfl (a b : Str) : (a ++ b).length = a.length + b.length := strLen_append a b
theorem pj_str {z : Str} {k : Nat} {p : Pos} (hz : z.length <= 5000) (h : PJ X es t) (he : evalEach (.Constant (.str z) k p :: es) X.env = eval (.Constant (.str z) k p) X.env :: evalEach es X.env := by rfl) : PJ X (.Constant (.str z) k p :: es) (tJStr t) := by
 intro out pins s σ H Q I hw hl
 rw [he]
 rw [List.length_cons] at hl
 refine joinParts_cons (Calls.Constant_str ⟨by rw [Xfl]; omega, ?_⟩)
 exact h (out ++ z) pins _ σ H Q (I.tok _) hw (by rw [Xfl]; omega)
def tJoin (t : St -> Hp -> (Hp -> Prop) -> Prop) : TE := fun σ H Q => t σ H fun H1 => ∀ z, Q (.str z) H1
theorem pe_join {a b : Expr} (h : PJ X (a :: b :: es) t) (hz : 5000 * (a :: b :: es).length <= sizeLine := by decide) (he : evalEach (a :: b :: es) X.env = eval a X.env :: eval b X.env :: evalEach es X.env := by rfl) : PE X (.JoinedStr (a :: b :: es) pos) (tJoin t) := by
 intro pins s σ H Q I hw
 refine JoinedStr_many ?_
 rw [<- he]
 refine thn (h Str.empty pins s σ H _ I hw (by rw [show Str.empty.length = 0 from rfl]; omega)) fun u s' ⟨z, tk, H', e, I', q⟩ => ?_
 subst e
 exact ⟨.str z, H', I', ⟨tk, rfl⟩, q z⟩
end
end L2
namespace L2
open PySem PySem.Spec PyProof.Rows PySem.Calls Builtin Builtin.ObjectAttr Builtin.Getset_descriptor
structure ExcF (K : PySem.W.Frag) (C : Addr) : Prop where
 ga : PySem.W.findIn K (.ref C) "__getattribute__" = some (some (.builtin "BaseException.__getattribute__"))
 gn : PySem.W.findIn K (.ref C) "__getattr__" = some none
 cl : PySem.W.findIn K (.ref C) "__class__" = some (some (.builtin "object.__class__"))
 sb : PySem.W.subIn K (.ref C) (.type "BaseException") = some true
 so : PySem.W.subIn K (.ref C) (.type "object") = some true
 ic : (PySem.W.clsIn K C).isSome = true
section
variable {prog : Program} {w : World} {A : Around} {E : Value -> Shared -> Prop} {K : PySem.W.Frag} {C a : Addr} {h : Heap} {g : Array GenState} {d : Drawn} {t : Nat} {os : OsState}
end
end L2
namespace L2
open PySem PySem.Spec PyProof.Rows
def clsV : V -> Option Value
 | .ty n => some (.type n)
 | .ref a => some (.ref a)
 | _ => none
theorem clsV_rel {c : V} {u v : Value} (r : RelV c u) (h : clsV c = some v) : u = v := by
 cases c with
 | ty n => cases r; exact Option.some.inj h
 | ref a => cases r; exact Option.some.inj h
 | _ => cases h
section
variable {X : Cx}
theorem Xdi : Xdg X (.builtin "isinstance") (fun xs H Q => ∃ x c t cv b, xs = [x, c] /\ TyOf X.K H x t /\ clsV c = some cv /\ PySem.W.kitOne X.K t cv = some b /\ Q (.bl b) H) := by
 intro pins s σ H xs us Q I r h
 obtain ⟨x, c, t, cv, b, rfl, ty, hc, e, q⟩ := h
 obtain ⟨u, v, rfl, ru, rv⟩ := r.two
 have := clsV_rel rv hc
 subst this
 exact Xmp I ru ty e fun tk => ⟨.bl b, H, I.tok _, rfl, q⟩
end
def wN (n : Nat) (Pv : Nat -> St -> Hp -> Prop) : Nat -> Nat -> St -> Hp -> Prop := fun i m σ H => m = n - i /\ i <= n /\ Pv i σ H
theorem wput {n i : Nat} {Pv : Nat -> St -> Hp -> Prop} {σ : St} {H : Hp} {D : Addr} {y : V} {ys : List V} (hi : i < n) (hD : H D = some (.lst ys)) (hl : ys.length < sizeLine) (p : Pv (i + 1) σ (upd H D (.lst (ys ++ [y])))) :
  ∃ ys, H D = some (.lst ys) /\ ys.length < sizeLine /\ ∃ m', m' < n - i /\ wN n Pv (i + 1) m' σ (upd H D (.lst (ys ++ [y]))) := ⟨ys, hD, hl, n - (i + 1), by omega, rfl, hi, p⟩
theorem wskip {n i : Nat} {Pv : Nat -> St -> Hp -> Prop} {σ : St} {H : Hp} (hi : i < n) (p : Pv (i + 1) σ H) : ∃ m', m' < n - i /\ wN n Pv (i + 1) m' σ H := ⟨n - (i + 1), by omega, rfl, hi, p⟩
theorem blk_n {cap : List (Option Nat)} {g : TG} {tt : TT} {te : TE} {J : It} {σ : St} {H1 : Hp} {F : Addr -> Hp -> Prop} (n : Nat) (vs : Nat -> V) (Pv : Addr -> Nat -> St -> Hp -> Prop)
  (h0 : ∀ D, H1 D = none -> Pv D 0 (capS cap σ) (upd H1 D (.lst [])))
  (hgo : ∀ D i σ2 H2, H1 D = none -> i < n -> Pv D i σ2 H2 -> J.go i H2 /\ ∀ x H3, J.yld i H2 x H3 -> H3 = H2 /\ x = vs i)
  (hst : ∀ D σ2 H2, H1 D = none -> Pv D n σ2 H2 -> J.stop n H2)
  (step : ∀ D i σ1 H2, H1 D = none -> i < n -> Pv D i σ1 H2 -> g (vs i) σ1 H2 fun σ2 H4 => tt σ2 H4 fun b H5 =>
   if b = true then te σ2 H5 fun y H6 => ∃ ys, H6 D = some (.lst ys) /\ ys.length < sizeLine /\ ∃ m', m' < n - i /\ wN n (Pv D) (i + 1) m' σ2 (upd H6 D (.lst (ys ++ [y])))
   else ∃ m', m' < n - i /\ wN n (Pv D) (i + 1) m' σ2 H5)
  (hd : ∀ D σ2 H2, H1 D = none -> Pv D n σ2 H2 -> F D H2) : tBlk cap g tt te J σ H1 F := by
 intro D hD
 refine ⟨wN n (Pv D), ⟨n, by simp, Nat.zero_le _, h0 D hD⟩, ?_⟩
 rintro i m σ1 H2 ⟨rfl, hi, p⟩
 by_cases hlt : i < n
 ·obtain ⟨h1, h2⟩ := hgo D i σ1 H2 hD hlt p
  refine .inr ⟨h1, fun x H3 y => ?_⟩
  obtain ⟨e1, e2⟩ := h2 x H3 y
  subst e1 e2
  exact step D i σ1 _ hD hlt p
 ·have e : i = n := by omega
  subst e
  exact .inl ⟨hst D σ1 H2 hD p, hd D σ1 H2 hD p⟩
theorem Xgq {K : PySem.W.Frag} {a : Addr} {xs : List V} {H : Hp} {i : Nat} (h : SqL K H a xs) (hi : i < xs.length) : (Itl K a).go i H /\ ∀ x H3, (Itl K a).yld i H x H3 -> H3 = H /\ x = xs.getD i .non :=
 ⟨⟨xs, xs[i], h, by simp [hi]⟩, fun x H3 ⟨e, y⟩ => ⟨e, by have := y xs h; simp [List.getD, this]⟩⟩
theorem Xgr {K : PySem.W.Frag} {a : Addr} {xs : List V} {H : Hp} (h : SqL K H a xs) : (Itl K a).stop xs.length H := ⟨xs, h, Nat.le_refl _⟩
theorem go_tup {K : PySem.W.Frag} {a : Addr} {xs : List V} {H : Hp} {i : Nat} (h : SqT K H a xs) (hi : i < xs.length) : (Itt K a).go i H /\ ∀ x H3, (Itt K a).yld i H x H3 -> H3 = H /\ x = xs.getD i .non :=
 ⟨⟨xs, xs[i], h, by simp [hi]⟩, fun x H3 ⟨e, y⟩ => ⟨e, by have := y xs h; simp [List.getD, this]⟩⟩
theorem st_tup {K : PySem.W.Frag} {a : Addr} {xs : List V} {H : Hp} (h : SqT K H a xs) : (Itt K a).stop xs.length H := ⟨xs, h, Nat.le_refl _⟩
theorem Xgs {d : Addr} {o : Obj} {kvs : List (Key × V)} {H : Hp} {i : Nat} (h : H d = some (.frz o (.dK kvs))) (hi : i < kvs.length) : (Itd d o kvs).go i H /\ ∀ x H3, (Itd d o kvs).yld i H x H3 -> H3 = H /\ x = (kvs.map fun p => kV p.1).getD i .non :=
 ⟨⟨h, hi⟩, fun x H3 ⟨e, p, hp, y⟩ => ⟨e, by rw [y]; simp [List.getD, hp]⟩⟩
theorem Xgt {d : Addr} {o : Obj} {kvs : List (Key × V)} {H : Hp} (h : H d = some (.frz o (.dK kvs))) : (Itd d o kvs).stop kvs.length H := ⟨h, Nat.le_refl _⟩
end L2
namespace L2
open PySem PySem.Spec PyProof.Rows PySem.Calls
theorem Xja (t : SetTable) (n : Nat) : (t.orStandIn n).led = t.led := by
 unfold SetTable.orStandIn
 split
 ·rfl
 ·rfl
theorem Xlj (t : SetTable) (es : Array (Int × Value)) (k : Int) (x : Value) : (layNew t es k x).2.1.led = t.led := by
 unfold layNew
 split
 ·exact Xja _ _
 ·rfl
theorem Xlk {mask finger moves : Nat} {led plain : Bool} {hs : Array Int} {t : SetTable} {o : Array Nat} (h : SetTable.laid mask finger moves led plain hs = some (t, o)) : t.led = led /\ t.plain = plain := by
 unfold SetTable.laid at h
 cases q : SetTable.layClean mask hs with
 | none => rw [q] at h; cases h
 | some ow =>
  rw [q] at h
  cases h
  exact ⟨rfl, rfl⟩
theorem Xjb (t : SetTable) (es : Array (Int × Value)) (n : Nat) (hp : t.plain = false) : (relayAll t es n).2.1.led = t.led /\ (relayAll t es n).2.1.plain = false := by
 unfold relayAll
 split
 ·rename_i t' o e
  obtain ⟨e1, e2⟩ := Xlk e
  dsimp only
  split
  ·exact ⟨e1, e2.trans hp⟩
  ·exact ⟨rfl, rfl⟩
 ·exact ⟨rfl, rfl⟩
def Xc9 (w : World) : Bool := w.params.followText "set-order"
def SSet (P : Program) (w : World) (h : Heap) (a : Addr) (ks : List Str) : Prop :=
 ∃ o es ep t ls, h.get? a = some o /\ o.ExactSet /\ o.data = .set es ep t /\ ElemsOf (PySem.strKind P w) es.toList /\ StrsAre (es.toList.map (·.2)) ls /\ ls.Perm ks /\ es.size < scanBound /\ t.fits es.size = true /\ t.led = !Xc9 w /\ (t.plain = true -> es.size = 0)
theorem Xhw {l1 l2 : List (Int × Value)} {ls : List Str} (p : l1.Perm l2) (h : StrsAre (l2.map (·.2)) ls) : ∃ ls', StrsAre (l1.map (·.2)) ls' /\ ls'.Perm ls := by
 refine ⟨(l1.map (·.2)).map strOf, strsAre_map _ (fun v hv => ?_), ?_⟩
 ·exact h.all v ((p.map (·.2)).mem_iff.mp hv)
 ·rw [<- h.strs]
  exact (p.map (·.2)).map strOf
theorem Xmz {vs : List Value} {ls : List Str} {x : Str} {t : Tok} (h : StrsAre vs ls) : StrsAre (vs ++ [.str x t]) (ls ++ [x]) := by
 induction h with
 | nil => exact .cons x t .nil
 | cons y u _ ih => exact .cons y u ih
section
variable {P : Program} {w : World} {A : Around} {E : Value -> Shared -> Prop} {s : Shared} {a : Addr} {ks : List Str}
theorem SSet.stay {h h' : Heap} (S : SSet P w h a ks) (k : ∀ o, h.get? a = some o -> h'.get? a = some o) : SSet P w h' a ks := by
 obtain ⟨o, es, ep, t, ls, ho, r⟩ := S
 exact ⟨o, es, ep, t, ls, k o ho, r⟩
theorem mem_strs {vs : List (Int × Value)} {ls : List Str} (h : StrsAre (vs.map (·.2)) ls) {x : Str} : x ∈ ls ↔ ∃ e ∈ vs, (PySem.strKind P w).is x e.2 = true := by
 rw [<- h.strs]
 constructor
 ·intro hx
  obtain ⟨v, hv, rfl⟩ := List.mem_map.mp hx
  obtain ⟨e, he, rfl⟩ := List.mem_map.mp hv
  obtain ⟨y, t, q⟩ := h.all e.2 hv
  refine ⟨e, he, ?_⟩
  rw [q]
  exact strKind_is P w y t
 ·rintro ⟨e, he, q⟩
  obtain ⟨t, e2⟩ := Value.isStrOf_shape q
  exact List.mem_map.mpr ⟨e.2, List.mem_map.mpr ⟨e, he, rfl⟩, by rw [e2]; rfl⟩
theorem Xkl {o : Obj} {es : Array (Int × Value)} {ep : Nat} {t : SetTable} {h : Heap} (ho : h.get? a = some o) (hex : o.ExactSet) (hd : o.data = .set es ep t) {es' : Array (Int × Value)} {t' : SetTable} {ls : List Str}
  (hel : ElemsOf (PySem.strKind P w) es'.toList) (hs : StrsAre (es'.toList.map (·.2)) ls) (hp : ls.Perm ks) (hb : es'.size < scanBound) (hf : t'.fits es'.size = true) (hl : t'.led = !Xc9 w) (hpl : t'.plain = false) :
  (h.update a (Obj.putSet es' t')).get? a = some { o with data := .set es' (ep + 1) t' } /\ SSet P w (h.update a (Obj.putSet es' t')) a ks := by
 have g := Heap.get?_update_self (Obj.putSet es' t') ho (by rw [putSet_of es' t' hd]; rfl)
 rw [putSet_of es' t' hd] at g
 exact ⟨g, _, es', ep + 1, t', ls, g, hex, rfl, hel, hs, hp, hb, hf, hl, fun z => by rw [hpl] at z; cases z⟩
theorem Xhx {g : Bool -> Sem Unit} (hg : ∀ (b : Bool) (s1 : Shared) (Q' : Unit -> Shared -> Prop), Q' () s1 -> wpAny (model P w) A (g b) Q' E s1)
    {o : Obj} {es : Array (Int × Value)} {ep : Nat} {t : SetTable} (ho : s.heap.get? a = some o) (hex : o.ExactSet) (hd : o.data = .set es ep t) {es1 : Array (Int × Value)} {t2 : SetTable} {ls : List Str}
    (hel : ElemsOf (PySem.strKind P w) es1.toList) (hs : StrsAre (es1.toList.map (·.2)) ls) (hp : ls.Perm ks) (hb : es1.size < scanBound) (hf : t2.fits es1.size = true) (hl : t2.led = !Xc9 w) (hpl : t2.plain = false) {wd : Bool} {R : Option Bool -> Shared -> Prop}
    (h : ∀ h', Heap.SameBut a s.heap h' -> SSet P w h' a ks -> R (some true) { s with heap := h' }) :
    wpAny (model P w) A (do
        storeSet a es1 t2
        if (!wd && t2.tooFull) = true then do g (relayAll t2 es1 (SetTable.grown es1.size)).2.2
                                              storeSet a (relayAll t2 es1 (SetTable.grown es1.size)).1 (relayAll t2 es1 (SetTable.grown es1.size)).2.1
                                              pure (some true)
        else pure (some true)) R E s := by
  refine wpAny_bind (wpAny_storeSet_of ho hd ?_ (fits_of_scanBound hb))
  obtain ⟨g1, S1⟩ := Xkl (P := P) (w := w) ho hex hd hel hs hp hb hf hl hpl
  have sb := Heap.SameBut.update s.heap a (Obj.putSet es1 t2)
  split
  . have pp := relayAll_perm t2 es1 (SetTable.grown es1.size)
    have ff := relayAll_fits t2 es1 (SetTable.grown es1.size)
    obtain ⟨fl1, fl2⟩ := Xjb t2 es1 (SetTable.grown es1.size) hpl
    generalize relayAll t2 es1 (SetTable.grown es1.size) = R3 at pp ff fl1 fl2 ⊢
    obtain ⟨es3, t3, gv⟩ := R3
    dsimp only at pp ff fl1 fl2 ⊢
    obtain ⟨ls3, s3, p3⟩ := Xhw pp hs
    have z : es3.size = es1.size := by rw [<- Array.length_toList, pp.length_eq, Array.length_toList]
    refine wpAny_bind (hg _ _ _ ?_)
    refine wpAny_bind (wpAny_storeSet_of g1 rfl ?_ (fits_of_scanBound (by rw [z]; exact hb)))
    obtain ⟨_, S3⟩ := Xkl (P := P) (w := w) (ks := ks) g1 hex rfl (hel.perm pp) s3 (p3.trans hp) (by rw [z]; exact hb) ff (fl1.trans hl) fl2
    exact wpAny_pure (h _ (sb.trans (Heap.SameBut.update _ a _)) S3)
  . exact wpAny_pure (h _ sb S1)
theorem sset_add {x : Str} {tk : Tok} {Q : Bool -> Shared -> Prop} (S : SSet P w s.heap a ks) (hr : ks.length + 1 < scanBound)
  (h : ∀ b h', Heap.SameBut a s.heap h' -> SSet P w h' a (if x ∈ ks then ks else ks ++ [x]) -> Q b { s with heap := h' }) :
  wpAny (model P w) A (setAddHashed a (.str x tk) ((PySem.strKind P w).hash x)) Q E s := by
 obtain ⟨o, es, ep, t, ls, ho, hex, hd, hel, hs, hp, hb, hf, hl, hpl⟩ := S
 have hlen : es.size = ks.length := by
  have := hs.length
  rw [List.length_map, Array.length_toList] at this
  rw [this, hp.length_eq]
 have hkey : (PySem.strKind P w).is x (.str x tk) = true := strKind_is P w x tk
 have hin : x ∈ ks ↔ ∃ e ∈ es.toList, (PySem.strKind P w).is x e.2 = true := hp.mem_iff.symm.trans (mem_strs hs)
 unfold setAddHashed setAddHashedIn
 refine wpAny_holding (wpAny_bind (wpAny_setState_of ho hd hf ?_))
 dsimp only
 rw [byScan_of (knd := PySem.strKind P w) rfl hb hel]
 simp only [↓reduceIte]
 unfold setAddByScan
 refine wpAny_bind (wpAny_bind (wpAny_rule (wpAny_bind (wpAny_setScan_of hkey ho hd hf hel ?_))))
 cases hf1 : List.findIdx? (fun e => (PySem.strKind P w).is x e.2) es.toList with
 | some j =>
  dsimp only
  obtain ⟨hj, hpj, _⟩ := List.findIdx?_eq_some_iff_getElem.mp hf1
  have hx : x ∈ ks := hin.mpr ⟨es.toList[j], List.getElem_mem hj, hpj⟩
  refine wpAny_pure (wpAny_pure ?_)
  have := h false s.heap (Heap.SameBut.refl a s.heap) (by rw [if_pos hx]; exact ⟨o, es, ep, t, ls, ho, hex, hd, hel, hs, hp, hb, hf, hl, hpl⟩)
  exact this
 | none =>
  dsimp only
  have hx : x ∉ ks := fun z => by
   obtain ⟨e, he, q⟩ := hin.mp z
   have := List.findIdx?_eq_none_iff.mp hf1 e he
   rw [q] at this
   cases this
  have gw : ∀ (b : Bool) (s1 : Shared) (Q' : Unit -> Shared -> Prop), Q' () s1 -> wpAny (model P w) A (match b with | true => rule "set.scan.the-table-gave-way" | false => pure ()) Q' E s1 := fun b s1 Q' q => by
   cases b with
   | true => exact wpAny_rule q
   | false => exact wpAny_pure q
  have pp := layNew_perm t es ((PySem.strKind P w).hash x) (.str x tk)
  have ff := layNew_fits t es ((PySem.strKind P w).hash x) (.str x tk)
  have fl := Xlj t es ((PySem.strKind P w).hash x) (.str x tk)
  generalize layNew t es ((PySem.strKind P w).hash x) (.str x tk) = R at pp ff fl ⊢
  obtain ⟨es1, t1, wd, gv⟩ := R
  dsimp only at pp ff fl ⊢
  rw [Array.toList_push] at pp
  have el1 := (hel.push hkey rfl).perm pp
  have st0 : StrsAre ((es.toList ++ [((PySem.strKind P w).hash x, Value.str x tk)]).map (·.2)) (ls ++ [x]) := by
   rw [List.map_append]
   exact Xmz hs
  obtain ⟨ls1, st1, p1⟩ := Xhw pp st0
  have z1 : es1.size = ks.length + 1 := by
   rw [<- Array.length_toList, pp.length_eq, List.length_append, Array.length_toList, hlen]
   rfl
  have p2 : ls1.Perm (ks ++ [x]) := p1.trans (hp.append_right _)
  rw [if_neg hx] at h
  refine wpAny_bind (gw _ _ _ ?_)
  split
  ·refine wpAny_bind ?_
   rw [hashByValue_scannable 8 (x := Value.str x tk) rfl]
   refine wpAny_pure ?_
   refine Xhx (ks := ks ++ [x]) gw ho hex hd el1 st1 p2 (by rw [z1]; exact hr) (SetTable.fits_plain_off ff) (fl.trans hl) rfl (fun h' sb S' => ?_)
   dsimp only
   exact wpAny_pure (h true h' sb S')
  ·rename_i np
   refine wpAny_bind (wpAny_pure ?_)
   simp only [↓reduceIte]
   refine Xhx (ks := ks ++ [x]) gw ho hex hd el1 st1 p2 (by rw [z1]; exact hr) ff (fl.trans hl) (by cases q : t1.plain with | false => rfl | true => exact absurd q np) (fun h' sb S' => ?_)
   dsimp only
   exact wpAny_pure (h true h' sb S')
end
def dd1 (acc : List Str) (x : Str) : List Str := if x ∈ acc then acc else acc ++ [x]
def ddup (ss : List Str) : List Str := ss.foldl dd1 []
theorem Xhy (ss : List Str) (x : Str) : ddup (ss ++ [x]) = dd1 (ddup ss) x := by
 unfold ddup
 rw [List.foldl_append]
 rfl
theorem Xgu {p : List Str -> List Str -> Prop} (h0 : p [] []) (h1 : ∀ ss x, p ss (ddup ss) -> p (ss ++ [x]) (dd1 (ddup ss) x)) (ss : List Str) : p ss (ddup ss) := by
 have go : ∀ n ss, ss.length = n -> p ss (ddup ss) := by
  intro n
  induction n with
  | zero =>
   intro ss e
   rw [List.length_eq_zero_iff.mp e]
   exact h0
  | succ n ih =>
   intro ss e
   have hne : ss ≠ [] := fun z => by rw [z] at e; cases e
   have e2 := List.dropLast_concat_getLast hne
   rw [<- e2, Xhy]
   exact h1 _ _ (ih _ (by rw [List.length_dropLast, e]; rfl))
 exact go _ ss rfl
theorem Xgv (ss : List Str) : ∀ x, x ∈ ddup ss ↔ x ∈ ss := by
 refine Xgu (p := fun ss d => ∀ x, x ∈ d ↔ x ∈ ss) (fun x => Iff.rfl) (fun ss y ih x => ?_) ss
 unfold dd1
 split
 ·rename_i hy
  rw [ih, List.mem_append, List.mem_singleton]
  constructor
  ·exact .inl
  ·rintro (z | z)
   ·exact z
   ·rw [z]; exact (ih y).mp hy
 ·rw [List.mem_append, List.mem_append, ih]
theorem Xjc (ss : List Str) : (ddup ss).Nodup := by
 refine Xgu (p := fun _ d => d.Nodup) List.nodup_nil (fun ss y ih => ?_) ss
 unfold dd1
 split
 ·exact ih
 ·rename_i hy
  exact List.nodup_append.mpr ⟨ih, by simp, fun a ha b hb => by rw [List.mem_singleton.mp hb]; exact fun z => hy (z ▸ ha)⟩
theorem Xdq (ss : List Str) : (ddup ss).length <= ss.length := by
 refine Xgu (p := fun ss d => d.length <= ss.length) (Nat.le_refl _) (fun ss y ih => ?_) ss
 unfold dd1
 rw [List.length_append, List.length_singleton]
 split
 ·omega
 ·rw [List.length_append, List.length_singleton]; omega
section
variable {P : Program} {w : World} {A : Around} {E : Value -> Shared -> Prop} {s : Shared}
theorem Xhz {R : Result -> Shared -> Prop} {I : Addr} {fp wr : List Addr} {G : Array GenState -> Array GenState -> Prop} {Pv : Nat -> Value -> Prop} {St : Nat -> Shared -> Prop} (ss : List Str) (W : WalksS P w A.in1 I fp wr G ss.length Pv St) (S : Addr) (nS : S ∉ fp)
  (hval : ∀ i v, Pv i v -> ∃ t, v = .str (ss.getD i "") t) (hb : ss.length + 1 < scanBound) :
  ∀ (k i : Nat) (s : Shared), ss.length - i = k -> i <= ss.length -> St i s -> SSet P w s.heap S (ddup (ss.take i)) -> (∀ s', Moved (S :: wr) G s s' -> SSet P w s'.heap S (ddup ss) -> R (.ok (.ret .none)) s') ->
   codeAny (model P w) A (.builtin "set.update.loop" ⟨[.ref S, .ref I], []⟩) R s := by
 have nw : S ∉ wr := fun z => nS (W.sub _ z)
 have up : ∀ b ∈ wr, b ∈ S :: wr := fun b z => List.mem_cons_of_mem _ z
 intro k
 induction k with
 | zero =>
  intro i s e hi st hS hR
  have : i = ss.length := by omega
  subst this
  rw [List.take_length] at hS
  refine codeAny_builtin F.entry_set_update_loop ?_
  rw [Around.under_plainId F.plain_set_update_loop _]
  show wpAny _ A.in1 (pyNext (.ref I) >>= fun _ => _) _ _ s
  refine wpAny_bind (W.done s _ _ st fun s' mv => ?_)
  show wpAny _ A.in1 (ret Value.none) _ _ s'
  exact wpAny_pure (hR s' (mv.mono up) (hS.stay fun o z => mv.heap S o nw z))
 | succ k ih =>
  intro i s e hi st hS hR
  have lt : i < ss.length := by omega
  refine codeAny_builtin F.entry_set_update_loop ?_
  rw [Around.under_plainId F.plain_set_update_loop _]
  show wpAny _ A.in1 (pyNext (.ref I) >>= fun _ => _) _ _ s
  refine wpAny_bind (W.item i s _ _ lt st fun v s' hP st' mv => ?_)
  obtain ⟨t, rfl⟩ := hval i v hP
  have hS' := hS.stay fun o z => mv.heap S o nw z
  show wpAny _ A.in1 (holding [Value.str (ss.getD i "") t] (setAdd S (.str (ss.getD i "") t)) >>= fun _ => _) _ _ s'
  refine wpAny_bind (wpAny_holding ?_)
  unfold setAdd
  refine wpAny_holding (wpAny_bind ((PySem.strKind P w).pyHash (k := ss.getD i "") (strKind_is P w _ t) ?_))
  have hl1 : (ddup (ss.take i)).length <= i := Nat.le_trans (Xdq _) (by rw [List.length_take]; omega)
  refine sset_add (s := { s' with toks := s'.toks + 1 }) hS' (by omega) fun b h' sb S2 => ?_
  have e3 : ddup (ss.take (i + 1)) = dd1 (ddup (ss.take i)) (ss.getD i "") := by
   rw [List.take_succ_eq_append_getElem lt, Xhy]
   congr 1
   simp [List.getD, lt]
  have S3 : SSet P w h' S (ddup (ss.take (i + 1))) := by rw [e3]; exact S2
  refine wpAny_pure ⟨plainId_quiet F.plain_set_update_loop _, ih (i + 1) _ (by omega) lt (W.frame _ s' _ _ st' (Nat.le_succ _) fun b hb o q => ?_) S3 fun s'' mv2 S4 => ?_⟩
  ·rw [sb.2 b (fun z => nS (z ▸ hb))]
   exact q
  ·refine hR s'' (Moved.trans W.gtrans ((mv.mono up).then_heap (Nat.le_succ _) fun b o hb q => ?_) mv2) S4
   rw [sb.2 b (fun z => hb (z ▸ List.mem_cons_self))]
   exact q
inductive Src (h : Heap) (l : Addr) (items : Array Value) : Prop
 | lst : h.IsList l items -> Src h l items
 | tup : h.IsTuple l items -> Src h l items
theorem set_new1 (a : Value) {Q : Value -> Shared -> Prop} (h : Q (.ref s.heap.objs.size) { s with heap := s.heap.push { cls := .type "set", dict := none, data := .set #[] 0 (.fresh 0 0 (!Xc9 w)) } }) :
    codeAny (model P w) A (.call (.builtin "set.__new__") ⟨[.type "set", a], []⟩) (wants Q E) s := by
  refine codeAny_of_tree ?_
  show wpAny _ A.in1 (do checkBuiltinCall "set.__new__" ⟨[.type "set", a], []⟩
                         again (.builtin "set.__new__" ⟨[.type "set", a], []⟩)) _ _ s
  refine wpAny_bind (wpAny_of_eq (PySem.F.newCall_set_1 a) (wpAny_pure ⟨plainId_quiet PySem.F.plain_set_new _, codeAny_builtin PySem.F.entry_set_new ?_⟩))
  rw [Around.under_plainId PySem.F.plain_set_new _]
  unfold Builtin.«set.__new__» Builtin.Frozenset.newClass
  have q := sub_set_self
  obtain ⟨hp, g, d, tk, os⟩ := s
  dsimp only
  wp_walk
  refine wpAny_askSetting (wpAny_pure ?_)
  dsimp only
  simp only [newObj]
  exact wpAny_bind (wpAny_alloc (wpAny_pure (wpAny_pure h)))
end
end L2
set_option maxHeartbeats 3200000
namespace L2
open PySem PySem.Spec PyProof.Rows PySem.Calls
section
variable {P : Program} {w : World} {A : Around} {E : Value -> Shared -> Prop} {s : Shared}
abbrev Xh0 (w : World) : Obj := { cls := .type "set", dict := none, data := .set #[] 0 (.fresh 0 0 (!Xc9 w)) }
theorem sset_nil {h : Heap} {a : Addr} (g : h.get? a = some (Xh0 w)) : SSet P w h a [] :=
 ⟨_, #[], 0, _, [], g, ⟨rfl, rfl, rfl⟩, rfl, fun e he => by simp at he, .nil, .nil, by decide, rfl, rfl, fun _ => rfl⟩
theorem set_fill {l S : Addr} {items : Array Value} {ss : List Str} {R : Unit -> Shared -> Prop} (hh : A.handled = none) (src : Src s.heap l items) (hs : StrsAre items.toList ss) (hb : ss.length + 1 < scanBound) (hS : SSet P w s.heap S []) (hlS : l ≠ S)
  (hTS : ∀ (Q : Bool -> Shared -> Prop), Q false s -> wpAny (model P w) A (Builtin.Frozenset.isAnySet (.ref l)) Q E s)
  (h : ∀ (h' : Heap) (tk : Nat), SSet P w h' S (ddup ss) -> (∀ b o, b ≠ S -> s.heap.get? b = some o -> h'.get? b = some o) -> R () { s with heap := h', toks := tk }) :
  wpAny (model P w) A (Builtin.Frozenset.updateFrom "set.__init__" S (.ref l)) R E s := by
 have hlen : items.size = ss.length := by
  have := hs.length
  rwa [Array.length_toList] at this
 have hval : ∀ (i : Nat) (v : Value), items[i]? = some v -> ∃ t, v = .str (ss.getD i "") t := fun i v q => by
  have q' : items.toList[i]? = some v := by rw [Array.getElem?_toList]; exact q
  obtain ⟨x, t, rfl⟩ := hs.all v (List.mem_of_getElem? q')
  refine ⟨t, ?_⟩
  congr 1
  rw [<- hs.strs]
  simp [List.getD, List.getElem?_map, q, strOf]
 obtain ⟨oS, _, _, _, _, gS, _⟩ := id hS
 have ltS := Heap.lt_size gS
 unfold Builtin.Frozenset.updateFrom
 refine wpAny_bind (hTS _ ?_)
 simp only [Bool.false_eq_true, if_false]
 cases src with
 | lst hl =>
  have hll : l < s.heap.objs.size := by obtain ⟨o, g, _⟩ := hl; exact Heap.lt_size g
  refine wpAny_bind (wpAny_typeOf (T := "list") hl.typeIs ?_)
  have ne : (Value.type "list" == Value.type "dict") = false := by decide
  simp only [ne, Bool.false_eq_true, if_false]
  refine wpAny_bind (wpAny_pyIter_list hl ?_)
  refine wpAny_bind (wpAny_runValue ?_)
  have nI : S ∉ [s.heap.objs.size, l] := by simp only [List.mem_cons, List.not_mem_nil, or_false, not_or]; exact ⟨Nat.ne_of_lt ltS, hlS.symm⟩
  have W := (Walks.list (prog := P) (w := w) (A := A.in1) (by simp [hh]) s.heap.objs.size l (Nat.ne_of_lt hll) items).toS
  rw [hlen] at W
  refine Xhz ss W S nI hval hb _ 0 _ rfl (Nat.zero_le _) ⟨⟨_, Heap.get?_push_size _ rfl, rfl, rfl⟩, hl.push _⟩ (hS.stay fun o q => Heap.get?_push_of_some _ q) fun s' mv S' => ?_
  rw [Moved.eq_with mv]
  refine wpAny_pure (h s'.heap s'.toks S' fun b o nb q => mv.heap b o (fun z => ?_) (Heap.get?_push_of_some _ q))
  rcases List.mem_cons.mp z with z | z
  ·exact nb z
  ·exact absurd (Heap.lt_size q) (by rw [List.mem_singleton.mp z]; exact Nat.lt_irrefl _)
 | tup hl =>
  have hll : l < s.heap.objs.size := by obtain ⟨o, g, _⟩ := hl; exact Heap.lt_size g
  refine wpAny_bind (wpAny_typeOf (T := "tuple") hl.typeIs ?_)
  have ne : (Value.type "tuple" == Value.type "dict") = false := by decide
  simp only [ne, Bool.false_eq_true, if_false]
  refine wpAny_bind (wpAny_pyIter_tuple hl ?_)
  refine wpAny_bind (wpAny_runValue ?_)
  have nI : S ∉ [s.heap.objs.size, l] := by simp only [List.mem_cons, List.not_mem_nil, or_false, not_or]; exact ⟨Nat.ne_of_lt ltS, hlS.symm⟩
  have W := (Walks.tuple (prog := P) (w := w) (A := A.in1) (by simp [hh]) s.heap.objs.size l (Nat.ne_of_lt hll) items).toS
  rw [hlen] at W
  refine Xhz ss W S nI hval hb _ 0 _ rfl (Nat.zero_le _) ⟨⟨_, Heap.get?_push_size _ rfl, rfl, rfl⟩, hl.push _⟩ (hS.stay fun o q => Heap.get?_push_of_some _ q) fun s' mv S' => ?_
  rw [Moved.eq_with mv]
  refine wpAny_pure (h s'.heap s'.toks S' fun b o nb q => mv.heap b o (fun z => ?_) (Heap.get?_push_of_some _ q))
  rcases List.mem_cons.mp z with z | z
  ·exact nb z
  ·exact absurd (Heap.lt_size q) (by rw [List.mem_singleton.mp z]; exact Nat.lt_irrefl _)
theorem Src.push {h : Heap} {l : Addr} {items : Array Value} (x : Src h l items) (o : Obj) : Src (h.push o) l items := by
 cases x with
 | lst y => exact .lst (y.push o)
 | tup y => exact .tup (y.push o)
theorem Src.any {l : Addr} {items : Array Value} (x : Src s.heap l items) {Q : Bool -> Shared -> Prop} (q : Q false s) : wpAny (model P w) A (Builtin.Frozenset.isAnySet (.ref l)) Q E s := by
 cases x with
 | lst y =>
  obtain ⟨o, g, c, n, d⟩ := y
  obtain ⟨oc, od, odt, os⟩ := o
  simp only at c d
  subst c d
  have h1 := PySem.F.sub_list_set
  have h2 := PySem.F.sub_list_frozenset
  unfold Builtin.Frozenset.isAnySet
  wp_walk
  exact q
 | tup y =>
  obtain ⟨o, g, c, n, d⟩ := y
  obtain ⟨oc, od, odt, os⟩ := o
  simp only at c d
  subst c d
  have h1 : isSubtype (.type "tuple") (.type "set") = pure false := by rw [isSubtype_type]; kernel_rfl
  have h2 : isSubtype (.type "tuple") (.type "frozenset") = pure false := by rw [isSubtype_type]; kernel_rfl
  unfold Builtin.Frozenset.isAnySet
  wp_walk
  exact q
theorem Src.lt {h : Heap} {l : Addr} {items : Array Value} (x : Src h l items) : l < h.objs.size := by
 cases x with
 | lst y => obtain ⟨o, g, _⟩ := y; exact Heap.lt_size g
 | tup y => obtain ⟨o, g, _⟩ := y; exact Heap.lt_size g
theorem Xm0 {l : Addr} {items : Array Value} {ss : List Str} {Q : Value -> Shared -> Prop} (hh : A.handled = none) (src : Src s.heap l items) (hs : StrsAre items.toList ss) (hb : ss.length + 1 < scanBound)
  (h : ∀ (h' : Heap) (tk : Nat), SSet P w h' s.heap.objs.size (ddup ss) -> (∀ b o, s.heap.get? b = some o -> h'.get? b = some o) -> Q (.ref s.heap.objs.size) { s with heap := h', toks := tk }) :
  wpAny (model P w) A (call (.type "set") [.ref l]) Q E s := by
 obtain ⟨c, tl, hmro⟩ := PySem.F.called_set.mro
 have hmade := PySem.F.called_set.made
 have hsub := PySem.F.called_set.sub
 refine wpAny_call (codeAny_of_tree ?_)
 show wpAny _ _ (callAny (.type "set") _) _ _ s
 refine wpAny_pure ⟨Code.quiet_builtin _ (by decide +kernel), codeAny_builtin PySem.F.entry_type_call ?_⟩
 rw [Around.under_plain (weight_type_call_type "set" [.ref l] []) rfl]
 have f1 := PySem.F.called_set.notType
 have f2 := PySem.F.called_set.canCreate
 have f3 := PySem.F.typeCall_set_1 (.ref l)
 repeat (any_goals (first | assumption | wp_step))
 refine codeAny_mono (set_new1 (.ref l) (E := E) (Q := fun obj s1 => obj = .ref s.heap.objs.size /\ s1 = { s with heap := s.heap.push (Xh0 w) }) ⟨rfl, rfl⟩) fun r s1 hr => ?_
 cases r with
 | error e => exact hr
 | ok fl =>
  cases fl with
  | ret obj =>
   obtain ⟨rfl, rfl⟩ := hr
   have gS : (s.heap.push (Xh0 w)).get? s.heap.objs.size = some (Xh0 w) := Heap.get?_push_size _ rfl
   have hT : Shared.TypeIs { s with heap := s.heap.push (Xh0 w) } (.ref s.heap.objs.size) "set" := ⟨_, gS, rfl⟩
   have f4 := PySem.F.called_set.init.lookup
   have f5 := PySem.F.called_set.init.bind (.ref s.heap.objs.size)
   repeat (any_goals (first | assumption | wp_step))
   refine codeAny_mono (codeAny_call_builtin (R := wants (fun r s2 => r = .none /\ ∃ h' tk, s2 = { s with heap := h', toks := tk } /\ SSet P w h' s.heap.objs.size (ddup ss) /\ ∀ b o, s.heap.get? b = some o -> h'.get? b = some o) E)
    PySem.F.called_set.init.plain PySem.F.entry_set_init (check_set_init_1 hT ?_)) fun r2 s2 hr2 => ?_
   ·have src' := src.push (Xh0 w)
    have lt := src.lt
    unfold Builtin.«set.__init__» noKeywords
    generalize hU : Builtin.Frozenset.updateFrom = U
    wp_walk
    subst hU
    refine set_fill (s := { s with heap := s.heap.push (Xh0 w) }) (by simp [hh]) src' hs hb (sset_nil gS) (Nat.ne_of_lt lt) (fun Q q => Src.any (s := { s with heap := s.heap.push (Xh0 w) }) src' q) fun h' tk S' kk => ?_
    exact wpAny_pure ⟨rfl, h', tk, rfl, S', fun b o q => kk b o (Nat.ne_of_lt (Heap.lt_size q)) (Heap.get?_push_of_some _ q)⟩
   ·cases r2 with
    | error e => exact hr2
    | ok fl2 =>
     cases fl2 with
     | ret r =>
      obtain ⟨rfl, h', tk, rfl, S', kk⟩ := hr2
      repeat (any_goals (first | assumption | wp_step))
      exact h _ _ S' kk
     | _ => exact hr2.elim
  | _ => exact hr.elim
end
namespace SF
theorem sIter : Slot "set" "__iter__" "set.__iter__" := PySem.F.slot_set_iter
theorem eIter : entryFor table "set.__iter__" = some Builtin.«frozenset.__iter__» := entryFor_alias (id' := "frozenset.__iter__") (by kernel_rfl) rfl (by decide +kernel) (by kernel_rfl)
theorem sNext : Slot "set_iterator" "__next__" "set_iterator.__next__" := .of (owner := "set_iterator") (n := "__next__") (by rw [typeLookup_type, builtinLookup_eq_fast]; kernel_rfl) (by decide +kernel) (by decide +kernel) (by decide +kernel) (by first | exact .inl (by decide +kernel) | exact .inr (by decide +kernel)) (by rw [isSubtype_type]; kernel_rfl)
theorem eNext : entryFor table "set_iterator.__next__" = some Builtin.«set_iterator.__next__» := entryFor_of_tree (by kernel_rfl)
theorem aNext (a : Value) : argsOk "set_iterator.__next__" ⟨[a], []⟩ := by unfold argsOk; kernel_rfl
end SF
theorem Xed {α : Type} : ∀ (xs : List α) (i : Nat) (hi : i < xs.length), (xs[i] :: xs.eraseIdx i).Perm xs
 | x :: xs, 0, _ => List.Perm.refl _
 | x :: xs, i + 1, hi => by
  have ih := Xed xs i (by simpa using hi)
  rw [List.eraseIdx_cons_succ, List.getElem_cons_succ]
  exact (List.Perm.swap x _ _).trans (ih.cons x)
theorem pick_go {α : Type} (next : Nat -> Nat) : ∀ (n k : Nat) (left : List α) (out : Array α), left.length = n -> (pickOrder.go next n k left out).toList.Perm (out.toList ++ left) := by
 intro n
 induction n with
 | zero =>
  intro k left out e
  rw [List.length_eq_zero_iff.mp e, List.append_nil]
  exact List.Perm.refl _
 | succ n ih =>
  intro k left out e
  have hlt : next k % left.length < left.length := Nat.mod_lt _ (by omega)
  unfold pickOrder.go
  rw [List.getElem?_eq_getElem hlt]
  dsimp only
  refine (ih _ _ _ (by rw [List.length_eraseIdx_of_lt hlt, e]; rfl)).trans ?_
  rw [Array.toList_push, List.append_assoc]
  exact (Xed left _ hlt).append_left _
theorem Xm1 {α : Type} (next : Nat -> Nat) (xs : Array α) : (pickOrder next xs).toList.Perm xs.toList := by
 have := pick_go next xs.size 0 xs.toList #[] (by simp)
 simpa [pickOrder] using this
section
variable {P : Program} {w : World} {A : Around} {E : Value -> Shared -> Prop} {s : Shared}
theorem Xm2 {src : Source} {n : Nat} {Q : Nat -> Shared -> Prop} (hn : n ≠ 0) (h : ∀ i d, i < n -> Q i { s with drawn := d }) : wpAny (model P w) A (choose src n) Q E s := by
 intro Γ p hΓ
 exact ⟨hn, h _ _ (Nat.mod_lt _ (Nat.pos_of_ne_zero hn))⟩
theorem Xh1 {α : Type} : ∀ (n : Nat) (xs : List α) (s : Shared) (Q : List α -> Shared -> Prop), xs.length = n -> (∀ os d, os.Perm xs -> Q os { s with drawn := d }) -> wpAny (model P w) A (drawOrder n xs) Q E s := by
 intro n
 induction n with
 | zero =>
  intro xs s Q e h
  rw [List.length_eq_zero_iff.mp e] at h ⊢
  unfold drawOrder
  exact wpAny_pure (h [] s.drawn (List.Perm.refl _))
 | succ n ih =>
  intro xs s Q e h
  cases xs with
  | nil => cases e
  | cons y ys =>
   unfold drawOrder
   refine wpAny_bind (Xm2 (by simp) fun i d hi => ?_)
   rw [List.getElem?_eq_getElem hi]
   dsimp only
   refine wpAny_bind (ih _ _ _ (by rw [List.length_eraseIdx_of_lt hi, e]; rfl) fun os d' hp => ?_)
   exact wpAny_pure (h _ d' ((hp.cons _).trans (Xed _ i hi)))
def SAt (h : Heap) (a : Addr) (es : Array (Int × Value)) (ep : Nat) (t : SetTable) : Prop := ∃ o, h.get? a = some o /\ o.ExactSet /\ o.data = .set es ep t /\ t.fits es.size = true
theorem Xjd {a : Addr} {es : Array (Int × Value)} {ep : Nat} {t : SetTable} {Q : Bool -> Shared -> Prop} (hs : SAt s.heap a es ep t) (h : Q (!Xc9 w && (!t.plain && decide (es.size > 1))) s) : wpAny (model P w) A (setDrawn a) Q E s := by
 obtain ⟨o, ho, hex, hd, hf⟩ := hs
 unfold setDrawn setsByText
 refine wpAny_bind (wpAny_setState_of ho hd hf ?_)
 dsimp only
 refine wpAny_bind (wpAny_bind (wpAny_askSetting (wpAny_pure ?_)))
 exact wpAny_pure h
abbrev itO (f0 : Value) (i : Nat) (a : Addr) (n ep : Nat) : Obj := { cls := .type "set_iterator", data := .fields #[f0, .int i 0, .ref a, .int n 0, .int ep 0] }
inductive Ord (w : World) (h : Heap) (a : Addr) (es : Array (Int × Value)) (ep : Nat) (t : SetTable) (f0 : Value) (i : Nat) : List Value -> Prop
 | txt : Xc9 w = true -> f0 = .int 0 0 -> Ord w h a es ep t f0 i ((pickOrder (w.params.setOrder a ep) es).toList.map (·.2))
 | drw (p : Addr) (os : List Nat) : Xc9 w = false -> os.Perm (List.range es.size) -> f0 = .ref p -> (∃ n, h.get? p = some ⟨.type "tuple", none, .seq (os.map fun j => Value.int (j : Nat) 0).toArray n, #[]⟩) -> Ord w h a es ep t f0 i (os.map fun j => ((es[j]?).map (·.2)).getD .none)
 | one (sl : Nat) : Xc9 w = false -> t.led = true -> es.size <= 1 -> f0 = .int sl 0 -> (i = 0 -> sl = 0) -> (∀ j, i = 1 -> t.place[0]? = some j -> sl = j + 1) -> Ord w h a es ep t f0 i (es.toList.map (·.2))
theorem iter_set {a : Addr} {es : Array (Int × Value)} {ep : Nat} {t : SetTable} {Q : Value -> Shared -> Prop} (hs : SAt s.heap a es ep t) (hb : es.size < scanBound) (hl : t.led = !Xc9 w) (hp : t.plain = true -> es.size = 0)
    (h : ∀ (f0 : Value) (vs : List Value) (h1 : Heap) (d : Drawn), (∀ b o, s.heap.get? b = some o -> h1.get? b = some o) -> h1.objs.size <= s.heap.objs.size + 1 -> s.heap.objs.size <= h1.objs.size -> (∀ p, f0 = .ref p -> p < h1.objs.size) -> Ord w (h1.push (itO f0 0 a es.size ep)) a es ep t f0 0 vs ->
      vs.Perm (es.toList.map (·.2)) -> Q (.ref h1.objs.size) { s with heap := h1.push (itO f0 0 a es.size ep), drawn := d }) :
    wpAny (model P w) A (pyIter (.ref a)) Q E s := by
  obtain ⟨o, ho, hex, hd, hf⟩ := id hs
  have hT : s.TypeIs (.ref a) "set" := ⟨o, ho, hex.1⟩
  refine wpAny_pyIter_slot hT SF.sIter (wpAny_call_entry SF.sIter hT SF.eIter ?_ (PySem.F.args_set_iter_1 _))
  unfold Builtin.«frozenset.__iter__» Builtin.Frozenset.slot0 slotArgs
  simp only [List.isEmpty_nil, Bool.not_true, Bool.false_eq_true, ↓reduceIte, bind_assoc, List.length_nil, bne_self_eq_false]
  unfold Builtin.Frozenset.addrOf Builtin.Frozenset.sizeOf
  refine wpAny_bind (wpAny_pure ?_)
  dsimp only
  refine wpAny_bind (wpAny_pure ?_)
  refine wpAny_bind (wpAny_bind (wpAny_setEntries_of ho hd hf (wpAny_pure ?_)))
  refine wpAny_bind (Xjd hs ?_)
  have fin : ∀ (f0 : Value) (vs : List Value) (h1 : Heap) (d : Drawn), (∀ b o, s.heap.get? b = some o -> h1.get? b = some o) -> h1.objs.size <= s.heap.objs.size + 1 -> s.heap.objs.size <= h1.objs.size -> (∀ p, f0 = .ref p -> p < h1.objs.size) -> Ord w (h1.push (itO f0 0 a es.size ep)) a es ep t f0 0 vs -> vs.Perm (es.toList.map (·.2)) ->
      wpAny (model P w) A.in1 (do let r <- newFields "set_iterator" [f0, rawInt 0, .ref a, rawInt es.size, rawInt ep]
                                  ret r) (fun fin s' => ∃ r, fin = .done (.ret r) /\ ∃ T v, s'.TypeIs r T /\ typeLookup (.type T) (Str.ofString "__next__") = pure (some v) /\ Q r s') E { s with heap := h1, drawn := d } := fun f0 vs h1 d k1 k2 k3 k4 k5 k6 =>
    wpAny_bind (wpAny_newObj_type (wpAny_pure ⟨_, rfl, "set_iterator", _, ⟨_, Heap.get?_push_size _ rfl, rfl⟩, SF.sNext.lookup, h f0 vs h1 d k1 k2 k3 k4 k5 k6⟩))
  by_cases hc : (!Xc9 w && (!t.plain && decide (es.size > 1))) = true
  . rw [if_pos hc]
    simp only [Bool.and_eq_true, Bool.not_eq_true', decide_eq_true_eq] at hc
    obtain ⟨c1, c2, c3⟩ := hc
    refine wpAny_bind (Xh1 _ _ _ _ List.length_range fun os d po => ?_)
    have hol : os.length = es.size := by rw [po.length_eq, List.length_range]
    refine wpAny_bind (wpAny_newTuple ?_ (by rw [List.length_map, hol]; exact fits_of_scanBound hb))
    refine wpAny_bind (wpAny_setEpoch_of (Heap.get?_push_of_some _ ho) hd hf ?_)
    refine fin _ _ _ d (fun b o q => Heap.get?_push_of_some _ q) (by rw [size_push']; exact Nat.le_refl _) (by rw [size_push']; exact Nat.le_succ _) (fun p e => by cases e; rw [size_push']; exact Nat.lt_succ_self _) (.drw s.heap.objs.size os c1 po rfl ⟨0, Heap.get?_push_of_some _ (Heap.get?_push_size _ rfl)⟩) ?_
    have e : (os.map fun j => ((es[j]?).map (·.2)).getD Value.none).Perm ((List.range es.size).map fun j => ((es[j]?).map (·.2)).getD Value.none) := po.map _
    refine e.trans ?_
    have e2 : ((List.range es.size).map fun j => ((es[j]?).map (·.2)).getD Value.none) = es.toList.map (·.2) := by
      apply List.ext_getElem?
      intro i
      have q : es.toList[i]? = es[i]? := Array.getElem?_toList
      rw [List.getElem?_map, List.getElem?_map, q]
      by_cases hi : i < es.size
      . rw [List.getElem?_range hi, Option.map_some, getElem?_pos es i hi]
        rfl
      . rw [List.getElem?_eq_none (by simpa using hi), getElem?_neg es i hi]
        rfl
    rw [e2]
  . rw [if_neg hc]
    refine wpAny_bind (wpAny_pure ?_)
    refine wpAny_bind (wpAny_setEpoch_of ho hd hf ?_)
    cases hw : Xc9 w with
    | true => exact fin _ _ _ s.drawn (fun b o q => q) (Nat.le_succ _) (Nat.le_refl _) (fun p e => by cases e) (.txt hw rfl) ((Xm1 _ es).map _)
    | false =>
      have h1 : es.size <= 1 := by
        cases hpl : t.plain with
        | true => rw [hp hpl]; exact Nat.zero_le _
        | false =>
          simp only [hw, hpl, Bool.not_false, Bool.true_and, decide_eq_true_eq] at hc
          omega
      exact fin _ _ _ s.drawn (fun b o q => q) (Nat.le_succ _) (Nat.le_refl _) (fun p e => by cases e) (.one 0 hw (by rw [hl, hw]; rfl) h1 rfl (fun _ => rfl) (fun j e => by cases e)) (List.Perm.refl _)
end
end L2
namespace L2
open PySem PySem.Spec PyProof.Rows PySem.Calls
section
variable {P : Program} {w : World} {A : Around} {E : Value -> Shared -> Prop} {s : Shared} {I a : Addr} {es : Array (Int × Value)} {ep : Nat} {t : SetTable}
def ItS (w : World) (I a : Addr) (es : Array (Int × Value)) (ep : Nat) (t : SetTable) (vs : List Value) (fp : Option Addr) (i : Nat) (h : Heap) : Prop :=
 ∃ f0, h.get? I = some (itO f0 i a es.size ep) /\ Ord w h a es ep t f0 i vs /\ SAt h a es ep t /\ (∀ p, f0 = .ref p -> fp = some p)
theorem Xh2 {i : Nat} {f0 : Value} {Q : Fin -> Shared -> Prop} (hI : s.heap.get? I = some (itO f0 i a es.size ep)) (hS : SAt s.heap a es ep t)
  (h1 : ∀ sl, f0 = .int sl 0 -> wpAny (model P w) A (do
   match <- setNext a sl.toNat i ep with
   | some (x, next) => setField (.ref I) 0 (rawInt next); setField (.ref I) 1 (rawInt ((i : Int) + 1)); ret x
   | none => setField (.ref I) 2 .none; raiseNew (<- newExc (.type "StopIteration") [])) Q E s)
  (h2 : ∀ p, f0 = .ref p -> wpAny (model P w) A (do
   let some places <- seqItems? (.ref p) | unsupported "internal:set_iterator"
   match places[i]? with
   | some (.int place _) => let x <- setNextDrawn a place.toNat ep; setField (.ref I) 1 (rawInt ((i : Int) + 1)); ret x
   | some _ => unsupported "internal:set_iterator"
   | none => setField (.ref I) 0 (rawInt 0); setField (.ref I) 2 .none; raiseNew (<- newExc (.type "StopIteration") [])) Q E s)
  (hf : (∃ sl, f0 = .int sl 0) \/ ∃ p, f0 = .ref p) : wpAny (model P w) A (Builtin.«set_iterator.__next__» ⟨[.ref I], []⟩) Q E s := by
 obtain ⟨o, ho, hex, hd, hft⟩ := id hS
 unfold Builtin.«set_iterator.__next__» slotArgs
 simp only [List.isEmpty_nil, Bool.not_true, Bool.false_eq_true, ↓reduceIte, bind_assoc, List.length_nil, bne_self_eq_false]
 refine wpAny_bind (wpAny_pure ?_)
 dsimp only
 refine wpAny_bind (wpAny_fieldsOf hI rfl ?_)
 dsimp only
 refine wpAny_bind (wpAny_setEntries_of ho hd hft ?_)
 rw [if_neg (by simp)]
 rcases hf with ⟨sl, rfl⟩ | ⟨p, rfl⟩
 ·exact h1 sl rfl
 ·exact h2 p rfl
theorem Xkm {h : Heap} {f0 x : Value} {i j n : Nat} (hI : h.get? I = some (itO f0 i a n ep)) (k : Nat) (v : Value) :
  (h.update I (Obj.mapFields (·.setIfInBounds k v))).get? I = some { cls := .type "set_iterator", data := .fields ((#[f0, .int i 0, .ref a, .int n 0, .int ep 0] : Array Value).setIfInBounds k v) } :=
 Heap.get?_update_self _ hI rfl
theorem SAt.at {h h' : Heap} (x : SAt h a es ep t) (k : ∀ o, h.get? a = some o -> h'.get? a = some o) : SAt h' a es ep t := by
 obtain ⟨o, ho, r⟩ := x
 exact ⟨o, k o ho, r⟩
theorem Xdc {sl i : Nat} {Q : Option (Value × Nat) -> Shared -> Prop} (hw : Xc9 w = true) (hS : SAt s.heap a es ep t) (h : Q (((pickOrder (w.params.setOrder a ep) es)[i]?).map fun e => (e.2, sl)) s) : wpAny (model P w) A (setNext a sl i ep) Q E s := by
 obtain ⟨o, ho, hex, hd, hf⟩ := id hS
 unfold setNext setsByText
 refine wpAny_bind (wpAny_setState_of ho hd hf ?_)
 dsimp only
 refine wpAny_bind (wpAny_bind (wpAny_askSetting (wpAny_pure ?_)))
 rw [if_pos (show (model P w).w.params.followText "set-order" = true from hw), if_neg (by simp)]
 unfold setWalk setsByText
 refine wpAny_bind (wpAny_bind (wpAny_setState_of ho hd hf ?_))
 dsimp only
 refine wpAny_bind (wpAny_bind (wpAny_askSetting (wpAny_pure ?_)))
 rw [if_pos (show (model P w).w.params.followText "set-order" = true from hw)]
 exact wpAny_bind (wpAny_askSetting (wpAny_pure (wpAny_pure h)))
theorem Xdd {sl i : Nat} {Q : Option (Value × Nat) -> Shared -> Prop} (hw : Xc9 w = false) (hl : t.led = true) (h1 : es.size <= 1) (hS : SAt s.heap a es ep t)
  (h : Q (match es[SetTable.below t.place sl]?, t.place[SetTable.below t.place sl]? with | some (_, x), some j => some (x, j + 1) | _, _ => none) s) : wpAny (model P w) A (setNext a sl i ep) Q E s := by
 obtain ⟨o, ho, hex, hd, hf⟩ := id hS
 unfold setNext setsByText
 refine wpAny_bind (wpAny_setState_of ho hd hf ?_)
 dsimp only
 refine wpAny_bind (wpAny_bind (wpAny_askSetting (wpAny_pure ?_)))
 rw [if_neg (show ¬ (model P w).w.params.followText "set-order" = true from by show ¬ Xc9 w = true; rw [hw]; decide)]
 have d1 : (!t.plain && decide (es.size > 1)) = false := by rw [decide_eq_false (by omega), Bool.and_false]
 refine wpAny_ite_split (fun z => ?_) (fun _ => ?_)
 ·have z' : (!t.plain && decide (es.size > 1)) = true := z
  rw [d1] at z'
  cases z'
 refine wpAny_bind ?_
 have m1 : (!t.led && !es.isEmpty) = false := by rw [hl]; rfl
 refine wpAny_ite_split (fun z => ?_) (fun _ => wpAny_pure (wpAny_pure h))
 have z' : (!t.led && !es.isEmpty) = true := z
 rw [m1] at z'
 cases z'
theorem Xll {t : SetTable} (h : t.place.size <= 1) : SetTable.below t.place 0 = 0 := by
 generalize t.place = pl at *
 obtain ⟨l⟩ := pl
 match l, h with
 | [], _ => rfl
 | [x], _ => simp [SetTable.below, SetTable.below.go]
theorem Xm3 {t : SetTable} {j : Nat} (h : t.place.size <= 1) (hj : t.place[0]? = some j) : SetTable.below t.place (j + 1) = 1 := by
 generalize t.place = pl at *
 obtain ⟨l⟩ := pl
 match l, h, hj with
 | [x], _, hj =>
  have : x = j := by simpa using hj
  subst this
  simp [SetTable.below, SetTable.below.go]
theorem Xh3 {n : Nat} (h : t.fits n = true) : t.place.size = n := by
 unfold SetTable.fits at h
 simp only [Bool.and_eq_true, beq_iff_eq] at h
 exact h.1
end
section
variable {P : Program} {w : World} {A : Around} {E : Value -> Shared -> Prop} {s : Shared} {I a : Addr} {es : Array (Int × Value)} {ep : Nat} {t : SetTable} {vs : List Value} {fp : Option Addr}
theorem Ord.cases0 {h : Heap} {f0 : Value} {i : Nat} (x : Ord w h a es ep t f0 i vs) : (∃ sl : Int, f0 = .int sl 0) \/ ∃ p, f0 = .ref p := by
 cases x with
 | txt _ e => exact .inl ⟨0, e⟩
 | drw p os _ _ e _ => exact .inr ⟨p, e⟩
 | one sl _ _ _ e _ _ => exact .inl ⟨sl, e⟩
theorem Xm4 {i : Nat} {Q : Option Value -> Shared -> Prop} (st : ItS w I a es ep t vs fp i s.heap) (hi : i < vs.length) (hl : vs.length = es.size) (nIa : a ≠ I) (nIp : ∀ p, fp = some p -> p ≠ I)
  (hQ : ∀ h', ItS w I a es ep t vs fp (i + 1) h' -> Heap.SameBut I s.heap h' -> Q (some vs[i]) { s with heap := h' }) : wpAny (model P w) A (pyNext (.ref I)) Q E s := by
 obtain ⟨f0, hI, hO, hS, hp⟩ := st
 have hT : s.TypeIs (.ref I) "set_iterator" := ⟨_, hI, rfl⟩
 unfold pyNext
 refine wpAny_bind (wpAny_attempt (wpAny_callSpecial?_slot (name := Str.ofString "__next__") hT SF.sNext (wpAny_call_entry SF.sNext hT SF.eNext ?_ (SF.aNext _))))
 have e1 : ((i : Int) + 1) = ((i + 1 : Nat) : Int) := by omega
 have fin : ∀ (E' : Value -> Shared -> Prop) (nx : Nat), Ord w ((s.heap.update I (Obj.mapFields (·.setIfInBounds 0 (rawInt nx)))).update I (Obj.mapFields (·.setIfInBounds 1 (rawInt ((i : Int) + 1))))) a es ep t (.int nx 0) (i + 1) vs ->
   wpAny (model P w) A.in1 (do
    setField (.ref I) 0 (rawInt nx)
    setField (.ref I) 1 (rawInt ((i : Int) + 1))
    ret vs[i]) (fun fin s' => ∃ r, fin = .done (.ret r) /\ wpAny (model P w) A (pure (some r)) Q E s') E' s := fun E' nx O => by
  refine wpAny_bind (wpAny_setField hI rfl (by simp) ?_)
  refine wpAny_bind (wpAny_setField (Xkm (x := .none) (j := 0) hI 0 (rawInt nx)) rfl (by simp) ?_)
  have g := Heap.get?_update_self (Obj.mapFields (·.setIfInBounds 1 (rawInt ((i : Int) + 1)))) (Xkm (x := .none) (j := 0) hI 0 (rawInt nx)) rfl
  refine wpAny_pure ⟨_, rfl, wpAny_pure (hQ _ ⟨_, g.trans ?_, O, hS.at fun o q => ?_, fun p z => by cases z⟩ ((Heap.SameBut.update ..).trans (Heap.SameBut.update ..)))⟩
  ·rw [e1]
   rfl
  ·rw [((Heap.SameBut.update s.heap I _).trans (Heap.SameBut.update _ I _)).2 a nIa]
   exact q
 refine Xh2 hI hS (fun sl e => ?_) (fun p e => ?_) hO.cases0
 ·subst e
  cases hO with
  | txt hw e =>
   cases e
   have hi2 : i < (pickOrder (w.params.setOrder a ep) es).size := by simpa using hi
   refine wpAny_bind (Xdc hw hS ?_)
   rw [getElem?_pos _ i hi2]
   have ev : ((pickOrder (w.params.setOrder a ep) es).toList.map (·.2))[i] = ((pickOrder (w.params.setOrder a ep) es)[i]).2 := by simp
   have f := fun E' => fin E' 0 (.txt hw rfl)
   rw [ev] at f
   exact f _
  | drw p os _ _ e _ => cases e
  | one sl' hw hld h1 e hz ho =>
   cases e
   obtain ⟨_, _, _, _, hft⟩ := id hS
   have hps := Xh3 hft
   have i0 : i = 0 := by
    have : i < es.size := by rw [<- hl]; exact hi
    omega
   subst i0
   have z0 := hz rfl
   subst z0
   have he : 0 < es.size := by rw [<- hl]; exact hi
   have hpl : 0 < t.place.size := by rw [hps]; exact he
   refine wpAny_bind (Xdd hw hld h1 hS ?_)
   have b0 : SetTable.below t.place ((0 : Nat) : Int).toNat = 0 := Xll (by rw [hps]; exact h1)
   rw [b0, getElem?_pos es 0 he, getElem?_pos t.place 0 hpl]
   have ev : (es.toList.map (·.2))[0] = (es[0]).2 := by simp
   have f := fun E' => fin E' (t.place[0] + 1) (.one (t.place[0] + 1) hw hld h1 rfl (fun z => by cases z) (fun j _ q => by rw [getElem?_pos t.place 0 hpl] at q; cases q; rfl))
   rw [ev] at f
   exact f _
 ·subst e
  cases hO with
  | txt hw e => cases e
  | one sl' hw hld h1 e hz ho => cases e
  | drw p' os hw hp2 e htp =>
   cases e
   obtain ⟨n, htp⟩ := htp
   have hil : i < os.length := by simpa using hi
   have hos : os[i] < es.size := List.mem_range.mp (hp2.mem_iff.mp (List.getElem_mem hil))
   refine wpAny_bind (wpAny_seqItems htp rfl ?_)
   have g : ((os.map fun j => Value.int (j : Nat) 0).toArray)[i]? = some (.int ((os[i] : Nat) : Int) 0) := by simp [hil]
   dsimp only
   rw [g]
   dsimp only
   obtain ⟨o, ho, hex, hd, hft⟩ := id hS
   unfold setNextDrawn
   refine wpAny_bind (wpAny_bind (wpAny_setState_of ho hd hft ?_))
   dsimp only
   rw [if_neg (by simp), show ((os[i] : Nat) : Int).toNat = os[i] from Int.toNat_natCast _, getElem?_pos es _ hos]
   refine wpAny_pure ?_
   refine wpAny_bind (wpAny_setField hI rfl (by simp) ?_)
   have ev : (os.map fun j => ((es[j]?).map (·.2)).getD Value.none)[i] = (es[os[i]]).2 := by simp [hos]
   have g2 := Xkm (x := .none) (j := 0) hI 1 (rawInt ((i : Int) + 1))
   have nI2 : p ≠ I := nIp p (hp p rfl)
   have q := hQ (s.heap.update I (Obj.mapFields (·.setIfInBounds 1 (rawInt ((i : Int) + 1))))) ⟨_, g2.trans (by rw [e1]; rfl), .drw p os hw hp2 rfl ⟨n, ?_⟩, hS.at fun o q => ?_, fun p' z => hp p' z⟩ (Heap.SameBut.update ..)
   ·rw [ev] at q
    exact wpAny_pure ⟨_, rfl, wpAny_pure q⟩
   ·rw [(Heap.SameBut.update s.heap I _).2 p nI2]
    exact htp
   ·rw [(Heap.SameBut.update s.heap I _).2 a nIa]
    exact q
end
section
variable {P : Program} {w : World} {A : Around} {E : Value -> Shared -> Prop} {s : Shared} {I a : Addr} {es : Array (Int × Value)} {ep : Nat} {t : SetTable} {vs : List Value} {fp : Option Addr}
theorem Xh4 {α : Type} {h0 : Heap} {Q : α -> Shared -> Prop} {E' : Value -> Shared -> Prop} (hh : A.handled = none)
  (k : ∀ e h', (∀ b o, s.heap.get? b = some o -> h'.get? b = some o) -> Shared.TypeIs { s with heap := h' } e "StopIteration" -> E' e { s with heap := h' }) :
  wpAny (model P w) A (do raiseNew (<- newExc (.type "StopIteration") []) : Sem α) Q E' s := by
 refine wpAny_bind ?_
 simp only [newExc, newTuple]
 refine wpAny_bind (wpAny_newObj_type ?_ (by size_fits))
 refine wpAny_bind (m := firstArgMember _ _) (wpAny_of_eq (a := Value.none) (by first | rfl | (simp only [firstArgMember]; rfl)) ?_)
 refine wpAny_newObj_type ?_ (by size_fits)
 simp only [raiseNew]
 refine wpAny_bind (wpAny_handled ?_)
 rw [hh]
 refine wpAny_bind (wpAny_pure (wpAny_throw ?_))
 exact k _ _ (fun b o q => Heap.get?_push_of_some _ (Heap.get?_push_of_some _ q)) ⟨_, Heap.get?_push_size _ rfl, rfl⟩
theorem next_end {Q : Option Value -> Shared -> Prop} (hh : A.handled = none) (st : ItS w I a es ep t vs fp vs.length s.heap) (hl : vs.length = es.size)
    (hQ : ∀ h', (∀ b o, b ≠ I -> s.heap.get? b = some o -> h'.get? b = some o) -> Q none { s with heap := h' }) : wpAny (model P w) A (pyNext (.ref I)) Q E s := by
  obtain ⟨f0, hI, hO, hS, hp⟩ := st
  have hT : s.TypeIs (.ref I) "set_iterator" := ⟨_, hI, rfl⟩
  unfold pyNext
  refine wpAny_bind (wpAny_attempt (wpAny_callSpecial?_slot (name := Str.ofString "__next__") hT SF.sNext (wpAny_call_entry SF.sNext hT SF.eNext ?_ (SF.aNext _))))
  have hh1 : A.in1.handled = none := hh
  have stp : ∀ (e : Value) (h' : Heap), (∀ b o, b ≠ I -> s.heap.get? b = some o -> h'.get? b = some o) -> Shared.TypeIs { s with heap := h' } e "StopIteration" ->
      wpAny (model P w) A (do if <- isInstance e (.type "StopIteration") then pure none else throw e) Q E { s with heap := h' } := fun e h' k ty =>
    wpAny_bind (wpAny_isInstance (T := "StopIteration") (b := true) ty isSubtype_stop (wpAny_pure (hQ h' k)))
  have keep1 : ∀ (f : Obj -> Obj) b o, b ≠ I -> s.heap.get? b = some o -> (s.heap.update I f).get? b = some o := fun f b o nb q => by
    rw [(Heap.SameBut.update s.heap I f).2 b nb]
    exact q
  have fin : ∀ (Q' : PySem.Fin -> Shared -> Prop), wpAny (model P w) A.in1 (do
        setField (.ref I) 2 .none
        raiseNew (<- newExc (.type "StopIteration") [])) Q' (fun e s' => wpAny (model P w) A (do if <- isInstance e (.type "StopIteration") then pure none else throw e) Q E s') s := fun Q' => by
    refine wpAny_bind (wpAny_setField hI rfl (by simp) ?_)
    refine Xh4 (h0 := s.heap) (s := { s with heap := s.heap.update I (Obj.mapFields (·.setIfInBounds 2 Value.none)) }) hh1 fun e h' k ty => ?_
    exact stp e h' (fun b o nb q => k b o (keep1 _ b o nb q)) ty
  refine Xh2 hI hS (fun sl e => ?_) (fun p e => ?_) hO.cases0
  . subst e
    cases hO with
    | txt hw e =>
      cases e
      refine wpAny_bind (Xdc hw hS ?_)
      rw [getElem?_neg _ _ (by simp)]
      exact fin _
    | drw p os _ _ e _ => cases e
    | one sl' hw hld h1 e hz ho =>
      cases e
      obtain ⟨_, _, _, _, hft⟩ := id hS
      have hps := Xh3 hft
      refine wpAny_bind (Xdd hw hld h1 hS ?_)
      have hn : es[SetTable.below t.place ((sl' : Nat) : Int).toNat]? = none := by
        rw [Int.toNat_natCast]
        by_cases h0 : es.size = 0
        . exact getElem?_neg _ _ (by omega)
        . have e1 : es.size = 1 := by omega
          have hpl : 0 < t.place.size := by rw [hps, e1]; decide
          have := ho t.place[0] (by rw [hl, e1]) (getElem?_pos t.place 0 hpl)
          rw [this, Xm3 (by rw [hps]; exact h1) (getElem?_pos t.place 0 hpl)]
          exact getElem?_neg _ _ (by omega)
      rw [hn]
      exact fin _
  . subst e
    cases hO with
    | txt hw e => cases e
    | one sl' hw hld h1 e hz ho => cases e
    | drw p' os hw hp2 e htp =>
      cases e
      obtain ⟨n, htp⟩ := htp
      refine wpAny_bind (wpAny_seqItems htp rfl ?_)
      dsimp only
      rw [getElem?_neg _ _ (by simp)]
      dsimp only
      refine wpAny_bind (wpAny_setField hI rfl (by simp) ?_)
      refine wpAny_bind (wpAny_setField (Xkm (x := .none) (j := 0) hI 0 (rawInt 0)) rfl (by simp) ?_)
      refine Xh4 (h0 := s.heap) (s := { s with heap := (s.heap.update I (Obj.mapFields (·.setIfInBounds 0 (rawInt 0)))).update I (Obj.mapFields (·.setIfInBounds 2 Value.none)) }) hh1 fun e h' k ty => ?_
      refine stp e h' (fun b o nb q => k b o ?_) ty
      show ((s.heap.update I _).update I _).get? b = some o
      rw [(Heap.SameBut.update _ I _).2 b nb]
      exact keep1 _ b o nb q
end
namespace SF
theorem sSelf : Slot "set_iterator" "__iter__" "set_iterator.__iter__" := .of (owner := "set_iterator") (n := "__iter__") (by rw [typeLookup_type, builtinLookup_eq_fast]; kernel_rfl) (by decide +kernel) (by decide +kernel) (by decide +kernel) (by first | exact .inl (by decide +kernel) | exact .inr (by decide +kernel)) (by rw [isSubtype_type]; kernel_rfl)
theorem eSelf : entryFor table "set_iterator.__iter__" = some Builtin.«dict_keyiterator.__iter__» := entryFor_alias (id' := "dict_keyiterator.__iter__") (by kernel_rfl) rfl (by decide +kernel) (by kernel_rfl)
theorem aSelf (a : Value) : argsOk "set_iterator.__iter__" ⟨[a], []⟩ := by unfold argsOk; kernel_rfl
end SF
section
variable {P : Program} {w : World} {A : Around} {E : Value -> Shared -> Prop} {s : Shared} {I a : Addr} {es : Array (Int × Value)} {ep : Nat} {t : SetTable} {vs : List Value} {fp : Option Addr} {ks : List Str}
theorem ItS.at {i : Nat} {h h' : Heap} (x : ItS w I a es ep t vs fp i h) (k : ∀ b ∈ I :: a :: fp.toList, ∀ o, h.get? b = some o -> h'.get? b = some o) : ItS w I a es ep t vs fp i h' := by
 obtain ⟨f0, h1, h2, h3, h4⟩ := x
 refine ⟨f0, k I (by simp) _ h1, ?_, h3.at fun o q => k a (by simp) o q, h4⟩
 cases h2 with
 | txt e1 e2 => exact .txt e1 e2
 | drw p os e1 e2 e3 e4 =>
  obtain ⟨n, e4⟩ := e4
  exact .drw p os e1 e2 e3 ⟨n, k p (by rw [h4 p e3]; simp) _ e4⟩
 | one sl e1 e2 e3 e4 e5 e6 => exact .one sl e1 e2 e3 e4 e5 e6
theorem Xm5 (hh : A.handled = none) (hl : vs.length = es.size) (nIa : a ≠ I) (nIp : ∀ p, fp = some p -> p ≠ I) : Walks P w A I (I :: a :: fp.toList) [I] vs.length (fun i v => vs[i]? = some v) (ItS w I a es ep t vs fp) where
 sub := fun b hb => by simp at hb; simp [hb]
 frame := fun _ _ _ st hk => st.at hk
 item := fun i s Q E hi st hQ => by
  refine Xm4 st hi hl nIa nIp fun h' st' sb => ?_
  exact hQ vs[i] h' s.toks (by simp [hi]) st' fun b o hb e => by rw [sb.2 b (fun z => hb (by simp [z]))]; exact e
 done := fun s Q E st hQ => next_end hh st hl fun h' k => hQ h' s.toks fun b o hb e => k b o (fun z => hb (by simp [z])) e
 self := fun i s Q E st hQ => by
  obtain ⟨f0, h1, _⟩ := st
  have hT : s.TypeIs (.ref I) "set_iterator" := ⟨_, h1, rfl⟩
  refine wpAny_pyIter_slot hT SF.sSelf (wpAny_call_entry SF.sSelf hT SF.eSelf ?_ (SF.aSelf _))
  show wpAny _ _ (ret (.ref I)) _ _ s
  exact wpAny_pure ⟨_, rfl, "set_iterator", _, hT, SF.sNext.lookup, hQ⟩
theorem hint_set {r : Addr} {Q : Bool -> Shared -> Prop} (hT : s.TypeIs (.ref r) "set") (h : Q false s) : wpAny (model P w) A (Builtin.List.listLengthHint (.ref r)) Q E s := by
 unfold Builtin.List.listLengthHint
 refine wpAny_bind (wpAny_specialOf hT PySem.F.slot_set_len.lookup ?_)
 generalize hid : ("set.__len__" : String) = id0
 wp_delta
 rw [show splitId id0 = some ("set", "__len__") from by subst hid; decide +kernel]
 subst hid
 refine wpAny_bind (wpAny_isInstance (T := "set") (b := true) hT (by rw [isSubtype_type]; kernel_rfl) ?_)
 refine wpAny_ite_split (fun z => absurd z (by decide)) (fun _ => ?_)
 refine wpAny_ite_split (fun _ => ?_) (fun z => absurd (by decide +kernel) z)
 exact wpAny_bind (wpAny_typeOf hT (wpAny_pure h))
end
end L2
namespace L2
open PySem PySem.Spec PyProof.Rows PySem.Calls
section
variable {P : Program} {w : World} {A : Around} {E : Value -> Shared -> Prop} {s : Shared} {a : Addr} {ks : List Str}
theorem Xlm {R : Result -> Shared -> Prop} {S : Addr} {res : Value} {c0 : Nat} (hh : A.handled = none) (hs : SSet P w s.heap a ks) (nS : S ≠ a) (gS : s.heap.get? S = some { cls := .type "list", data := .seq #[] c0 })
  (hR : ∀ s' acc c vs ls, (∀ b o, b ≠ S -> s.heap.get? b = some o -> s'.heap.get? b = some o) -> s'.os = s.os -> s'.gens = s.gens -> s'.heap.get? S = some { cls := .type "list", dict := none, data := .seq acc c, slots := #[] } -> acc.toList = vs -> StrsAre vs ls -> ls.Perm ks -> R (.ok (.ret res)) s') :
  wpAny (model P w) A.in1 (Builtin.List.listExtendWith (.ref S) (.ref a) res)
   (fun fin s' => match fin with | .done f => R (.ok f) s' | .again c' => c'.quiet = true /\ codeAny (model P w) A c' R s') (fun e s' => R (.error e) s') s := by
 obtain ⟨o, es, ep, t, ls0, ho, hex, hd, hel, hst, hpm, hb, hf, hl, hpl⟩ := id hs
 have hT : s.TypeIs (.ref a) "set" := ⟨o, ho, hex.1⟩
 have la := Heap.lt_size ho
 have lS := Heap.lt_size gS
 unfold Builtin.List.listExtendWith
 refine wpAny_bind (wpAny_typeOf (T := "set") hT ?_)
 have n1 : Builtin.List.listSameRef (.ref S) (.ref a) = false := by simp [Builtin.List.listSameRef, nS]
 have n2 : (Value.type "set" == Value.type "list") = false := by decide
 have n3 : (Value.type "set" == Value.type "tuple") = false := by decide
 simp only [n1, n2, n3, Bool.or_false, Bool.false_eq_true, if_false]
 refine wpAny_bind (iter_set ⟨o, ho, hex, hd, hf⟩ hb hl hpl fun f0 vs h1 d k1 z1 z2 kp O pv => ?_)
 have hvl : vs.length = es.size := by rw [pv.length_eq, List.length_map, Array.length_toList]
 have nI : ∀ b, b < h1.objs.size -> b ≠ h1.objs.size := fun b q => Nat.ne_of_lt q
 have kI : ∀ b o, s.heap.get? b = some o -> (h1.push (itO f0 0 a es.size ep)).get? b = some o := fun b o q => Heap.get?_push_of_some _ (k1 b o q)
 obtain ⟨fp, hfp⟩ : ∃ fp : Option Addr, (∀ p, f0 = .ref p -> fp = some p) /\ ∀ p, fp = some p -> p ≠ h1.objs.size /\ p ≠ S := by
  cases f0 with
  | ref p =>
   refine ⟨some p, ⟨fun q e => (by cases e; rfl), fun q e => ?_⟩⟩
   cases e
   refine ⟨Nat.ne_of_lt (kp p rfl), fun z => ?_⟩
   subst z
   cases O with
   | drw p' os _ _ e ht =>
    cases e
    obtain ⟨n, ht⟩ := ht
    rw [kI _ _ gS] at ht
    have hc := congrArg Obj.cls (Option.some.inj ht)
    exact absurd hc (by simp)
   | txt _ e => cases e
   | one _ _ _ _ e _ _ => cases e
  | _ => exact ⟨none, ⟨fun q e => (by cases e), fun q e => (by cases e)⟩⟩
 have st0 : ItS w h1.objs.size a es ep t vs fp 0 (h1.push (itO f0 0 a es.size ep)) := ⟨f0, Heap.get?_push_size _ rfl, O, ⟨o, kI _ _ ho, hex, hd, hf⟩, hfp.1⟩
 have W := Xm5 (P := P) (w := w) (A := A.in1) (I := h1.objs.size) (a := a) (es := es) (ep := ep) (t := t) (vs := vs) (fp := fp) hh hvl (Nat.ne_of_lt (Nat.lt_of_lt_of_le la z2)) (fun p e => (hfp.2 p e).1)
 have nSf : S ∉ h1.objs.size :: a :: fp.toList := by
  simp only [List.mem_cons, not_or]
  refine ⟨Nat.ne_of_lt (Nat.lt_of_lt_of_le lS z2), nS, fun z => ?_⟩
  cases hfq : fp with
  | none => rw [hfq] at z; simp at z
  | some p =>
   rw [hfq] at z
   have : S = p := by simpa using z
   exact (hfp.2 p hfq).2 this.symm
 have key : ∀ (h : Heap) (c1 : Nat), ItS w h1.objs.size a es ep t vs fp 0 h -> (∀ b o, b ≠ S -> s.heap.get? b = some o -> h.get? b = some o) -> h.get? S = some { cls := .type "list", data := .seq #[] c1 } ->
   codeAny (model P w) A (.builtin "list.extend.loop" ⟨[.ref S, .ref h1.objs.size, res], []⟩) R { s with heap := h, drawn := d } := by
  intro h c1 hst1 hk gS1
  refine codeAny_extend_loopS W.toS (by rw [hvl]; exact fits_of_scanBound hb) S nSf res vs.length 0 _ #[] c1 rfl (Nat.zero_le _) hst1 gS1 (ItemsOf.nil _) fun s' acc c hm gS' hacc => ?_
  have hav : acc.toList = vs := by
   apply List.ext_getElem?
   intro i
   by_cases hi : i < vs.length
   ·have hi2 : i < acc.size := by rw [hacc.1]; exact hi
    have := hacc.2 i acc[i] (getElem?_pos acc i hi2)
    rw [this]
    simp [hi2]
   ·rw [List.getElem?_eq_none (by rw [Array.length_toList, hacc.1]; omega), List.getElem?_eq_none (by omega)]
  have hls : StrsAre vs (vs.map strOf) := strsAre_map vs fun v hv => hst.all v (pv.mem_iff.mp hv)
  refine hR s' acc c vs (vs.map strOf) (fun b o nb q => hm.heap b o (fun z => ?_) (hk b o nb q)) hm.os hm.gens gS' hav hls ?_
  ·rcases List.mem_cons.mp z with z | z
   ·exact nb z
   ·exact absurd (Nat.lt_of_lt_of_le (Heap.lt_size q) z2) (by rw [List.mem_singleton.mp z]; exact Nat.lt_irrefl _)
  ·have := pv.map strOf
   rw [hst.strs] at this
   exact this.trans hpm
 have gS1 := kI _ _ gS
 have hT1 : Shared.TypeIs { s with heap := h1.push (itO f0 0 a es.size ep), drawn := d } (.ref a) "set" := ⟨o, kI _ _ ho, hex.1⟩
 refine wpAny_bind (wpAny_holding (hint_set hT1 ?_))
 refine wpAny_ite_split (fun _ => ?_) (fun _ => wpAny_pure ⟨plainId_quiet PySem.F.plain_extend_loop _, key _ c0 st0 (fun b o _ q => kI b o q) gS1⟩)
 refine wpAny_bind (wpAny_rule (wpAny_bind ?_))
 show wpAny _ _ (updateSeq S (·.push .none) >>= fun _ => updateSeq S (·.pop)) _ _ _
 refine wpAny_bind (wpAny_updateSeq gS1 rfl ?_)
 have gS2 := Heap.get?_update_self (Obj.mapSeq (·.push Value.none)) gS1 rfl
 refine wpAny_updateSeq (hz := by seq_fits) gS2 rfl ?_
 have gS3 := Heap.get?_update_self (Obj.mapSeq (·.pop)) gS2 rfl
 have other : ∀ b, b ≠ S -> (((h1.push (itO f0 0 a es.size ep)).update S (Obj.mapSeq (·.push Value.none))).update S (Obj.mapSeq (·.pop))).get? b = (h1.push (itO f0 0 a es.size ep)).get? b := fun b nb =>
  (Heap.get?_update_other _ _ (Ne.symm nb)).trans (Heap.get?_update_other _ _ (Ne.symm nb))
 refine wpAny_pure ⟨plainId_quiet PySem.F.plain_extend_loop _, key _ _ (st0.at fun b hb2 o q => ?_) (fun b o nb q => ?_) gS3⟩
 ·rw [other b (fun z => nSf (z ▸ hb2))]
  exact q
 ·rw [other b nb]
  exact kI b o q
theorem Xje {R : List Value -> Shared -> Prop} (hh : A.handled = none) (hs : SSet P w s.heap a ks)
    (h : ∀ s' vs ls, (∀ b o, s.heap.get? b = some o -> s'.heap.get? b = some o) -> s'.os = s.os -> s'.gens = s.gens -> StrsAre vs ls -> ls.Perm ks -> R vs s') : wpAny (model P w) A (collect (.ref a)) R E s := by
  have la : a < s.heap.objs.size := by obtain ⟨o, _, _, _, _, g, _⟩ := hs; exact Heap.lt_size g
  unfold collect
  refine wpAny_bind (wpAny_runValue (codeAny_builtin entry_proto_collect' ?_))
  rw [Around.under_plainId PySem.F.plain_proto_collect _]
  show wpAny _ A.in1 (newList [] >>= fun l => again (.builtin "list.__iadd__" ⟨[l, Value.ref a], []⟩)) _ _ s
  refine wpAny_bind (wpAny_newObj_type ?_)
  refine wpAny_pure ⟨plainId_quiet PySem.F.plain_list_iadd _, codeAny_builtin entry_list_iadd' ?_⟩
  rw [Around.under_plainId PySem.F.plain_list_iadd _]
  have gS : (s.heap.push { cls := .type "list", data := .seq ([] : List Value).toArray }).get? s.heap.objs.size = some { cls := .type "list", data := .seq #[] 0 } := Heap.get?_push_size _ rfl
  show wpAny _ A.in1 (Builtin.List.listExtendWith (.ref s.heap.objs.size) (.ref a) (.ref s.heap.objs.size)) _ _ _
  have key := Xlm (A := A) (s := { s with heap := s.heap.push { cls := .type "list", data := .seq ([] : List Value).toArray } }) (S := s.heap.objs.size) (res := .ref s.heap.objs.size)
    (R := fun q s' => ∃ acc c vs ls, q = .ok (.ret (.ref s.heap.objs.size)) /\ (∀ b o, s.heap.get? b = some o -> s'.heap.get? b = some o) /\ s'.os = s.os /\ s'.gens = s.gens /\ s'.heap.get? s.heap.objs.size = some { cls := .type "list", dict := none, data := .seq acc c, slots := #[] } /\ acc.toList = vs /\ StrsAre vs ls /\ ls.Perm ks)
    hh (hs.stay fun o q => Heap.get?_push_of_some _ q) (Nat.ne_of_gt la) gS (fun s' acc c vs ls k e1 e2 g e3 e4 e5 => ⟨acc, c, vs, ls, rfl, fun b o q => k b o (Nat.ne_of_lt (Heap.lt_size q)) (Heap.get?_push_of_some _ q), e1, e2, g, e3, e4, e5⟩)
  have done : ∀ (q : Result) (s' : Shared), (∃ acc c vs ls, q = .ok (.ret (.ref s.heap.objs.size)) /\ (∀ b o, s.heap.get? b = some o -> s'.heap.get? b = some o) /\ s'.os = s.os /\ s'.gens = s.gens /\ s'.heap.get? s.heap.objs.size = some { cls := .type "list", dict := none, data := .seq acc c, slots := #[] } /\ acc.toList = vs /\ StrsAre vs ls /\ ls.Perm ks) ->
      wants (fun v s2 => wpAny (model P w) A (match v with
        | .ref l => (do match (<- load l).data with
                        | .seq xs _ => pure xs.toList
                        | _ => unsupported "internal:collect")
        | _ => unsupported "internal:collect") R E s2) E q s' := fun q s' ⟨acc, c, vs, ls, e0, k, e1, e2, g, e3, e4, e5⟩ => by
    subst e0
    show wpAny _ A (load s.heap.objs.size >>= _) _ _ s'
    refine wpAny_bind (wpAny_load g ?_)
    refine wpAny_pure ?_
    rw [e3]
    exact h s' vs ls k e1 e2 e4 e5
  refine wpAny_mono key (fun fin s' x => ?_) fun e s' x => ?_
  . cases fin with
    | done f => exact done _ _ x
    | again c1 => exact ⟨x.1, codeAny_mono x.2 fun q s2 y => done q s2 y⟩
  . obtain ⟨_, _, _, _, e', _⟩ := x
    cases e'
end
section
variable {X : Cx} {pins : List (Addr × Obj)} {σ : St} {H : Hp} {s s' : Shared}
theorem Inv.moved (I : Inv X pins σ H s) (k : ∀ b u, s.heap.get? b = some u -> s'.heap.get? b = some u) (ho : s'.os = s.os) (hg : s'.gens = s.gens) : Inv X pins σ H s' := by
 have J := I.kept (h' := s'.heap) (t' := s'.toks) k
 exact ⟨J.ok, ho.trans I.os, by rw [hg]; exact I.bare, J.base, J.loc, J.cell, J.free, J.freeC, J.pin, J.hok, J.len⟩
theorem Inv.laidM {a : Addr} {o : HO} (I : Inv X pins σ H s) (k : ∀ b u, s.heap.get? b = some u -> s'.heap.get? b = some u) (ho : s'.os = s.os) (hg : s'.gens = s.gens) (hp : s.heap.objs.size <= a) (new : Xa5 X.prog X.w (upd H a o) s'.heap a o) : Inv X pins σ (upd H a o) s' := by
 have J := I.laid (h' := s'.heap) (t' := s'.toks) k hp new
 exact ⟨J.ok, ho.trans I.os, by rw [hg]; exact I.bare, J.base, J.loc, J.cell, J.free, J.freeC, J.pin, J.hok, J.len⟩
end
section
variable {P : Program} {w : World} {A : Around} {E : Value -> Shared -> Prop} {s : Shared} {ks : List Str}
theorem Xcx {r : Addr} {Q : Value -> Shared -> Prop} (h64 : ks.length < 64)
  (hc : ∀ (R : List Value -> Shared -> Prop), (∀ s' vs ls, (∀ b o, s.heap.get? b = some o -> s'.heap.get? b = some o) -> s'.os = s.os -> s'.gens = s.gens -> StrsAre vs ls -> ls.Perm ks -> R vs s') -> wpAny (model P w) A.in1 (collect (.ref r)) R E s)
  (h : ∀ (s1 s' : Shared) (vs : List Value) (ls : List Str) (e : Nat), (∀ b o, s.heap.get? b = some o -> s1.heap.get? b = some o) -> s1.os = s.os -> s1.gens = s.gens -> (∀ b o, s1.heap.get? b = some o -> s'.heap.get? b = some o) -> s'.os = s1.os -> s'.gens = s1.gens -> s'.heap.get? s1.heap.objs.size = some (seqObj "list" vs.toArray e) -> StrsAre vs ls -> ls.Perm ks -> sortedS ls = true -> Q (.ref s1.heap.objs.size) s') :
  wpAny (model P w) A (call (.builtin "sorted") [.ref r]) Q E s := by
 refine Calls.call_function_entry kind_sorted plain_sorted entry_sorted (args_sorted1 _) ?_
 unfold Builtin.«sorted»
 refine wpAny_bind (m := checkCount "sorted" 1 1 _) (wpAny_pure ?_)
 refine wpAny_bind (hc _ fun s1 vs ls k1 o1 g1 st p => ?_)
 have hl : vs.length < 64 := by rw [st.length, p.length_eq]; exact h64
 refine wpAny_bind (wpAny_newList ?_ (by rw [sizeLine_eq]; omega))
 have gL : (s1.heap.push (seqObj "list" vs.toArray 0)).get? s1.heap.objs.size = some (seqObj "list" vs.toArray 0) := Heap.get?_push_size _ rfl
 refine wpAny_bind (wpAny_holding (wpAny_call_entry (s := { s1 with heap := s1.heap.push (seqObj "list" vs.toArray 0) }) slot_list_sort ⟨_, gL, rfl⟩ entry_list_sort (list_sort_treeK strKind_oneLt gL st.keysOf (fun a b rest e => keyKind_strs (by rw [<- e]; exact st)) hl fun st' pp so => ⟨_, rfl, ?_⟩) (args_list_sort _)))
 obtain ⟨ls', a1, a2, a3⟩ := sorted_out_str st pp so
 obtain ⟨e, he⟩ := sortedHeap_at (out := (arrOf st').map (·.2)) gL
 refine wpAny_pure ⟨_, rfl, h s1 _ ((arrOf st').map (·.2)).toList ls' e k1 o1 g1 (fun b o q => ?_) rfl rfl he a1 (a2.trans p) a3⟩
 have lt := Heap.lt_size q
 show (sortedHeap (s1.heap.push (seqObj "list" vs.toArray 0)) s1.heap.objs.size vs ((arrOf st').map (·.2))).get? b = some o
 rw [sortedHeap_old (Nat.ne_of_lt lt) (by rw [size_push']; exact Nat.lt_succ_of_lt lt)]
 exact Heap.get?_push_of_some _ q
end
def SetO (P : Program) (w : World) (a : Addr) (ks : List Str) : HO := .ext fun h => SSet P w h a ks
theorem Xm6 {ss : List Str} {vs : List Value} (h : StrsAre vs ss) : Vals (ss.map V.str) vs := by
 induction h with
 | nil => exact .nil
 | cons x t _ ih => exact .cons ⟨t, rfl⟩ ih
theorem Xcy : ∀ {ss : List Str} {vs : List Value}, Vals (ss.map V.str) vs -> StrsAre vs ss
 | [], _, r => by cases r; exact .nil
 | x :: ss, _, r => by
  cases r with
  | cons r1 r2 =>
   obtain ⟨t, rfl⟩ := r1
   exact .cons x t (Xcy r2)
section
variable {X : Cx}
theorem Xgw : X.calm = true -> Xdg X (.type "set") (fun xs H Q => ∃ p ss, xs = [.ref p] /\ (SqL X.K H p (ss.map V.str) \/ SqT X.K H p (ss.map V.str)) /\ ss.length + 1 < scanBound /\ ∀ a, H a = none -> Q (.ref a) (upd H a (SetO X.prog X.w a (ddup ss)))) := by
 intro hcalm pins s σ H xs us Q I r h
 obtain ⟨p, ss, rfl, hq, hb, q⟩ := h
 obtain ⟨u, rfl, rx⟩ := vals1 r
 cases rx
 obtain ⟨its, r', src⟩ : ∃ its : List Value, Vals (ss.map V.str) its /\ Src s.heap p its.toArray := by
  rcases hq with hq | hq
  ·obtain ⟨its, r', pl, _⟩ := I.list hq
   exact ⟨its, r', .lst pl.isList⟩
  ·obtain ⟨its, r', pl, _⟩ := I.tuple hq
   exact ⟨its, r', .tup pl⟩
 refine Xm0 (I.ok.hd hcalm) src (Xcy r') hb fun h' tk S k => ?_
 refine ⟨.ref s.heap.objs.size, _, I.laidM (s' := { s with heap := h', toks := tk }) k rfl rfl (Nat.le_refl _) ?_, rfl, q _ (I.hok.fresh (Nat.le_refl _))⟩
 exact ⟨S, by obtain ⟨o, _, _, _, _, g, _⟩ := S; exact ⟨o, g⟩, fun h1 h2 S1 kk => S1.stay kk⟩
theorem Xee {pins : List (Addr × Obj)} {σ : St} {H : Hp} {s s1 s' : Shared} {Q : VK} {vs : List Value} {ls ks : List Str} {e : Nat} (I : Inv X pins σ H s) (h64 : ks.length < 64) (k1 : ∀ b o, s.heap.get? b = some o -> s1.heap.get? b = some o) (o1 : s1.os = s.os) (g1 : s1.gens = s.gens)
  (k2 : ∀ b o, s1.heap.get? b = some o -> s'.heap.get? b = some o) (o2 : s'.os = s1.os) (g2 : s'.gens = s1.gens) (he : s'.heap.get? s1.heap.objs.size = some (seqObj "list" vs.toArray e)) (st : StrsAre vs ls) (p : ls.Perm ks)
  (q : ∀ l, H l = none -> Q (.ref l) (upd H l (.lst (ls.map V.str)))) : EP X pins σ Q (.ref s1.heap.objs.size) s' := by
 have I1 := I.moved k1 o1 g1
 refine ⟨.ref s1.heap.objs.size, _, I1.laidM k2 o2 g2 (Nat.le_refl _) (show Xa5 X.prog X.w _ s'.heap _ (.lst (ls.map V.str)) from ⟨?_, vs, e, Xm6 st, he⟩), rfl, q _ (I1.hok.fresh (Nat.le_refl _))⟩
 rw [List.length_map, p.length_eq, sizeLine_eq]
 omega
theorem Xcz : X.calm = true -> Xdg X (.builtin "sorted") (fun xs H Q => ∃ a ks, xs = [.ref a] /\ H a = some (SetO X.prog X.w a ks) /\ ks.length < 64 /\ ∀ l ls, H l = none -> ls.Perm ks -> sortedS ls = true -> Q (.ref l) (upd H l (.lst (ls.map V.str)))) := by
 intro hcalm pins s σ H xs us Q I r h
 obtain ⟨a, ks, rfl, ha, h64, q⟩ := h
 obtain ⟨u, rfl, rx⟩ := vals1 r
 cases rx
 obtain ⟨S, _⟩ := (show Xa5 X.prog X.w H s.heap a (.ext fun h => SSet X.prog X.w h a ks) from I.hok a _ ha)
 refine Xcx h64 (fun R k => Xje (by show X.A.in1.handled = none; simp [I.ok.hd hcalm]) S k) fun s1 s' vs ls e k1 o1 g1 k2 o2 g2 he st p so => ?_
 exact Xee I h64 k1 o1 g1 k2 o2 g2 he st p fun l hl => q l ls hl p so
end
theorem Inv.turned2 {X : Cx} {pins : List (Addr × Obj)} {σ : St} {H : Hp} {s : Shared} {h' : Heap} {t' : Nat} {e1 e2 : Addr} (I : Inv X pins σ H s) (k : ∀ b o, b ≠ e1 -> b ≠ e2 -> s.heap.get? b = some o -> h'.get? b = some o) (f1 : FpOk X pins H e1) (f2 : FpOk X pins H e2) : Inv X pins σ H { s with heap := h', toks := t' } := by
 have no : ∀ b u, H b = some u -> b ≠ e1 /\ b ≠ e2 := fun b u q => ⟨fun z => (by rw [z, f1.1] at q; cases q), fun z => (by rw [z, f2.1] at q; cases q)⟩
 have nn : ∀ b, b ∉ [e1, e2] -> b ≠ e1 /\ b ≠ e2 := fun b hb => by simpa using hb
 refine I.step (g' := s.gens) (d' := s.drawn) (ch := [e1, e2]) (fun b hb => ?_) (fun b o _ _ hc q _ => k b o (nn b hc).1 (nn b hc).2 q) (fun b o _ _ hc q _ => ⟨o.slots, k b o (nn b hc).1 (nn b hc).2 q⟩) (fun _ _ _ _ n => n) (fun b o hc q => ⟨o, k b o (nn b hc).1 (nn b hc).2 q⟩) (fun _ _ q => q) (fun _ _ _ q => q) (fun b ps q => ⟨#[], by rw [q]; simp⟩) (fun m hm => ?_) (fun b u q => ?_) I.bare
 ·have hb' : b = e1 \/ b = e2 := by simpa using hb
  rcases hb' with z | z
  ·subst z; exact ⟨f1.2.2.2.1, f1.2.1, f1.2.2.2.2.1, f1.2.2.2.2.2⟩
  ·subst z; exact ⟨f2.2.2.2.1, f2.2.1, f2.2.2.2.2.1, f2.2.2.2.2.2⟩
 ·obtain ⟨o, es, ep, ho, r⟩ := hm
  exact ⟨o, es, ep, k _ o (Ne.symm f1.2.1) (Ne.symm f2.2.1) ho, r⟩
 ·refine (I.hok b u q).stay (fun c v hc z => k c v ?_ ?_ z) (fun _ z => z) fun _ _ z => z
  ·rcases hc with y | y
   ·rw [y]; exact (no b u q).1
   ·exact (no c _ y).1
  ·rcases hc with y | y
   ·rw [y]; exact (no b u q).2
   ·exact (no c _ y).2
def Ite (K : PySem.W.Frag) (a : Addr) : It :=
 ⟨fun i H => ∃ xs x, SqL K H a xs /\ xs[i]? = some x, fun i H x H' => ∃ tp, x = .ref tp /\ H tp = none /\ ∀ xs, SqL K H a xs -> ∃ y, xs[i]? = some y /\ H' = upd H tp (.tup [.int i, y]), fun i H => ∃ xs, SqL K H a xs /\ xs.length <= i⟩
theorem Xm7 {P : Program} {w : World} {K : PySem.W.Frag} {es : List Expr} {k : Nat} {p : Pos} (a e it : Addr) (ne : e ≠ it) : Turn P w K (.Tuple es k p) (Ite K a) [e, it] e (fun i h => (∃ old, IsEnum h e it i old) /\ h.IsListIter it a i) where
 mem := by simp
 obj := fun i h st b hb => by
  have hb' : b = e \/ b = it := by simpa using hb
  rcases hb' with z | z
  ·subst z
   obtain ⟨⟨old, q⟩, _⟩ := st
   exact ⟨_, q, fun v z => by
    have z' : Data.fields _ = Data.cell v := z
    cases z'⟩
  ·subst z
   obtain ⟨o, q, c, d⟩ := st.2
   exact ⟨o, q, fun v z => by rw [d] at z; cases z⟩
 keep := fun i h h' st k => by
  obtain ⟨⟨old, q⟩, l⟩ := st
  exact ⟨⟨old, k e (by simp) _ q⟩, l.at fun o z => k it (by simp) o z⟩
 item := by
  intro X hP hw hK hc i pins s σ H E I hf st hg
  subst hP hw hK
  obtain ⟨xs, x, hq, hx⟩ := hg
  obtain ⟨its, rv, pl, hz⟩ := I.list hq
  obtain ⟨u, hu, ru⟩ := rv.get hx
  have f1 := hf e (by simp)
  have f2 := hf it (by simp)
  obtain ⟨⟨old, q⟩, l⟩ := st
  refine wpAny_pyNext_enum_item q l pl.isList (x := u) (by simpa using hu) ne fun h' qo l' tp sz kk => ?_
  have I1 : Inv X pins σ H { s with heap := h', toks := s.toks + 1 } := I.turned2 kk f1 f2
  refine ⟨_, rfl, ?_⟩
  have le : e < s.heap.objs.size := Heap.lt_size q
  obtain ⟨ol, hol, _⟩ := id l
  have lit : it < s.heap.objs.size := Heap.lt_size hol
  unfold letOwnedTupleGo
  refine wpAny_bind (wpAny_load qo ?_)
  dsimp only
  rw [if_pos (by simp [rawInt])]
  refine wpAny_bind (wpAny_rule ?_)
  show wpAny _ _ (setField (.ref e) 0 .none) _ _ _
  refine wpAny_setField qo rfl (by simp) ?_
  have g := Heap.get?_update_self (Obj.mapFields (·.setIfInBounds 0 Value.none)) qo rfl
  have sb := Heap.SameBut.update h' e (Obj.mapFields (·.setIfInBounds 0 Value.none))
  have I2 : Inv X pins σ (upd H s.heap.objs.size (.tup [.int i, x])) { s with heap := h'.update e (Obj.mapFields (·.setIfInBounds 0 Value.none)), toks := s.toks + 1 } := by
   have J := I.laid (a := s.heap.objs.size) (o := .tup [.int i, x]) (h' := s.heap.push { cls := .type "tuple", data := .seq #[.int i s.toks, u] }) (t' := s.toks + 1) (fun b o z => Heap.get?_push_of_some _ z) (Nat.le_refl _) (show Xa5 X.prog X.w _ _ _ (.tup [.int i, x]) from ⟨by show 2 <= sizeLine; decide, [.int i s.toks, u], .cons ⟨_, rfl⟩ (.cons ru .nil), IsTup.new _ _⟩)
   have g1 : FpOk X pins (upd H s.heap.objs.size (.tup [.int i, x])) e := ⟨by rw [Xae (Nat.ne_of_lt le)]; exact f1.1, f1.2⟩
   have g2 : FpOk X pins (upd H s.heap.objs.size (.tup [.int i, x])) it := ⟨by rw [Xae (Nat.ne_of_lt lit)]; exact f2.1, f2.2⟩
   refine J.turned2 (fun b o n1 n2 z => ?_) g1 g2
   show (h'.update e _).get? b = some o
   rw [sb.2 b n1]
   by_cases hb : b = s.heap.objs.size
   ·subst hb
    have z' : (s.heap.push { cls := .type "tuple", data := .seq #[.int i s.toks, u] }).get? s.heap.objs.size = some o := z
    rw [Heap.get?_push_size _ rfl] at z'
    cases z'
    exact tp
   ·have z' : (s.heap.push { cls := .type "tuple", data := .seq #[.int i s.toks, u] }).get? b = some o := z
    rw [Heap.get?_push_ne _ _ _ hb] at z'
    exact kk b o n1 n2 z'
  refine ⟨.ref s.heap.objs.size, _, I2, rfl, ⟨_, rfl, I.hok.fresh (Nat.le_refl _), fun ys hy => ⟨x, by rw [I.list_inj hy hq]; exact hx, rfl⟩⟩, ⟨⟨u, g.trans ?_⟩, l'.at fun o z => ?_⟩, fun b hb => ?_⟩
  ·rfl
  ·rw [sb.2 it (Ne.symm ne)]
   exact z
  ·have hb' : b = e \/ b = it := by simpa using hb
   rcases hb' with z | z
   ·subst z; rw [Xae (Nat.ne_of_lt le)]; exact f1.1
   ·subst z; rw [Xae (Nat.ne_of_lt lit)]; exact f2.1
 done := by
  intro X hP hw hK hc i pins s σ H E I hf st hg
  subst hP hw hK
  obtain ⟨xs, hq, hx⟩ := hg
  obtain ⟨its, rv, pl, hz⟩ := I.list hq
  have hl := rv.length
  have f2 := hf it (by simp)
  obtain ⟨⟨old, q⟩, l⟩ := st
  exact wpAny_pyNext_enum_end (I.ok.hd hc) q l pl.isList (by simp; omega) fun h' eb => ⟨rfl, I.turned (t' := s.toks) (fun b o hb z => eb b o hb z) f2.1 f2.2.1 f2.2.2.2.1 f2.2.2.2.2.1 f2.2.2.2.2.2⟩
 self := fun _ _ _ _ _ st h => by
  obtain ⟨⟨old, q⟩, _⟩ := st
  exact wpAny_pyIter_enum q h
def iEnum (K : PySem.W.Frag) (ta : TA) : TI := fun σ H R => ta σ H fun vs H1 => ∃ a, vs = [.ref a] /\ (∃ xs, SqL K H1 a xs) /\ R (Ite K a) H1
theorem pi_enum {X : Cx} {es : List Expr} {k : Nat} {p2 : Pos} {l : Expr} {ta : TA} {p pos : Pos} (hg : Gl X "enumerate") (hm : X.mg "enumerate" = none) (ha : PA X [l] ta) (hs : starEach [l] X.env = [(false, eval l X.env)] := by rfl) : PI X (.Tuple es k p2) (.Call (.Name "enumerate" p) [l] [] pos) (iEnum X.K ta) := by
 intro pins s σ H R I h
 refine Call_ (Xf6 I hg hm (show bootBuiltins "enumerate" = some (.type "enumerate") by decide +kernel) (PyProof.Rows.callWith_type1 (thn (ha pos pins s σ H _ I h) fun us s1 ⟨vs, H1, I1, r1, q1⟩ => ?_) hs rfl))
 obtain ⟨a, e, ⟨xs, hq⟩, q⟩ := q1
 subst e
 cases r1 with
 | cons r rr =>
  cases rr
  cases r
  obtain ⟨its, rv, pl, hz⟩ := I1.list hq
  refine call_enumerate_list pl.isList fun h' qe ql sz kk => ?_
  refine wpAny_pyIter_enum qe ?_
  have I2 : Inv X pins σ H1 { s1 with heap := h' } := I1.kept (t' := s1.toks) kk
  refine ⟨_, [s1.heap.objs.size + 1, s1.heap.objs.size], _, _, H1, rfl, I2, Xm7 a _ _ (Nat.succ_ne_self _), ⟨⟨_, qe⟩, ql⟩, fun b hb => ?_, q⟩
  have hb' : b = s1.heap.objs.size + 1 \/ b = s1.heap.objs.size := by simpa using hb
  rcases hb' with z | z
  ·subst z; exact I1.fpOk (Nat.le_succ _) (I1.hok.fresh (Nat.le_succ _))
  ·subst z; exact I1.fpOk (Nat.le_refl _) (I1.hok.fresh (Nat.le_refl _))
section
variable {X : Cx} {es : List Expr} {t : St -> Hp -> (Hp -> Prop) -> Prop} {e : Expr} {te : TE} {pos : Pos}
def tJRep (te : TE) (t : St -> Hp -> (Hp -> Prop) -> Prop) : St -> Hp -> (Hp -> Prop) -> Prop := fun σ H Q => te σ H fun x H1 => ∃ z, x = .str z /\ z.length <= 400 /\ (∀ c ∈ z.cps.toList, c < 16 ^ 8) /\ t σ H1 Q
theorem pj_repr {p : Pos} (ha : PE X e te) (h : PJ X es t) (he : evalEach (.FormattedValue e 114 none p :: es) X.env = eval (.FormattedValue e 114 none p) X.env :: evalEach es X.env := by rfl) : PJ X (.FormattedValue e 114 none p :: es) (tJRep te t) := by
 intro out pins s σ H Q I hw hl
 rw [he]
 rw [List.length_cons] at hl
 refine joinParts_cons (wpAny_FormattedValue_repr (thn (ha pins s σ H _ I hw) fun v s1 ⟨x, H1, I1, r1, q1⟩ => ?_))
 obtain ⟨z, ez, h1, h2, q⟩ := q1
 subst ez
 obtain ⟨tk, rfl⟩ := r1
 have hz := StrLaws.reprText_len z h2
 have hz2 : (reprText z).length <= sizeLine := by rw [sizeLine_eq]; omega
 refine wpAny_pyReprObj_str ?_ hz2
 refine formatField_str (fun t' k => ⟨by rw [Xfl]; omega, ?_⟩) hz2
 exact h _ pins _ σ H1 Q ((I1.tok _).tok _) q (by rw [Xfl]; omega)
theorem Xh5 : ∀ (ss : List Str) (l : List Value), l.length = ss.length -> (∀ i (hi : i < ss.length), ∃ t, l[i]? = some (.str ss[i] t)) -> StrsAre l ss
 | [], l, e, _ => by rw [List.length_eq_zero_iff.mp e]; exact .nil
 | y :: ys, [], e, _ => by cases e
 | y :: ys, v :: vs, e, each => by
  obtain ⟨t, q⟩ := each 0 (by simp)
  have : v = .str y t := by simpa using q
  subst this
  refine .cons y t (Xh5 ys vs (by simpa using e) fun i hi => ?_)
  obtain ⟨t', e'⟩ := each (i + 1) (by simpa using hi)
  exact ⟨t', by simpa using e'⟩
theorem Xc0 : X.calm = true -> Xdg X (.builtin "sorted") (fun xs H Q => ∃ d kvs ss, xs = [.ref d] /\ Rd H d (.dK kvs) /\ kvs.map (·.1) = ss.map (fun x => (Sum.inr x : Key)) /\ ss.length < 64 /\ ∀ l ls, H l = none -> ls.Perm ss -> sortedS ls = true -> Q (.ref l) (upd H l (.lst (ls.map V.str)))) := by
 intro hcalm pins s σ H xs us Q I r h
 obtain ⟨d, kvs, ss, rfl, hd, hk, h64, q⟩ := h
 obtain ⟨u, rfl, rx⟩ := vals1 r
 cases rx
 obtain ⟨hz, hm, vs, rv, o, es, ep, ho, hex, hdd, hr⟩ := Xlg I.hok hd
 have hkl : kvs.length = ss.length := by have := congrArg List.length hk; simpa using this
 have hvl : vs.length = ss.length := by rw [<- hkl]; exact (Paired.length rv).symm
 have hvk : vs.map (·.1) = ss.map (fun x => (Sum.inr x : Key)) := by rw [<- hk]; exact rv.keys.symm
 have each : ∀ acc : Array Value, ItemsOf (fun i v => ∃ k x, vs[i]? = some (k, x) /\ (Xar X.prog X.w).is k v = true) acc vs.length -> StrsAre acc.toList ss := fun acc hacc => by
  refine Xh5 ss _ (by rw [Array.length_toList, hacc.1, hvl]) fun i hi => ?_
  have hi2 : i < acc.size := by rw [hacc.1, hvl]; exact hi
  obtain ⟨k', x, hx, his⟩ := hacc.2 i acc[i] (getElem?_pos acc i hi2)
  have hk' : k' = Sum.inr ss[i] := by
   have := congrArg (fun l => l[i]?) hvk
   simp only [List.getElem?_map, hx, Option.map_some, List.getElem?_eq_getElem hi] at this
   exact Option.some.inj this
  subst hk'
  obtain ⟨t, e⟩ := Value.isStrOf_shape his
  exact ⟨t, by rw [Array.getElem?_toList, getElem?_pos acc i hi2, e]⟩
 refine Xcx h64 (fun R kR => PySem.W.kdu_collect (PySem.W.kdl_dict (knd := Xar X.prog X.w) (kvs := vs) (ep := ep) hm) (by show X.A.in1.handled = none; simp [I.ok.hd hcalm]) ⟨o, es, ho, hex, hdd, hr⟩ (by rw [hvl, sizeLine_eq]; omega) (fun h' tk acc kk hacc => kR { s with heap := h', toks := tk } acc.toList ss kk rfl rfl (each acc hacc) (List.Perm.refl _)))
  fun s1 s' vs ls e k1 o1 g1 k2 o2 g2 he st p so => Xee I h64 k1 o1 g1 k2 o2 g2 he st p fun l hl => q l ls hl p so
def rSlS : V -> Option Int -> Option Int -> Hp -> VK -> Prop := fun x lo hi H Q => ∃ z, x = .str z /\ lo = none /\ (∃ j, hi = some j) /\ z.length <= 1000 /\ Q (.str (Txt.slice z lo hi)) H
end
end L2
set_option maxHeartbeats 4000000
namespace L2
open PySem PySem.Spec PyProof.Rows
def leS (x y : Str) : Prop := x.cps.toList <= y.cps.toList
theorem strExt {x y : Str} (h : x.cps.toList = y.cps.toList) : x = y := by
 obtain ⟨⟨a⟩⟩ := x
 obtain ⟨⟨b⟩⟩ := y
 have : a = b := h
 rw [this]
theorem Xkn {x y : Str} (h : leS x y) (g : leS y x) : x = y := strExt (List.le_antisymm h g)
theorem Xh6 {x y z : Str} (h : leS x y) (g : leS y z) : leS x z := List.le_trans h g
theorem Xfm (x y : Str) : leS x y \/ leS y x := List.le_total _ _
def ltS (x y : Str) : Prop := x.cps.toList < y.cps.toList
instance (x y : Str) : Decidable (ltS x y) := inferInstanceAs (Decidable (x.cps.toList < y.cps.toList))
instance (x y : Str) : Decidable (leS x y) := inferInstanceAs (Decidable (x.cps.toList <= y.cps.toList))
theorem Xbu (x : Str) : ¬ ltS x x := List.lt_irrefl _
theorem Xc1 {x y z : Str} (h : ltS x y) (g : ltS y z) : ltS x z := List.lt_trans h g
theorem Xjf {x y : Str} : ¬ ltS x y ↔ leS y x := List.not_lt
theorem ltS_of {x y : Str} (h : leS x y) (n : x ≠ y) : ltS x y := by
 by_cases q : ltS x y
 ·exact q
 ·exact absurd (Xkn h (Xjf.mp q)) n
theorem leS_of {x y : Str} (h : ltS x y) : leS x y := List.le_of_lt h
theorem Xh7 {x y : Str} (h : ltS x y) : x ≠ y := fun e => Xbu y (e ▸ h)
theorem Xh8 : ∀ (l : List Str) (p : Str), risingS p l = true -> (p :: l).Pairwise leS
 | [], p, _ => by simp
 | x :: r, p, h => by
  have h' : (!ltCps x.cps.toList p.cps.toList && risingS x r) = true := h
  rw [Bool.and_eq_true, ltCps_eq] at h'
  have ih := Xh8 r x h'.2
  have hpx : leS p x := by
   have := h'.1
   simp only [Bool.not_eq_true', decide_eq_false_iff_not] at this
   exact this
  refine List.pairwise_cons.mpr ⟨fun y hy => ?_, ih⟩
  rcases List.mem_cons.mp hy with e | e
  ·rw [e]; exact hpx
  ·exact Xh6 hpx ((List.pairwise_cons.mp ih).1 y e)
theorem Xh9 : ∀ (l : List Str), sortedS l = true -> l.Pairwise leS
 | [], _ => by simp
 | x :: r, h => Xh8 r x h
theorem Xia : ∀ {a b : List Str}, a.Perm b -> a.Pairwise leS -> b.Pairwise leS -> a = b
 | [], b, p, _, _ => by rw [List.nil_perm.mp p]
 | x :: a, [], p, _, _ => by have := p.length_eq; simp at this
 | x :: a, y :: b, p, ha, hb => by
  obtain ⟨a1, a2⟩ := List.pairwise_cons.mp ha
  obtain ⟨b1, b2⟩ := List.pairwise_cons.mp hb
  have e : x = y := by
   have hx : x ∈ y :: b := p.mem_iff.mp List.mem_cons_self
   have hy : y ∈ x :: a := p.mem_iff.mpr List.mem_cons_self
   rcases List.mem_cons.mp hx with e | hx
   ·exact e
   ·rcases List.mem_cons.mp hy with e | hy
    ·exact e.symm
    ·exact Xkn (a1 y hy) (b1 x hx)
  subst e
  rw [Xia (List.Perm.cons_inv p) a2 b2]
def srt (l : List Str) : List Str := l.mergeSort fun x y => decide (leS x y)
theorem Xa6 (l : List Str) : (srt l).Perm l := List.mergeSort_perm ..
theorem Xdr (l : List Str) : (srt l).Pairwise leS := by
 have h := List.pairwise_mergeSort (le := fun x y => decide (leS x y)) (fun a b c h1 h2 => decide_eq_true (Xh6 (of_decide_eq_true h1) (of_decide_eq_true h2)))
  (fun a b => by rcases Xfm a b with h | h <;> simp [h]) l
 exact h.imp fun h => of_decide_eq_true h
theorem Xko {ls ks : List Str} (p : ls.Perm ks) (h : sortedS ls = true) : ls = srt ks := Xia (p.trans (Xa6 ks).symm) (Xh9 _ h) (Xdr _)
theorem Xm8 {a b : List Str} (p : a.Perm b) : srt a = srt b := Xia ((Xa6 a).trans (p.trans (Xa6 b).symm)) (Xdr _) (Xdr _)
theorem Xgx {l : List Str} {x : Str} : x ∈ srt l ↔ x ∈ l := (Xa6 l).mem_iff
def dit (row : List Str) : List Str := srt (ddup row)
theorem Xag {row : List Str} {x : Str} : x ∈ dit row ↔ x ∈ row := Xgx.trans (Xgv row x)
theorem Xf8 (row : List Str) : (dit row).Nodup := (Xa6 _).nodup_iff.mpr (Xjc row)
theorem Xds (row : List Str) : (dit row).Pairwise ltS := by
 have h1 := Xdr (ddup row)
 have h2 : (dit row).Pairwise (· ≠ ·) := Xf8 row
 exact (h1.and h2).imp fun h => ltS_of h.1 h.2
theorem Xef (row : List Str) : (dit row).length <= row.length := by
 have := (Xa6 (ddup row)).length_eq
 have h := Xdq row
 unfold dit
 omega
theorem Xeg {a b : List Str} (ha : a.Nodup) (hb : b.Nodup) (h : ∀ x, x ∈ a ↔ x ∈ b) : a.Perm b := (List.perm_ext_iff_of_nodup ha hb).mpr h
theorem Xm9 {ls row ks : List Str} (p : ls.Perm ks) (h : sortedS ls = true) (nd : ks.Nodup) (m : ∀ x, x ∈ ks ↔ x ∈ row) : ls = dit row :=
 Xia (p.trans ((Xeg nd (Xjc row) fun x => (m x).trans (Xgv row x).symm).trans (Xa6 _).symm)) (Xh9 _ h) (Xdr _)
structure Fn (P : Program) (w : World) (K : PySem.W.Frag) (mg : Str -> Option Value) (base : Heap) (CX : CXT) (k : Nat) (x : Str) (ps : List Str) (sp : Sp) : Prop where
 ex : ∃ f fd, mg x = some (.ref f) /\ PySem.W.keepIn K (.ref f) = true /\ Binds K fd ps [] /\ FnOk P w K mg base CX k f fd ps sp
section
variable {X : Cx} {CX : CXT} {k : Nat} {ps : List Str} {sp : Sp} {E : XK} {x : Str} {p pos : Pos} {e : Expr} {es : List Expr} {t : TA}
theorem Xaz (F : Fn X.prog X.w X.K X.mg X.base CX k x ps sp) (hr : Room k X.A) (hg : Gl X x) (hx : Passes CX X E)
  (ha : PA X (e :: es) t) (hdb : (x == ("__debug__" : Str)) = false := by decide) (he : starEach (e :: es) X.env = (false, eval e X.env) :: starEach es X.env := by rfl) (hpl : (backTo pos (starEach es X.env)).any (·.1) = false := by rfl) :
  PE X (.Call (.Name x p) (e :: es) [] pos) (tCall sp [] E t) := by
 obtain ⟨f, fd, hm, hk, hb, hF⟩ := F.ex
 exact pe_call hF hr hg hm hk hb .nil hx ha hdb he hpl
theorem Xln {st : Stmt} {rest : List Stmt} {D : Ends} {σ : St} {H : Hp} (P : St -> Hp -> Prop) (h2 : ∃ u, PSs X rest u /\ ∀ σ' H', P σ' H' -> u D σ' H')
  (h1 : ∀ nx, (∀ σ' H', P σ' H' -> nx σ' H') -> ∃ t, PS X st t /\ t { D with nx := nx } σ H) : ∃ t, PSs X (st :: rest) t /\ t D σ H := by
 obtain ⟨u, hu, ru⟩ := h2
 obtain ⟨t, ht, rt⟩ := h1 (u D) ru
 exact ⟨tSeq t u, Xac ht hu, rt⟩
end
theorem ite2b {c : Bool} {A B : Prop} (h1 : c = true -> A) (h2 : c = false -> B) : if c = true then A else B := by
 cases c with
 | true => exact iteT (h1 rfl)
 | false => exact iteF (h2 rfl)
theorem Same.upd {H H' : Hp} {a : Addr} {o : HO} (s : Same H H') (h : H a = none) : Same H (upd H' a o) := fun b u e => by
 rw [Xae (Xaf e h)]
 exact s b u e
theorem Same.upd0 {H : Hp} {a : Addr} {o : HO} (h : H a = none) : Same H (L2.upd H a o) := (Same.refl H).upd h
theorem ku {H : Hp} {b p : Addr} {o u : HO} (h : H b = some o) (hp : H p = none) : upd H p u b = some o := by
 rw [Xae (Xaf h hp)]
 exact h
theorem Same.step {H H1 : Hp} {p : Addr} {o : HO} (s : Same H H1) (hp : H1 p = none) : Same H (L2.upd H1 p o) := s.upd (s.free hp)
theorem Same.go {H H1 : Hp} {p q : Addr} {o : HO} (s : Same H H1) (hp : H1 p = none) (hq : L2.upd H1 p o q = none) : Same H (L2.upd H1 p o) := s.step hp
theorem Xna {α : Type} (f : α -> V) (xs : List α) (b : Nat) (hb : b <= xs.length) : cutV (xs.map f) none (some (b : Int)) = (xs.take b).map f := by
 unfold cutV
 rw [HT.sIx_none, List.drop_zero, HT.sIx_nat, List.length_map, List.map_take, Nat.sub_zero, Nat.min_eq_left hb]
theorem Xib {α : Type} (f : α -> V) (xs : List α) (a : Nat) (ha : a <= xs.length) : cutV (xs.map f) (some (a : Int)) none = (xs.drop a).map f := by
 unfold cutV
 rw [HT.sIx_none, HT.sIx_nat, List.length_map, Nat.min_eq_left ha, List.map_drop]
 exact List.take_of_length_le (by rw [List.length_drop, List.length_map]; omega)
theorem cut_in {α : Type} (f : α -> V) (xs : List α) (a b : Nat) (hab : a <= b) (hb : b <= xs.length) : cutV (xs.map f) (some (a : Int)) (some (b : Int)) = ((xs.drop a).take (b - a)).map f := by
 unfold cutV
 rw [HT.sIx_nat, HT.sIx_nat, List.length_map, Nat.min_eq_left hb, Nat.min_eq_left (Nat.le_trans hab hb), List.map_take, List.map_drop]
def chkC (fsc : Scope) (fN N : List Str) (cap : List (Option Nat)) (scope : Scope) : Bool :=
 (scope.names.all fun y => decide (scope.names.lookup y.1 = some y.2)) &&
 (scope.names.all fun y => decide (y.2 ≠ .free) || decide (fsc.names.lookup y.1 = some .cell) || decide (fsc.names.lookup y.1 = some .free)) && decide (cap.length = N.length) &&
 ((List.range N.length).all fun i => match cap[i]?, N[i]? with
  | some (some j), some x => decide (fN[j]? = some x) && decide (scope.names.lookup x = some .free)
  | _, _ => true)
theorem CompScope.of {X : Cx} {N : List Str} {cap : List (Option Nat)} {scope : Scope} (fsc : Scope) (fN : List Str) (h1 : X.env.scope = fsc) (h2 : X.N = fN) (hk : scope.kind = .function) (h : chkC fsc fN N cap scope = true) : CompScope X N cap scope := by
 unfold chkC at h
 simp only [Bool.and_eq_true, List.all_eq_true, Bool.or_eq_true, decide_eq_true_eq] at h
 obtain ⟨⟨⟨a1, a3⟩, a4⟩, a5⟩ := h
 refine ⟨hk, a1, fun y hy e => ?_, a4, fun i x j hN hc => ?_⟩
 ·show X.env.scope.names.lookup y.1 = some .cell \/ X.env.scope.names.lookup y.1 = some .free
  rw [h1]
  rcases a3 y hy with (z | z) | z
  ·exact absurd e z
  ·exact .inl z
  ·exact .inr z
 ·have hi : i < N.length := (List.getElem?_eq_some_iff.mp hN).1
  have q := a5 i (List.mem_range.mpr hi)
  rw [hc, hN] at q
  simp only [Bool.and_eq_true, decide_eq_true_eq] at q
  rw [h2]
  exact q
section
variable {X : Cx}
theorem Xic (K : PySem.W.Frag) (h : X.K = K) : Xdg X (.builtin "isinstance") (fun xs H Q => ∃ x c t cv b, xs = [x, c] /\ TyOf K H x t /\ clsV c = some cv /\ PySem.W.kitOne K t cv = some b /\ Q (.bl b) H) := by subst h; exact Xdi
theorem Xcm (K : PySem.W.Frag) (h : X.K = K) : IxR X (rIxT K) := by subst h; exact Xmr
theorem Xlo (K : PySem.W.Frag) (h : X.K = K) : OpR X (compareOp .In) (rIn K false) := by subst h; exact Xfg
end
theorem Xkp {cap : List (Option Nat)} {tt : TT} {te : TE} {J : It} {σ : St} {H1 : Hp} {F : Addr -> Hp -> Prop} {j : Nat} (n : Nat) (hn : n < sizeLine) (vs : Nat -> V) (ok : Nat -> Bool) (ys : Nat -> V)
  (hgo : ∀ i H2, i < n -> Same H1 H2 -> J.go i H2 /\ ∀ x H3, J.yld i H2 x H3 -> H3 = H2 /\ x = vs i)
  (hst : ∀ H2, Same H1 H2 -> J.stop n H2)
  (tst : ∀ i H2 Q, i < n -> Same H1 H2 -> (∀ H', Same H2 H' -> Q (ok i) H') -> tt ((capS cap σ).set j (some (vs i))) H2 Q)
  (step : ∀ i H2 Q, i < n -> ok i = true -> Same H1 H2 -> (∀ H', Same H2 H' -> Q (ys i) H') -> te ((capS cap σ).set j (some (vs i))) H2 Q)
  (hd : ∀ D H2, H1 D = none -> Same H1 H2 -> H2 D = some (.lst (((List.range n).filter ok).map ys)) -> F D H2) : tBlk cap (Xdm j) tt te J σ H1 F := by
 refine blk_n n vs (fun D i σ2 H2 => (∀ v, σ2.set j v = (capS cap σ).set j v) /\ Same H1 H2 /\ H2 D = some (.lst (((List.range i).filter ok).map ys))) ?_ ?_ ?_ ?_ ?_
 ·intro D hD
  exact ⟨fun _ => rfl, (Same.refl H1).step hD, Xaa⟩
 ·rintro D i σ2 H2 hD hi ⟨_, s2, _⟩
  exact hgo i H2 hi s2
 ·rintro D σ2 H2 hD ⟨_, s2, _⟩
  exact hst H2 s2
 ·rintro D i σ2 H2 hD hi ⟨e, s2, hb⟩
  show tt (σ2.set j (some (vs i))) H2 _
  rw [e]
  refine tst i H2 _ hi s2 fun H3 s3 => ?_
  have s13 := s2.trans s3
  have hb3 := s3 _ _ hb
  have hss : ∀ v, ((capS cap σ).set j (some (vs i))).set j v = (capS cap σ).set j v := fun v => by rw [List.set_set]
  have hl : (((List.range i).filter ok).map ys).length <= i := by
   rw [List.length_map]
   exact Nat.le_trans (List.length_filter_le ..) (by rw [List.length_range]; omega)
  refine ite2b (fun hk => ?_) (fun hk => ?_)
  ·refine step i H3 _ hi hk s13 fun H4 s4 => ?_
   refine wput hi (s4 _ _ hb3) (by omega) ⟨hss, fun b u e' => ?_, ?_⟩
   ·rw [Xae (Xaf e' hD)]
    exact s4 _ _ (s13 b u e')
   ·rw [Xaa, List.range_succ, List.filter_append, List.map_append]
    simp [hk]
  ·refine wskip hi ⟨hss, s13, ?_⟩
   rw [hb3, List.range_succ, List.filter_append, List.map_append]
   simp [hk]
 ·rintro D σ2 H2 hD ⟨_, s2, hb⟩
  exact hd D H2 hD s2 hb
theorem Xnb {cap : List (Option Nat)} {te : TE} {J : It} {σ : St} {H1 : Hp} {F : Addr -> Hp -> Prop} {j : Nat} (n : Nat) (hn : n < sizeLine) (vs : Nat -> V) (ys : Nat -> V)
  (hgo : ∀ i H2, i < n -> Same H1 H2 -> J.go i H2 /\ ∀ x H3, J.yld i H2 x H3 -> H3 = H2 /\ x = vs i)
  (hst : ∀ H2, Same H1 H2 -> J.stop n H2)
  (step : ∀ i H2 Q, i < n -> Same H1 H2 -> (∀ H', Same H2 H' -> Q (ys i) H') -> te ((capS cap σ).set j (some (vs i))) H2 Q)
  (hd : ∀ D H2, H1 D = none -> Same H1 H2 -> H2 D = some (.lst ((List.range n).map ys)) -> F D H2) : tBlk cap (Xdm j) tYes te J σ H1 F :=
 Xkp n hn vs (fun _ => true) ys hgo hst (fun i H2 Q _ _ k => k H2 (Same.refl _)) (fun i H2 Q hi _ s k => step i H2 Q hi s k) fun D H2 hD s e => hd D H2 hD s (by rw [e, List.filter_eq_self.mpr (fun _ _ => rfl)])
theorem passX {X : Cx} : Passes (CX1 X.prog X.w) X E0 := fun _ _ _ _ _ _ _ h => by
 obtain ⟨_, _, _, _, _, _, _, _, _, h⟩ := h
 exact h.elim
structure DefAt (K : PySem.W.Frag) (x : Str) (st : Stmt) : Prop where
 ex : ∃ f fd, PySem.W.nsIn K mainGlobals x = some (some (.ref f)) /\ PySem.W.keepIn K (.ref f) = true /\ Fun K x x st f fd
theorem DefAt.of {K : PySem.W.Frag} {x : Str} {st : Stmt} {f : Addr} {oc : Value} {od an : Option Addr} {osl : Array (Option Value)} {kV doc pm cdv ct : Value} (a : PySem.W.nsIn K mainGlobals x = some (some (.ref f)))
  (l : K.lookup f = some ⟨oc, od, .func (PySem.W.fnOf x x (Xck st) (Xbf st) (defScope st) .none kV doc pm an cdv ct), osl⟩) (c : PySem.W.codeIn K cdv x = true) (k : PySem.W.keepIn K (.ref f) = true) : DefAt K x st :=
 ⟨⟨f, _, a, k, fun_mk l c k⟩⟩
theorem Fn.of {P : Program} {w : World} {K : PySem.W.Frag} {h : Heap} {mg : Str -> Option Value} {base : Heap} {CX : CXT} {k : Nat} {x : Str} {st : Stmt} {ps : List Str} {sp : Sp} (X : K.In h) (G : h.Ns mainGlobals mg) (D : DefAt K x st)
  (hb : ∀ (kV doc pm : Value) (an : Option Addr) (cdv ct : Value) (us : List Value), us.length = ps.length -> bindArgs (PySem.W.fnOf x x (Xck st) (Xbf st) (defScope st) .none kV doc pm an cdv ct) ⟨us, []⟩ = pure (ps.zip us))
  (ok : ∀ f fd, Fun K x x st f fd -> FnOk P w K mg base CX k f fd ps sp) : Fn P w K mg base CX k x ps sp := by
 obtain ⟨f, fd, a, hk, F⟩ := D.ex
 exact ⟨⟨f, fd, PySem.W.mg_of X G a, hk, F.binds hb, ok f fd F⟩⟩
structure ExcAt (K : PySem.W.Frag) (x : Str) (C : Addr) : Prop where
 a : PySem.W.nsIn K mainGlobals x = some (some (.ref C))
 e : PySem.W.excIn K C bmV "ValueError.__new__" = true
 ga : PySem.W.findIn K (.ref C) "__getattribute__" = some (some (.builtin "BaseException.__getattribute__"))
 gn : PySem.W.findIn K (.ref C) "__getattr__" = some none
 cl : PySem.W.findIn K (.ref C) "__class__" = some (some (.builtin "object.__class__"))
 sb : PySem.W.subIn K (.ref C) (.type "BaseException") = some true
 so : PySem.W.subIn K (.ref C) (.type "object") = some true
 sv : PySem.W.subIn K (.ref C) (.type "ValueError") = some true
 ss : PySem.W.subIn K (.ref C) (.ref C) = some true
 ic : PySem.W.isClsIn K C = true
 ty : PySem.W.typeIn K (.ref C) = some (.type "type")
section
variable {K : PySem.W.Frag} {x : Str} {C : Addr}
end
structure ClsAt (K : PySem.W.Frag) (x : Str) (C : Addr) : Prop where
 a : PySem.W.nsIn K mainGlobals x = some (some (.ref C))
 ic : PySem.W.isClsIn K C = true
 ty : PySem.W.typeIn K (.ref C) = some (.type "type")
theorem Xfn (x : Str) (row : List Str) : inV (.str x) (row.map V.str) = decide (x ∈ row) := by
 unfold inV
 rw [Bool.eq_iff_iff, List.any_eq_true, decide_eq_true_eq]
 constructor
 ·rintro ⟨y, hy, e⟩
  obtain ⟨z, hz, rfl⟩ := List.mem_map.mp hy
  have : z = x := by simpa [eqV] using e
  rw [<- this]; exact hz
 ·intro hx
  exact ⟨.str x, List.mem_map.mpr ⟨x, hx, rfl⟩, by simp [eqV]⟩
theorem Xdt (row : List Str) : (row.map V.str).all Xgl = true := by
 rw [List.all_eq_true]
 intro v h
 obtain ⟨x, _, rfl⟩ := List.mem_map.mp h
 rfl
theorem blk_enum {K : PySem.W.Frag} {cap : List (Option Nat)} {tt : TT} {te : TE} {a : Addr} {xs : List V} {σ : St} {H1 : Hp} {F : Addr -> Hp -> Prop} {p q : Nat} (hpq : p ≠ q) (hS : SqL K H1 a xs) (hn : xs.length < sizeLine) (ok : Nat -> Bool) (ys : Nat -> V)
  (tst : ∀ (i : Nat) x H2 Q, xs[i]? = some x -> Same H1 H2 -> (∀ H', Same H2 H' -> Q (ok i) H') -> tt (((capS cap σ).set p (some (.int i))).set q (some x)) H2 Q)
  (step : ∀ (i : Nat) x H2 Q, xs[i]? = some x -> ok i = true -> Same H1 H2 -> (∀ H', Same H2 H' -> Q (ys i) H') -> te (((capS cap σ).set p (some (.int i))).set q (some x)) H2 Q)
  (hd : ∀ D H2, H1 D = none -> Same H1 H2 -> H2 D = some (.lst (((List.range xs.length).filter ok).map ys)) -> F D H2) : tBlk cap (gTup K 2 (gCons (Xdm p) (gCons (Xdm q) gNil))) tt te (Ite K a) σ H1 F := by
 intro D hD
 refine ⟨wN xs.length fun i σ2 H2 => (∀ u v, (σ2.set p u).set q v = ((capS cap σ).set p u).set q v) /\ Same H1 H2 /\ H2 D = some (.lst (((List.range i).filter ok).map ys)), ⟨xs.length, by simp, Nat.zero_le _, fun _ _ => rfl, (Same.refl H1).step hD, Xaa⟩, ?_⟩
 rintro i m σ1 H2 ⟨rfl, hi, e, s2, hb⟩
 have hS2 : SqL K H2 a xs := s2.seq hS
 by_cases hlt : i < xs.length
 ·have hx : xs[i]? = some xs[i] := List.getElem?_eq_getElem hlt
  refine .inr ⟨⟨xs, xs[i], hS2, hx⟩, ?_⟩
  rintro x H3 ⟨tp, rfl, ht, hy⟩
  obtain ⟨y, hy1, rfl⟩ := hy xs hS2
  rw [hx] at hy1
  cases hy1
  refine ⟨tp, _, rfl, SqT.of Xaa, rfl, _, _, rfl, _, _, rfl, rfl, ?_⟩
  have s3 : Same H1 (upd H2 tp (.tup [.int i, xs[i]])) := s2.step ht
  have hb3 : upd H2 tp (.tup [.int i, xs[i]]) D = some (.lst (((List.range i).filter ok).map ys)) := ku hb ht
  rw [e]
  refine tst i _ _ _ hx s3 fun H4 s4 => ?_
  have s14 := s3.trans s4
  have hb4 := s4 _ _ hb3
  have hss : ∀ u v, (((((capS cap σ).set p (some (.int i))).set q (some xs[i])).set p u).set q v) = ((capS cap σ).set p u).set q v := fun u v => by
   rw [List.set_comm _ _ (Ne.symm hpq), List.set_set, List.set_set]
  have hl : (((List.range i).filter ok).map ys).length <= i := by
   rw [List.length_map]
   exact Nat.le_trans (List.length_filter_le ..) (by rw [List.length_range]; omega)
  refine ite2b (fun hk => ?_) (fun hk => ?_)
  ·refine step i _ H4 _ hx hk s14 fun H5 s5 => ?_
   refine wput hlt (s5 _ _ hb4) (by omega) ⟨hss, fun b u e' => ?_, ?_⟩
   ·rw [Xae (Xaf e' hD)]
    exact s5 _ _ (s14 b u e')
   ·rw [Xaa, List.range_succ, List.filter_append, List.map_append]
    simp [hk]
  ·refine wskip hlt ⟨hss, s14, ?_⟩
   rw [hb4, List.range_succ, List.filter_append, List.map_append]
   simp [hk]
 ·have ei : i = xs.length := by omega
  subst ei
  exact .inl ⟨⟨xs, hS2, Nat.le_refl _⟩, hd D H2 hD s2 hb⟩
theorem Xnc {X : Cx} {pos : Pos} {es : List Expr} {k : Nat} {t : TGs} (K : PySem.W.Frag) (n : Nat) (hK : X.K = K) (hc : X.calm = true) (h : PGs X es t)
  (hn : (assignEach es X.env).length = n := by rfl) (hst : (assignEach es X.env).findIdx? (·.1) = none := by rfl) : PG X (.Tuple es k pos) (gTup K n t) := by
 subst hK
 exact pg_tup hc h hn hst
theorem Xc7 {α : Type} (d : α) (p : α -> Bool) : ∀ (xs : List α), ((List.range xs.length).filter fun i => p (xs.getD i d)).map (fun i => xs.getD i d) = xs.filter p := by
 intro xs
 have go : ∀ n, n <= xs.length -> ((List.range n).filter fun i => p (xs.getD i d)).map (fun i => xs.getD i d) = (xs.take n).filter p := by
  intro n
  induction n with
  | zero => intro _; rfl
  | succ n ih =>
   intro h
   have hn : n < xs.length := by omega
   have e : xs.getD n d = xs[n] := by simp [List.getD, hn]
   rw [List.range_succ, List.filter_append, List.map_append, ih (by omega), List.take_succ_eq_append_getElem hn, List.filter_append, List.filter_cons, List.filter_cons, e]
   split
   ·simp [hn]
   ·simp
 rw [go _ (Nat.le_refl _), List.take_length]
abbrev TM := St -> Hp -> (St -> Hp -> Prop) -> Prop
def PM (X : Cx) (m : Sem Unit) (t : TM) : Prop := ∀ (pins : List (Addr × Obj)) (s : Shared) (σ : St) (H : Hp) (Q : St -> Hp -> Prop), Inv X pins σ H s -> t σ H Q ->
 wpAny (model X.prog X.w) X.A m (fun _ s' => ∃ σ' H', Inv X pins σ' H' s' /\ Q σ' H') X.xe s
def Xer (e : Expr) (d : Nat) (tg iter : Expr) (ifs : List Expr) (act : Sem Unit) (it acc : Value) (env : Env) : Sem Fin := do
 standAt iter.pos
 match <- pyNext it with
 | none => pure (.done .next)
 | some v =>
  letOwnedTupleGo tg it v
  assign tg env v
  let mut ok := true
  for c in ifs do
   if ok then ok <- isTrue c env (eval c env)
  if ok then act
  again (.compLoop e d it acc env)
structure Cm (e : Expr) : Prop where
 den1 : ∀ (P : Program) (w : World) (d : Nat) (it acc : Value) (env : Env), (model P w).den (.compLoop e d it acc env) = (compTurn e d it acc env).onRaise (fun x => do noteFrame x env; theTreesLotGoes x)
 den2 : ∀ (P : Program) (w : World) (d : Nat) (it acc : Value) (env : Env), (model P w).den (.compStart e d it acc env) = (compStart e d it acc env).onRaise (fun x => do noteFrame x env; standAt theWindowsPlace)
 und1 : ∀ (A : Around) (d : Nat) (it acc : Value) (env : Env), A.under (.compLoop e d it acc env) = A
 und2 : ∀ (A : Around) (d : Nat) (it acc : Value) (env : Env), A.under (.compStart e d it acc env) = A
theorem Xfo {elt : Expr} {gs : List Comprehension} {sc : Scope} {p : Pos} : Cm (.ListComp elt gs sc p) := ⟨fun _ _ _ _ _ _ => rfl, fun _ _ _ _ _ _ => rfl, fun _ _ _ _ _ => rfl, fun _ _ _ _ _ => rfl⟩
theorem cm_dict {k v : Expr} {gs : List Comprehension} {sc : Scope} {p : Pos} : Cm (.DictComp k v gs sc p) := ⟨fun _ _ _ _ _ _ => rfl, fun _ _ _ _ _ _ => rfl, fun _ _ _ _ _ => rfl, fun _ _ _ _ _ => rfl⟩
def tLp (g : TG) (tt : TT) (tm : TM) (J : It) (σ : St) (H1 : Hp) (F : St -> Hp -> Prop) : Prop :=
 ∃ W : Nat -> Nat -> St -> Hp -> Prop, (∃ m, W 0 m σ H1) /\ ∀ i m σ1 H2, W i m σ1 H2 ->
  (J.stop i H2 /\ F σ1 H2) \/ (J.go i H2 /\ ∀ x H3, J.yld i H2 x H3 -> g x σ1 H3 fun σ2 H4 => tt σ2 H4 fun b H5 =>
   if b = true then tm σ2 H5 fun σ3 H6 => ∃ m', m' < m /\ W (i + 1) m' σ3 H6 else ∃ m', m' < m /\ W (i + 1) m' σ2 H5)
section
variable {Y : Cx} {e tg iter : Expr} {d : Nat} {ifs : List Expr} {act : Sem Unit} {acc : Value} {g : TG} {tt : TT} {tm : TM} {pins : List (Addr × Obj)} {σ : St} {H : Hp} {s : Shared} {J : It} {fp : List Addr} {it : Addr} {tn : Nat -> Heap -> Prop} {F : St -> Hp -> Prop} {R : Result -> Shared -> Prop}
theorem Xnd (cm : Cm e) (hx : Y.xe = fun _ _ => False) (hc : Y.calm = true) (eq : compTurn e d (.ref it) acc Y.env = Xer e d tg iter ifs act (.ref it) acc Y.env) (hg : PG Y tg g) (ht : PIfs Y ifs tt) (hm : PM Y act tm)
  (I : Inv Y pins σ H s) (T : Turn Y.prog Y.w Y.K tg J fp it tn) (h0 : tn 0 s.heap) (hf : ∀ b ∈ fp, FpOk Y pins H b) (hb : tLp g tt tm J σ H F) (fin : ∀ σ' H' s', Inv Y pins σ' H' s' -> F σ' H' -> R (.ok .next) s') :
  codeAny (model Y.prog Y.w) Y.A (.compLoop e d (.ref it) acc Y.env) R s := by
 obtain ⟨W, ⟨m0, w0⟩, turn⟩ := hb
 have stat : ∀ {H' : Hp}, (∀ b ∈ fp, H' b = none) -> ∀ b ∈ fp, FpOk Y pins H' b := fun hn b hb => ⟨hn b hb, (hf b hb).2⟩
 refine codeAny_loop rfl (fun n s' => ∃ i σ1 H2, Inv Y pins σ1 H2 s' /\ tn i s'.heap /\ (∀ b ∈ fp, H2 b = none) /\ W i n σ1 H2) (fun n s' hI => ?_) m0 ⟨0, σ, H, I, h0, fun b hb => (hf b hb).1, w0⟩
 obtain ⟨i, σ1, H2, I', st', fr', w'⟩ := hI
 rw [cm.den1, cm.und1]
 refine wpAny_noted ?_
 rw [eq]
 have no : ∀ {α : Type} {t : Sem α} {Q : α -> Shared -> Prop} {E' : Value -> Shared -> Prop} {s₁ : Shared}, wpAny (model Y.prog Y.w) Y.A t Q Y.xe s₁ -> wpAny (model Y.prog Y.w) Y.A t Q E' s₁ := fun h => wpAny_mono h (fun _ _ q => q) fun _ _ z => by rw [hx] at z; exact z.elim
 unfold Xer
 rcases turn i n σ1 H2 w' with ⟨stop, q⟩ | ⟨go, step⟩
 ·refine wpAny_bind (wpAny_standAt (wpAny_bind (thn (T.done Y rfl rfl rfl hc i pins s' σ1 H2 _ I' (stat fr') st' stop) fun r s1 ⟨hr, I1⟩ => ?_)))
  subst hr
  exact wpAny_pure (fin σ1 H2 s1 I1 q)
 ·refine wpAny_bind (wpAny_standAt (wpAny_bind (thn (T.item Y rfl rfl rfl hc i pins s' σ1 H2 _ I' (stat fr') st' go) fun r s1 ⟨u, hr, h4⟩ => ?_)))
  subst hr
  refine wpAny_bind (thn h4 fun _ s5 ⟨x, H5, I5, r5, y5, st5, fr5⟩ => ?_)
  have I5' := I5.pinned (stat fr5) (T.obj _ _ st5)
  refine wpAny_bind (thn (no (hg _ s5 σ1 H5 x u _ I5' r5 (step x H5 y5))) fun _ s6 ⟨σ6, H6, I6, q6⟩ => ?_)
  refine wpAny_bind (thn (no (ht _ s6 σ6 H6 _ I6 q6)) fun b s7 ⟨H7, I7, q7⟩ => ?_)
  have again : ∀ {s8 : Shared} {σ8 : St} {H8 : Hp}, Inv Y (pins ++ Xhh fp s5.heap) σ8 H8 s8 -> (∃ m', m' < n /\ W (i + 1) m' σ8 H8) -> ∃ m, m < n /\ ∃ i σ1 H2, Inv Y pins σ1 H2 s8 /\ tn i s8.heap /\ (∀ b ∈ fp, H2 b = none) /\ W i m σ1 H2 := fun {s8 σ8 H8} I8 ⟨m', hm, w8⟩ => by
   refine ⟨m', hm, i + 1, σ8, H8, I8.unpinned, T.keep _ _ _ st5 fun b hb o e => (I8.pin (b, o) (List.mem_append_right _ (List.mem_append_right _ (Xc6 hb e)))).1, fun b hb => ?_, w8⟩
   obtain ⟨o, e, d⟩ := T.obj _ _ st5 b hb
   exact (I8.pin (b, o) (List.mem_append_right _ (List.mem_append_right _ (Xc6 hb e)))).2.1
  cases b with
  | false =>
   rw [if_neg Bool.false_ne_true] at q7
   exact wpAny_pure ⟨rfl, again I7 q7⟩
  | true =>
   rw [if_pos rfl] at q7
   exact wpAny_bind (thn (no (hm _ s7 σ6 H7 _ I7 q7)) fun _ s8 ⟨σ8, H8, I8, q8⟩ => wpAny_pure ⟨rfl, again I8 q8⟩)
theorem Xkq {prog : Program} {w : World} {A : Around} {env : Env} {itv : Value} {cl : Comprehension} (cm : Cm e) (hcl : (clausesOf e)[d]? = some cl) (has : cl.is_async = 0)
  (h0 : codeAny (model prog w) A (.compLoop e d itv acc env) R s)
  (h : wpAny (model prog w) A (pyIter itv) (fun it' s' => codeAny (model prog w) A (.compLoop e d it' acc env) R s') (notedBy (model prog w) A env fun x s' => R (.error x) s') s) :
  codeAny (model prog w) A (.compStart e d itv acc env) R s := by
 refine codeAny_of_tree ?_
 rw [cm.den2, cm.und2]
 refine wpAny_notedAt ?_
 unfold compStart
 rw [hcl]
 have e1 : (Option.elim (some cl) false fun x => x.is_async != 0) = false := by
  show (cl.is_async != 0) = false
  rw [has]
  rfl
 rw [e1, if_neg Bool.false_ne_true]
 show wpAny _ A (ask >>= _) _ _ s
 refine wpAny_bind (wpAny_askSetting (wpAny_ite ?_))
 split
 ·first
   | exact wpAny_bind (wpAny_pure (wpAny_pure (And.intro rfl h0)))
   | exact wpAny_pure (And.intro rfl h0)
 ·first
   | exact wpAny_bind (wpAny_rule (wpAny_bind (wpAny_standAt (wpAny_bind (wpAny_mono h (fun it' s' h' => wpAny_pure (And.intro rfl h')) fun _ _ x => x)))))
   | (refine wpAny_bind (wpAny_rule ?_); show wpAny _ _ (standAt cl.iter.pos >>= _) _ _ s; exact wpAny_bind (wpAny_standAt (wpAny_bind (wpAny_mono h (fun it' s' h' => wpAny_pure (And.intro rfl h')) fun _ _ x => x))))
end
def mList (te : TE) (D : Addr) : TM := fun σ H Q => te σ H fun y H6 => ∃ ys, H6 D = some (.lst ys) /\ ys.length < sizeLine /\ Q σ (upd H6 D (.lst (ys ++ [y])))
theorem Xgy {Y : Cx} {elt : Expr} {te : TE} {D : Addr} (he : PE Y elt te) : PM Y (do let _ <- call (.builtin "list.append") [.ref D, <- eval elt Y.env]) (mList te D) := by
 intro pins s σ H Q I h
 refine wpAny_bind (thn (he pins s σ H _ I h) fun yv s8 ⟨y, H8, I8, r8, ys, hD, hlt, q8⟩ => ?_)
 exact wpAny_bind (thn (Xcw (X := Y) _ s8 σ H8 (.ref D) [y] (.ref D) [yv] (fun _ H9 => Q σ H9) I8 rfl (.cons r8 .nil) ⟨_, ys, y, rfl, rfl, hD, hlt, q8⟩) fun _ s9 ⟨_, H9, I9, _, q9⟩ => wpAny_pure ⟨σ, H9, I9, q9⟩)
def mDict (tk tv : TE) (D : Addr) : TM := fun σ H Q => tk σ H fun k H1 => tv σ H1 fun v H2 => ∃ kvs ky, k = kV ky /\ H2 D = some (.dK kvs) /\ kvs.length < sizeLine /\ Q σ (upd H2 D (.dK (putK kvs ky v)))
theorem pm_dict {Y : Cx} {kx vx : Expr} {tk tv : TE} {D : Addr} (hk : PE Y kx tk) (hv : PE Y vx tv) : PM Y (do
  let kv <- eval kx Y.env
  let vv <- holding [kv] (eval vx Y.env)
  standAt { kx.pos with endLine := vx.pos.endLine, endCol := vx.pos.endCol }
  holding [kv, vv] (dictSet D kv vv)) (mDict tk tv D) := by
 intro pins s σ H Q I h
 refine wpAny_bind (thn (hk pins s σ H _ I h) fun kv s1 ⟨k, H1, I1, rk, q1⟩ => wpAny_bind (wpAny_holding (thn (hv pins s1 σ H1 _ I1 q1) fun vv s2 ⟨v, H2, I2, rv, kvs, ky, ek, hD, hl, q⟩ => wpAny_bind (wpAny_standAt (wpAny_holding ?_)))))
 subst ek
 obtain ⟨z, hd, vs, rel, dd⟩ := dk_of I2.hok hD
 have hz : vs.length <= sizeLine := by rw [<- rel.length]; exact z
 have hl' : (putK kvs ky v).length <= sizeLine := by have := Xcj kvs ky v; omega
 refine wpAny_dictSet_pairs (knd := Xar Y.prog Y.w) (hsz := hz) (Xms rk) dd fun h' dd' hs => ⟨σ, _, ?_, q⟩
 have he : ∃ q, h'.get? D = some q := let ⟨q, _, _, hq, _⟩ := dd'; ⟨q, hq⟩
 exact Xi8 I2 (by rw [hD]; exact True.intro) hs he (dk_new hl' hd (rel.put ky rv) dd')
def mFor (wi : TI) (g : TG) (tt : TT) (tm : TM) : TM := fun σ H Q => wi σ H fun J H1 => tLp g tt tm J σ H1 Q
theorem pm_for {Y : Cx} {e tg iter : Expr} {ifs : List Expr} {d : Nat} {D : Addr} {wi : TI} {g : TG} {tt : TT} {tm : TM} {act : Sem Unit} (cm : Cm e) (hx : Y.xe = fun _ _ => False) (hc : Y.calm = true) (hcl : (clausesOf e)[d]? = some ⟨tg, iter, ifs, 0⟩)
  (eq : ∀ it, compTurn e d it (.ref D) Y.env = Xer e d tg iter ifs act it (.ref D) Y.env) (hi : PI Y tg iter wi) (hg : PG Y tg g) (ht : PIfs Y ifs tt) (hm : PM Y act tm)
  (hs : ∀ x, foldedSetIterable iter Y.env x = pure x := by intro _; rfl) : PM Y (do
   let x <- eval iter Y.env
   standAt iter.pos
   let x <- foldedSetIterable iter Y.env x
   let _ <- runOwn (.compStart e d (<- holding [x] (pyIter x)) (.ref D) Y.env) Y.env) (mFor wi g tt tm) := by
 intro pins s σ H Q I h
 refine wpAny_bind (thn (hi pins s σ H _ I h) fun v s1 h1 => wpAny_bind (wpAny_standAt (wpAny_bind (wpAny_of_eq (hs v) (wpAny_bind (wpAny_holding (thn h1 fun itv s2 h2 => ?_)))))))
 obtain ⟨it, fp, tn, J, H2, ei, I2, T, st2, f2, lp⟩ := h2
 subst ei
 refine wpAny_bind (wpAny_runOwn ?_)
 have go : ∀ s3, s3 = s2 -> codeAny (model Y.prog Y.w) Y.A (.compLoop e d (.ref it) (.ref D) Y.env) (fun r s' => match r with | .ok _ => ∃ σ' H', Inv Y pins σ' H' s' /\ Q σ' H' | .error e => False) s3 := by
  rintro s3 rfl
  exact Xnd cm hx hc (eq _) hg ht hm I2 T st2 f2 lp fun σ' H' s' I' q => ⟨σ', H', I', q⟩
 have st := Xkq (s := s2) (R := fun r s' => match r with | .ok _ => ∃ σ' H', Inv Y pins σ' H' s' /\ Q σ' H' | .error e => False) cm hcl rfl (go s2 rfl) (T.self Y.A 0 s2 _ _ st2 (go s2 rfl))
 refine codeAny_mono st fun r s' hr => ?_
 cases r with
 | ok f => exact wpAny_pure hr
 | error e => exact hr.elim
def tBlkG (cap : List (Option Nat)) (o0 : HO) (g : TG) (tt : TT) (tm : Addr -> TM) (J : It) (σ : St) (H1 : Hp) (F : Addr -> Hp -> Prop) : Prop :=
 ∀ D, H1 D = none -> tLp g tt (tm D) J (capS cap σ) (upd H1 D o0) fun _ H2 => F D H2
section
variable {X : Cx} {N : List Str} {cap : List (Option Nat)} {scope : Scope} {e tg iter : Expr} {ifs : List Expr} {g : TG} {tt : TT} {tm : Addr -> TM} {E : Value -> Shared -> Prop} {newAcc : Sem Value} {ob : Obj} {o0 : HO} {act : Addr -> Env -> Sem Unit}
theorem Xfp (C : CompScope X N cap scope) (hcalm : X.calm = true) (cm : Cm e) (hcl : (clausesOf e)[0]? = some ⟨tg, iter, ifs, 0⟩)
  (hnew : ∀ (s : Shared) (Q : Value -> Shared -> Prop) (E' : Value -> Shared -> Prop), Q (.ref s.heap.objs.size) { s with heap := s.heap.push ob } -> wpAny (model X.prog X.w) X.A newAcc Q E' s)
  (hlay : ∀ pins σ H s, Inv X pins σ H s -> Inv X pins σ (upd H s.heap.objs.size o0) { s with heap := s.heap.push ob })
  (heq : ∀ it D env, compTurn e 0 it (.ref D) env = Xer e 0 tg iter ifs (act D env) it (.ref D) env)
  (hg : ∀ s0 H0 ex, PG (X.comp N scope s0 H0 ex) tg g) (ht : ∀ s0 H0 ex, PIfs (X.comp N scope s0 H0 ex) ifs tt) (hm : ∀ D s0 H0 ex, PM (X.comp N scope s0 H0 ex) (act D (X.comp N scope s0 H0 ex).env) (tm D))
  {pins : List (Addr × Obj)} {σ : St} {H : Hp} {s : Shared} {J : It} {fp : List Addr} {it : Addr} {tn : Nat -> Heap -> Prop} {F : Addr -> Hp -> Prop} {RR : Value -> Addr -> Result -> Shared -> Prop}
  (I : Inv X pins σ H s) (T : Turn X.prog X.w X.K tg J fp it tn) (h0 : tn 0 s.heap) (hf : ∀ b ∈ fp, FpOk X pins H b) (hb : tBlkG cap o0 g tt tm J σ H F)
  (fin : ∀ D L H' s' m, Inv X pins σ H' s' -> FpOk X pins H' L -> s'.heap.Ns L m -> F D H' -> RR (.ref D) L (.ok .next) s') :
  wpAny (model X.prog X.w) X.A newAcc (fun acc s₃ => wpAny (model X.prog X.w) X.A (newFunctionEnv scope X.env.globals (Xdh X.env scope.names []) [] X.env.qual none .none (some X.env)) (fun cenv s₄ =>
   codeAny (model X.prog X.w) X.A (.compStart e 0 (.ref it) acc { cenv with scope := relabel scope X.env }) (RR acc cenv.locals) s₄) E s₃) E s := by
 have hDn : H s.heap.objs.size = none := I.hok.fresh (Nat.le_refl _)
 have lp := hb s.heap.objs.size hDn
 have flt : ∀ b ∈ fp, b < s.heap.objs.size := fun b hb => by
  obtain ⟨o, e, _⟩ := T.obj _ _ h0 b hb
  exact Heap.lt_size e
 refine hnew s _ _ (Xlh ?_)
 have I3 : Inv X pins σ (upd H s.heap.objs.size o0) { s with heap := s.heap.push ob } := hlay pins σ H s I
 generalize e3 : ({ s with heap := s.heap.push ob } : Shared) = s3 at I3
 have es3 : s3.heap = s.heap.push ob := by rw [<- e3]
 have hsz : s3.heap.objs.size = s.heap.objs.size + 1 := by rw [es3, Heap.size_push]
 have hf3 : ∀ b ∈ fp, FpOk X pins (upd H s.heap.objs.size o0) b := fun b hb => by
  obtain ⟨f0, f⟩ := hf b hb
  exact ⟨by rw [Xae (Nat.ne_of_lt (flt b hb))]; exact f0, f⟩
 have flt3 : ∀ b ∈ fp, b < s3.heap.objs.size := fun b hb => by rw [hsz]; exact Nat.lt_succ_of_lt (flt b hb)
 have hk : ∀ b o, s3.heap.get? b = some o -> (pushCells (s3.heap.push { cls := .type "dict", data := .dict #[] }) scope.names).get? b = some o := fun b o e => pushCells_keeps _ _ b o (Heap.get?_push_of_some _ e)
 have IY := inv_comp (tk := s3.toks) C I3 hf3 flt3
 generalize eY : X.comp N scope s3 (upd H s.heap.objs.size o0) fp = Y at IY
 have hz3 : (s3.heap.push { cls := .type "dict", data := .dict #[] }).objs.size = s3.heap.objs.size + 1 := Heap.size_push ..
 have hst1 : tn 0 (pushCells (s3.heap.push { cls := .type "dict", data := .dict #[] }) scope.names) := T.keep _ _ _ h0 fun b hb o e => hk b o (by rw [es3]; exact Heap.get?_push_of_some _ e)
 have fY : ∀ {H' : Hp}, (∀ b ∈ fp, H' b = none) -> ∀ b ∈ fp, FpOk Y [] H' b := fun {H'} hn b hb => by
  subst eY
  obtain ⟨_, f1, f2, _, f4, _⟩ := hf3 b hb
  refine ⟨hn b hb, Nat.ne_of_lt (flt3 b hb), fun z => ?_, .inl hb, fun x c h => ?_, fun p hp => absurd (show p ∈ ([] : List (Addr × Obj)) from hp) (by simp)⟩
  ·rcases List.mem_cons.mp (I3.stkSub b z) with e | e
   ·exact f1 e
   ·exact f2 e
  ·rcases Xhu (s := s3) C I3.ok hz3 h with ⟨a, _⟩ | ⟨_, a⟩
   ·exact fun z => Nat.lt_irrefl _ (Nat.lt_trans a (by rw [z]; exact flt3 b hb))
   ·exact f4 x c a
 have loop : ∀ s4 : Shared, s4 = { s3 with heap := pushCells (s3.heap.push { cls := .type "dict", data := .dict #[] }) scope.names } ->
   codeAny (model X.prog X.w) X.A (.compLoop e 0 (.ref it) (.ref s.heap.objs.size) (compEnvC scope (Xht X scope s3) s3.heap.objs.size X.env))
    (RR (.ref s.heap.objs.size) s3.heap.objs.size) s4 := by
  rintro s4 rfl
  have pP : Y.prog = X.prog := by subst eY; rfl
  have pW : Y.w = X.w := by subst eY; rfl
  have pK : Y.K = X.K := by subst eY; rfl
  have pC : Y.calm = true := by subst eY; exact hcalm
  have pA : Y.A = X.A := by subst eY; rfl
  have pE : Y.env = compEnvC scope (Xht X scope s3) s3.heap.objs.size X.env := by subst eY; rfl
  have pX : Y.xe = fun _ _ => False := by subst eY; rfl
  have T' : Turn Y.prog Y.w Y.K tg J fp it tn := by rw [pP, pW, pK]; exact T
  have go := Xnd (Y := Y) (acc := .ref s.heap.objs.size) (pins := []) (R := RR (.ref s.heap.objs.size) s3.heap.objs.size) cm pX pC (heq _ _ _) (by subst eY; exact hg _ _ _) (by subst eY; exact ht _ _ _) (show PM Y (act s.heap.objs.size Y.env) (tm s.heap.objs.size) by subst eY; exact hm _ _ _ _)
   IY T' hst1 (fY fun b hb => (hf3 b hb).1) lp ?_
  ·rw [pP, pW, pA, pE] at go
   exact go
  ·intro σ' H2 s1 I1 q
   have IX : Inv X pins σ H2 s1 := by
    subst eY
    refine I3.call' (ch := fp) I1.os I1.base I1.hok I1.bare fun b hb => ?_
    obtain ⟨_, f1, _, f3, f4, f5⟩ := hf3 b hb
    exact ⟨f3, f1, f4, f5⟩
   have hL : H2 s3.heap.objs.size = none := by
    have z := I1.free
    rw [pE] at z
    exact z
   obtain ⟨m, hm, _⟩ := I1.loc
   rw [pE] at hm
   exact fin s.heap.objs.size s3.heap.objs.size H2 s1 m IX (I3.fpOk (Nat.le_refl _) hL) hm q
 have lp := loop _ rfl
 have T1 := T.self
 subst e3
 exact Xkq cm hcl rfl lp (T1 X.A 0 _ _ _ hst1 lp)
structure Acc (X : Cx) (newAcc : Sem Value) (ob : Obj) (o0 : HO) : Prop where
 new : ∀ (s : Shared) (Q : Value -> Shared -> Prop) (E' : Value -> Shared -> Prop), Q (.ref s.heap.objs.size) { s with heap := s.heap.push ob } -> wpAny (model X.prog X.w) X.A newAcc Q E' s
 lay : ∀ pins σ H s, Inv X pins σ H s -> Inv X pins σ (upd H s.heap.objs.size o0) { s with heap := s.heap.push ob }
theorem Xey : Acc X (newList []) { cls := .type "list", data := .seq ([] : List Value).toArray } (.lst []) := ⟨fun s Q E' h => wpAny_newObj_type h, fun pins σ H s I => I.lnew (t' := s.toks) .nil (Nat.zero_le _)⟩
theorem acc_dict : Acc X newDict { cls := .type "dict", data := .dict #[] } (.dK []) := ⟨fun s Q E' h => wpAny_newObj_type h, fun pins σ H s I => I.laid (a := s.heap.objs.size) (o := .dK []) (t' := s.toks) (fun _ _ q => Heap.get?_push_of_some _ q) (Nat.le_refl _) (Xkh s.heap I.big)⟩
def Xne (cap : List (Option Nat)) (o0 : HO) (wi : TI) (g : TG) (tt : TT) (tm : Addr -> TM) : TE := fun σ H Q => wi σ H fun J H1 => tBlkG cap o0 g tt tm J σ H1 fun D H2 => Q (.ref D) H2
theorem Xgz {wi : TI} {pos : Pos} {gens : List Comprehension} (ac : Acc X newAcc ob o0) (he : eval e X.env = comprehension e scope X.env pos newAcc false (eval iter X.env)) (hcls : clausesOf e = ⟨tg, iter, ifs, 0⟩ :: gens)
  (C : CompScope X N cap scope) (hcalm : X.calm = true) (cm : Cm e) (hi : PI X tg iter wi)
  (heq : ∀ it D env, compTurn e 0 it (.ref D) env = Xer e 0 tg iter ifs (act D env) it (.ref D) env)
  (hg : ∀ s0 H0 ex, PG (X.comp N scope s0 H0 ex) tg g) (ht : ∀ s0 H0 ex, PIfs (X.comp N scope s0 H0 ex) ifs tt) (hm : ∀ D s0 H0 ex, PM (X.comp N scope s0 H0 ex) (act D (X.comp N scope s0 H0 ex).env) (tm D))
  (hs : ∀ x, foldedSetIterable iter X.env x = pure x) : PE X e (Xne cap o0 wi g tt tm) := by
 intro pins s σ H Q I h
 rw [he]
 refine wpAny_comprehension_free (use := none) hcls hs (Xki (Xec C I.ok)) C.kind (fun x hx hl => by rw [C.uniq x hx, hl]) (thn (hi pins s σ H _ I h) fun v s1 h1 => thn h1 fun itv s2 h2 => ?_)
 obtain ⟨it, fp, tn, J, H2, ei, I2, T, st2, f2, R⟩ := h2
 subst ei
 refine Xfp (RR := fun acc L => compPost (model X.prog X.w) X.A X.xe none (EP X pins σ Q) acc L) C hcalm cm (by rw [hcls]; rfl) ac.new ac.lay heq hg ht hm I2 T st2 f2 R ?_
 intro D L H' s' m I' fL hm q
 refine ⟨m, hm, fun h' hs' => ?_⟩
 obtain ⟨f0, f1, _, f3, f4, f5⟩ := fL
 exact ⟨.ref D, H', I'.turned (t' := s'.toks) (fun b o hb e => (hs'.2 b hb).trans e) f0 f1 f3 f4 f5, rfl, q⟩
def Xnf (i : Nat) (cap : List (Option Nat)) (o0 : HO) (wi : TI) (g : TG) (tt : TT) (tm : Addr -> TM) : TS := fun D σ H => wi σ H fun J H1 => tBlkG cap o0 g tt tm J σ H1 fun l H2 => D.nx (σ.set i (some (.ref l))) H2
theorem Xkr {wi : TI} {i : Nat} {y : Str} {py spos cpos : Pos} {gens : List Comprehension} (ac : Acc X newAcc ob o0) (he : ∀ use, evalThenUse e X.env use = (do let _ <- comprehension e scope X.env cpos newAcc false (eval iter X.env) (some use))) (hcls : clausesOf e = ⟨tg, iter, ifs, 0⟩ :: gens)
  (C : CompScope X N cap scope) (hcalm : X.calm = true) (cm : Cm e) (hN : X.N.Nodup) (hiN : X.N[i]? = some y) (hy : X.env.scope.names.lookup y = some .local) (hi : PI X tg iter wi)
  (heq : ∀ it D env, compTurn e 0 it (.ref D) env = Xer e 0 tg iter ifs (act D env) it (.ref D) env)
  (hg : ∀ s0 H0 ex, PG (X.comp N scope s0 H0 ex) tg g) (ht : ∀ s0 H0 ex, PIfs (X.comp N scope s0 H0 ex) ifs tt) (hm : ∀ D s0 H0 ex, PM (X.comp N scope s0 H0 ex) (act D (X.comp N scope s0 H0 ex).env) (tm D))
  (hsw : swapsWith e (some (.Name y py)) spos.line X.env = pure true) (hs : ∀ x, foldedSetIterable iter X.env x = pure x) : PS X (.Assign [.Name y py] e spos) (Xnf i cap o0 wi g tt tm) := by
 intro pins s σ H D I h
 rw [exec_Assign_Name_used _ _ _ _ hsw]
 refine wpAny_bind (wpAny_standAt (wpAny_bind ?_))
 rw [he]
 refine wpAny_bind (thn (wpAny_comprehension_free (use := some (assign (.Name y py) X.env)) (Q := fun _ s' => SP X pins D .next s') hcls hs (Xki (Xec C I.ok)) C.kind (fun x hx hl => by rw [C.uniq x hx, hl])
  (thn (hi pins s σ H _ I h) fun v s1 h1 => thn h1 fun itv s2 h2 => ?_)) (fun _ s' hq => wpAny_pure (wpAny_pure hq)))
 obtain ⟨it, fp, tn, J, H2, ei, I2, T, st2, f2, R⟩ := h2
 subst ei
 refine Xfp (RR := fun acc L => compPost (model X.prog X.w) X.A X.xe (some (assign (.Name y py) X.env)) (fun _ s' => SP X pins D .next s') acc L) C hcalm cm (by rw [hcls]; rfl) ac.new ac.lay heq hg ht hm I2 T st2 f2 R ?_
 intro l L H' s' m I' fL hm q
 obtain ⟨f0, f1, _, f3, f4, f5⟩ := fL
 show wpAny _ X.A (assign (.Name y py) X.env (.ref l)) _ _ s'
 refine wpAny_assign_Name (Xhg I' hN hiN (.inl hy) (show RelV (.ref l) (.ref l) from rfl) (fun s3 I3 ⟨a, sb, ha⟩ => ?_) (.inr hy))
 have hLa : L ≠ a := by
  rcases ha with rfl | ha
  ·exact f1
  ·exact fun z => f4 y a ha z.symm
 refine ⟨m, hm.sameBut sb hLa, fun h' hs' => ?_⟩
 exact ⟨_, H', I3.turned (t' := s3.toks) (fun b o hb e => (hs'.2 b hb).trans e) f0 f1 f3 f4 f5, q⟩
end
def act2 (elt tg iter tg2 iter2 : Expr) (ifs ifs2 : List Expr) (scope : Scope) (pos : Pos) (D : Addr) (env : Env) : Sem Unit := do
      let x <- eval iter2 env
      standAt iter2.pos
      let x <- foldedSetIterable iter2 env x
      let _ <- runOwn (.compStart (.ListComp elt [⟨tg, iter, ifs, 0⟩, ⟨tg2, iter2, ifs2, 0⟩] scope pos) 1 (<- holding [x] (pyIter x)) (.ref D) env) env
theorem Xid (elt tg iter tg2 iter2 : Expr) (ifs ifs2 : List Expr) (scope : Scope) (pos : Pos) (it : Value) (D : Addr) (env : Env) :
  compTurn (.ListComp elt [⟨tg, iter, ifs, 0⟩, ⟨tg2, iter2, ifs2, 0⟩] scope pos) 0 it (.ref D) env = Xer (.ListComp elt [⟨tg, iter, ifs, 0⟩, ⟨tg2, iter2, ifs2, 0⟩] scope pos) 0 tg iter ifs (act2 elt tg iter tg2 iter2 ifs ifs2 scope pos D env) it (.ref D) env := by
 unfold compTurn Xer act2
 dsimp only
 simp only [List.getElem?_cons_zero, List.getElem?_cons_succ, bind_assoc, pure_bind]
 simp
 rfl
section
variable {X : Cx} {N : List Str} {cap : List (Option Nat)} {scope : Scope} {tg iter tg2 iter2 elt kx vx : Expr} {ifs ifs2 : List Expr} {g g2 : TG} {tt tt2 : TT} {te tk tv : TE} {wi wi2 : TI} {pos : Pos}
theorem Xjg (C : CompScope X N cap scope) (hcalm : X.calm = true) (hi : PI X tg iter wi)
  (hg : ∀ s0 H0 ex, PG (X.comp N scope s0 H0 ex) tg g) (ht : ∀ s0 H0 ex, PIfs (X.comp N scope s0 H0 ex) ifs tt) (he : ∀ s0 H0 ex, PE (X.comp N scope s0 H0 ex) elt te)
  (hs : ∀ x, foldedSetIterable iter X.env x = pure x := by intro _; rfl) : PE X (.ListComp elt [⟨tg, iter, ifs, 0⟩] scope pos) (tComp cap wi g tt te) :=
 Xgz (act := fun D env => do let _ <- call (.builtin "list.append") [.ref D, <- eval elt env]) Xey rfl rfl C hcalm Xfo hi (fun it D env => rfl) hg ht (fun D s0 H0 ex => Xgy (he s0 H0 ex)) hs
theorem Xjh {i : Nat} {y : Str} {py spos : Pos} (C : CompScope X N cap scope) (hcalm : X.calm = true) (hN : X.N.Nodup) (hiN : X.N[i]? = some y) (hy : X.env.scope.names.lookup y = some .local) (hi : PI X tg iter wi)
  (hg : ∀ s0 H0 ex, PG (X.comp N scope s0 H0 ex) tg g) (ht : ∀ s0 H0 ex, PIfs (X.comp N scope s0 H0 ex) ifs tt) (he : ∀ s0 H0 ex, PE (X.comp N scope s0 H0 ex) elt te)
  (hsw : swapsWith (.ListComp elt [⟨tg, iter, ifs, 0⟩] scope pos) (some (.Name y py)) spos.line X.env = pure true := by rfl)
  (hs : ∀ x, foldedSetIterable iter X.env x = pure x := by intro _; rfl) : PS X (.Assign [.Name y py] (.ListComp elt [⟨tg, iter, ifs, 0⟩] scope pos) spos) (tCompS i cap wi g tt te) :=
 Xkr (act := fun D env => do let _ <- call (.builtin "list.append") [.ref D, <- eval elt env]) Xey (fun use => rfl) rfl C hcalm Xfo hN hiN hy hi (fun it D env => rfl) hg ht (fun D s0 H0 ex => Xgy (he s0 H0 ex)) hsw hs
theorem Xks (C : CompScope X N cap scope) (hcalm : X.calm = true) (hi : PI X tg iter wi)
  (hg : ∀ s0 H0 ex, PG (X.comp N scope s0 H0 ex) tg g) (ht : ∀ s0 H0 ex, PIfs (X.comp N scope s0 H0 ex) ifs tt) (hk : ∀ s0 H0 ex, PE (X.comp N scope s0 H0 ex) kx tk) (hv : ∀ s0 H0 ex, PE (X.comp N scope s0 H0 ex) vx tv)
  (hs : ∀ x, foldedSetIterable iter X.env x = pure x := by intro _; rfl) : PE X (.DictComp kx vx [⟨tg, iter, ifs, 0⟩] scope pos) (Xne cap (.dK []) wi g tt (mDict tk tv)) :=
 Xgz acc_dict rfl rfl C hcalm cm_dict hi (fun it D env => compTurn_dict kx vx tg iter ifs scope pos it D env) hg ht (fun D s0 H0 ex => pm_dict (hk s0 H0 ex) (hv s0 H0 ex)) hs
theorem pe_comp2 (C : CompScope X N cap scope) (hcalm : X.calm = true) (hi : PI X tg iter wi)
  (hg : ∀ s0 H0 ex, PG (X.comp N scope s0 H0 ex) tg g) (ht : ∀ s0 H0 ex, PIfs (X.comp N scope s0 H0 ex) ifs tt)
  (hi2 : ∀ s0 H0 ex, PI (X.comp N scope s0 H0 ex) tg2 iter2 wi2) (hg2 : ∀ s0 H0 ex, PG (X.comp N scope s0 H0 ex) tg2 g2) (ht2 : ∀ s0 H0 ex, PIfs (X.comp N scope s0 H0 ex) ifs2 tt2) (he : ∀ s0 H0 ex, PE (X.comp N scope s0 H0 ex) elt te)
  (hs : ∀ x, foldedSetIterable iter X.env x = pure x := by intro _; rfl) (hs2 : ∀ s0 H0 ex x, foldedSetIterable iter2 (X.comp N scope s0 H0 ex).env x = pure x := by intro _ _ _ _; rfl) :
  PE X (.ListComp elt [⟨tg, iter, ifs, 0⟩, ⟨tg2, iter2, ifs2, 0⟩] scope pos) (Xne cap (.lst []) wi g tt fun D => mFor wi2 g2 tt2 (mList te D)) :=
 Xgz (act := fun D env => act2 elt tg iter tg2 iter2 ifs ifs2 scope pos D env) Xey rfl rfl C hcalm Xfo hi (fun it D env => Xid ..) hg ht (fun D s0 H0 ex => pm_for (Y := X.comp N scope s0 H0 ex) (e := .ListComp elt [⟨tg, iter, ifs, 0⟩, ⟨tg2, iter2, ifs2, 0⟩] scope pos) (d := 1) Xfo rfl hcalm rfl (fun it => rfl) (hi2 s0 H0 ex) (hg2 s0 H0 ex) (ht2 s0 H0 ex) (Xgy (he s0 H0 ex)) (hs2 s0 H0 ex)) hs
end
mutual
def DAt (H : Hp) : PyData -> V -> Prop
 | .none, v => v = .non
 | .bool b, v => v = .bl b
 | .int i, v => v = .int i
 | .str x, v => v = .str x
 | .list ds, v => ∃ p xs, v = .ref p /\ H p = some (.lst xs) /\ DAll H ds xs
 | .tuple ds, v => ∃ p xs, v = .ref p /\ H p = some (.tup xs) /\ DAll H ds xs
 | .dict _, _ => False
def DAll (H : Hp) : List PyData -> List V -> Prop
 | [], vs => vs = []
 | d :: ds, vs => ∃ v r, vs = v :: r /\ DAt H d v /\ DAll H ds r
end
mutual
theorem DAt.same {H H' : Hp} (s : Same H H') : ∀ (d : PyData) (v : V), DAt H d v -> DAt H' d v
 | .none, v, h => by unfold DAt at h ⊢; exact h
 | .bool b, v, h => by unfold DAt at h ⊢; exact h
 | .int i, v, h => by unfold DAt at h ⊢; exact h
 | .str x, v, h => by unfold DAt at h ⊢; exact h
 | .list ds, v, h => by
  unfold DAt at h ⊢
  obtain ⟨p, xs, h1, h2, h3⟩ := h
  exact ⟨p, xs, h1, s _ _ h2, DAll.same s ds xs h3⟩
 | .tuple ds, v, h => by
  unfold DAt at h ⊢
  obtain ⟨p, xs, h1, h2, h3⟩ := h
  exact ⟨p, xs, h1, s _ _ h2, DAll.same s ds xs h3⟩
 | .dict _, v, h => by unfold DAt at h; exact h.elim
theorem DAll.same {H H' : Hp} (s : Same H H') : ∀ (ds : List PyData) (vs : List V), DAll H ds vs -> DAll H' ds vs
 | [], vs, h => by unfold DAll at h ⊢; exact h
 | d :: ds, vs, h => by
  unfold DAll at h ⊢
  obtain ⟨v, r, h1, h2, h3⟩ := h
  exact ⟨v, r, h1, DAt.same s d v h2, DAll.same s ds r h3⟩
end
theorem Xcn {H : Hp} : DAll H [] [] := by unfold DAll; rfl
theorem Xdu {H : Hp} {d : PyData} {ds : List PyData} {v : V} {vs : List V} (h : DAt H d v) (hs : DAll H ds vs) : DAll H (d :: ds) (v :: vs) := by unfold DAll; exact ⟨v, vs, rfl, h, hs⟩
theorem Xc2 {H : Hp} {d : PyData} {v : V} : ∀ {ds : List PyData} {vs : List V}, DAll H ds vs -> DAt H d v -> DAll H (ds ++ [d]) (vs ++ [v])
 | [], vs, h, hd => by
  unfold DAll at h
  subst h
  exact Xdu hd Xcn
 | e :: ds, vs, h, hd => by
  unfold DAll at h
  obtain ⟨u, r, rfl, h2, h3⟩ := h
  exact Xdu h2 (Xc2 h3 hd)
theorem Xb4 {H : Hp} : ∀ {ds : List PyData} {vs : List V}, DAll H ds vs -> vs.length = ds.length
 | [], vs, h => by unfold DAll at h; subst h; rfl
 | e :: ds, vs, h => by
  unfold DAll at h
  obtain ⟨u, r, rfl, h2, h3⟩ := h
  rw [List.length_cons, List.length_cons, Xb4 h3]
theorem Xg0 {H : Hp} : ∀ {ds : List PyData} {vs : List V} {i : Nat} {d : PyData}, DAll H ds vs -> ds[i]? = some d -> ∃ v, vs[i]? = some v /\ DAt H d v
 | [], vs, i, d, h, e => by simp at e
 | c :: ds, vs, 0, d, h, e => by
  unfold DAll at h
  obtain ⟨u, r, rfl, h2, h3⟩ := h
  simp at e
  subst e
  exact ⟨u, rfl, h2⟩
 | c :: ds, vs, i + 1, d, h, e => by
  unfold DAll at h
  obtain ⟨u, r, rfl, h2, h3⟩ := h
  simpa using Xg0 h3 (by simpa using e)
theorem Xcd {H : Hp} (row : List Str) : DAll H (row.map PyData.str) (row.map V.str) := by
 induction row with
 | nil => exact Xcn
 | cons x r ih => exact Xdu (by unfold DAt; rfl) ih
theorem Xng {H : Hp} (row : List Int) : DAll H (row.map PyData.int) (row.map V.int) := by
 induction row with
 | nil => exact Xcn
 | cons x r ih => exact Xdu (by unfold DAt; rfl) ih
theorem Xji {H : Hp} {ds : List PyData} {p : Addr} {xs : List V} (h : H p = some (.tup xs)) (hs : DAll H ds xs) : DAt H (.tuple ds) (.ref p) := by unfold DAt; exact ⟨p, xs, rfl, h, hs⟩
theorem Xg1 {H : Hp} {ds : List PyData} {p : Addr} {xs : List V} (h : H p = some (.lst xs)) (hs : DAll H ds xs) : DAt H (.list ds) (.ref p) := by unfold DAt; exact ⟨p, xs, rfl, h, hs⟩
theorem Xnh {H : Hp} {ds : List PyData} {v : V} (h : DAt H (.tuple ds) v) : ∃ p xs, v = .ref p /\ H p = some (.tup xs) /\ DAll H ds xs := by unfold DAt at h; exact h
section
variable {X : Cx} {pins : List (Addr × Obj)} {σ : St} {H : Hp} {s : Shared}
mutual
theorem Xco (I : Inv X pins σ H s) : ∀ (d : PyData) (v : V) (u : Value), DAt H d v -> RelV v u -> ∃ as, Reads s.heap u d as
 | .none, v, u, h, r => by unfold DAt at h; subst h; cases r; exact ⟨_, .none⟩
 | .bool b, v, u, h, r => by unfold DAt at h; subst h; cases r; exact ⟨_, .bool b⟩
 | .int i, v, u, h, r => by unfold DAt at h; subst h; obtain ⟨t, rfl⟩ := r; exact ⟨_, .int i t⟩
 | .str x, v, u, h, r => by unfold DAt at h; subst h; obtain ⟨t, rfl⟩ := r; exact ⟨_, .str x t⟩
 | .list ds, v, u, h, r => by
  unfold DAt at h
  obtain ⟨p, xs, rfl, hp, hs⟩ := h
  cases r
  obtain ⟨its, rv, pl, hz⟩ := I.list (SqL.of (K := X.K) hp)
  obtain ⟨as, ra⟩ := Xdj I ds xs its hs rv
  obtain ⟨o, ho, hc, n, hd⟩ := pl.isList
  exact ⟨_, .list ho hc hd (by simpa using ra)⟩
 | .tuple ds, v, u, h, r => by
  unfold DAt at h
  obtain ⟨p, xs, rfl, hp, hs⟩ := h
  cases r
  obtain ⟨its, rv, pl, hz⟩ := I.tuple (SqT.of (K := X.K) hp)
  obtain ⟨as, ra⟩ := Xdj I ds xs its hs rv
  obtain ⟨o, ho, hc, n, hd⟩ := pl
  exact ⟨_, .tuple ho hc hd (by simpa using ra)⟩
 | .dict _, v, u, h, r => by unfold DAt at h; exact h.elim
theorem Xdj (I : Inv X pins σ H s) : ∀ (ds : List PyData) (vs : List V) (us : List Value), DAll H ds vs -> Vals vs us -> ∃ as, ReadsAll s.heap us ds as
 | [], vs, us, h, r => by unfold DAll at h; subst h; cases r; exact ⟨_, .nil⟩
 | d :: ds, vs, us, h, r => by
  unfold DAll at h
  obtain ⟨v, vr, rfl, h1, h2⟩ := h
  cases r with
  | cons r1 r2 =>
   obtain ⟨a1, q1⟩ := Xco I d v _ h1 r1
   obtain ⟨a2, q2⟩ := Xdj I ds vr _ h2 r2
   exact ⟨_, .cons q1 q2⟩
end
theorem Xni (hu : X.A.units + 3 < cLine) : OpR X (compareOp .Eq) (fun x y H Q => ∃ d d', DAt H d x /\ DAt H d' y /\ d.canLay0 = true /\ d'.canLay0 = true /\ min d.depth d'.depth <= 3 /\ Q (.bl (PyData.eqv d d')) H) := by
 intro pins s σ H x y v u Q I rx ry h
 obtain ⟨d, d', h1, h2, c1, c2, hd, q⟩ := h
 obtain ⟨as, ra⟩ := Xco I d x v h1 rx
 obtain ⟨bs, rb⟩ := Xco I d' y u h2 ry
 exact SeqAt.compareEq_reads ra rb c1 c2 (by omega) ⟨.bl _, H, I, rfl, q⟩
theorem op_neD (hu : X.A.units + 3 < cLine) : OpR X (compareOp .NotEq) (fun x y H Q => ∃ d d', DAt H d x /\ DAt H d' y /\ d.canLay0 = true /\ d'.canLay0 = true /\ min d.depth d'.depth <= 3 /\ Q (.bl (!PyData.eqv d d')) H) := by
 intro pins s σ H x y v u Q I rx ry h
 obtain ⟨d, d', h1, h2, c1, c2, hd, q⟩ := h
 obtain ⟨as, ra⟩ := Xco I d x v h1 rx
 obtain ⟨bs, rb⟩ := Xco I d' y u h2 ry
 exact SeqAt.compareNe_reads ra rb c1 c2 (by omega) ⟨.bl _, H, I, rfl, q⟩
end
mutual
def Xbo : PyData -> Bool
 | .none | .int _ => true
 | .str x => PyData.strOk x
 | .list xs | .tuple xs => Xa9 xs
 | .bool _ | .dict _ => false
def Xa9 : List PyData -> Bool
 | [] => true
 | x :: xs => Xbo x && Xa9 xs
end
mutual
theorem Xbp : ∀ d : PyData, Xbo d = true -> d.canLay0 = true
 | .none, _ => rfl
 | .int _, _ => rfl
 | .str x, h => h
 | .list xs, h => Xb5 xs h
 | .tuple xs, h => Xb5 xs h
 | .bool _, h => nomatch h
 | .dict _, h => nomatch h
theorem Xb5 : ∀ ds : List PyData, Xa9 ds = true -> PyData.canLayAll0 ds = true
 | [], _ => rfl
 | d :: ds, h => by
  have h' : (Xbo d && Xa9 ds) = true := h
  rw [Bool.and_eq_true] at h'
  show (d.canLay0 && PyData.canLayAll0 ds) = true
  rw [Xbp d h'.1, Xb5 ds h'.2]
  rfl
end
mutual
theorem Xg2 : ∀ (d d' : PyData), Xbo d = true -> Xbo d' = true -> (PyData.eqv d d' = true ↔ d = d')
 | .none, d', _, h => by cases d' <;> simp [PyData.eqv]
 | .int i, d', _, h => by cases d' <;> simp_all [PyData.eqv, Xbo]
 | .str x, d', _, h => by cases d' <;> simp_all [PyData.eqv, Xbo]
 | .list xs, d', g, h => by
  cases d' with
  | list ys =>
   have := Xeh xs ys g h
   simp only [PyData.eqv, this, PyData.list.injEq]
  | _ => simp [PyData.eqv]
 | .tuple xs, d', g, h => by
  cases d' with
  | tuple ys =>
   have := Xeh xs ys g h
   simp only [PyData.eqv, this, PyData.tuple.injEq]
  | _ => simp [PyData.eqv]
 | .bool _, _, g, _ => nomatch g
 | .dict _, _, g, _ => nomatch g
theorem Xeh : ∀ (xs ys : List PyData), Xa9 xs = true -> Xa9 ys = true -> (PyData.eqvAll xs ys = true ↔ xs = ys)
 | [], [], _, _ => by simp [PyData.eqvAll]
 | [], _ :: _, _, _ => by simp [PyData.eqvAll]
 | _ :: _, [], _, _ => by simp [PyData.eqvAll]
 | x :: xs, y :: ys, g, h => by
  have g' : (Xbo x && Xa9 xs) = true := g
  have h' : (Xbo y && Xa9 ys) = true := h
  rw [Bool.and_eq_true] at g' h'
  have e1 := Xg2 x y g'.1 h'.1
  have e2 := Xeh xs ys g'.2 h'.2
  simp only [PyData.eqvAll, Bool.and_eq_true, e1, e2, List.cons.injEq]
end
theorem Xnj {α : Type} [DecidableEq α] (f : α -> PyData) (inj : ∀ a b, f a = f b -> a = b) (a b : α) (ha : Xbo (f a) = true) (hb : Xbo (f b) = true) : PyData.eqv (f a) (f b) = decide (a = b) := by
 rw [Bool.eq_iff_iff, Xg2 _ _ ha hb, decide_eq_true_eq]
 exact ⟨inj a b, fun e => by rw [e]⟩
theorem plainAll_map {α : Type} (f : α -> PyData) : ∀ (xs : List α), (∀ x ∈ xs, Xbo (f x) = true) -> Xa9 (xs.map f) = true
 | [], _ => rfl
 | x :: xs, h => by
  show (Xbo (f x) && Xa9 (xs.map f)) = true
  rw [h x List.mem_cons_self, plainAll_map f xs fun y hy => h y (List.mem_cons_of_mem _ hy)]
  rfl
section
variable {X : Cx} {tg : Expr}
def iDictR (tl : TE) : TI := fun σ H R => tl σ H fun x H1 => ∃ d kvs, x = .ref d /\ ((H1 d = some (.dK kvs) /\ ∀ o, R (Itd d o kvs) (upd H1 d (.frz o (.dK kvs)))) \/ ∃ o, H1 d = some (.frz o (.dK kvs)) /\ R (Itd d o kvs) H1)
theorem Xdv {l : Expr} {tl : TE} (hl : PE X l tl) : PI X tg l (iDictR tl) := by
 intro pins s σ H R I h
 refine thn (hl pins s σ H _ I h) fun v s1 ⟨x, H1, I1, r1, q1⟩ => ?_
 obtain ⟨d, kvs, e, q⟩ := q1
 subst e
 cases r1
 rcases q with ⟨hH, q⟩ | ⟨o, hH, q⟩
 ·obtain ⟨hz, hm, vs, rv, o, es, ep, ho, hex, hd, r⟩ := I1.hok d _ hH
  have hlen : kvs.length = vs.length := Paired.length rv
  refine wpAny_pyIter_dict (knd := Xar X.prog X.w) hm ⟨o, es, ho, hex, hd, r⟩ ?_
  have I2 := I1.freeze hH ho
  refine ⟨s1.heap.objs.size, [s1.heap.objs.size], _, _, _, rfl, I2.kept (t' := s1.toks) fun b o e => Heap.get?_push_of_some _ e, Xfk d _ o es ep hd kvs (Nat.ne_of_lt (Heap.lt_size ho)), ⟨_, Heap.get?_push_size _ rfl, rfl, by rw [hlen]; rfl⟩, fun b hb => ?_, q o⟩
  have e : b = s1.heap.objs.size := by simpa using hb
  subst e
  exact I2.fpOk (Nat.le_refl _) (I2.hok.fresh (Nat.le_refl _))
 ·obtain ⟨ho', hok⟩ := (show Xa5 X.prog X.w H1 s1.heap d (.frz o (.dK kvs)) from I1.hok d _ hH)
  obtain ⟨hz, hm, vs, rv, o', es, ep, ho, hex, hd, r⟩ := hok
  have eo : o' = o := by rw [ho'] at ho; exact (Option.some.inj ho).symm
  subst eo
  have hlen : kvs.length = vs.length := Paired.length rv
  refine wpAny_pyIter_dict (knd := Xar X.prog X.w) hm ⟨o', es, ho, hex, hd, r⟩ ?_
  refine ⟨s1.heap.objs.size, [s1.heap.objs.size], _, _, _, rfl, I1.kept (t' := s1.toks) fun b o e => Heap.get?_push_of_some _ e, Xfk d _ o' es ep hd kvs (Nat.ne_of_lt (Heap.lt_size ho)), ⟨_, Heap.get?_push_size _ rfl, rfl, by rw [hlen]; rfl⟩, fun b hb => ?_, q⟩
  have e : b = s1.heap.objs.size := by simpa using hb
  subst e
  exact I1.fpOk (Nat.le_refl _) (I1.hok.fresh (Nat.le_refl _))
end
def hid (D : Addr) (H : Hp) : Hp := fun b => if b = D then none else H b
theorem Xcp (D : Addr) (H : Hp) : Same (hid D H) H := fun b o e => by
 unfold hid at e
 split at e
 ·cases e
 ·exact e
theorem Xjj (D : Addr) (H : Hp) (o : HO) : hid D (upd H D o) = hid D H := by
 funext b
 unfold hid
 split
 ·rfl
 ·rename_i h
  rw [Xae h]
theorem Xb6 {D : Addr} {H H' : Hp} (s : Same H H') : Same (hid D H) (hid D H') := fun b o e => by
 unfold hid at e ⊢
 split at e
 ·cases e
 ·rename_i h
  rw [if_neg h]
  exact s b o e
theorem Xcs {D b : Addr} {H : Hp} {o : HO} (h : H b = some o) (n : b ≠ D) : hid D H b = some o := by
 unfold hid
 rw [if_neg n]
 exact h
theorem Xjk {D p : Addr} {H : Hp} {o : HO} {ds : List PyData} {xs : List V} (hD : H D = some o) (np : H p = none) (h : DAll (hid D (upd H p (.tup xs))) ds xs) : DAt (hid D (upd H p (.tup xs))) (.tuple ds) (.ref p) :=
 Xji (Xcs Xaa (Xaf hD np).symm) h
section
variable {tt : TT} {te : TE} {J : It} {σ : St} {H0 H1 : Hp} {D : Addr} {F : St -> Hp -> Prop} {j : Nat} {xs0 : List V}
theorem Xnk (n : Nat) (vs : Nat -> V) (ok : Nat -> Bool) (dat : Nat -> PyData) (acc : List PyData) (hH : H0 D = none) (s0 : Same H0 H1) (hxs : H1 D = some (.lst xs0)) (hall : DAll (hid D H1) acc xs0) (hbd : acc.length + n < sizeLine)
  (hgo : ∀ i H2, i < n -> Same H0 H2 -> J.go i H2 /\ ∀ x H3, J.yld i H2 x H3 -> H3 = H2 /\ x = vs i)
  (hst : ∀ H2, Same H0 H2 -> J.stop n H2)
  (tst : ∀ (i : Nat) H2 Q, i < n -> Same H0 H2 -> (∀ H', Same H2 H' -> Q (ok i) H') -> tt (σ.set j (some (vs i))) H2 Q)
  (step : ∀ (i : Nat) xs H2 Q, i < n -> ok i = true -> Same H0 H2 -> H2 D = some (.lst xs) -> (∀ v H', Same H2 H' -> DAt (hid D H') (dat i) v -> Q v H') -> te (σ.set j (some (vs i))) H2 Q)
  (fin : ∀ σ' H2 xs, (∀ v, σ'.set j v = σ.set j v) -> Same H0 H2 -> H2 D = some (.lst xs) -> DAll (hid D H2) (acc ++ ((List.range n).filter ok).map dat) xs -> F σ' H2) :
  tLp (Xdm j) tt (mList te D) J σ H1 F := by
 refine ⟨wN n fun i σ2 H2 => (∀ v, σ2.set j v = σ.set j v) /\ Same H0 H2 /\ ∃ xs, H2 D = some (.lst xs) /\ DAll (hid D H2) (acc ++ ((List.range i).filter ok).map dat) xs, ⟨n, by simp, Nat.zero_le _, fun _ => rfl, s0, xs0, hxs, by simpa using hall⟩, ?_⟩
 rintro i m σ1 H2 ⟨rfl, hi, e, s2, xs, hD, hal⟩
 by_cases hlt : i < n
 ·obtain ⟨h1, h2⟩ := hgo i H2 hlt s2
  refine .inr ⟨h1, fun x H3 y => ?_⟩
  obtain ⟨e1, e2⟩ := h2 x H3 y
  subst e1 e2
  show tt (σ1.set j (some (vs i))) H3 _
  rw [e]
  refine tst i H3 _ hlt s2 fun H4 s4 => ?_
  have s04 := s2.trans s4
  have hD4 := s4 _ _ hD
  have hal4 := DAll.same (Xb6 (D := D) s4) _ _ hal
  have hss : ∀ v, (σ.set j (some (vs i))).set j v = σ.set j v := fun v => by rw [List.set_set]
  have hl : xs.length <= acc.length + i := by
   rw [Xb4 hal, List.length_append, List.length_map]
   have : ((List.range i).filter ok).length <= i := Nat.le_trans (List.length_filter_le ..) (by rw [List.length_range]; omega)
   omega
  refine ite2b (fun hk => ?_) (fun hk => ?_)
  ·show te (σ.set j (some (vs i))) H4 _
   refine step i xs H4 _ hlt hk s04 hD4 fun v H5 s5 hv => ?_
   refine ⟨xs, s5 _ _ hD4, by omega, ?_⟩
   refine wskip hlt ⟨hss, fun b u e' => ?_, xs ++ [v], Xaa, ?_⟩
   ·rw [Xae (Xaf e' hH)]
    exact s5 _ _ (s04 b u e')
   ·rw [Xjj, List.range_succ, List.filter_append, List.map_append, <- List.append_assoc]
    simp only [List.filter_cons, hk, if_true, List.filter_nil, List.map_cons, List.map_nil]
    exact Xc2 (DAll.same (Xb6 (D := D) s5) _ _ hal4) hv
  ·refine wskip hlt ⟨hss, s04, xs, hD4, ?_⟩
   rw [List.range_succ, List.filter_append]
   simpa [hk] using hal4
 ·have ei : i = n := by omega
  subst ei
  exact .inl ⟨hst H2 s2, fin σ1 H2 xs e s2 hD hal⟩
theorem lp_acc {tm : TM} (n : Nat) (vs : Nat -> V) (acc : Nat -> List PyData) (hH : H0 D = none) (s0 : Same H0 H1) (hxs : H1 D = some (.lst xs0)) (hall : DAll (hid D H1) (acc 0) xs0) (Eσ : St -> Prop) (hE : Eσ σ)
  (hgo : ∀ i H2, i < n -> Same H0 H2 -> J.go i H2 /\ ∀ x H3, J.yld i H2 x H3 -> H3 = H2 /\ x = vs i)
  (hst : ∀ H2, Same H0 H2 -> J.stop n H2)
  (step : ∀ (i : Nat) σ1 xs H2 (Q : St -> Hp -> Prop), i < n -> Eσ σ1 -> Same H0 H2 -> H2 D = some (.lst xs) -> DAll (hid D H2) (acc i) xs -> (∀ σ' H' xs', Eσ σ' -> Same H0 H' -> H' D = some (.lst xs') -> DAll (hid D H') (acc (i + 1)) xs' -> Q σ' H') -> tm (σ1.set j (some (vs i))) H2 Q)
  (fin : ∀ σ' H2 xs, Same H0 H2 -> H2 D = some (.lst xs) -> DAll (hid D H2) (acc n) xs -> F σ' H2) :
  tLp (Xdm j) tYes tm J σ H1 F := by
 refine ⟨wN n fun i σ2 H2 => Eσ σ2 /\ Same H0 H2 /\ ∃ xs, H2 D = some (.lst xs) /\ DAll (hid D H2) (acc i) xs, ⟨n, by simp, Nat.zero_le _, hE, s0, xs0, hxs, hall⟩, ?_⟩
 rintro i m σ1 H2 ⟨rfl, hi, e, s2, xs, hD, hal⟩
 by_cases hlt : i < n
 ·obtain ⟨h1, h2⟩ := hgo i H2 hlt s2
  refine .inr ⟨h1, fun x H3 y => ?_⟩
  obtain ⟨e1, e2⟩ := h2 x H3 y
  subst e1 e2
  unfold Xdm tYes
  dsimp only
  rw [if_pos rfl]
  exact step i σ1 xs H3 _ hlt e s2 hD hal fun σ' H' xs' e' s' hD' hal' => wskip hlt ⟨e', s', xs', hD', hal'⟩
 ·have ei : i = n := by omega
  subst ei
  exact .inl ⟨hst H2 s2, fin σ1 H2 xs s2 hD hal⟩
end
section
variable {X : Cx} {pos np hpos : Pos} {body : List Stmt} {b0 : Stmt} {suite : List Stmt} {x : Str} {Cc : Addr} {tb : (Addr -> St -> Hp -> Prop) -> TS} {th : TS}
end
section
variable {X : Cx}
def rCatT2 : R2 := fun x y H Q => ∃ a b xs ys, x = .ref a /\ y = .ref b /\ H a = some (.tup xs) /\ H b = some (.tup ys) /\ xs.length + ys.length <= sizeLine /\ ∀ p H', Same H H' -> H' p = some (.tup (xs ++ ys)) -> Q (.ref p) H'
theorem op_catT2 : OpR X (binaryOp .Add) rCatT2 := by
 intro pins s σ H x y v u Q I rx ry h
 obtain ⟨a, b, xs, ys, rfl, rfl, ha, hb, hz, q⟩ := h
 by_cases hx : xs = []
 ·subst hx
  cases rx
  cases ry
  obtain ⟨its, r1, p1, _⟩ := I.tuple (SqT.of (K := X.K) ha)
  obtain ⟨its2, r2, p2, _⟩ := I.tuple (SqT.of (K := X.K) hb)
  cases r1
  obtain ⟨⟨cls, dd, data, sl⟩, ho, hc, n, hd⟩ := id p1
  obtain ⟨⟨cls2, dd2, data2, sl2⟩, ho2, hc2, n2, hd2⟩ := id p2
  simp only at hc hd hc2 hd2
  subst hc hd hc2 hd2
  exact concat_meets ⟨_, ho, rfl⟩ ⟨_, ho2, rfl⟩ noFill_tuple_add seq_tuple_add PySem.F.slot_tuple_add PySem.F.entry_tuple_add (PySem.F.args_tuple_add_2 _ _)
   (tuple_addW0 a b _ _ n n2 dd dd2 sl sl2 (by simp)) ⟨ho, ho2, ⟨.ref b, H, I, rfl, q b H (Same.refl H) hb⟩⟩
 ·refine op_catT pins s σ H (.ref a) (.ref b) v u Q I rx ry ⟨a, b, xs, ys, rfl, rfl, SqT.of ha, SqT.of hb, hx, hz, fun hy => ?_, fun hy p np => ?_⟩
  ·subst hy
   exact q a H (Same.refl H) (by rw [List.append_nil]; exact ha)
  ·exact q p _ ((Same.refl H).step np) Xaa
end
end L2
namespace HT
open PySem PySem.Spec PyProof.Rows PySem.Calls L2
section
variable {prog : Program} {w : World} {A : Around} {E : Value -> Shared -> Prop} {s : Shared}
end
end HT
namespace L2
open PySem PySem.Spec PyProof.Rows
section
variable {X : Cx} {pos p2 : Pos} {e : Expr} {te : TE}
def tRevT (te : TE) : TE := fun σ H Q => te σ H fun x H1 => ∃ a xs, x = .ref a /\ H1 a = some (.tup xs) /\ ∀ p, H1 p = none -> Q (.ref p) (upd H1 p (.tup xs.reverse))
end
section
variable {X : Cx} {es : List Expr} {t : L2.St -> Hp -> (Hp -> Prop) -> Prop} {e : Expr} {te : TE} {pos : Pos}
end
def codP (c : Addr) (q : Str) : Heap -> Prop := fun h => h.CodeRec (.ref c) q
def lamP (f : Addr) (fd : FuncData) : Heap -> Prop := fun h => ∃ o, h.get? f = some o /\ o.data = .func fd
theorem Xnl {c : Addr} {q : Str} : ∀ h1 h2 : Heap, codP c q h1 -> (∀ o, h1.get? c = some o -> h2.get? c = some o) -> codP c q h2 := by
 rintro h1 h2 ⟨c1, o, vs, t, e, ho, r⟩ k
 cases e
 exact ⟨c, o, vs, t, rfl, k _ ho, r⟩
theorem Xie {f : Addr} {fd : FuncData} : ∀ h1 h2 : Heap, lamP f fd h1 -> (∀ o, h1.get? f = some o -> h2.get? f = some o) -> lamP f fd h2 := by
 rintro h1 h2 ⟨o, ho, r⟩ k
 exact ⟨o, k _ ho, r⟩
theorem lam_run {CX : CXT} {P : Program} {w : World} {K : PySem.W.Frag} {mg : Str -> Option Value} {base : Heap} {A : Around} {outer : List Env} {s : Shared} {H : Hp} {k : Nat} {f c : Addr} {name qual : Str} {params : Arguments} {body : Expr} {scope : Scope} {pm ctv : Value}
  {N ps : List Str} {us : List Value} {vs : List V} {Q : VK} {E : XK} {t : TE}
  (hf : H f = some (.ext (lamP f (PySem.W.kla_fn name qual params body scope [] pm (.ref c) ctv)))) (hc : H c = some (.ext (codP c qual))) (S : FnScope N ps scope) (hr : Room (k + 1) A) (e0 : Env0 P w K mg base A outer s H)
  (hl : vs.length = ps.length) (r : Vals vs us) (hb : bindArgs (PySem.W.kla_fn name qual params body scope [] pm (.ref c) ctv) ⟨us, []⟩ = pure (ps.zip us))
  (ht : PE (cxOf CX P w K mg base N qual scope f (.ref c) A outer s H E) body t) (hq : t (start N vs) H Q) :
  codeAny (model P w) A (.call (.ref f) ⟨us, []⟩) (CR CX outer P w H s Q E) s := by
 obtain ⟨⟨of, hof, hod⟩, _⟩ := e0.hok f _ hf
 obtain ⟨hcod, _⟩ := e0.hok c _ hc
 have lim : s.heap.NoLimit := e0.mod.nolimit.keeps fun b o e => (e0.bs b o e).1
 have hkind : ∀ y ∈ ps.zip us, scope.names.lookup y.1 = some .local \/ (scope.names.lookup y.1 = some .cell /\ ((cellsFrom (s.heap.objs.size + 1) scope.names []).lookup y.1).isSome = true) := fun ⟨n, v⟩ hy => by
  rcases S.par n (List.of_mem_zip hy).1 with q | q
  ·exact .inl q
  ·exact .inr ⟨q, PySem.W.cellsFrom_some _ _ _ (.inl q)⟩
 refine PySem.W.kla_callFunE hr.depth hof hod S.co S.gen rfl hcod ?_
 rw [hb]
 refine wpAny_pure ?_
 refine wpAny_newFunctionEnv_cells S.kind hkind fun env he s1 x => ?_
 subst he
 refine ⟨lim.keeps x.toInCall.keep, PySem.W.kla_codeExpr ?_⟩
 have I : Inv (cxOf CX P w K mg base N qual scope f (.ref c) A outer s H E) [] (start N vs) H s1 := Xhn S hr.hd e0 hl r x
 refine wpAny_mono (ht [] s1 (start N vs) H _ I hq) (fun u s' hs => ?_) fun e s' hs => hs
 obtain ⟨v, H', J, rv, q⟩ := hs
 exact ⟨v, H', J.os, J.bare, J.base, J.hok, rv, q⟩
def BmOk (mg : Str -> Option Value) (base : Heap) : Prop := ∃ bm ob, mg "__builtins__" = some (.ref bm) /\ bm ≠ builtinsNs /\ base.get? bm = some ob /\ ob.cls = .type "module" /\ ob.dict = some builtinsNs /\ ob.data = .plain
def Xb0 (T : Addr) (pos : Pos) (q : Str) (H : Hp) : Prop := H T = some (.tbl #[]) \/ ∃ c, H T = some (.tbl #[rawInt pos.line, rawInt pos.col, .ref c]) /\ H c = some (.ext (codP c q))
def tLam (T : Addr) (q : Str) (params : Arguments) (body : Expr) (scope : Scope) (pos : Pos) : TE := fun _ H Q => Xb0 T pos q H /\
 ∀ (f c : Addr) (pm ctv : Value) (H' : Hp), H f = none -> H' f = some (.ext (lamP f (PySem.W.kla_fn "<lambda>" q params body scope [] pm (.ref c) ctv))) -> H' c = some (.ext (codP c q)) -> Xb0 T pos q H' -> (∀ b o, H b = some o -> b ≠ T -> H' b = some o) -> Q (.ref f) H'
section
variable {X : Cx} {T c0 : Addr} {params : Arguments} {body : Expr} {scope : Scope} {pos : Pos} {q : Str}
theorem inv_hit {pins : List (Addr × Obj)} {σ : St} {H : Hp} {s : Shared} {h' : Heap} {tk : Nat} {fd : FuncData} {o : Obj} (I : Inv X pins σ H s) (k : ∀ b o, s.heap.get? b = some o -> h'.get? b = some o) (hsz : s.heap.objs.size <= h'.objs.size) (ho : o.data = .func fd) (hfr : o.isFreed = false) :
  Inv X pins σ (upd H h'.objs.size (.ext (lamP h'.objs.size fd))) { s with heap := h'.push o, toks := tk } := by
 refine I.laid (t' := tk) (h' := h'.push o) (fun b ob e => Heap.get?_push_of_some _ (k b ob e)) hsz ?_
 exact ⟨⟨o, Heap.get?_push_size _ hfr, ho⟩, ⟨o, Heap.get?_push_size _ hfr⟩, Xie⟩
theorem inv_miss {pins : List (Addr × Obj)} {σ : St} {H : Hp} {s : Shared} {h' : Heap} {tk : Nat} {fd : FuncData} {o : Obj} {c : Addr} {ps : Array Value} (I : Inv X pins σ H s) (hT : H T = some (.tbl #[])) (hx : Heap.ExtBut T s.heap h') (hge : s.heap.objs.size <= c) (hlt : c < h'.objs.size)
  (hrec : h'.CodeRec (.ref c) q) (htb : h'.get? T = some (PySem.W.tabObj (#[] ++ ps))) (ho : o.data = .func fd) (hfr : o.isFreed = false) :
  Inv X pins σ (upd (upd (upd H T (.tbl ps)) c (.ext (codP c q))) h'.objs.size (.ext (lamP h'.objs.size fd))) { s with heap := h'.push o, toks := tk } := by
 have htb' : h'.get? T = some { cls := .none, data := .fields ps } := by simpa using htb
 have nf : ∀ b u, s.heap.get? b = some u -> b ≠ c /\ b ≠ h'.objs.size := fun b u e => by
  have z := Nat.lt_of_lt_of_le (Heap.lt_size e) hge
  exact ⟨Nat.ne_of_lt z, Nat.ne_of_lt (Nat.lt_trans z hlt)⟩
 have nH : ∀ b u, H b = some u -> b ≠ c /\ b ≠ h'.objs.size := fun b u e => by
  have z := Nat.lt_of_lt_of_le (I.hok.lt e) hge
  exact ⟨Nat.ne_of_lt z, Nat.ne_of_lt (Nat.lt_trans z hlt)⟩
 have nT : ∀ b, H b = none -> b ≠ T := fun b n z => by rw [z, hT] at n; cases n
 have kp : ∀ b u, b ≠ T -> s.heap.get? b = some u -> (h'.push o).get? b = some u := fun b u n e => Heap.get?_push_of_some _ (hx b u n e)
 have up : ∀ b u, H b = some u -> b ≠ T -> (upd (upd (upd H T (.tbl ps)) c (.ext (codP c q))) h'.objs.size (.ext (lamP h'.objs.size fd))) b = some u := fun b u e n => by
  rw [Xae (nH b u e).2, Xae (nH b u e).1, Xae n]; exact e
 refine I.step (g' := s.gens) (d' := s.drawn) (t' := tk) (h' := h'.push o) (ch := []) (fun _ z => nomatch z) (fun b u _ _ _ e n => kp b u (nT b n) e) (fun b u _ _ _ e n => ⟨u.slots, kp b u (nT b n) e⟩) (fun b u _ e n => ?_) (fun b u _ e => ?_)
  (fun b xs e => up b _ e fun z => by rw [z, hT] at e; cases e) (fun b u v e => up b _ e fun z => by rw [z, hT] at e; cases e) (fun b pz e => ?_) (fun m hn => (hn.extBut hx (nT _ I.free)).push _) ?_ I.bare
 ·rw [Xae (nf b u e).2, Xae (nf b u e).1, Xae (nT b n)]; exact n
 ·by_cases z : b = T
  ·exact ⟨_, z ▸ Heap.get?_push_of_some _ htb'⟩
  ·exact ⟨u, kp b u z e⟩
 ·by_cases z : b = T
  ·subst z
   rw [hT] at e
   cases e
   refine ⟨ps, ?_⟩
   rw [Xae (nH b _ hT).2, Xae (nH b _ hT).1, Xaa]
   simp
  ·exact ⟨#[], by rw [up b _ e z]; simp⟩
 ·intro b u e
  by_cases z1 : b = h'.objs.size
  ·subst z1
   rw [Xaa] at e
   cases e
   exact ⟨⟨o, Heap.get?_push_size _ hfr, ho⟩, ⟨o, Heap.get?_push_size _ hfr⟩, Xie⟩
  ·rw [Xae z1] at e
   by_cases z2 : b = c
   ·subst z2
    rw [Xaa] at e
    cases e
    obtain ⟨c1, oc, vs, t, e1, hoc, r⟩ := hrec
    cases e1
    exact ⟨⟨b, oc, vs, t, rfl, Heap.get?_push_of_some _ hoc, r⟩, ⟨oc, Heap.get?_push_of_some _ hoc⟩, Xnl⟩
   ·rw [Xae z2] at e
    by_cases z3 : b = T
    ·subst z3
     rw [Xaa] at e
     cases e
     exact Heap.get?_push_of_some _ htb'
    ·rw [Xae z3] at e
     refine (I.hok b u e).stay (fun d v hd g => kp d v ?_ g) (fun d g => up d _ g fun z => by rw [z, hT] at g; cases g) fun d xs g => up d _ g fun z => by rw [z, hT] at g; cases g
     rcases hd with rfl | hd
     ·exact z3
     ·intro z
      rw [z, hT] at hd
      cases hd
theorem pe_lam (hbm : BmOk X.mg X.base) (hdef : defaultsOf params X.env = ([], [])) (hcl : closureFor scope X.env = pure []) (hcode : X.env.code = .ref c0) (hhd : PySem.W.codeHdIn X.K c0 T = true) (hq : X.env.qual ++ "<lambda>" = q) :
  PE X (.Lambda params body scope pos) (tLam T q params body scope pos) := by
 intro pins s σ H Q I h
 obtain ⟨tab, k⟩ := h
 obtain ⟨bm, ob, b1, b2, b3, b4, b5, b6⟩ := hbm
 have hg : s.heap.Ns mainGlobals X.mg := I.mod.glob.keeps I.bk
 have C : PySem.W.CodeHd s.heap c0 T := PySem.W.codeHd_of_K I.kIn hhd
 have nb : bm ≠ T := fun z => by
  have n := (I.bs bm ob b3).2
  rw [z] at n
  rcases tab with e | ⟨c, e, _⟩ <;> (rw [e] at n; cases n)
 have hbG : bm ≠ mainGlobals := fun z => by
  obtain ⟨o, es, ep, e, hd, _⟩ := I.mod.glob
  rw [z, e] at b3; cases b3; rw [hd] at b6; cases b6
 have hB : s.heap.BuiltinsAt X.mg T := ⟨bm, ob, b1, b2, hbG, nb, I.bk _ _ b3, b4, b5, b6⟩
 refine PySem.W.kla_eval hdef ?_
 rw [hq]
 rcases tab with e | ⟨c, e, ec⟩
 ·have hP : s.heap.get? T = some (PySem.W.tabObj #[]) := I.hok T _ e
  have hgT : mainGlobals ≠ T := fun z => by
   obtain ⟨o, es, ep, e2, hd, _⟩ := hg
   rw [z, hP] at e2; cases e2; cases hd
  refine PySem.W.kla_makeFunction (mg := X.mg) (clos := []) hcl I.ok.glob hg hcode C hP trivial rfl hgT hB fun c' ctv h' tk hx hge hlt hrec htb => ?_
  have J := inv_miss (tk := tk) (o := PySem.W.kla_obj "<lambda>" q params body scope [] ((X.mg "__name__").getD .none) c' ctv) I e hx hge hlt hrec htb rfl rfl
  have ltf : ∀ b o, H b = some o -> b < c' := fun b o eb => Nat.lt_of_lt_of_le (I.hok.lt eb) hge
  have ncT : c' ≠ T := (Nat.ne_of_lt (ltf _ _ e)).symm
  have nfc : c' ≠ h'.objs.size := Nat.ne_of_lt hlt
  have nTf : T ≠ h'.objs.size := Nat.ne_of_lt (Nat.lt_trans (ltf _ _ e) hlt)
  refine ⟨.ref h'.objs.size, _, J, rfl, k _ c' _ ctv _ (I.hok.fresh (Nat.le_of_lt (Nat.lt_of_le_of_lt hge hlt))) Xaa (by rw [Xae nfc, Xaa]) (.inr ⟨c', by rw [Xae nTf, Xae ncT.symm, Xaa], by rw [Xae nfc, Xaa]⟩) fun b o eb nb => ?_⟩
  rw [Xae (Nat.ne_of_lt (Nat.lt_trans (ltf _ _ eb) hlt)), Xae (Nat.ne_of_lt (ltf _ _ eb)), Xae nb]
  exact eb
 ·have hP : s.heap.get? T = some (PySem.W.tabObj #[rawInt pos.line, rawInt pos.col, .ref c]) := I.hok T _ e
  refine PySem.W.kla_makeFunctionHit (mg := X.mg) (clos := []) (cv := .ref c) hcl I.ok.glob hg hcode C hP trivial (by simp [codeAmong, rawInt]) hB fun ctv h' tk hk hsz => ?_
  have J := inv_hit (tk := tk) (fd := PySem.W.kla_fn "<lambda>" q params body scope [] ((X.mg "__name__").getD .none) (.ref c) ctv) (o := { cls := .type "function", data := .func (PySem.W.kla_fn "<lambda>" q params body scope [] ((X.mg "__name__").getD .none) (.ref c) ctv) }) I hk hsz rfl rfl
  have nf : ∀ b o, H b = some o -> b ≠ h'.objs.size := fun b o eb => Nat.ne_of_lt (Nat.lt_of_lt_of_le (I.hok.lt eb) hsz)
  refine ⟨.ref h'.objs.size, _, J, rfl, k _ c _ ctv _ (I.hok.fresh hsz) Xaa (by rw [Xae (nf _ _ ec)]; exact ec) (.inr ⟨c, by rw [Xae (nf _ _ e)]; exact e, by rw [Xae (nf _ _ ec)]; exact ec⟩) fun b o eb _ => ?_⟩
  rw [Xae (nf b o eb)]
  exact eb
end
end L2
namespace SH
open PySem PySem.Spec PyProof.Rows L2
structure Bl (mg : Str -> Option Value) : Prop where
 len : mg "len" = none
 range : mg "range" = none
 list : mg "list" = none
 min : mg "min" = none
 isi : mg "isinstance" = none
 all : mg "all" = none
 str : mg "str" = none
 val : mg "ValueError" = none
 sorted : mg "sorted" = none
 set : mg "set" = none
 enum : mg "enumerate" = none
 int : mg "int" = none
 bool : mg "bool" = none
 tuple : mg "tuple" = none
 any : mg "any" = none
 dict : mg "dict" = none
 sum : mg "sum" = none
 max : mg "max" = none
structure DrawOk (H : Hp) (dr sc : Addr) : Prop where
 ex : ∃ (ns : List Int) (p : Nat) (c m k : Int), H dr = some (.lst [.ref sc, .int p, .int c, .int m, .int k]) /\ H sc = some (.lst (ns.map V.int)) /\ p <= ns.length /\ ns.length <= 63 /\ 0 <= m /\ m < 1000000007
def Xjl (K : PySem.W.Frag) : Sp := fun vs H Q _ => ∃ (a : Addr) (ns : List Int), vs = [.ref a] /\ SqL K H a (ns.map V.int) /\ ns.length <= 63 /\ ∀ dr sc H', H dr = none -> H sc = none -> DrawOk H' dr sc -> Same H H' -> Q (.ref dr) H'
def spPick : Sp := fun vs H Q _ => ∃ (dr sc : Addr) (n : Int), vs = [.ref dr, .int n] /\ 0 < n /\ n <= 1000 /\ DrawOk H dr sc /\
 ∀ r H', 0 <= r -> r < n -> DrawOk H' dr sc -> (∀ b o, H b = some o -> b ≠ dr -> H' b = some o) -> Q (.int r) H'
abbrev NP : List Str := ["_law_draw", "_law_many", "_law_cell", "_law_got"]
def D5 (H : Hp) (dr sc : Addr) (ns : List Int) (p : Nat) (c m k : Int) : Prop := H dr = some (.lst [.ref sc, .int p, .int c, .int m, .int k]) /\ H sc = some (.lst (ns.map V.int))
theorem cpow3 {m : Int} (h0 : 0 <= m) (h1 : m < 1000000007) : CPow m 3 := ⟨by decide, by decide, by omega⟩
def putR (row : List Str) (x : Str) (a b : Nat) : List Str := row.take a ++ [x] ++ (row.drop a).take (b - a) ++ [x] ++ row.drop b
theorem Xif (row : List Str) (x : Str) (a b : Nat) (hab : a <= b) : (putR row x a b).Perm (x :: x :: row) := by
 unfold putR
 have e : row = row.take a ++ ((row.drop a).take (b - a) ++ row.drop b) := by
  have e1 : row.drop b = (row.drop a).drop (b - a) := by rw [List.drop_drop]; congr 1; omega
  rw [e1, List.take_append_drop, List.take_append_drop]
 generalize hA : row.take a = A at *
 generalize hB : (row.drop a).take (b - a) = B at *
 generalize hC : row.drop b = C at *
 rw [e]
 have p1 : (A ++ [x] ++ B ++ [x] ++ C).Perm (x :: (A ++ B ++ [x] ++ C)) := by
  have : A ++ [x] ++ B ++ [x] ++ C = A ++ x :: (B ++ [x] ++ C) := by simp
  rw [this]
  refine List.perm_middle.trans ?_
  simp
 refine p1.trans (List.Perm.cons x ?_)
 have : A ++ B ++ [x] ++ C = (A ++ B) ++ x :: C := by simp
 rw [this]
 refine List.perm_middle.trans ?_
 simp
def spPut : Sp := fun vs H Q _ => ∃ (r : Addr) (row : List Str) (x : Str) (a b : Nat), vs = [.ref r, .str x, .int a, .int b] /\ H r = some (.lst (row.map V.str)) /\ row.length <= 1000 /\ a <= b /\ b <= row.length /\
 ∀ l H', H l = none -> H' l = some (.lst ((putR row x a b).map V.str)) -> Same H H' -> Q (.ref l) H'
abbrev NPut : List Str := ["_law_row_here", "_law_name", "_law_at", "_law_to", "_law_told"]
def plcF (x : Str) : Nat -> List Str -> List Int
 | _, [] => []
 | n, y :: r => if y = x then (n : Int) :: plcF x (n + 1) r else plcF x (n + 1) r
def plc (row : List Str) (x : Str) : List Int := plcF x 0 row
theorem Xig (x y : Str) : ∀ (n : Nat) (r : List Str), plcF x n (r ++ [y]) = plcF x n r ++ (if y = x then [((n + r.length : Nat) : Int)] else [])
 | n, [] => by
  show (if y = x then ((n : Nat) : Int) :: plcF x (n + 1) [] else plcF x (n + 1) []) = _
  split <;> simp [plcF]
 | n, z :: r => by
  have ih := Xig x y (n + 1) r
  show (if z = x then (n : Int) :: plcF x (n + 1) (r ++ [y]) else plcF x (n + 1) (r ++ [y])) = (if z = x then (n : Int) :: plcF x (n + 1) r else plcF x (n + 1) r) ++ _
  rw [ih, List.length_cons, show n + 1 + r.length = n + (r.length + 1) by omega]
  split <;> simp
theorem Xez (x : Str) : ∀ (n : Nat) (r : List Str), (plcF x n r).length = r.count x
 | _, [] => rfl
 | n, z :: r => by
  show (if z = x then (n : Int) :: plcF x (n + 1) r else plcF x (n + 1) r).length = _
  rw [List.count_cons]
  split
  ·rename_i e
   rw [List.length_cons, Xez, if_pos (by simpa using e)]
  ·rename_i e
   rw [Xez, if_neg (by simpa using e)]
   rfl
theorem Xjm (row : List Str) (x : Str) : (plc row x).length = row.count x := Xez x 0 row
theorem Xg3 (r : List Str) (x y : Str) : plc (r ++ [y]) x = plc r x ++ (if y = x then [(r.length : Int)] else []) := by
 have e := Xig x y 0 r
 rw [Nat.zero_add] at e
 exact e
structure Wh (H : Hp) (kvs : List (Key × V)) (row : List Str) : Prop where
 keys : ∀ k ∈ kvs.map (·.1), ∃ x, k = Sum.inr x /\ x ∈ row
 val : ∀ x ∈ row, ∃ l, valV kvs (Sum.inr x : Key) = some (.ref l) /\ H l = some (.lst ((plc row x).map V.int))
 none : ∀ x, x ∉ row -> valV kvs (Sum.inr x : Key) = none
 nd : (kvs.map (·.1)).Nodup
 len : kvs.length <= row.length
theorem Xih {kvs : List (Key × V)} {k : Key} {v : V} {l : V} (h : valV kvs k = some l) : (putK kvs k v).map (·.1) = kvs.map (·.1) := by
 unfold putK
 rw [Xb3, h, if_pos Option.isSome_some, List.map_map]
 refine List.map_congr_left fun p _ => ?_
 show (if p.1 = k then (p.1, v) else p).1 = p.1
 split <;> rfl
theorem Wh.snoc {H H' : Hp} {kvs : List (Key × V)} {row : List Str} (w : Wh H kvs row) (y : Str) (l : Addr) (hl : H' l = some (.lst ((plc (row ++ [y]) y).map V.int)))
  (s : ∀ b xs, H b = some (.lst xs) -> H' b = some (.lst xs)) : Wh H' (putK kvs (Sum.inr y) (.ref l)) (row ++ [y]) := by
 refine ⟨fun k hk => ?_, fun x hx => ?_, fun x hx => ?_, ?_, ?_⟩
 ·by_cases hy : y ∈ row
  ·obtain ⟨l0, e, _⟩ := w.val y hy
   rw [Xih e] at hk
   obtain ⟨x, e1, e2⟩ := w.keys k hk
   exact ⟨x, e1, List.mem_append_left _ e2⟩
  ·rw [Xew _ (w.none y hy), List.map_append] at hk
   rcases List.mem_append.mp hk with hk | hk
   ·obtain ⟨x, e1, e2⟩ := w.keys k hk
    exact ⟨x, e1, List.mem_append_left _ e2⟩
   ·exact ⟨y, by simpa using hk, by simp⟩
 ·rw [Xev]
  by_cases e : x = y
  ·subst e
   exact ⟨l, if_pos rfl, hl⟩
  ·have hx' : x ∈ row := by
    rcases List.mem_append.mp hx with z | z
    ·exact z
    ·exact absurd (List.mem_singleton.mp z) e
   obtain ⟨l0, e1, e2⟩ := w.val x hx'
   refine ⟨l0, by rw [if_neg (fun z => e (Sum.inr.inj z))]; exact e1, ?_⟩
   rw [Xg3, if_neg (fun z => e z.symm), List.append_nil]
   exact s _ _ e2
 ·rw [Xev]
  have h1 : x ∉ row := fun z => hx (List.mem_append_left _ z)
  have h2 : x ≠ y := fun z => hx (by rw [z]; simp)
  rw [if_neg (fun z => h2 (Sum.inr.inj z))]
  exact w.none x h1
 ·by_cases hy : y ∈ row
  ·obtain ⟨l0, e, _⟩ := w.val y hy
   rw [Xih e]
   exact w.nd
  ·exact nd_putK _ w.nd (w.none y hy)
 ·have := Xcj kvs (Sum.inr y : Key) (.ref l)
  have := w.len
  rw [List.length_append, List.length_singleton]
  omega
def Xfq : Sp := fun vs H Q _ => ∃ (r : Addr) (row : List Str), vs = [.ref r] /\ H r = some (.lst (row.map V.str)) /\ row.length <= 1000 /\
 ∀ d kvs H', H d = none -> H' d = some (.dK kvs) -> Wh H' kvs row -> Same H H' -> Q (.ref d) H'
abbrev NWh : List Str := ["_law_row_here", "_law_told", "_law_at"]
def inn (a b : Int) (ys : List Int) : List Int := ys.filter fun t => decide (a < t) && decide (t < b)
theorem Xnm (a b : Int) (ys : List Int) : (inn a b ys).length <= ys.length := List.length_filter_le ..
def words3 : List Str := ["same", "cross", "around"]
def Xf4 (a b c e : Int) (same : Bool) : Str :=
 if (same || decide (0 < (inn a b [c, e]).length)) = true then words3.getD (inn a b [c, e]).length "apart" else if c < a /\ b < e then "within" else "apart"
def spWord : Sp := fun vs H Q _ => ∃ (d l1 l2 : Addr) (kvs : List (Key × V)) (x y : Str) (a b c e : Int), vs = [.ref d, .str x, .str y] /\ Rd H d (.dK kvs) /\ valV kvs (Sum.inr x : Key) = some (.ref l1) /\ valV kvs (Sum.inr y : Key) = some (.ref l2) /\
 H l1 = some (.lst [.int a, .int b]) /\ H l2 = some (.lst [.int c, .int e]) /\ ∀ H', Same H H' -> Q (.str (Xf4 a b c e (decide (x = y)))) H'
abbrev NWo : List Str := ["_law_where_here", "_law_one", "_law_other", "_law_low", "_law_high", "_law_inner"]
theorem Rd.same {H H' : Hp} {d : Addr} {o : HO} (r : Rd H d o) (s : Same H H') : Rd H' d o := by
 rcases r with r | ⟨u, r⟩
 ·exact .inl (s _ _ r)
 ·exact .inr ⟨u, s _ _ r⟩
theorem DGet.rd {H : Hp} {a : Addr} {kvs : List (Key × V)} {x : Str} {v : V} (e : Rd H a (.dK kvs)) (h : valV kvs (Sum.inr x : Key) = some v) : DGet H a (.str x) (some v) := .inl ⟨kvs, Sum.inr x, e, rfl, h.symm⟩
theorem two_plc {row : List Str} {x : Str} (h : row.count x = 2) : ∃ a b, plc row x = [a, b] := by
 have e := Xjm row x
 rw [h] at e
 match q : plc row x, e with
 | [a, b], _ => exact ⟨a, b, rfl⟩
abbrev NBa : List Str := ["_law_row_here", "_law_name", "_law_where_here", "_law_met", "_law_at", "_law_other"]
abbrev NBc : List Str := ["_law_one", "_law_name", "_law_where_here"]
abbrev Xjn : Str := "kqvzbdgmprtxhnjfwlycsaeiou"
def signOf (i : Nat) : Str := ⟨#[(Xjn.cps.toList).getD i 0]⟩
def Xii (st : Nat) (late : Bool) (k : Nat) : Str :=
 if late = true then (repS "m" ((st + k * k) % 7) ++ signOf ((st + k) % 26)) ++ "y" else signOf ((st + k) % 26) ++ repS "m" ((st + k * k) % 7)
def Xas (st : Nat) (late : Bool) (n : Nat) : List Str := (List.range n).map (Xii st late)
theorem Xlp : ∀ st < 26, ∀ late : Bool, (Xas st late 14).Nodup := by decide +kernel
theorem Xe0 {st : Nat} {late : Bool} {n : Nat} (hs : st < 26) (hn : n <= 14) : (Xas st late n).Nodup := by
 refine (Xlp st hs late).sublist ?_
 unfold Xas
 refine List.Sublist.map _ ?_
 have e : List.range 14 = List.range n ++ (List.range (14 - n)).map (n + ·) := by
  rw [<- List.range_add]
  congr 1
  omega
 rw [e]
 exact List.sublist_append_left ..
def But (dr : Addr) (H H' : Hp) : Prop := ∀ b o, H b = some o -> b ≠ dr -> H' b = some o
theorem But.trans {dr : Addr} {H H1 H2 : Hp} (a : But dr H H1) (b : But dr H1 H2) : But dr H H2 := fun c o e h => b c o (a c o e h) h
theorem But.same {dr : Addr} {H H1 H2 : Hp} (a : But dr H H1) (b : Same H1 H2) : But dr H H2 := fun c o e h => b c o (a c o e h)
theorem But.free {dr b : Addr} {H H' : Hp} {o : HO} (a : But dr H H') (hd : H' dr = some o) (h : H' b = none) : H b = none := by
 cases q : H b with
 | none => rfl
 | some u =>
  by_cases e : b = dr
  ·rw [e, hd] at h; cases h
  ·rw [a b u q e] at h; cases h
theorem But.upd {dr a : Addr} {H H' : Hp} {o : HO} (x : But dr H H') (h : H a = none) : But dr H (L2.upd H' a o) := fun b u e hb => by
 rw [Xae (Xaf e h)]
 exact x b u e hb
theorem DrawOk.at {H : Hp} {dr sc : Addr} (d : DrawOk H dr sc) : ∃ xs, H dr = some (.lst xs) := let ⟨_, _, _, _, _, h, _⟩ := d.ex; ⟨_, h⟩
theorem DrawOk.same {H H' : Hp} {dr sc : Addr} (d : DrawOk H dr sc) (s : Same H H') : DrawOk H' dr sc :=
 let ⟨ns, p, c, m, k, h1, h2, r⟩ := d.ex; ⟨ns, p, c, m, k, s _ _ h1, s _ _ h2, r⟩
theorem DrawOk.upd {H : Hp} {dr sc a : Addr} {o : HO} (d : DrawOk H dr sc) (h1 : a ≠ dr) (h2 : a ≠ sc) : DrawOk (L2.upd H a o) dr sc :=
 let ⟨ns, p, c, m, k, e1, e2, r⟩ := d.ex; ⟨ns, p, c, m, k, by rw [Xae h1.symm]; exact e1, by rw [Xae h2.symm]; exact e2, r⟩
theorem DrawOk.ne {H : Hp} {dr sc a : Addr} (d : DrawOk H dr sc) (h : H a = none) : a ≠ dr /\ a ≠ sc := by
 obtain ⟨ns, p, c, m, k, e1, e2, r⟩ := d.ex
 exact ⟨(Xaf e1 h).symm, (Xaf e2 h).symm⟩
def Xjo : Sp := fun vs H Q _ => ∃ (dr sc : Addr) (n : Nat), vs = [.ref dr, .int n] /\ n <= 14 /\ DrawOk H dr sc /\
 ∀ l st late H', H l = none -> st < 26 -> H' l = some (.lst ((Xas st late n).map V.str)) -> l ≠ sc -> DrawOk H' dr sc -> But dr H H' -> Q (.ref l) H'
abbrev FnPick (P : Program) (w : World) (K : PySem.W.Frag) (mg : Str -> Option Value) (base : Heap) : Prop := Fn P w K mg base CX0 1 "_law_pick" ["_law_draw", "_law_many"] spPick
abbrev NNa : List Str := ["_law_draw", "_law_many", "_law_base", "_law_start", "_law_late", "_law_told", "_law_k", "_law_sign", "_law_hum"]
theorem sign_at {i : Nat} (h : i < 26) : atI Xjn.cps.toList (i : Int) = some ((Xjn.cps.toList).getD i 0) := by
 have hl : i < Xjn.cps.toList.length := h
 refine Xfe ?_
 rw [List.getElem?_eq_getElem hl]
 simp [List.getD, List.getElem?_eq_getElem hl]
theorem Xce {l : List Str} (h : l.Nodup) {row : List Str} (p : row.Perm (l ++ l)) : ∀ y ∈ row, row.count y = 2 := fun y hy => by
 rw [p.count_eq, List.count_append]
 have hy' : y ∈ l := by
  rcases List.mem_append.mp (p.mem_iff.mp hy) with z | z
  ·exact z
  ·exact z
 have e1 : l.count y <= 1 := List.nodup_iff_count.mp h y
 have e2 : 0 < l.count y := List.count_pos_iff.mpr hy'
 omega
theorem Xij {A row more : List Str} {x : Str} (p : row.Perm (A ++ A)) (q : more.Perm (x :: x :: row)) : more.Perm ((A ++ [x]) ++ (A ++ [x])) := by
 refine q.trans (((p.cons x).cons x).trans ?_)
 have e : (A ++ [x]) ++ (A ++ [x]) = A ++ x :: (A ++ x :: []) := by simp
 rw [e]
 refine List.Perm.trans ?_ List.perm_middle.symm
 refine List.Perm.cons x ?_
 have e2 : A ++ (A ++ x :: []) = (A ++ A) ++ x :: [] := by simp
 rw [e2]
 refine List.Perm.trans ?_ List.perm_middle.symm
 simp
abbrev NRo : List Str := ["_law_draw", "_law_names_here", "_law_cut", "_law_row_here", "_law_name", "_law_at", "_law_to", "_law_more"]
def spIsland : Sp := fun vs H Q _ => ∃ (dr sc : Addr) (m : Nat), vs = [.ref dr, .int m] /\ m <= 14 /\ DrawOk H dr sc /\
 ∀ (l : Addr) (row : List Str) (n st : Nat) (late : Bool) (H' : Hp), H l = none -> n <= m -> st < 26 -> H' l = some (.lst (row.map V.str)) -> row.Perm (Xas st late n ++ Xas st late n) -> DrawOk H' dr sc -> But dr H H' -> Q (.ref l) H'
abbrev NIs : List Str := ["_law_draw", "_law_most", "_law_few", "_law_many"]
theorem Xg4 (K : PySem.W.Frag) (T : String) : PySem.W.kitOne K (.type T) (.type T) = some true := by
 unfold PySem.W.kitOne
 rw [if_pos (beq_self_eq_true _)]
theorem Xfr (row : List Str) (x : Str) : ((List.range row.length).filter fun i => decide (row.getD i Str.empty = x)).map (fun i : Nat => (i : Int)) = plc row x := by
 have go : ∀ n, n <= row.length -> ((List.range n).filter fun i => decide (row.getD i Str.empty = x)).map (fun i : Nat => (i : Int)) = plc (row.take n) x := by
  intro n
  induction n with
  | zero => intro _; rfl
  | succ n ih =>
   intro h
   have hn : n < row.length := by omega
   have e : row.getD n Str.empty = row[n] := by simp [List.getD, hn]
   rw [List.range_succ, List.filter_append, List.map_append, ih (by omega), List.take_succ_eq_append_getElem hn, Xg3, List.filter_cons, e, List.length_take, Nat.min_eq_left (by omega)]
   by_cases q : row[n] = x
   ·rw [if_pos q, if_pos (decide_eq_true q)]
    rfl
   ·rw [if_neg q, if_neg (by simpa using q)]
    rfl
 rw [go _ (Nat.le_refl _), List.take_length]
def okN (x : Str) : Prop := x.length <= 20 /\ ∀ c ∈ x.cps.toList, c < 0x110000
def spAsk (C : Addr) : Sp := fun vs H Q E => ∃ (r : Addr) (row : List Str) (x : Str), vs = [.ref r, .str x] /\ H r = some (.lst (row.map V.str)) /\ okN x /\
 (x ∈ row -> ∀ H', Same H H' -> Q .non H') /\ (x ∉ row -> ∀ H', Same H H' -> E (.ref C) none H')
def spDitches : Sp := fun vs H Q _ => ∃ (r : Addr) (row : List Str), vs = [.ref r] /\ H r = some (.lst (row.map V.str)) /\ row.length <= 60 /\
 ∀ l H', H l = none -> H' l = some (.lst ((dit row).map V.str)) -> Same H H' -> Q (.ref l) H'
def Xnn (C : Addr) : Sp := fun vs H Q E => ∃ (r : Addr) (row : List Str) (x : Str), vs = [.ref r, .str x] /\ H r = some (.lst (row.map V.str)) /\ okN x /\ row.length <= 1000 /\
 (x ∈ row -> ∃ a b, plc row x = [a, b] /\ ∀ l H', H l = none -> H' l = some (.tup [.int a, .int b]) -> Same H H' -> Q (.ref l) H') /\ (x ∉ row -> ∀ H', Same H H' -> E (.ref C) none H')
abbrev NEn : List Str := ["row", "name", "found"]
abbrev NEc : List Str := ["at", "end", "name"]
end SH
namespace L2
open PySem PySem.Spec PyProof.Rows
theorem Xdw (x y : Str) : decide (V.str x = V.str y) = decide (x = y) := by
 by_cases z : x = y
 ·rw [z]; simp
 ·rw [decide_eq_false z, decide_eq_false (fun q => z (by injection q))]
theorem Xdx {α : Type} (f : α -> V) (d : α) (xs : List α) {i : Nat} (hi : i < xs.length) : (xs.map f).getD i .non = f (xs.getD i d) := by simp [List.getD, hi]
end L2
namespace SH
open PySem PySem.Spec PyProof.Rows L2
theorem Wh.names {H : Hp} {kvs : List (Key × V)} {row : List Str} (w : Wh H kvs row) : ∃ ss : List Str, kvs.map (·.1) = ss.map (fun x => (Sum.inr x : Key)) /\ ss.Nodup /\ ∀ x, x ∈ ss ↔ x ∈ row := by
 have e : ∀ ks : List Key, (∀ k ∈ ks, ∃ x, k = Sum.inr x) -> ∃ ss : List Str, ks = ss.map (fun x => (Sum.inr x : Key)) := by
  intro ks
  induction ks with
  | nil => intro _; exact ⟨[], rfl⟩
  | cons k r ih =>
   intro h
   obtain ⟨x, rfl⟩ := h k List.mem_cons_self
   obtain ⟨ss, rfl⟩ := ih fun k hk => h k (List.mem_cons_of_mem _ hk)
   exact ⟨x :: ss, rfl⟩
 obtain ⟨ss, hs⟩ := e (kvs.map (·.1)) fun k hk => let ⟨x, h, _⟩ := w.keys k hk; ⟨x, h⟩
 have inj : ∀ x, x ∈ ss ↔ (Sum.inr x : Key) ∈ kvs.map (·.1) := fun x => by
  rw [hs, List.mem_map]
  constructor
  ·exact fun h => ⟨x, h, rfl⟩
  ·rintro ⟨y, hy, e⟩
   rw [<- Sum.inr.inj e]; exact hy
 refine ⟨ss, hs, ?_, fun x => ?_⟩
 ·have := w.nd
  rw [hs] at this
  exact List.Pairwise.of_map _ (fun a b hab e => hab (congrArg _ e)) this
 ·rw [inj]
  constructor
  ·intro h
   obtain ⟨y, e, hy⟩ := w.keys _ h
   rw [Sum.inr.inj e]; exact hy
  ·intro h
   obtain ⟨l, e, _⟩ := w.val x h
   exact Xgm e
structure Isl (row : List Str) : Prop where
 ex : ∃ n st late, n <= 14 /\ st < 26 /\ row.Perm (Xas st late n ++ Xas st late n)
theorem Xno {st n : Nat} {late : Bool} (hn : n <= 14) {x : Str} (h : x ∈ Xas st late n) : x ∈ Xas st late 14 := by
 unfold Xas at h ⊢
 obtain ⟨i, hi, rfl⟩ := List.mem_map.mp h
 exact List.mem_map.mpr ⟨i, List.mem_range.mpr (by have := List.mem_range.mp hi; omega), rfl⟩
instance (x : Str) : Decidable (okN x) := inferInstanceAs (Decidable (_ /\ _))
theorem Xlq : ∀ st < 26, ∀ late : Bool, ∀ x ∈ Xas st late 14, okN x := by decide +kernel
theorem Isl.two {row : List Str} (h : Isl row) : ∀ y ∈ row, row.count y = 2 := by
 obtain ⟨n, st, late, hn, hs, p⟩ := h.ex
 exact Xce (Xe0 hs hn) p
theorem Isl.len {row : List Str} (h : Isl row) : row.length <= 28 := by
 obtain ⟨n, st, late, hn, hs, p⟩ := h.ex
 have := p.length_eq
 unfold Xas at this
 simp at this
 omega
theorem Isl.ok {row : List Str} (h : Isl row) : ∀ y ∈ row, okN y := fun y hy => by
 obtain ⟨n, st, late, hn, hs, p⟩ := h.ex
 refine Xlq st hs late y (Xno hn ?_)
 rcases List.mem_append.mp (p.mem_iff.mp hy) with z | z <;> exact z
def strangerOf : List Str -> Str
 | [] => "noneatal"
 | y :: _ => Txt.slice y none (some 7) ++ Str.ofString "q"
theorem Xnp {x : Str} (h : okN x) : Xbo (.str x) = true := by
 show PyData.strOk x = true
 unfold PyData.strOk
 rw [<- Array.all_toList, List.all_eq_true]
 intro c hc
 exact decide_eq_true (h.2 c hc)
theorem Xnq {row : List Str} {x : Str} {i : Int} : i ∈ plc row x ↔ ∃ k : Nat, i = k /\ row[k]? = some x := by
 rw [<- Xfr, List.mem_map]
 constructor
 ·rintro ⟨k, hk, rfl⟩
  obtain ⟨h1, h2⟩ := List.mem_filter.mp hk
  have hk' := List.mem_range.mp h1
  refine ⟨k, rfl, ?_⟩
  have := of_decide_eq_true h2
  rw [List.getElem?_eq_getElem hk']
  simpa [List.getD, hk'] using this
 ·rintro ⟨k, rfl, hk⟩
  have hk' : k < row.length := (List.getElem?_eq_some_iff.mp hk).1
  refine ⟨k, List.mem_filter.mpr ⟨List.mem_range.mpr hk', decide_eq_true ?_⟩, rfl⟩
  simp [List.getD, hk]
theorem plc_lt (row : List Str) (x : Str) : (plc row x).Pairwise (· < ·) := by
 rw [<- Xfr, List.pairwise_map]
 refine List.Pairwise.imp ?_ (List.Pairwise.filter _ (List.pairwise_lt_range (n := row.length)))
 intro a b h
 omega
def pl (row : List Str) (x : Str) : Int × Int := ((plc row x).getD 0 0, (plc row x).getD 1 0)
theorem pl_of {row : List Str} {x : Str} {a b : Int} (h : plc row x = [a, b]) : pl row x = (a, b) := by
 unfold pl
 rw [h]
 rfl
theorem Xfs {row : List Str} {x : Str} (h : row.count x = 2) : plc row x = [(pl row x).1, (pl row x).2] := by
 obtain ⟨a, b, e⟩ := two_plc h
 rw [pl_of e, e]
theorem Xda {row : List Str} {x : Str} (h : row.count x = 2) : (pl row x).1 < (pl row x).2 := by
 have h1 := plc_lt row x
 rw [Xfs h] at h1
 simpa using h1
theorem Xjp {row : List Str} {x y : Str} (hx : row.count x = 2) (hy : row.count y = 2) (n : x ≠ y) : (pl row x).1 ≠ (pl row y).1 /\ (pl row x).1 ≠ (pl row y).2 /\ (pl row x).2 ≠ (pl row y).1 /\ (pl row x).2 ≠ (pl row y).2 := by
 have key : ∀ i, i ∈ plc row x -> i ∈ plc row y -> False := fun i h1 h2 => by
  obtain ⟨k, e1, g1⟩ := Xnq.mp h1
  obtain ⟨m, e2, g2⟩ := Xnq.mp h2
  have : k = m := by omega
  subst this
  rw [g1] at g2
  exact n (Option.some.inj g2)
 rw [Xfs hx, Xfs hy] at key
 refine ⟨fun e => key (pl row x).1 (by simp) (by rw [e]; simp), fun e => key (pl row x).1 (by simp) (by rw [e]; simp), fun e => key (pl row x).2 (by simp) (by rw [e]; simp), fun e => key (pl row x).2 (by simp) (by rw [e]; simp)⟩
def nIn (a b : Int) (ys : List Int) : Nat := (inn a b ys).length
theorem nIn2 (a b c e : Int) : nIn a b [c, e] = (if a < c /\ c < b then 1 else 0) + (if a < e /\ e < b then 1 else 0) := by
 unfold nIn inn
 simp only [List.filter_cons, List.filter_nil, Bool.and_eq_true, decide_eq_true_eq]
 split <;> split <;> rfl
def lieT (a b c e : Int) : Str := if a = c /\ b = e then "same" else if nIn c e [a, b] = 1 then "cross" else if nIn c e [a, b] = 2 then "within" else if nIn a b [c, e] = 2 then "around" else "apart"
theorem lie_word {a b c e : Int} (h1 : a < b) (h2 : c < e) (n1 : a ≠ c) (n2 : a ≠ e) (n3 : b ≠ c) (n4 : b ≠ e) : lieT a b c e = Xf4 a b c e false := by
  unfold lieT Xf4
  rw [if_neg (fun z => n1 z.1)]
  have e1 := nIn2 a b c e
  have e2 := nIn2 c e a b
  have e3 : (inn a b [c, e]).length = nIn a b [c, e] := rfl
  rw [e3]
  generalize nIn a b [c, e] = p at *
  generalize nIn c e [a, b] = q at *
  by_cases p1 : a < c /\ c < b <;> by_cases p2 : a < e /\ e < b <;> by_cases q1 : c < a /\ a < e <;> by_cases q2 : c < b /\ b < e <;>
    (first | rw [if_pos p1] at e1 | rw [if_neg p1] at e1) <;> (first | rw [if_pos p2] at e1 | rw [if_neg p2] at e1) <;>
    (first | rw [if_pos q1] at e2 | rw [if_neg q1] at e2) <;> (first | rw [if_pos q2] at e2 | rw [if_neg q2] at e2) <;> subst e1 e2 <;> first
    | (exfalso; omega)
    | rfl
    | (have hw : (c < a /\ b < e) := by omega
       rw [if_pos hw]; rfl)
    | (have hw : ¬ (c < a /\ b < e) := by omega
       rw [if_neg hw]; rfl)
theorem lie_self {a b : Int} : lieT a b a b = Xf4 a b a b true := by
 unfold lieT Xf4
 rw [if_pos ⟨rfl, rfl⟩, Bool.true_or, if_pos rfl]
 have e1 := nIn2 a b a b
 have e3 : (inn a b [a, b]).length = nIn a b [a, b] := rfl
 rw [e3, e1, if_neg (by omega), if_neg (by omega)]
 rfl
def lieR (row : List Str) (x y : Str) : Str := lieT (pl row x).1 (pl row x).2 (pl row y).1 (pl row y).2
theorem Xby {row : List Str} {x y : Str} (hx : row.count x = 2) (hy : row.count y = 2) : lieR row x y = Xf4 (pl row x).1 (pl row x).2 (pl row y).1 (pl row y).2 (decide (x = y)) := by
 unfold lieR
 by_cases n : x = y
 ·subst n
  rw [decide_eq_true rfl]
  exact lie_self
 ·rw [decide_eq_false n]
  obtain ⟨n1, n2, n3, n4⟩ := Xjp hx hy n
  exact lie_word (Xda hx) (Xda hy) n1 n2 n3 n4
def crs (row : List Str) : List (Str × Str) := (dit row).flatMap fun x => ((dit row).filter fun y => decide (ltS x y) && decide (lieR row x y = "cross")).map fun y => (x, y)
def prD (p : Str × Str) : PyData := .tuple [.str p.1, .str p.2]
structure Spn (H : Hp) (kvs : List (Key × V)) (row : List Str) (ns : List Str) : Prop where
 keys : kvs.map (·.1) = ns.map (fun x => (Sum.inr x : Key))
 val : ∀ x ∈ ns, ∃ l, valV kvs (Sum.inr x : Key) = some (.ref l) /\ H l = some (.tup [.int (pl row x).1, .int (pl row x).2])
theorem Spn.mono {H H' : Hp} {kvs : List (Key × V)} {row ns : List Str} (s : Spn H kvs row ns) (h : Same H H') : Spn H' kvs row ns := ⟨s.keys, fun x hx => let ⟨l, h1, h2⟩ := s.val x hx; ⟨l, h1, h _ _ h2⟩⟩
end SH
namespace L2
open PySem
theorem hu3 {A : Around} {k : Nat} (hr : Room k A) : A.units + 3 < cLine := by have := hr.units; omega
end L2
namespace SH
open PySem PySem.Spec PyProof.Rows L2
structure Row2 (row : List Str) : Prop where
 two : ∀ y ∈ row, row.count y = 2
 ok : ∀ y ∈ row, okN y
 len : row.length <= 60
theorem Isl.row2 {row : List Str} (h : Isl row) : Row2 row := ⟨h.two, h.ok, by have := h.len; omega⟩
def spSpans : Sp := fun vs H Q _ => ∃ (r : Addr) (row : List Str), vs = [.ref r] /\ H r = some (.lst (row.map V.str)) /\ Row2 row /\
 ∀ d kvs H', H d = none -> H' d = some (.dK kvs) -> Spn H' kvs row (dit row) -> Same H H' -> Q (.ref d) H'
def Lie4 (a b c e : Int) : Prop := c <= e /\ (b = e -> a = c)
theorem lie4 {row : List Str} {x y : Str} (hx : row.count x = 2) (hy : row.count y = 2) : Lie4 (pl row x).1 (pl row x).2 (pl row y).1 (pl row y).2 :=
 ⟨Int.le_of_lt (Xda hy), fun e => by
  by_cases n : x = y
  ·rw [n]
  ·exact absurd e (Xjp hx hy n).2.2.2⟩
theorem lie_cr {a b c e : Int} (n : ¬ (a = c /\ b = e)) (h : ((decide (c < a) && decide (a < e)) == (decide (c < b) && decide (b < e))) = false) : lieT a b c e = "cross" := by
 unfold lieT
 rw [if_neg n, if_pos]
 rw [nIn2]
 rw [<- Bool.decide_and, <- Bool.decide_and] at h
 by_cases q1 : c < a /\ a < e <;> by_cases q2 : c < b /\ b < e <;> simp [q1, q2] at h ⊢
theorem lie_wi {a b c e : Int} (n : ¬ (a = c /\ b = e)) (h : ((decide (c < a) && decide (a < e)) == (decide (c < b) && decide (b < e))) = true) (h2 : (decide (c < a) && decide (a < e)) = true) : lieT a b c e = "within" := by
 unfold lieT
 rw [h2, beq_iff_eq] at h
 simp only [Bool.and_eq_true, decide_eq_true_eq] at h2
 have h3 : c < b /\ b < e := by simpa using h.symm
 rw [if_neg n, nIn2, if_pos h2, if_pos h3, if_neg (by decide), if_pos rfl]
theorem lie_out {a b c e : Int} (l : Lie4 a b c e) (n : ¬ (a = c /\ b = e)) (h : ((decide (c < a) && decide (a < e)) == (decide (c < b) && decide (b < e))) = true) (h2 : (decide (c < a) && decide (a < e)) = false) : lieT a b c e = if (decide (a < c) && decide (c < b)) = true then "around" else "apart" := by
 unfold lieT
 rw [h2, beq_iff_eq] at h
 have h2 : ¬ (c < a /\ a < e) := fun z => by rw [decide_eq_true z.1, decide_eq_true z.2] at h2; cases h2
 have h3 : ¬ (c < b /\ b < e) := fun z => by rw [decide_eq_true z.1, decide_eq_true z.2] at h; cases h
 rw [if_neg n, nIn2, if_neg h2, if_neg h3, if_neg (by decide), if_neg (by decide), nIn2]
 obtain ⟨l1, l2⟩ := l
 have key : a < c /\ c < b -> a < e /\ e < b := fun z => by
  have : b ≠ e := fun q => n ⟨l2 q, q⟩
  omega
 by_cases q : a < c /\ c < b
 ·rw [if_pos q, if_pos (key q), if_pos rfl, if_pos (by simp [q])]
 ·rw [if_neg q, if_neg (by split <;> decide), if_neg (by simpa using q)]
def spLieOf : Sp := fun vs H Q _ => ∃ (p q : Addr) (a b c e : Int), vs = [.ref p, .ref q] /\ H p = some (.tup [.int a, .int b]) /\ H q = some (.tup [.int c, .int e]) /\ Lie4 a b c e /\ ∀ H', Same H H' -> Q (.str (lieT a b c e)) H'
theorem Xft {ta tb tc : TE} {σ : L2.St} {H : Hp} {Q : VK} {x y z : Int} (ha : ∀ Q' : VK, Q' (.int x) H -> ta σ H Q') (hb : ∀ Q' : VK, Q' (.int y) H -> tb σ H Q') (hc : ∀ Q' : VK, Q' (.int z) H -> tc σ H Q') (h : Q (.bl (decide (x < y) && decide (y < z))) H) :
  Xmk (rI0 fun i j => .bl (decide (i < j))) (rI0 fun i j => .bl (decide (i < j))) ta tb tc σ H Q := by
 refine ha _ (hb _ ⟨x, y, rfl, rfl, _, rfl, ?_⟩)
 refine ite2b (fun q => hc _ ⟨y, z, rfl, rfl, ?_⟩) (fun q => ?_)
 ·rw [q, Bool.true_and] at h
  exact h
 ·rw [q, Bool.false_and] at h
  exact h
def Xbg : Sp := fun vs H Q _ => ∃ (r : Addr) (row : List Str), vs = [.ref r] /\ H r = some (.lst (row.map V.str)) /\ Row2 row /\
 ∀ l xs H', H l = none -> H' l = some (.lst xs) -> DAll (hid l H') ((crs row).map prD) xs -> Same H H' -> Q (.ref l) H'
abbrev NSp : List Str := ["name", "row"]
abbrev NLo : List Str := ["here", "there", "first", "last"]
abbrev NCr : List Str := ["row", "span"]
abbrev NCc : List Str := ["one", "other", "span"]
theorem Spn.snoc {H H' : Hp} {kvs : List (Key × V)} {row ns : List Str} {x : Str} {l : Addr} (s : Spn H kvs row ns) (nx : x ∉ ns) (h : H' l = some (.tup [.int (pl row x).1, .int (pl row x).2])) (k : ∀ b xs, H b = some (.tup xs) -> H' b = some (.tup xs)) :
  Spn H' (putK kvs (Sum.inr x) (.ref l)) row (ns ++ [x]) := by
 have hn : valV kvs (Sum.inr x : Key) = none := by
  cases e : valV kvs (Sum.inr x : Key) with
  | none => rfl
  | some v =>
   exfalso
   have := Xgm e
   rw [s.keys] at this
   obtain ⟨y, hy, e2⟩ := List.mem_map.mp this
   rw [Sum.inr.inj e2] at hy
   exact nx hy
 refine ⟨by rw [Xew _ hn, List.map_append, List.map_append, s.keys]; rfl, fun y hy => ?_⟩
 rw [Xev]
 by_cases e : y = x
 ·subst e
  exact ⟨l, if_pos rfl, h⟩
 ·have hy' : y ∈ ns := by
   rcases List.mem_append.mp hy with z | z
   ·exact z
   ·exact absurd (List.mem_singleton.mp z) e
  obtain ⟨l0, h1, h2⟩ := s.val y hy'
  exact ⟨l0, by rw [if_neg (fun z => e (Sum.inr.inj z))]; exact h1, k _ _ h2⟩
theorem Spn.get {H : Hp} {kvs : List (Key × V)} {row ns : List Str} {d : Addr} {x : Str} (s : Spn H kvs row ns) (hd : Rd H d (.dK kvs)) (hx : x ∈ ns) : ∃ l, DGet H d (.str x) (some (.ref l)) /\ H l = some (.tup [.int (pl row x).1, .int (pl row x).2]) := by
 obtain ⟨l, h1, h2⟩ := s.val x hx
 exact ⟨l, DGet.rd hd h1, h2⟩
theorem Spn.at {H : Hp} {kvs : List (Key × V)} {row ns : List Str} (s : Spn H kvs row ns) (i : Nat) (hi : i < ns.length) : (kvs.map fun p => kV p.1).getD i .non = .str (ns.getD i Str.empty) := by
 have e : (kvs.map fun p => kV p.1) = ns.map V.str := by
  have : (kvs.map fun p => kV p.1) = (kvs.map (·.1)).map kV := by rw [List.map_map]; rfl
  rw [this, s.keys, List.map_map]
  rfl
 rw [e]
 exact Xdx V.str Str.empty ns hi
theorem Spn.len {H : Hp} {kvs : List (Key × V)} {row ns : List Str} (s : Spn H kvs row ns) : kvs.length = ns.length := by
 have := congrArg List.length s.keys
 simpa using this
theorem Xb7 {ns : List Str} {i : Nat} (hi : i < ns.length) : ns.getD i Str.empty ∈ ns := by
 have : ns.getD i Str.empty = ns[i] := by simp [List.getD, hi]
 rw [this]
 exact List.getElem_mem hi
theorem Wh.two' {H : Hp} {kvs : List (Key × V)} {row : List Str} {x : Str} (w : Wh H kvs row) (hx : x ∈ row) (h : row.count x = 2) : ∃ l, valV kvs (Sum.inr x : Key) = some (.ref l) /\ H l = some (.lst [.int (pl row x).1, .int (pl row x).2]) := by
 obtain ⟨l, h1, h2⟩ := w.val x hx
 rw [Xfs h] at h2
 exact ⟨l, h1, h2⟩
theorem Xbd {H : Hp} : ∀ {ss : List Str} {xs : List V}, DAll H (ss.map PyData.str) xs -> xs = ss.map V.str
 | [], xs, h => by unfold List.map DAll at h; exact h
 | s :: ss, xs, h => by
  rw [List.map_cons] at h
  unfold DAll at h
  obtain ⟨v, r, rfl, h1, h2⟩ := h
  unfold DAt at h1
  rw [h1, Xbd h2]
  rfl
def spTuple : Sp := fun vs H Q _ => ∃ (v : V) (ss : List Str), vs = [v] /\ DAt H (.tuple (ss.map PyData.str)) v /\ ss.length <= 1000 /\ ∀ H', Same H H' -> Q (.bl true) H'
def Xcq (how : Str) (off : Bool) : Bool := if how = "within" then off else (!decide (how = "apart") || !off)
def told (ss : List Str) : List Str := srt (ddup ss)
def Xam (row plot : List Str) : Bool := decide (plot = told plot) && plot.all (fun x => decide (x ∈ row)) && plot.all fun x => (dit row).all fun y => Xcq (lieR row x y) (decide (y ∈ plot))
def trD (t : Str × Str × Str) : PyData := .tuple [.str t.1, .str t.2.1, .str t.2.2]
def barB (row : List Str) (x y : Str) : Bool := decide (lieR row x y = "within") || (decide (lieR row x y = "apart") && decide (ltS x y))
def bars (row : List Str) : List (Str × Str × Str) := (dit row).flatMap fun x => ((dit row).filter (barB row x)).map fun y => (x, y, lieR row x y)
def Xei (bs : List (Str × Str × Str)) (plot : List Str) : Bool := bs.all fun t => !(decide (t.1 ∈ plot) && !decide (decide (t.2.1 ∈ plot) = decide (t.2.2 = "within")))
def Xnr (row plot : List Str) : Bool := decide (plot = (dit row).filter fun y => decide (y ∈ plot)) && Xei (bars row) plot
theorem Xlr {a b c e : Int} (h1 : a < b) (h2 : c < e) (n1 : a ≠ c) (n2 : a ≠ e) (n3 : b ≠ c) (n4 : b ≠ e) (h : lieT a b c e = "apart") : lieT c e a b = "apart" := by
 unfold lieT at h ⊢
 rw [if_neg (fun z => n1 z.1)] at h
 rw [if_neg (fun z => n1 z.1.symm)]
 have e1 := nIn2 a b c e
 have e2 := nIn2 c e a b
 generalize nIn a b [c, e] = p at *
 generalize nIn c e [a, b] = q at *
 by_cases p1 : a < c /\ c < b <;> by_cases p2 : a < e /\ e < b <;> by_cases q1 : c < a /\ a < e <;> by_cases q2 : c < b /\ b < e <;>
  (first | rw [if_pos p1] at e1 | rw [if_neg p1] at e1) <;> (first | rw [if_pos p2] at e1 | rw [if_neg p2] at e1) <;>
  (first | rw [if_pos q1] at e2 | rw [if_neg q1] at e2) <;> (first | rw [if_pos q2] at e2 | rw [if_neg q2] at e2) <;> subst e1 e2 <;> first
  | (exfalso; omega)
  | rfl
  | (exfalso; revert h; decide +kernel)
theorem Xls {row : List Str} {x y : Str} (hx : row.count x = 2) (hy : row.count y = 2) (h : lieR row x y = "apart") : lieR row y x = "apart" := by
 by_cases n : x = y
 ·subst n; exact h
 ·obtain ⟨n1, n2, n3, n4⟩ := Xjp hx hy n
  exact Xlr (Xda hx) (Xda hy) n1 n2 n3 n4 h
theorem Xdy (row : List Str) (x : Str) : lieR row x x = "same" := by
 unfold lieR lieT
 rw [if_pos ⟨rfl, rfl⟩]
theorem Xe1 {l : List Str} (h : l.Pairwise ltS) : l.Pairwise leS := h.imp fun h => leS_of h
theorem Xb8 {l : List Str} (h : l.Pairwise ltS) : l.Nodup := h.imp fun h => Xh7 h
theorem Xns {l : List Str} (h : l.Nodup) : (ddup l).Perm l := Xeg (Xjc l) h (Xgv l)
theorem Xg5 {l : List Str} (h : l.Pairwise ltS) : told l = l := Xia ((Xa6 _).trans (Xns (Xb8 h))) (Xdr _) (Xe1 h)
theorem Xjq (l : List Str) : (told l).Pairwise ltS := Xds l
theorem told_mem {l : List Str} {x : Str} : x ∈ told l ↔ x ∈ l := Xag
theorem Xdk {row plot : List Str} : (plot = (dit row).filter fun y => decide (y ∈ plot)) ↔ (plot = told plot /\ ∀ x ∈ plot, x ∈ row) := by
 constructor
 ·intro h
  have hp : plot.Pairwise ltS := by
   rw [h]
   exact (Xds row).filter _
  refine ⟨(Xg5 hp).symm, fun x hx => ?_⟩
  rw [h] at hx
  exact Xag.mp (List.mem_filter.mp hx).1
 ·rintro ⟨h1, h2⟩
  have hp : plot.Pairwise ltS := by rw [h1]; exact Xjq plot
  have hq : ((dit row).filter fun y => decide (y ∈ plot)).Pairwise ltS := (Xds row).filter _
  refine Xia (Xeg (Xb8 hp) (Xb8 hq) fun x => ?_) (Xe1 hp) (Xe1 hq)
  rw [List.mem_filter, decide_eq_true_eq, Xag]
  exact ⟨fun h => ⟨h2 x h, h⟩, fun h => h.2⟩
theorem Xe2 {row : List Str} {t : Str × Str × Str} : t ∈ bars row ↔ t.1 ∈ row /\ t.2.1 ∈ row /\ barB row t.1 t.2.1 = true /\ t.2.2 = lieR row t.1 t.2.1 := by
 unfold bars
 rw [List.mem_flatMap]
 constructor
 ·rintro ⟨x, hx, h⟩
  obtain ⟨y, hy, rfl⟩ := List.mem_map.mp h
  obtain ⟨h1, h2⟩ := List.mem_filter.mp hy
  exact ⟨Xag.mp hx, Xag.mp h1, h2, rfl⟩
 ·rintro ⟨h1, h2, h3, h4⟩
  refine ⟨t.1, Xag.mpr h1, List.mem_map.mpr ⟨t.2.1, List.mem_filter.mpr ⟨Xag.mpr h2, h3⟩, ?_⟩⟩
  rw [<- h4]
theorem Xjr {row plot : List Str} (h : ∀ y ∈ row, row.count y = 2) : Xnr row plot = Xam row plot := by
 unfold Xnr Xam
 by_cases hp : plot = (dit row).filter fun y => decide (y ∈ plot)
 ·obtain ⟨p1, p2⟩ := Xdk.mp hp
  have e1 : plot.all (fun x => decide (x ∈ row)) = true := List.all_eq_true.mpr fun x hx => decide_eq_true (p2 x hx)
  rw [decide_eq_true hp, decide_eq_true p1, e1, Bool.true_and, Bool.true_and]
  show Xei (bars row) plot = (true && _)
  rw [Bool.true_and, Bool.eq_iff_iff]
  unfold Xei
  rw [List.all_eq_true, List.all_eq_true]
  constructor
  ·intro hf x hx
   rw [List.all_eq_true]
   intro y hy
   have hyr := Xag.mp hy
   unfold Xcq
   by_cases hw : lieR row x y = "within"
   ·rw [if_pos hw]
    have := hf (x, y, lieR row x y) (Xe2.mpr ⟨p2 x hx, hyr, by unfold barB; rw [decide_eq_true hw]; rfl, rfl⟩)
    simpa [hx, hw] using this
   ·rw [if_neg hw]
    by_cases ha : lieR row x y = "apart"
    ·have hne : x ≠ y := fun z => by
      rw [z, Xdy] at ha
      revert ha
      decide
     have ha2 := Xls (h x (p2 x hx)) (h y hyr) ha
     have key : y ∉ plot := fun hy2 => by
      rcases Xfm x y with hle | hle
      ·have hlt := ltS_of hle hne
       have := hf (x, y, lieR row x y) (Xe2.mpr ⟨p2 x hx, hyr, by unfold barB; rw [decide_eq_true ha, decide_eq_true hlt, Bool.and_self, Bool.or_true], rfl⟩)
       rw [ha] at this
       simp [hx, hy2] at this
       revert this
       decide
      ·have hlt := ltS_of hle (fun z => hne z.symm)
       have := hf (y, x, lieR row y x) (Xe2.mpr ⟨hyr, p2 x hx, by unfold barB; rw [decide_eq_true ha2, decide_eq_true hlt, Bool.and_self, Bool.or_true], rfl⟩)
       rw [ha2] at this
       simp [hx, hy2] at this
       revert this
       decide
     rw [decide_eq_false key]
     simp
    ·rw [decide_eq_false ha]
     rfl
  ·intro hf t ht
   obtain ⟨h1, h2, h3, h4⟩ := Xe2.mp ht
   by_cases hx : t.1 ∈ plot
   ·have := hf t.1 hx
    rw [List.all_eq_true] at this
    have := this t.2.1 (Xag.mpr h2)
    rw [h4]
    unfold Xcq at this
    by_cases hw : lieR row t.1 t.2.1 = "within"
    ·rw [if_pos hw] at this
     simp [hw, of_decide_eq_true this]
    ·rw [if_neg hw] at this
     have ha : lieR row t.1 t.2.1 = "apart" := by
      unfold barB at h3
      rw [decide_eq_false hw, Bool.false_or, Bool.and_eq_true] at h3
      exact of_decide_eq_true h3.1
     rw [ha] at this
     have hn : t.2.1 ∉ plot := by simpa using this
     have hne : ¬ (("apart" : Str) = "within") := by decide
     simp [hn, ha, hne]
   ·simp [hx]
 ·rw [decide_eq_false hp, Bool.false_and]
  by_cases p1 : plot = told plot
  ·have : ¬ ∀ x ∈ plot, x ∈ row := fun p2 => hp (Xdk.mpr ⟨p1, p2⟩)
   have e1 : plot.all (fun x => decide (x ∈ row)) = false := by
    rw [Bool.eq_false_iff]
    intro z
    rw [List.all_eq_true] at z
    exact this fun x hx => of_decide_eq_true (z x hx)
   rw [e1, Bool.and_false, Bool.false_and]
  ·rw [decide_eq_false p1, Bool.false_and, Bool.false_and]
theorem Xkt (a b : List Str) (h : PyData.tuple (a.map PyData.str) = PyData.tuple (b.map PyData.str)) : a = b := by
 injection h with h
 exact (List.map_inj_right (fun x y e => by injection e)).mp h
theorem Xf9 {ss : List Str} (h : ∀ y ∈ ss, okN y) : Xa9 (ss.map PyData.str) = true := plainAll_map PyData.str ss fun x hx => Xnp (h x hx)
theorem Xc3 {ss : List Str} (h : ∀ y ∈ ss, okN y) : Xbo (.tuple (ss.map PyData.str)) = true := Xf9 h
theorem Xdz {ss : List Str} (h : ∀ y ∈ ss, okN y) : Xbo (.list (ss.map PyData.str)) = true := Xf9 h
theorem Xc8 : ∀ (ss : List Str), PyData.depthAll (ss.map PyData.str) = 0
 | [] => rfl
 | s :: ss => by
  rw [List.map_cons]
  unfold PyData.depthAll
  rw [Xc8 ss]
  rfl
theorem Xnt (a b : List Str) : min (PyData.depth (.tuple (a.map PyData.str))) (PyData.depth (.tuple (b.map PyData.str))) <= 3 := by
 have e : PyData.depth (.tuple (a.map PyData.str)) = PyData.depthAll (a.map PyData.str) + 1 := rfl
 rw [e, Xc8]
 omega
theorem Xnu {a b : List Str} (ha : ∀ y ∈ a, okN y) (hb : ∀ y ∈ b, okN y) : PyData.eqv (.tuple (a.map PyData.str)) (.tuple (b.map PyData.str)) = decide (a = b) :=
 Xnj (fun l : List Str => PyData.tuple (l.map PyData.str)) Xkt a b (Xc3 ha) (Xc3 hb)
theorem Xd0 {H : Hp} {p : Addr} {ss : List Str} (h : H p = some (.tup (ss.map V.str))) : DAt H (.tuple (ss.map PyData.str)) (.ref p) := Xji h (Xcd ss)
def spTold (K : PySem.W.Frag) : Sp := fun vs H Q _ => ∃ (p : Addr) (ss : List Str), vs = [.ref p] /\ (SqL K H p (ss.map V.str) \/ SqT K H p (ss.map V.str)) /\ ss.length <= 60 /\
 ∀ l H', H l = none -> H' l = some (.tup ((told ss).map V.str)) -> Same H H' -> Q (.ref l) H'
end SH
namespace L2
open PySem PySem.Spec PyProof.Rows
def tSsetV (K : PySem.W.Frag) (i : Nat) : TE := fun σ H Q => ∃ v, σ[i]? = some (some v) /\ ∃ p ss, v = .ref p /\ (SqL K H p (ss.map V.str) \/ SqT K H p (ss.map V.str)) /\ ss.length <= 60 /\ ∀ l H', H l = none -> H' l = some (.lst ((dit ss).map V.str)) -> Same H H' -> Q (.ref l) H'
theorem pe_ssetv {X : Cx} {i : Nat} {x : Str} {pos p1 p2 q1 q2 : Pos} (hc : X.calm = true) (hg1 : Gl X "sorted") (hm1 : X.mg "sorted" = none) (hg2 : Gl X "set") (hm2 : X.mg "set" = none) (hv : PE X (.Name x pos) (tVar i))
  (h1 : starEach [.Call (.Name "set" p2) [.Name x pos] [] q2] X.env = [(false, eval (.Call (.Name "set" p2) [.Name x pos] [] q2) X.env)] := by rfl) (h2 : starEach [.Name x pos] X.env = [(false, eval (.Name x pos) X.env)] := by rfl) :
  PE X (.Call (.Name "sorted" p1) [.Call (.Name "set" p2) [.Name x pos] [] q2] [] q1) (tSsetV X.K i) := by
 intro pins s σ H Q I h
 obtain ⟨v, hv1, p, ss, ev, hq, hl, k⟩ := h
 refine (Xak (Xcz hc) hg1 hm1 (by rfl) (Xab (Xbn (Xgw hc) hg2 hm2 (by rfl) (Xab hv Xad) (by decide) (by decide) h2) Xad) (by decide) (by decide) h1) pins s σ H Q I ?_
 refine ⟨v, hv1, p, ss, by rw [ev], hq, by unfold scanBound; omega, fun a na => ?_⟩
 have hdl := Xdq ss
 refine ⟨a, ddup ss, rfl, Xaa, by omega, fun l ls nl hp hs => ?_⟩
 rw [Xko hp hs]
 have s1 : Same H (upd H a (SetO X.prog X.w a (ddup ss))) := (Same.refl H).step na
 exact k l _ (s1.free nl) Xaa (s1.step nl)
end L2
namespace SH
open PySem PySem.Spec PyProof.Rows L2
def Xnv : Sp := fun vs H Q _ => ∃ (b p : Addr) (xs : List V) (bs : List (Str × Str × Str)) (ss : List Str), vs = [.ref b, .ref p] /\ H b = some (.lst xs) /\ DAll H (bs.map trD) xs /\ H p = some (.tup (ss.map V.str)) /\
 ∀ H', Same H H' -> Q (.bl (Xei bs ss)) H'
def spBars : Sp := fun vs H Q _ => ∃ (r : Addr) (row : List Str), vs = [.ref r] /\ H r = some (.lst (row.map V.str)) /\ Row2 row /\
 ∀ l xs H', H l = none -> H' l = some (.lst xs) -> DAll H' ((bars row).map trD) xs -> Same H H' -> Q (.ref l) H'
theorem dall_tr {H : Hp} {t : Str × Str × Str} {v : V} (h : DAt H (trD t) v) : ∃ p, v = .ref p /\ H p = some (.tup [.str t.1, .str t.2.1, .str t.2.2]) := by
 obtain ⟨p, xs, rfl, hp, hs⟩ := Xnh h
 have := Xbd (ss := [t.1, t.2.1, t.2.2]) hs
 rw [this] at hp
 exact ⟨p, rfl, hp⟩
def Xbh (row : List Str) (x : Str) (ys : List Str) : List (Str × Str × Str) := (ys.filter (barB row x)).map fun y => (x, y, lieR row x y)
def Xbs (row : List Str) (i : Nat) : List (Str × Str × Str) := ((dit row).take i).flatMap fun x => Xbh row x (dit row)
theorem Xjs (row : List Str) : Xbs row (dit row).length = bars row := by
 unfold Xbs
 rw [List.take_length]
 rfl
theorem Xik (row : List Str) {i : Nat} (hi : i < (dit row).length) : Xbs row (i + 1) = Xbs row i ++ Xbh row ((dit row).getD i Str.empty) (dit row) := by
 unfold Xbs
 rw [List.take_succ_eq_append_getElem hi, List.flatMap_append, List.flatMap_cons, List.flatMap_nil, List.append_nil]
 simp [List.getD, hi]
theorem Xil (row : List Str) (x : Str) {j : Nat} (hj : j < (dit row).length) : Xbh row x ((dit row).take (j + 1)) = Xbh row x ((dit row).take j) ++ (if barB row x ((dit row).getD j Str.empty) = true then [(x, (dit row).getD j Str.empty, lieR row x ((dit row).getD j Str.empty))] else []) := by
 unfold Xbh
 have e : (dit row).getD j Str.empty = (dit row)[j] := by simp [List.getD, hj]
 rw [List.take_succ_eq_append_getElem hj, List.filter_append, List.map_append, e, List.filter_cons]
 split <;> rfl
theorem Xfu (row : List Str) (x : Str) (ys : List Str) : (Xbh row x ys).length <= ys.length := by
 unfold Xbh
 rw [List.length_map]
 exact List.length_filter_le ..
theorem Xjt (row : List Str) (i : Nat) : (Xbs row i).length <= i * (dit row).length := by
 unfold Xbs
 rw [List.length_flatMap]
 have h : ∀ l : List Str, (l.map fun x => (Xbh row x (dit row)).length).sum <= l.length * (dit row).length := by
  intro l
  induction l with
  | nil => simp
  | cons x l ih =>
   rw [List.map_cons, List.sum_cons, List.length_cons, Nat.succ_mul]
   have := Xfu row x (dit row)
   omega
 refine Nat.le_trans (h _) (Nat.mul_le_mul_right _ ?_)
 rw [List.length_take]
 omega
abbrev NFi : List Str := ["_law_bars_here", "_law_plot", "_law_one", "_law_other", "_law_word_here"]
abbrev NBr : List Str := ["_law_row_here", "_law_where_here", "_law_told", "_law_one", "_law_other", "_law_word_here"]
def mid (row : List Str) (x : Str) : List Str := ((row.dropWhile fun y => decide (y ≠ x)).tail).takeWhile fun y => decide (y ≠ x)
theorem ne_dec {x y : Str} {r : List Str} (h : x ∉ y :: r) : decide (y ≠ x) = true := by
 have : y ≠ x := fun e => h (by rw [e]; exact List.mem_cons_self)
 simpa using this
theorem drop_split {A R : List Str} {x : Str} (h : x ∉ A) : (A ++ x :: R).dropWhile (fun y => decide (y ≠ x)) = x :: R := by
 induction A with
 | nil => rw [List.nil_append, List.dropWhile_cons, if_neg (by simp)]
 | cons y r ih =>
  rw [List.cons_append, List.dropWhile_cons, if_pos (ne_dec h)]
  exact ih fun z => h (List.mem_cons_of_mem _ z)
theorem take_split {A R : List Str} {x : Str} (h : x ∉ A) : (A ++ x :: R).takeWhile (fun y => decide (y ≠ x)) = A := by
 induction A with
 | nil => rw [List.nil_append, List.takeWhile_cons, if_neg (by simp)]
 | cons y r ih =>
  rw [List.cons_append, List.takeWhile_cons, if_pos (ne_dec h)]
  rw [ih fun z => h (List.mem_cons_of_mem _ z)]
theorem Xfv {A B C : List Str} {x : Str} (hA : x ∉ A) (hB : x ∉ B) : mid (A ++ x :: (B ++ x :: C)) x = B := by
 unfold mid
 rw [drop_split hA, List.tail_cons, take_split hB]
theorem split1 {x : Str} : ∀ {row : List Str}, x ∈ row -> ∃ A R, row = A ++ x :: R /\ x ∉ A := by
 intro row
 induction row with
 | nil => intro h; cases h
 | cons y r ih =>
  intro h
  by_cases e : x = y
  ·exact ⟨[], r, by rw [e]; rfl, by simp⟩
  ·obtain ⟨A, R, h1, h2⟩ := ih ((List.mem_cons.mp h).resolve_left e)
   exact ⟨y :: A, R, by rw [h1]; rfl, fun z => (List.mem_cons.mp z).elim e h2⟩
theorem split2 {row : List Str} {x : Str} (h : row.count x = 2) : ∃ A B C, row = A ++ x :: (B ++ x :: C) /\ x ∉ A /\ x ∉ B /\ x ∉ C := by
 obtain ⟨A, R, h1, h2⟩ := split1 (List.count_pos_iff.mp (by omega : 0 < row.count x))
 rw [h1, List.count_append, List.count_eq_zero.mpr h2, List.count_cons_self] at h
 have hR : R.count x = 1 := by omega
 obtain ⟨B, C, h3, h4⟩ := split1 (List.count_pos_iff.mp (by omega : 0 < R.count x))
 rw [h3, List.count_append, List.count_eq_zero.mpr h4, List.count_cons_self] at hR
 exact ⟨A, B, C, by rw [h1, h3], h2, h4, List.count_eq_zero.mp (by omega)⟩
theorem Xd1 (x : Str) : ∀ (n : Nat) (l r : List Str), plcF x n (l ++ r) = plcF x n l ++ plcF x (n + l.length) r
 | n, [], r => rfl
 | n, y :: l, r => by
  have ih := Xd1 x (n + 1) l r
  have e : n + (y :: l).length = n + 1 + l.length := by rw [List.length_cons]; omega
  rw [e]
  show (if y = x then (n : Int) :: plcF x (n + 1) (l ++ r) else plcF x (n + 1) (l ++ r)) = (if y = x then (n : Int) :: plcF x (n + 1) l else plcF x (n + 1) l) ++ _
  rw [ih]
  split <;> rfl
theorem Xe3 (x : Str) : ∀ (n : Nat) (l : List Str), ∀ i ∈ plcF x n l, (n : Int) <= i /\ i < n + l.length
 | n, [] => fun i h => by cases h
 | n, y :: l => fun i h => by
  have ih := Xe3 x (n + 1) l
  have h' : i = n \/ i ∈ plcF x (n + 1) l := by
   change i ∈ (if y = x then (n : Int) :: plcF x (n + 1) l else plcF x (n + 1) l) at h
   split at h
   ·exact List.mem_cons.mp h
   ·exact .inr h
  rw [List.length_cons]
  rcases h' with rfl | h'
  ·omega
  ·have := ih i h'
   omega
theorem Xe4 {x : Str} : ∀ (n : Nat) (l : List Str), x ∉ l -> plcF x n l = []
 | _, [], _ => rfl
 | n, y :: l, h => by
  show (if y = x then (n : Int) :: plcF x (n + 1) l else plcF x (n + 1) l) = []
  rw [if_neg (fun e => h (by rw [e]; exact List.mem_cons_self))]
  exact Xe4 _ _ fun z => h (List.mem_cons_of_mem _ z)
theorem inn_mid {row : List Str} {x y : Str} (hx : row.count x = 2) (n : x ≠ y) : nIn (pl row x).1 (pl row x).2 (plc row y) = (mid row x).count y := by
 obtain ⟨A, B, C, e, hA, hB, hC⟩ := split2 hx
 have ex : plc row x = [(A.length : Int), ((A.length + 1 + B.length : Nat) : Int)] := by
  unfold plc
  rw [e, Xd1, Xe4 _ _ hA]
  show [] ++ (if x = x then _ else _) = _
  rw [if_pos rfl, Xd1, Xe4 _ _ hB]
  show [] ++ (_ :: ([] ++ (if x = x then _ else _))) = _
  rw [if_pos rfl, Xe4 _ _ hC]
  simp
 have ey : plc row y = plcF y 0 A ++ (plcF y (A.length + 1) B ++ plcF y (A.length + 1 + B.length + 1) C) := by
  unfold plc
  rw [e, Xd1]
  show _ ++ (if x = y then _ else _) = _
  rw [if_neg n, Xd1]
  show _ ++ (_ ++ (if x = y then _ else _)) = _
  rw [if_neg n]
  simp
 rw [pl_of ex, ey]
 unfold nIn inn
 rw [List.filter_append, List.filter_append]
 have e1 : (plcF y 0 A).filter (fun t => decide ((A.length : Int) < t) && decide (t < ((A.length + 1 + B.length : Nat) : Int))) = [] := by
  rw [List.filter_eq_nil_iff]
  intro i hi
  have := Xe3 y 0 A i hi
  simp
  intro
  omega
 have e2 : (plcF y (A.length + 1) B).filter (fun t => decide ((A.length : Int) < t) && decide (t < ((A.length + 1 + B.length : Nat) : Int))) = plcF y (A.length + 1) B := by
  rw [List.filter_eq_self]
  intro i hi
  have := Xe3 y (A.length + 1) B i hi
  simp
  omega
 have e3 : (plcF y (A.length + 1 + B.length + 1) C).filter (fun t => decide ((A.length : Int) < t) && decide (t < ((A.length + 1 + B.length : Nat) : Int))) = [] := by
  rw [List.filter_eq_nil_iff]
  intro i hi
  have := Xe3 y _ C i hi
  simp
  intro
  omega
 rw [e1, e2, e3, List.nil_append, List.append_nil, Xez]
 rw [e, Xfv hA hB]
def Xaq (row : List Str) (x y : Str) : Prop := lieR row x y = "cross"
instance (row : List Str) (x y : Str) : Decidable (Xaq row x y) := inferInstanceAs (Decidable (_ = _))
theorem Xej {a b c e : Int} : Xf4 a b c e false = "cross" ↔ nIn a b [c, e] = 1 := by
 unfold Xf4
 have e3 : (inn a b [c, e]).length = nIn a b [c, e] := rfl
 have h2 : (inn a b [c, e]).length <= 2 := Xnm a b [c, e]
 rw [e3] at *
 generalize nIn a b [c, e] = q at *
 match q, h2 with
 | 0, _ =>
  rw [if_neg (by decide)]
  split <;> decide
 | 1, _ => rw [if_pos (by decide)]; decide
 | 2, _ => rw [if_pos (by decide)]; decide
theorem Xd2 {row : List Str} {x y : Str} (hx : row.count x = 2) (hy : row.count y = 2) (n : x ≠ y) : Xaq row x y ↔ (mid row x).count y = 1 := by
 unfold Xaq
 rw [Xby hx hy, decide_eq_false n, Xej, <- Xfs hy, inn_mid hx n]
theorem Xbq {row : List Str} {x : Str} (hx : row.count x = 2) : ¬ Xaq row x x := by
 unfold Xaq lieR lieT
 rw [if_pos ⟨rfl, rfl⟩]
 decide
theorem Xa2 {row : List Str} {x y : Str} (hx : row.count x = 2) (hy : row.count y = 2) (h : Xaq row x y) : Xaq row y x := by
 by_cases n : x = y
 ·subst n; exact h
 ·obtain ⟨n1, n2, n3, n4⟩ := Xjp hx hy n
  unfold Xaq at *
  rw [Xby hx hy, decide_eq_false n, Xej, nIn2] at h
  rw [Xby hy hx, decide_eq_false (fun e => n e.symm), Xej, nIn2]
  have l1 := Xda hx
  have l2 := Xda hy
  generalize (pl row x).1 = a at *
  generalize (pl row x).2 = b at *
  generalize (pl row y).1 = c at *
  generalize (pl row y).2 = e at *
  by_cases p1 : a < c /\ c < b <;> by_cases p2 : a < e /\ e < b <;> by_cases q1 : c < a /\ a < e <;> by_cases q2 : c < b /\ b < e <;>
  (first | rw [if_pos p1] at h | rw [if_neg p1] at h) <;> (first | rw [if_pos p2] at h | rw [if_neg p2] at h) <;>
  (first | rw [if_pos q1] | rw [if_neg q1]) <;> (first | rw [if_pos q2] | rw [if_neg q2]) <;> omega
theorem Xga {x : Str} {p : Str -> Bool} (h : p x = true) : ∀ row : List Str, mid (row.filter p) x = (mid row x).filter p := by
 have tk : ∀ l : List Str, (l.filter p).takeWhile (fun y => decide (y ≠ x)) = (l.takeWhile fun y => decide (y ≠ x)).filter p := by
  intro l
  induction l with
  | nil => rfl
  | cons y r ih =>
   by_cases e : y = x
   ·subst e
    rw [List.filter_cons, if_pos h, List.takeWhile_cons, if_neg (by simp), List.takeWhile_cons, if_neg (by simp)]
    rfl
   ·rw [List.takeWhile_cons, if_pos (decide_eq_true e), List.filter_cons, List.filter_cons]
    by_cases q : p y = true
    ·rw [if_pos q, if_pos q, List.takeWhile_cons, if_pos (decide_eq_true e), ih]
    ·rw [if_neg q, if_neg q, ih]
 intro row
 unfold mid
 rw [<- tk]
 congr 1
 induction row with
 | nil => rfl
 | cons y r ih =>
  by_cases e : y = x
  ·subst e
   rw [List.filter_cons, if_pos h, List.dropWhile_cons, if_neg (by simp), List.dropWhile_cons, if_neg (by simp)]
   rfl
  ·rw [List.dropWhile_cons, if_pos (decide_eq_true e), <- ih, List.filter_cons]
   by_cases q : p y = true
   ·rw [if_pos q, List.dropWhile_cons, if_pos (decide_eq_true e)]
   ·rw [if_neg q]
theorem Xju {row row' : List Str} {x y : Str} (hx : row.count x = 2) (hy : row.count y = 2) (hx' : row'.count x = 2) (hy' : row'.count y = 2)
  (e : row.filter (fun z => decide (z = x \/ z = y)) = row'.filter (fun z => decide (z = x \/ z = y))) : Xaq row x y ↔ Xaq row' x y := by
 by_cases n : x = y
 ·subst n
  exact ⟨fun h => absurd h (Xbq hx), fun h => absurd h (Xbq hx')⟩
 ·rw [Xd2 hx hy n, Xd2 hx' hy' n]
  have h1 : ∀ r : List Str, (mid r x).count y = (mid (r.filter fun z => decide (z = x \/ z = y)) x).count y := fun r => by
   rw [Xga (by simp), List.count_filter (by simp)]
  rw [h1 row, h1 row', e]
def Xba (row : List Str) : Prop := ∀ x ∈ row, ∀ y ∈ row, ∀ z ∈ row, Xaq row x y -> Xaq row x z -> ¬ Xaq row y z
theorem Xjv : Xba [] := fun x h => by cases h
theorem Xfw {row more : List Str} {x : Str} (h : Xba row) (h2 : ∀ y ∈ row, row.count y = 2) (h2' : ∀ y ∈ more, more.count y = 2) (hin : ∀ y ∈ more, y = x \/ y ∈ row)
  (hf : ∀ p : Str -> Bool, p x = false -> more.filter p = row.filter p) (hb : ∀ y ∈ more, ∀ z ∈ more, Xaq more x y -> Xaq more x z -> ¬ Xaq more y z) : Xba more := by
 intro a ha b hb' c hc k1 k2 k3
 have s12 := Xa2 (h2' a ha) (h2' b hb') k1
 have s13 := Xa2 (h2' a ha) (h2' c hc) k2
 have s23 := Xa2 (h2' b hb') (h2' c hc) k3
 by_cases ea : a = x
 ·subst ea; exact hb b hb' c hc k1 k2 k3
 by_cases eb : b = x
 ·subst eb; exact hb a ha c hc s12 k3 k2
 by_cases ec : c = x
 ·subst ec; exact hb a ha b hb' s13 s23 k1
 have ra := (hin a ha).resolve_left ea
 have rb := (hin b hb').resolve_left eb
 have rc := (hin c hc).resolve_left ec
 have go : ∀ u v : Str, u ≠ x -> v ≠ x -> u ∈ row -> v ∈ row -> u ∈ more -> v ∈ more -> Xaq more u v -> Xaq row u v := fun u v nu nv hu hv mu mv k =>
  (Xju (h2' u mu) (h2' v mv) (h2 u hu) (h2 v hv) (hf _ (by
   rw [decide_eq_false_iff_not]
   rintro (e | e)
   ·exact nu e.symm
   ·exact nv e.symm))).mp k
 exact h a ra b rb c rc (go a b ea eb ra rb ha hb' k1) (go a c ea ec ra rc ha hc k2) (go b c eb ec rb rc hb' hc k3)
theorem Xjw {row : List Str} {x : Str} {a b : Nat} (hab : a <= b) {p : Str -> Bool} (h : p x = false) : (putR row x a b).filter p = row.filter p := by
 unfold putR
 have e : row = row.take a ++ ((row.drop a).take (b - a) ++ row.drop b) := by
  have e1 : row.drop b = (row.drop a).drop (b - a) := by rw [List.drop_drop]; congr 1; omega
  rw [e1, List.take_append_drop, List.take_append_drop]
 conv => rhs; rw [e]
 simp [List.filter_append, List.filter_cons, h]
theorem near_not {A C : List Str} {x y : Str} (hx : (A ++ [x, x] ++ C).count x = 2) (hy : (A ++ [x, x] ++ C).count y = 2) : ¬ Xaq (A ++ [x, x] ++ C) x y := by
 by_cases n : x = y
 ·subst n; exact Xbq hx
 ·rw [Xd2 hx hy n]
  have hA : x ∉ A := by
   rw [<- List.count_eq_zero]
   rw [List.count_append, List.count_append, List.count_cons_self, List.count_cons_self] at hx
   omega
  have e : A ++ [x, x] ++ C = A ++ x :: ([] ++ x :: C) := by simp
  rw [e, Xfv hA (by simp)]
  simp
theorem Xjx {row : List Str} {x : Str} {a : Nat} {p : Str -> Bool} (h : p x = false) : (row.take a ++ [x, x] ++ row.drop a).filter p = row.filter p := by
 simp [List.filter_append, List.filter_cons, h]
 rw [<- List.filter_append, List.take_append_drop]
theorem Xnw {F : List Str} {x y : Str} (hF : F.Nodup) (hx : x ∈ F) (n : x ≠ y) : (mid (F ++ F.reverse) x).count y ≠ 1 := by
 obtain ⟨A, B, rfl, hA⟩ := split1 hx
 have hB : x ∉ B := by
  have h1 := (List.nodup_append.mp hF).2.1
  exact (List.nodup_cons.mp h1).1
 have e : (A ++ x :: B) ++ (A ++ x :: B).reverse = A ++ x :: ((B ++ B.reverse) ++ x :: A.reverse) := by simp
 rw [e, Xfv hA (by simp [hB]), List.count_append, List.count_reverse]
 omega
theorem Xb9 {ns : List Str} (hn : ns.Nodup) (c : Nat) {x y : Str} (h2 : ∀ z ∈ ns, (ns ++ (ns.take c).reverse ++ (ns.drop c).reverse).count z = 2)
  (h : (x ∈ ns.take c /\ y ∈ ns.take c) \/ (x ∈ ns.drop c /\ y ∈ ns.drop c)) : ¬ Xaq (ns ++ (ns.take c).reverse ++ (ns.drop c).reverse) x y := by
 have sub : (∀ z, z ∈ ns.take c -> z ∈ ns) /\ ∀ z, z ∈ ns.drop c -> z ∈ ns := ⟨fun z => List.mem_of_mem_take, fun z => List.mem_of_mem_drop⟩
 have hx : x ∈ ns := h.elim (fun z => sub.1 _ z.1) fun z => sub.2 _ z.1
 have hy : y ∈ ns := h.elim (fun z => sub.1 _ z.2) fun z => sub.2 _ z.2
 by_cases n : x = y
 ·subst n; exact Xbq (h2 x hx)
 rw [Xd2 (h2 x hx) (h2 y hy) n]
 have key : (mid (ns ++ (ns.take c).reverse ++ (ns.drop c).reverse) x).count y = (mid ((ns ++ (ns.take c).reverse ++ (ns.drop c).reverse).filter fun z => decide (z = x \/ z = y)) x).count y := by
  rw [Xga (by simp), List.count_filter (by simp)]
 rw [key]
 have dj : ∀ z, z ∈ ns.take c -> z ∈ ns.drop c -> False := by
  have := hn
  rw [<- List.take_append_drop c ns] at this
  intro z h1 h2
  exact (List.nodup_append.mp this).2.2 z h1 z h2 rfl
 have e0 : ns.filter (fun z => decide (z = x \/ z = y)) = (ns.take c).filter (fun z => decide (z = x \/ z = y)) ++ (ns.drop c).filter (fun z => decide (z = x \/ z = y)) := by
  rw [<- List.filter_append, List.take_append_drop]
 rw [List.filter_append, List.filter_append, e0, List.filter_reverse, List.filter_reverse]
 rcases h with ⟨h1, h2⟩ | ⟨h1, h2⟩
 ·have e : (ns.drop c).filter (fun z => decide (z = x \/ z = y)) = [] := by
   rw [List.filter_eq_nil_iff]
   intro z hz q
   rcases of_decide_eq_true q with q | q
   ·exact dj x h1 (q ▸ hz)
   ·exact dj y h2 (q ▸ hz)
  rw [e, List.append_nil, List.reverse_nil, List.append_nil]
  exact Xnw ((hn.sublist (List.take_sublist ..)).filter _) (List.mem_filter.mpr ⟨h1, by simp⟩) n
 ·have e : (ns.take c).filter (fun z => decide (z = x \/ z = y)) = [] := by
   rw [List.filter_eq_nil_iff]
   intro z hz q
   rcases of_decide_eq_true q with q | q
   ·exact dj x (q ▸ hz) h1
   ·exact dj y (q ▸ hz) h2
  rw [e, List.nil_append, List.reverse_nil, List.append_nil]
  exact Xnw ((hn.sublist (List.drop_sublist ..)).filter _) (List.mem_filter.mpr ⟨h1, by simp⟩) n
theorem noThree_grid {ns : List Str} (hn : ns.Nodup) (c : Nat) (h2 : ∀ z ∈ ns, (ns ++ (ns.take c).reverse ++ (ns.drop c).reverse).count z = 2) : Xba (ns ++ (ns.take c).reverse ++ (ns.drop c).reverse) := by
 have mem : ∀ z, z ∈ ns ++ (ns.take c).reverse ++ (ns.drop c).reverse -> z ∈ ns.take c \/ z ∈ ns.drop c := by
  intro z hz
  rw [<- List.mem_append, List.take_append_drop]
  simp only [List.mem_append, List.mem_reverse] at hz
  rcases hz with (h | h) | h
  ·exact h
  ·exact List.mem_of_mem_take h
  ·exact List.mem_of_mem_drop h
 intro x hx y hy z hz k1 k2 k3
 rcases mem x hx with a | a <;> rcases mem y hy with b | b <;> rcases mem z hz with d | d
 ·exact Xb9 hn c h2 (.inl ⟨a, b⟩) k1
 ·exact Xb9 hn c h2 (.inl ⟨a, b⟩) k1
 ·exact Xb9 hn c h2 (.inl ⟨a, d⟩) k2
 ·exact Xb9 hn c h2 (.inr ⟨b, d⟩) k3
 ·exact Xb9 hn c h2 (.inl ⟨b, d⟩) k3
 ·exact Xb9 hn c h2 (.inr ⟨a, d⟩) k2
 ·exact Xb9 hn c h2 (.inr ⟨a, b⟩) k1
 ·exact Xb9 hn c h2 (.inr ⟨a, b⟩) k1
def spBarredN : Sp := fun vs H Q _ => ∃ (r : Addr) (row : List Str) (x : Str), vs = [.ref r, .str x] /\ H r = some (.lst (row.map V.str)) /\ row.length <= 1000 /\ (∀ y ∈ row, row.count y = 2) /\ x ∈ row /\
 ∀ b H', (b = false -> ∀ y ∈ row, ∀ z ∈ row, Xaq row x y -> Xaq row x z -> ¬ Xaq row y z) -> Same H H' -> Q (.bl b) H'
def spRowN : Sp := fun vs H Q _ => ∃ (dr sc nl : Addr) (ns : List Str), vs = [.ref dr, .ref nl] /\ DrawOk H dr sc /\ H nl = some (.lst (ns.map V.str)) /\ nl ≠ dr /\ ns.Nodup /\ ns.length <= 14 /\
 ∀ (l : Addr) (row : List Str) (H' : Hp), H l = none -> H' l = some (.lst (row.map V.str)) -> row.Perm (ns ++ ns) -> Xba row -> DrawOk H' dr sc -> But dr H H' -> Q (.ref l) H'
def spIslandN : Sp := fun vs H Q _ => ∃ (dr sc : Addr) (m : Nat), vs = [.ref dr, .int m] /\ m <= 14 /\ DrawOk H dr sc /\
 ∀ (l : Addr) (row : List Str) (n st : Nat) (late : Bool) (H' : Hp), H l = none -> n <= m -> st < 26 -> H' l = some (.lst (row.map V.str)) -> row.Perm (Xas st late n ++ Xas st late n) -> Xba row -> DrawOk H' dr sc -> But dr H H' -> Q (.ref l) H'
theorem Xim {p : Prop} {_ : Decidable p} (h : decide p = false) : ¬ p := of_decide_eq_false h
theorem Wh.pl {H : Hp} {kvs : List (Key × V)} {row : List Str} {x : Str} (w : Wh H kvs row) (hx : x ∈ row) (h : row.count x = 2) : ∃ l, valV kvs (Sum.inr x : Key) = some (.ref l) /\ H l = some (.lst [.int (pl row x).1, .int (pl row x).2]) := by
 obtain ⟨l, h1, h2⟩ := w.val x hx
 rw [Xfs h] at h2
 exact ⟨l, h1, h2⟩
def deg2 {α : Type} (R : α -> α -> Bool) (l : List α) : Nat := (l.map fun x => l.countP (R x)).sum
theorem sum_perm {a b : List Nat} (p : a.Perm b) : a.sum = b.sum := by
 induction p with
 | nil => rfl
 | cons x _ ih => simp [ih]
 | swap x y l => simp; omega
 | trans _ _ h1 h2 => exact h1.trans h2
theorem Xnx {α : Type} {R : α -> α -> Bool} {a b : List α} (p : a.Perm b) : deg2 R a = deg2 R b := by
 unfold deg2
 have e : (a.map fun x => a.countP (R x)) = a.map fun x => b.countP (R x) := List.map_congr_left fun x _ => p.countP_eq _
 rw [e]
 exact sum_perm (p.map _)
theorem Xdl {α : Type} (f g : α -> Nat) : ∀ l : List α, (l.map fun x => f x + g x).sum = (l.map f).sum + (l.map g).sum
 | [] => rfl
 | x :: r => by simp [Xdl f g r]; omega
theorem Xa7 {α : Type} (p : α -> Bool) : ∀ l : List α, (l.map fun x => if p x = true then 1 else 0).sum = l.countP p
 | [] => rfl
 | x :: r => by
  rw [List.map_cons, List.sum_cons, Xa7 p r, List.countP_cons]
  omega
theorem Xku {α : Type} : ∀ l : List α, (l.map fun _ => 0).sum = 0
 | [] => rfl
 | _ :: r => by rw [List.map_cons, List.sum_cons, Xku r]
theorem mantel {α : Type} [DecidableEq α] {R : α -> α -> Bool} : ∀ (n : Nat) (l : List α), l.length = n -> l.Nodup -> (∀ x ∈ l, R x x = false) -> (∀ x ∈ l, ∀ y ∈ l, R x y = R y x) ->
  (∀ x ∈ l, ∀ y ∈ l, ∀ z ∈ l, R x y = true -> R x z = true -> R y z = false) -> 2 * deg2 R l <= n * n := by
 intro n
 induction n using Nat.strongRecOn with
 | ind n ih =>
  intro l hl nd irr sy tri
  by_cases h : ∃ u ∈ l, ∃ v ∈ l, R u v = true
  ·obtain ⟨u, hu, v, hv, huv⟩ := h
   have nuv : u ≠ v := fun e => by subst e; rw [irr u hu] at huv; cases huv
   have p1 : l.Perm (u :: l.erase u) := List.perm_cons_erase hu
   have hv' : v ∈ l.erase u := (List.mem_erase_of_ne nuv.symm).mpr hv
   have p2 : l.Perm (u :: v :: (l.erase u).erase v) := p1.trans (List.Perm.cons u (List.perm_cons_erase hv'))
   generalize (l.erase u).erase v = r at p2
   have hlen := p2.length_eq
   simp only [List.length_cons] at hlen
   have nd' := p2.nodup_iff.mp nd
   have mr : ∀ x ∈ r, x ∈ l := fun x hx => p2.mem_iff.mpr (List.mem_cons_of_mem _ (List.mem_cons_of_mem _ hx))
   have ndr : r.Nodup := (List.nodup_cons.mp (List.nodup_cons.mp nd').2).2
   have ihr := ih r.length (by omega) r rfl ndr (fun x hx => irr x (mr x hx)) (fun x hx y hy => sy x (mr x hx) y (mr y hy)) (fun x hx y hy z hz => tri x (mr x hx) y (mr y hy) z (mr z hz))
   have e : deg2 R l = 2 + 2 * (r.countP (R u) + r.countP (R v)) + deg2 R r := by
    rw [Xnx p2]
    unfold deg2
    rw [List.map_cons, List.map_cons, List.sum_cons, List.sum_cons]
    have ef : (r.map fun x => (u :: v :: r).countP (R x)) = r.map fun x => ((if R u x = true then 1 else 0) + (if R v x = true then 1 else 0)) + r.countP (R x) := by
     refine List.map_congr_left fun x hx => ?_
     rw [List.countP_cons, List.countP_cons, sy x (mr x hx) u hu, sy x (mr x hx) v hv]
     omega
    rw [ef, Xdl, Xdl, Xa7, Xa7, List.countP_cons, List.countP_cons, List.countP_cons, List.countP_cons, irr u hu, irr v hv, huv, sy v hv u hu, huv]
    simp
    omega
   have le : r.countP (R u) + r.countP (R v) <= r.length := by
    rw [<- Xa7 (R u), <- Xa7 (R v), <- Xdl]
    have : ∀ m : List α, (∀ x ∈ m, x ∈ l) -> (m.map fun x => (if R u x = true then 1 else 0) + (if R v x = true then 1 else 0)).sum <= m.length := by
     intro m
     induction m with
     | nil => intro _; exact Nat.le_refl _
     | cons x t iht =>
      intro hm
      have h1 := iht fun y hy => hm y (List.mem_cons_of_mem _ hy)
      have hx := hm x List.mem_cons_self
      have h2 : (if R u x = true then 1 else 0) + (if R v x = true then 1 else 0) <= 1 := by
       by_cases a : R u x = true
       ·have := tri u hu v hv x hx huv a
        rw [this, if_pos a]
        decide
       ·rw [if_neg a]
        split <;> decide
      rw [List.map_cons, List.sum_cons, List.length_cons]
      omega
    exact this r mr
   have hn : n = r.length + 2 := by omega
   rw [e, hn]
   have : (r.length + 2) * (r.length + 2) = r.length * r.length + 4 * r.length + 4 := by
    rw [Nat.add_mul, Nat.mul_add]; omega
   rw [this]
   omega
  ·have z : deg2 R l = 0 := by
    unfold deg2
    have : (l.map fun x => l.countP (R x)) = l.map fun _ => 0 := by
     refine List.map_congr_left fun x hx => ?_
     rw [List.countP_eq_zero]
     intro y hy q
     exact h ⟨x, hx, y, hy, q⟩
    rw [this]
    exact Xku l
   rw [z]
   exact Nat.zero_le _
theorem Xkv {α β : Type} (p : α -> β -> Bool) (m : List β) : ∀ l : List α, (l.map fun x => m.countP (p x)).sum = (m.map fun y => l.countP fun x => p x y).sum
 | [] => by
  show 0 = _
  induction m with
  | nil => rfl
  | cons y r ih => rw [List.map_cons, List.sum_cons, <- ih]; rfl
 | x :: l => by
  rw [List.map_cons, List.sum_cons, Xkv p m l]
  have e : (m.map fun y => (x :: l).countP fun x => p x y) = m.map fun y => (if p x y = true then 1 else 0) + l.countP fun x => p x y := by
   refine List.map_congr_left fun y _ => ?_
   rw [List.countP_cons]
   omega
  rw [e, Xdl, Xa7]
theorem crs_len {row : List Str} (h2 : ∀ y ∈ row, row.count y = 2) : 2 * (crs row).length = deg2 (fun x y => decide (Xaq row x y)) (dit row) := by
 have e : (crs row).length = ((dit row).map fun x => (dit row).countP fun y => decide (ltS x y) && decide (Xaq row x y)).sum := by
  unfold crs
  rw [List.length_flatMap]
  congr 1
  refine List.map_congr_left fun x _ => ?_
  rw [List.length_map, List.countP_eq_length_filter]
  rfl
 have e2 := Xkv (fun x y => decide (ltS x y) && decide (Xaq row x y)) (dit row) (dit row)
 have e3 : 2 * (crs row).length = ((dit row).map fun x => (dit row).countP fun y => decide (ltS x y) && decide (Xaq row x y)).sum + ((dit row).map fun y => (dit row).countP fun x => decide (ltS x y) && decide (Xaq row x y)).sum := by
  rw [<- e2, e]; omega
 rw [e3, <- Xdl]
 unfold deg2
 congr 1
 refine List.map_congr_left fun x hx => ?_
 rw [<- Xa7, <- Xa7, <- Xa7, <- Xdl]
 congr 1
 refine List.map_congr_left fun y hy => ?_
 have hx' := Xag.mp hx
 have hy' := Xag.mp hy
 by_cases c : Xaq row x y
 ·have c' := Xa2 (h2 x hx') (h2 y hy') c
  have n : x ≠ y := fun e => by subst e; exact Xbq (h2 x hx') c
  by_cases l : ltS x y
  ·have l' : ¬ ltS y x := fun q => Xbu x (Xc1 l q)
   simp [c, c', l, l']
  ·have l' : ltS y x := ltS_of (Xjf.mp l) n.symm
   simp [c, c', l, l']
 ·have c' : ¬ Xaq row y x := fun q => c (Xa2 (h2 y hy') (h2 x hx') q)
  simp [c, c']
theorem crs_le {row : List Str} (h2 : ∀ y ∈ row, row.count y = 2) (h3 : Xba row) (hl : (dit row).length <= 14) : (crs row).length <= 49 := by
 have m := mantel (R := fun x y => decide (Xaq row x y)) (dit row).length (dit row) rfl (Xf8 row) (fun x hx => decide_eq_false (Xbq (h2 x (Xag.mp hx))))
  (fun x hx y hy => by
   by_cases c : Xaq row x y
   ·rw [decide_eq_true c, decide_eq_true (Xa2 (h2 x (Xag.mp hx)) (h2 y (Xag.mp hy)) c)]
   ·rw [decide_eq_false c, decide_eq_false fun q => c (Xa2 (h2 y (Xag.mp hy)) (h2 x (Xag.mp hx)) q)])
  (fun x hx y hy z hz a b => decide_eq_false (h3 x (Xag.mp hx) y (Xag.mp hy) z (Xag.mp hz) (of_decide_eq_true a) (of_decide_eq_true b)))
 rw [<- crs_len h2] at m
 have : (dit row).length * (dit row).length <= 14 * 14 := Nat.mul_le_mul hl hl
 omega
def upB (row : List Str) (x y : Str) : Bool := decide (y = x) || decide (lieR row x y = "within")
def span (row : List Str) (x : Str) : Nat := ((pl row x).2 - (pl row x).1).toNat
theorem lie_five (a b c e : Int) : lieT a b c e = "same" \/ lieT a b c e = "cross" \/ lieT a b c e = "within" \/ lieT a b c e = "around" \/ lieT a b c e = "apart" := by
 unfold lieT
 split
 ·exact .inl rfl
 ·split
  ·exact .inr (.inl rfl)
  ·split
   ·exact .inr (.inr (.inl rfl))
   ·split
    ·exact .inr (.inr (.inr (.inl rfl)))
    ·exact .inr (.inr (.inr (.inr rfl)))
theorem Xjy {row : List Str} {x y : Str} (hx : row.count x = 2) (hy : row.count y = 2) (n : x ≠ y) (h : lieR row x y = "around") : span row y < span row x := by
 obtain ⟨n1, n2, n3, n4⟩ := Xjp hx hy n
 have l1 := Xda hx
 have l2 := Xda hy
 unfold span
 unfold lieR lieT at h
 rw [if_neg (fun z => n1 z.1)] at h
 split at h
 ·exact absurd h (by decide)
 ·split at h
  ·exact absurd h (by decide)
  ·split at h
   ·rename_i q
    rw [nIn2] at q
    generalize (pl row x).1 = a at *
    generalize (pl row x).2 = b at *
    generalize (pl row y).1 = c at *
    generalize (pl row y).2 = e at *
    by_cases p1 : a < c /\ c < b
    ·by_cases p2 : a < e /\ e < b
     ·omega
     ·rw [if_pos p1, if_neg p2] at q; omega
    ·rw [if_neg p1] at q
     split at q <;> omega
   ·exact absurd h (by decide)
theorem Xny {row : List Str} {x y : Str} (hx : row.count x = 2) (hy : row.count y = 2) (h : lieR row x y = "same") : x = y := by
 refine Classical.byContradiction fun n => ?_
 obtain ⟨n1, n2, n3, n4⟩ := Xjp hx hy n
 unfold lieR lieT at h
 rw [if_neg (fun z => n1 z.1)] at h
 split at h
 ·exact absurd h (by decide)
 ·split at h
  ·exact absurd h (by decide)
  ·split at h
   ·exact absurd h (by decide)
   ·exact absurd h (by decide)
theorem least {α : Type} (f : α -> Nat) : ∀ l : List α, l ≠ [] -> ∃ a ∈ l, ∀ b ∈ l, f a <= f b
 | [], h => absurd rfl h
 | [a], _ => ⟨a, List.mem_cons_self, fun b hb => by rw [List.mem_singleton.mp hb]; exact Nat.le_refl _⟩
 | a :: c :: r, _ => by
  obtain ⟨m, hm, hl⟩ := least f (c :: r) (by simp)
  by_cases q : f a <= f m
  ·exact ⟨a, List.mem_cons_self, fun b hb => by
    rcases List.mem_cons.mp hb with e | e
    ·rw [e]; exact Nat.le_refl _
    ·exact Nat.le_trans q (hl b e)⟩
  ·exact ⟨m, List.mem_cons_of_mem _ hm, fun b hb => by
    rcases List.mem_cons.mp hb with e | e
    ·rw [e]; omega
    ·exact hl b e⟩
def cands (row : List Str) : List (List Str) := (dit row).map (fun a => (dit row).filter (upB row a)) ++ (crs row).map fun p => (dit row).filter fun y => upB row p.1 y || upB row p.2 y
theorem Xin {row S : List Str} (h2 : ∀ y ∈ row, row.count y = 2) (h3 : Xba row) (hne : S ≠ []) (hg : Xam row S = true) : S ∈ cands row := by
 have hg' := hg
 rw [<- Xjr h2] at hg'
 unfold Xnr at hg'
 rw [Bool.and_eq_true] at hg'
 have hS := of_decide_eq_true hg'.1
 unfold Xam at hg
 rw [Bool.and_eq_true, Bool.and_eq_true] at hg
 obtain ⟨⟨_, hrow⟩, hal⟩ := hg
 have inr : ∀ x ∈ S, x ∈ row := fun x hx => of_decide_eq_true (List.all_eq_true.mp hrow x hx)
 have al : ∀ x ∈ S, ∀ y ∈ row, Xcq (lieR row x y) (decide (y ∈ S)) = true := fun x hx y hy => List.all_eq_true.mp (List.all_eq_true.mp hal x hx) y (Xag.mpr hy)
 have within : ∀ x ∈ S, ∀ y ∈ row, lieR row x y = "within" -> y ∈ S := fun x hx y hy e => by
  have := al x hx y hy
  unfold Xcq at this
  rw [if_pos e] at this
  exact of_decide_eq_true this
 have apart : ∀ x ∈ S, ∀ y ∈ S, lieR row x y ≠ "apart" := fun x hx y hy e => by
  have := al x hx y (inr y hy)
  unfold Xcq at this
  rw [if_neg (by rw [e]; decide), e, decide_eq_true hy] at this
  exact absurd this (by decide)
 have how : ∀ a ∈ S, ∀ c ∈ S, upB row a c = false -> ¬ span row c < span row a -> Xaq row a c := fun a ha c hc hu hs => by
  have hu' := Bool.or_eq_false_iff.mp hu
  have n1 : c ≠ a := of_decide_eq_false hu'.1
  have n2 := of_decide_eq_false hu'.2
  rcases lie_five (pl row a).1 (pl row a).2 (pl row c).1 (pl row c).2 with q | q | q | q | q
  ·exact absurd (Xny (h2 a (inr a ha)) (h2 c (inr c hc)) q).symm n1
  ·exact q
  ·exact absurd q n2
  ·exact absurd (Xjy (h2 a (inr a ha)) (h2 c (inr c hc)) (fun e => n1 e.symm) q) hs
  ·exact absurd q (apart a ha c hc)
 have upin : ∀ a ∈ S, ∀ y ∈ row, upB row a y = true -> y ∈ S := fun a ha y hy q => by
  rcases Bool.or_eq_true_iff.mp q with q | q
  ·rw [of_decide_eq_true q]; exact ha
  ·exact within a ha y hy (of_decide_eq_true q)
 obtain ⟨a, ha, la⟩ := least (span row) S hne
 unfold cands
 rw [List.mem_append]
 by_cases hall : ∀ c ∈ S, upB row a c = true
 ·left
  rw [List.mem_map]
  refine ⟨a, Xag.mpr (inr a ha), ?_⟩
  rw [hS]
  refine List.filter_congr fun y hy => ?_
  by_cases q : y ∈ S
  ·rw [hall y q, decide_eq_true q]
  ·rw [decide_eq_false q, Bool.eq_false_iff]
   exact fun z => q (upin a ha y (Xag.mp hy) z)
 ·right
  have hne2 : S.filter (fun c => !upB row a c) ≠ [] := fun e => hall fun c hc => by
   rw [List.filter_eq_nil_iff] at e
   have := e c hc
   simpa using this
  obtain ⟨b, hb, lb⟩ := least (span row) _ hne2
  obtain ⟨hbS, hbu⟩ := List.mem_filter.mp hb
  have hbu : upB row a b = false := by simpa using hbu
  have cab := how a ha b hbS hbu (by have := la b hbS; omega)
  have all2 : ∀ c ∈ S, upB row a c = true \/ upB row b c = true := fun c hc => by
   refine Classical.byContradiction fun z => ?_
   have z1 : upB row a c = false := by
    cases q : upB row a c with
    | false => rfl
    | true => exact absurd (.inl q) z
   have z2 : upB row b c = false := by
    cases q : upB row b c with
    | false => rfl
    | true => exact absurd (.inr q) z
   have k1 := how a ha c hc z1 (by have := la c hc; omega)
   have k2 := how b hbS c hc z2 (by have := lb c (List.mem_filter.mpr ⟨hc, by simp [z1]⟩); omega)
   exact h3 a (inr a ha) b (inr b hbS) c (inr c hc) cab k1 k2
  have key : ∀ p q : Str, p ∈ S -> q ∈ S -> (∀ c ∈ S, upB row p c = true \/ upB row q c = true) -> (dit row).filter (fun y => upB row p y || upB row q y) = S := fun p q hp hq h => by
   conv => rhs; rw [hS]
   refine List.filter_congr fun y hy => ?_
   by_cases m : y ∈ S
   ·rw [decide_eq_true m, Bool.or_eq_true_iff]; exact h y m
   ·rw [decide_eq_false m, Bool.or_eq_false_iff]
    exact ⟨Bool.eq_false_iff.mpr fun z => m (upin p hp y (Xag.mp hy) z), Bool.eq_false_iff.mpr fun z => m (upin q hq y (Xag.mp hy) z)⟩
  have nab : a ≠ b := fun e => by subst e; exact Xbq (h2 a (inr a ha)) cab
  have mk : ∀ p q : Str, p ∈ S -> q ∈ S -> ltS p q -> Xaq row p q -> (p, q) ∈ crs row := fun p q hp hq l c => by
   unfold crs
   rw [List.mem_flatMap]
   refine ⟨p, Xag.mpr (inr p hp), List.mem_map.mpr ⟨q, List.mem_filter.mpr ⟨Xag.mpr (inr q hq), ?_⟩, rfl⟩⟩
   rw [Bool.and_eq_true]
   exact ⟨decide_eq_true l, decide_eq_true c⟩
  rw [List.mem_map]
  by_cases l : ltS a b
  ·exact ⟨(a, b), mk a b ha hbS l cab, key a b ha hbS all2⟩
  ·have l' := ltS_of (Xjf.mp l) nab.symm
   exact ⟨(b, a), mk b a hbS ha l' (Xa2 (h2 a (inr a ha)) (h2 b (inr b hbS)) cab), key b a hbS ha fun c hc => (all2 c hc).symm⟩
theorem nd_le {α : Type} [DecidableEq α] : ∀ {a b : List α}, a.Nodup -> (∀ x ∈ a, x ∈ b) -> a.length <= b.length
 | [], _, _, _ => Nat.zero_le _
 | x :: r, b, h, s => by
  obtain ⟨h1, h2⟩ := List.nodup_cons.mp h
  have hx := s x List.mem_cons_self
  have := nd_le (a := r) (b := b.erase x) h2 fun y hy => (List.mem_erase_of_ne (show y ≠ x from fun e => h1 (e ▸ hy))).mpr (s y (List.mem_cons_of_mem _ hy))
  rw [List.length_erase_of_mem hx] at this
  have : 0 < b.length := List.length_pos_of_mem hx
  rw [List.length_cons]
  omega
theorem Xg6 {row : List Str} {L : List (List Str)} (h2 : ∀ y ∈ row, row.count y = 2) (h3 : Xba row) (hl : (dit row).length <= 14) (nd : L.Nodup) (h : ∀ S ∈ L, S ≠ [] /\ Xam row S = true) : L.length < 64 := by
 have l1 := nd_le nd fun S hS => Xin h2 h3 (h S hS).1 (h S hS).2
 have l2 := crs_le h2 h3 hl
 unfold cands at l1
 rw [List.length_append, List.length_map, List.length_map] at l1
 omega
end SH
namespace L2
open PySem PySem.Spec PyProof.Rows
open PySem.W (KasT kas_asc kas_desc kas_rev kas_tail3 kas_descPart kas_count kas_place kas_bin kas_sort kas_ask kas_item kat_run kat_snds kat_kind kat_lt KatLex kat_cons kat_go kat_yes kat_no kat_one kat_nil KatTups)
def KAll {α : Type} (n : Nat) (P : α -> Prop) : KasT α -> Prop
 | .ret a => P a
 | .ask i j k => i < n /\ j < n /\ ∀ b, KAll n P (k b)
theorem KAll.bind {α β : Type} {n : Nat} {P : α -> Prop} {Q : β -> Prop} {f : α -> KasT β} (hf : ∀ a, P a -> KAll n Q (f a)) : ∀ {t : KasT α}, KAll n P t -> KAll n Q (t.bind f)
 | .ret a, h => hf a h
 | .ask i j k, h => ⟨h.1, h.2.1, fun b => KAll.bind hf (h.2.2 b)⟩
def Gd (n : Nat) (p : Array Nat) : Prop := p.Perm (List.toArray (List.range n))
theorem Gd.lt {n : Nat} {p : Array Nat} (h : Gd n p) (hn : 0 < n) (i : Nat) : p.getD i 0 < n := by
 by_cases hi : i < p.size
 ·have e : p.getD i 0 = p[i] := by simp [Array.getD, hi]
  rw [e]
  have : p[i] ∈ p := Array.getElem_mem hi
  have := h.mem_iff.mp this
  simpa using this
 ·have e : p.getD i 0 = 0 := by simp [Array.getD, hi]
  rw [e]
  exact hn
theorem Gd.rev {n : Nat} {p : Array Nat} (h : Gd n p) (i j : Nat) : Gd n (kas_rev p i j) := (mirror_perm p i j _).trans h
theorem Xjz {n : Nat} (hn : 0 < n) {p : Array Nat} (h : Gd n p) : ∀ f m, KAll n (fun _ => True) (kas_asc p f m)
 | 0, _ => trivial
 | f + 1, m => ⟨h.lt hn _, h.lt hn _, fun b => by
  cases b with
  | true => exact trivial
  | false => exact Xjz hn h f (m + 1)⟩
theorem Xe5 {n : Nat} (hn : 0 < n) : ∀ f (p : Array Nat) m q, Gd n p -> KAll n (fun r => Gd n r.1) (kas_desc f p m q)
 | 0, p, m, q, h => h
 | f + 1, p, m, q, h => ⟨h.lt hn _, h.lt hn _, fun b => by
  cases b with
  | true =>
   show KAll n _ (if q > 0 then kas_desc f (kas_rev p (m - (q + 1)) m) (m + 1) 0 else kas_desc f p (m + 1) 0)
   split
   ·exact Xe5 hn f _ _ _ (h.rev _ _)
   ·exact Xe5 hn f _ _ _ h
  | false =>
   refine ⟨h.lt hn _, h.lt hn _, fun d => ?_⟩
   cases d with
   | true => exact h
   | false => exact Xe5 hn f _ _ _ h⟩
theorem Xio {n : Nat} (hn : 0 < n) {p : Array Nat} (h : Gd n p) (m r : Nat) : KAll n (fun r => Gd n r.2) (kas_tail3 m r p) := by
 unfold kas_tail3
 refine KAll.bind (P := fun _ => True) (Q := fun (r : Nat × Array Nat) => Gd n r.2) (fun a _ => ?_) (Xjz hn (h.rev 0 m) _ _)
 exact h.rev 0 m
theorem Xes {n : Nat} (hn : 0 < n) {p : Array Nat} (h : Gd n p) (m r : Nat) : KAll n (fun r => Gd n r.2) (kas_descPart m r p) := by
 refine KAll.bind (P := fun r => Gd n r.1) (fun a ha => ?_) (Xe5 hn _ _ _ _ h)
 split
 ·exact Xio hn (ha.rev _ _) _ _
 ·exact Xio hn ha _ _
theorem Xnz {n : Nat} (hn : 0 < n) {p : Array Nat} (h : Gd n p) (r : Nat) : KAll n (fun r => Gd n r.2) (kas_count r p) := by
 refine KAll.bind (P := fun _ => True) (fun a _ => ?_) (Xjz hn h _ _)
 split
 ·exact h
 ·split
  ·refine ⟨h.lt hn _, h.lt hn _, fun b => ?_⟩
   cases b with
   | true => exact h
   | false => exact Xes hn (h.rev _ _) _ _
  ·exact Xes hn h _ _
theorem Xfx {n : Nat} (hn : 0 < n) {p : Array Nat} (h : Gd n p) (k : Nat) : ∀ f l r, KAll n (fun _ => True) (kas_place p k f l r)
 | 0, _, _ => trivial
 | f + 1, l, r => by
  show KAll n _ (if l ≥ r then _ else _)
  split
  ·exact trivial
  ·refine ⟨h.lt hn _, h.lt hn _, fun b => ?_⟩
   cases b with
   | true => exact Xfx hn h k f _ _
   | false => exact Xfx hn h k f _ _
theorem Xn0 {n : Nat} (hn : 0 < n) : ∀ f (p : Array Nat) k, Gd n p -> KAll n (Gd n) (kas_bin f p k)
 | 0, p, _, h => h
 | f + 1, p, k, h => KAll.bind (P := fun _ => True) (fun l _ => Xn0 hn f _ _ ((bubble_perm p k _).trans h)) (Xfx hn h k _ _ _)
theorem Xe6 {n : Nat} (hn : 0 < n) : KAll n (Gd n) (kas_sort n) := by
 refine KAll.bind (P := fun r => Gd n r.2) (fun a ha => ?_) (Xnz hn (Array.Perm.refl _) n)
 split
 ·exact Xn0 hn _ _ _ ha
 ·exact ha
section
variable {prog : Program} {w : World} {A : Around} {E : Value -> Shared -> Prop} {s : Shared}
def TupS (h : Heap) (v : Value) : Prop := ∃ a o xs n ss, v = .ref a /\ h.get? a = some o /\ o.cls = .type "tuple" /\ o.data = .seq xs n /\ StrsAre xs.toList ss /\ ss ≠ []
theorem Xgb : ∀ {vs : List Value}, (∀ v ∈ vs, TupS s.heap v) -> ∃ fs, KatTups s.heap vs fs /\ fs.length = vs.length /\ ∀ f ∈ fs, ∃ x t, f = .str x t
 | [], _ => ⟨[], KatTups.nil, rfl, fun _ h => by cases h⟩
 | v :: vs, h => by
  obtain ⟨fs, h1, h2, h3⟩ := Xgb (vs := vs) fun u hu => h u (List.mem_cons_of_mem _ hu)
  obtain ⟨a, o, xs, n, ss, rfl, g1, g2, g3, g4, g5⟩ := h v List.mem_cons_self
  obtain ⟨f, x, t, hf, rfl⟩ : ∃ f x t, xs[0]? = some f /\ f = .str x t := by
   have e : xs[0]? = xs.toList[0]? := by simp
   rw [e]
   generalize xs.toList = l at g4
   cases g4 with
   | nil => exact absurd rfl g5
   | cons x t r => exact ⟨_, x, t, rfl, rfl⟩
  exact ⟨_ :: fs, KatTups.cons g1 g2 g3 hf h1, by simp [h2], fun f hf => by
   rcases List.mem_cons.mp hf with e | e
   ·exact ⟨x, t, e⟩
   ·exact h3 f e⟩
end
section
variable {X : Cx}
end
section
variable {X : Cx}
theorem Xg7 : Xdg X (.builtin "sorted") (fun xs H Q => ∃ (a : Addr) (ks : List Str), xs = [.ref a] /\ H a = some (.tup (ks.map V.str)) /\ ks.length < 64 /\ ∀ l, H l = none -> Q (.ref l) (upd H l (.lst ((srt ks).map V.str)))) := by
 intro pins s σ H xs us Q I r h
 obtain ⟨a, ks, rfl, ha, h64, q⟩ := h
 obtain ⟨u, rfl, rx⟩ := vals1 r
 cases rx
 obtain ⟨its, r2, p2, _⟩ := I.tuple (SqT.of (K := X.K) ha)
 obtain ⟨o, ho, hc, n, hd⟩ := id p2
 have hl : its.length = ks.length := by
  have := r2.length
  rw [List.length_map] at this
  exact this.symm
 refine Xcx h64 (fun R k => wpAny_collect_seq a (.inr rfl) ho hc hd (fun h' kk => k _ _ ks kk rfl rfl (by simpa using Xcy r2) (List.Perm.refl _)) (by rw [List.size_toArray, hl, sizeLine_eq]; omega)) fun s1 s' vs ls e k1 o1 g1 k2 o2 g2 he st p so => ?_
 refine Xee I h64 k1 o1 g1 k2 o2 g2 he st p fun l hl => ?_
 rw [Xko p so]
 exact q l hl
theorem Xn1 (hu : X.A.units + 4 < cLine) : OpR X (compareOp .NotIn) (fun x y H Q => ∃ d ds, DAt H d x /\ DAt H (.list ds) y /\ d.canLay0 = true /\ PyData.canLayAll0 ds = true /\ d.depth <= 3 /\ Q (.bl (!ds.any fun e => PyData.eqv e d)) H) := by
 intro pins s σ H x y v u Q I rx ry h
 obtain ⟨d, ds, h1, h2, c1, c2, hd, q⟩ := h
 obtain ⟨as, ra⟩ := Xco I d x v h1 rx
 obtain ⟨bs, rb⟩ := Xco I (.list ds) y u h2 ry
 exact SeqAt.notIn_list_reads rb ra c2 c1 (by omega) ⟨.bl _, H, I, rfl, q⟩
end
end L2
namespace SH
open PySem PySem.Spec PyProof.Rows L2
def tupD (ss : List Str) : PyData := .tuple (ss.map PyData.str)
def Plts (row : List Str) (H : Hp) (ps : List Addr) : Prop := ∀ p ∈ ps, ∃ ss : List Str, H p = some (.tup (ss.map V.str)) /\ Xam row ss = true
theorem Xcr {row ss : List Str} (h : Xam row ss = true) : (∀ x ∈ ss, x ∈ row) /\ ss.Pairwise ltS := by
 unfold Xam at h
 rw [Bool.and_eq_true, Bool.and_eq_true] at h
 refine ⟨fun x hx => of_decide_eq_true (List.all_eq_true.mp h.1.2 x hx), ?_⟩
 rw [of_decide_eq_true h.1.1]
 exact Xjq ss
theorem Xg8 {row ss : List Str} (h : Xam row ss = true) : ss.length <= (dit row).length :=
 nd_le (Xb8 (Xcr h).2) fun x hx => Xag.mpr ((Xcr h).1 x hx)
theorem Xg9 (row : List Str) : Xam row [] = true := by
 unfold Xam
 rw [Xg5 .nil]
 rfl
theorem Xn2 {row ss : List Str} {x : Str} (h2 : ∀ y ∈ row, row.count y = 2) (h : Xam row ss = true) (hx : x ∈ row) (n : x ∉ ss) (hf : Xei (bars row) (srt (ss ++ [x])) = true) : Xam row (srt (ss ++ [x])) = true := by
 rw [<- Xjr h2]
 unfold Xnr
 rw [hf, Bool.and_true]
 obtain ⟨hr, hl⟩ := Xcr h
 have nd : (ss ++ [x]).Nodup := by
  rw [List.nodup_append]
  exact ⟨Xb8 hl, by simp, fun a ha b hb e => n (by rw [List.mem_singleton.mp hb] at e; exact e ▸ ha)⟩
 refine decide_eq_true (Xdk.mpr ⟨?_, fun y hy => ?_⟩)
 ·unfold told
  have e1 : srt (ddup (srt (ss ++ [x]))) = srt (srt (ss ++ [x])) := Xm8 (Xns ((Xa6 _).nodup_iff.mpr nd))
  have e2 : srt (srt (ss ++ [x])) = srt (ss ++ [x]) := Xia (Xa6 _) (Xdr _) (Xdr _)
  exact (e1.trans e2).symm
 ·rcases List.mem_append.mp (Xgx.mp hy) with q | q
  ·exact hr y q
  ·rw [List.mem_singleton.mp q]; exact hx
theorem srt_ne {ss : List Str} {x : Str} : srt (ss ++ [x]) ≠ [] := fun e => by
 have : x ∈ srt (ss ++ [x]) := Xgx.mpr (by simp)
 rw [e] at this
 cases this
structure Fresh (row : List Str) (H : Hp) (f : Addr) (xs : List V) (Ts : List (List Str)) : Prop where
 at' : H f = some (.lst xs)
 all : DAll H (Ts.map tupD) xs
 nd : Ts.Nodup
 ok : ∀ T ∈ Ts, T ≠ [] /\ Xam row T = true
theorem Fresh.same {row : List Str} {H H' : Hp} {f : Addr} {xs : List V} {Ts : List (List Str)} (h : Fresh row H f xs Ts) (s : Same H H') : Fresh row H' f xs Ts := ⟨s _ _ h.at', DAll.same s _ _ h.all, h.nd, h.ok⟩
abbrev NPl : List Str := ["_law_row_here", "_law_bars_here", "_law_names_here", "_law_told", "_law_layer", "_law_k", "_law_fresh", "_law_plot", "_law_name", "_law_over"]
end SH
namespace L2
open PySem PySem.Spec PyProof.Rows
def Tups (H : Hp) (ps : List Addr) (Ts : List (List Str)) : Prop := ps.length = Ts.length /\ ∀ i, i < ps.length -> H (ps.getD i 0) = some (.tup ((Ts.getD i []).map V.str))
theorem Tups.same {H H' : Hp} {ps : List Addr} {Ts : List (List Str)} (h : Tups H ps Ts) (s : Same H H') : Tups H' ps Ts := ⟨h.1, fun i hi => s _ _ (h.2 i hi)⟩
theorem Tups.nil (H : Hp) : Tups H [] [] := ⟨rfl, fun i hi => absurd hi (Nat.not_lt_zero _)⟩
theorem Tups.cons {H : Hp} {p : Addr} {T : List Str} {ps : List Addr} {Ts : List (List Str)} (h : H p = some (.tup (T.map V.str))) (r : Tups H ps Ts) : Tups H (p :: ps) (T :: Ts) := by
 refine ⟨by simp [r.1], fun i hi => ?_⟩
 cases i with
 | zero => exact h
 | succ i => exact r.2 i (by simpa using hi)
theorem Tups.app {H : Hp} : ∀ {ps qs : List Addr} {Ts Us : List (List Str)}, Tups H ps Ts -> Tups H qs Us -> Tups H (ps ++ qs) (Ts ++ Us)
 | [], qs, Ts, Us, h, g => by
  have : Ts = [] := List.length_eq_zero_iff.mp h.1.symm
  rw [this]; exact g
 | p :: ps, qs, [], Us, h, g => by have := h.1; simp at this
 | p :: ps, qs, T :: Ts, Us, h, g => by
  have r : Tups H ps Ts := ⟨by simpa using h.1, fun i hi => by simpa using h.2 (i + 1) (by simpa using hi)⟩
  exact Tups.cons (h.2 0 (by simp)) (Tups.app r g)
open PySem.W (KasT kas_asc kas_desc kas_rev kas_tail3 kas_descPart kas_count kas_place kas_bin kas_sort kas_ask kas_item kat_run kat_snds kat_kind kat_lt KatLex kat_cons kat_go kat_yes kat_no kat_one kat_nil KatTups)
def kRun {α : Type} (lt : Nat -> Nat -> Bool) : KasT α -> α
 | .ret a => a
 | .ask i j k => kRun lt (k (lt i j))
theorem Xcf {α β : Type} {lt : Nat -> Nat -> Bool} {f : α -> KasT β} : ∀ t : KasT α, kRun lt (t.bind f) = kRun lt (f (kRun lt t))
 | .ret _ => rfl
 | .ask i j k => Xcf (k (lt i j))
theorem Xj0 {α : Type} {n : Nat} {lt : Nat -> Nat -> Bool} {P : α -> Prop} {G : α -> Shared -> Prop} {s : Shared} {cmp : Nat -> Nat -> (Bool -> Shared -> Prop) -> Shared -> Prop} (hc : ∀ i j C, i < n -> j < n -> C (lt i j) s -> cmp i j C s) :
  ∀ {t : KasT α}, KAll n P t -> G (kRun lt t) s -> t.kasWp cmp G s
 | .ret a, _, h => h
 | .ask i j k, h, g => hc i j _ h.1 h.2.1 (Xj0 hc (h.2.2 _) g)
theorem KAll.run {α : Type} {n : Nat} {lt : Nat -> Nat -> Bool} {P : α -> Prop} : ∀ {t : KasT α}, KAll n P t -> P (kRun lt t)
 | .ret a, h => h
 | .ask i j k, h => KAll.run (t := k (lt i j)) (h.2.2 (lt i j))
structure Lin (n : Nat) (lt : Nat -> Nat -> Bool) : Prop where
 irr : ∀ i, lt i i = false
 tr : ∀ i j k, lt i j = true -> lt j k = true -> lt i k = true
 tot : ∀ i j, i < n -> j < n -> i ≠ j -> lt i j = true \/ lt j i = true
section
variable {n : Nat} {lt : Nat -> Nat -> Bool} {p : Array Nat}
def SoTo (lt : Nat -> Nat -> Bool) (p : Array Nat) (m : Nat) : Prop := ∀ i j, i < j -> j < m -> lt (p.getD i 0) (p.getD j 0) = true
def DeTo (lt : Nat -> Nat -> Bool) (p : Array Nat) (m : Nat) : Prop := ∀ i j, i < j -> j < m -> lt (p.getD j 0) (p.getD i 0) = true
theorem Gd.size {p : Array Nat} (h : Gd n p) : p.size = n := by
 have := h.size_eq
 simpa using this
theorem Gd.inj {p : Array Nat} (h : Gd n p) {i j : Nat} (hi : i < n) (hj : j < n) (ne : i ≠ j) : p.getD i 0 ≠ p.getD j 0 := fun e => by
 have sz := h.size
 have nd : p.toList.Nodup := by
  have q : p.toList.Perm (List.range n) := by simpa using h.toList
  exact q.nodup_iff.mpr List.nodup_range
 have hi' : i < p.toList.length := by rw [Array.length_toList, sz]; exact hi
 have hj' : j < p.toList.length := by rw [Array.length_toList, sz]; exact hj
 have e1 : p.getD i 0 = p.toList[i] := by simp [Array.getD, sz, hi]
 have e2 : p.getD j 0 = p.toList[j] := by simp [Array.getD, sz, hj]
 rw [e1, e2] at e
 exact ne ((List.getElem_inj nd).mp e)
theorem Lin.flip (L : Lin n lt) (h : Gd n p) {i j : Nat} (hi : i < n) (hj : j < n) (ne : i ≠ j) (e : lt (p.getD i 0) (p.getD j 0) = false) : lt (p.getD j 0) (p.getD i 0) = true := by
 have hn : 0 < n := by omega
 rcases L.tot _ _ (h.lt hn i) (h.lt hn j) (h.inj hi hj ne) with z | z
 ·rw [z] at e; cases e
 ·exact z
theorem Xj1 (L : Lin n lt) (h : Gd n p) : ∀ f m, 1 <= m -> m + f <= n -> SoTo lt p m -> m <= kRun lt (kas_asc p f m) /\ kRun lt (kas_asc p f m) <= m + f /\ SoTo lt p (kRun lt (kas_asc p f m)) /\
  (kRun lt (kas_asc p f m) < m + f -> lt (p.getD (kRun lt (kas_asc p f m)) 0) (p.getD (kRun lt (kas_asc p f m) - 1) 0) = true)
 | 0, m, _, _, so => ⟨Nat.le_refl _, Nat.le_refl _, so, fun z => absurd z (by show ¬ m < m + 0; omega)⟩
 | f + 1, m, h1, hn, so => by
  have e : kRun lt (kas_asc p (f + 1) m) = kRun lt (if lt (p.getD m 0) (p.getD (m - 1) 0) = true then KasT.ret m else kas_asc p f (m + 1)) := rfl
  cases c : lt (p.getD m 0) (p.getD (m - 1) 0) with
  | true =>
   rw [e, c, if_pos rfl]
   exact ⟨Nat.le_refl _, by show m <= _; omega, so, fun _ => c⟩
  | false =>
   rw [e, c, if_neg (by decide)]
   have c' := L.flip h (by omega) (by omega) (by omega) c
   obtain ⟨a1, a2, a3, a4⟩ := Xj1 L h f (m + 1) (by omega) (by omega) (fun i j hij hj => by
    by_cases hjm : j < m
    ·exact so i j hij hjm
    ·have : j = m := by omega
     subst this
     by_cases hi : i = j - 1
     ·subst hi; exact c'
     ·exact L.tr _ _ _ (so i (j - 1) (by omega) (by omega)) c')
   exact ⟨by omega, by omega, a3, fun z => a4 (by omega)⟩
theorem Xkw (L : Lin n lt) (h : Gd n p) : ∀ f m, 1 <= m -> m + f <= n -> DeTo lt p m -> ∃ r, kRun lt (kas_desc f p m 0) = (p, r, 0) /\ m <= r /\ r <= m + f /\ DeTo lt p r
 | 0, m, _, _, so => ⟨m, rfl, Nat.le_refl _, Nat.le_refl _, so⟩
 | f + 1, m, h1, hn, so => by
  have e : kRun lt (kas_desc (f + 1) p m 0) = kRun lt (if lt (p.getD m 0) (p.getD (m - 1) 0) = true then (if 0 > 0 then kas_desc f (kas_rev p (m - (0 + 1)) m) (m + 1) 0 else kas_desc f p (m + 1) 0)
   else .ask (p.getD (m - 1) 0) (p.getD m 0) fun d => if d = true then .ret (p, m, 0) else kas_desc f p (m + 1) (0 + 1)) := rfl
  cases c : lt (p.getD m 0) (p.getD (m - 1) 0) with
  | true =>
   rw [e, c, if_pos rfl, if_neg (by omega)]
   obtain ⟨r, a1, a2, a3, a4⟩ := Xkw L h f (m + 1) (by omega) (by omega) (fun i j hij hj => by
    by_cases hjm : j < m
    ·exact so i j hij hjm
    ·have : j = m := by omega
     subst this
     by_cases hi : i = j - 1
     ·subst hi; exact c
     ·exact L.tr _ _ _ c (so i (j - 1) (by omega) (by omega)))
   exact ⟨r, a1, by omega, by omega, a4⟩
  | false =>
   rw [e, c, if_neg (by decide)]
   have c' := L.flip h (by omega) (by omega) (by omega) c
   refine ⟨m, ?_, Nat.le_refl _, by omega, so⟩
   show kRun lt (if lt (p.getD (m - 1) 0) (p.getD m 0) = true then _ else _) = _
   rw [if_pos c']
   rfl
theorem Xd3 (p : Array Nat) (i : Nat) : p.getD i 0 = (p[i]?).getD 0 := by simp
theorem rev_at {m : Nat} (hm : m <= p.size) {i : Nat} (hi : i < m) : (kas_rev p 0 m).getD i 0 = p.getD (m - 1 - i) 0 := by
 rw [Xd3, Xd3]
 show ((mirror p 0 m ((m - 0) / 2))[i]?).getD 0 = _
 rw [getElem?_mirror_all hm, if_pos (by omega)]
 congr 2
 omega
theorem Xn3 (L : Lin n lt) (h : Gd n p) (hn : 1 <= n) : ∃ m p', kRun lt (kas_count n p) = (m, p') /\ 1 <= m /\ m <= n /\ Gd n p' /\ SoTo lt p' m := by
 have sz := h.size
 unfold kas_count
 rw [Xcf]
 obtain ⟨a1, a2, a3, a4⟩ := Xj1 (lt := lt) L h (n - 1) 1 (Nat.le_refl _) (by omega) (fun i j hij hj => by omega)
 generalize kRun lt (kas_asc p (n - 1) 1) = r at *
 by_cases e1 : (r == n) = true
 ·rw [if_pos e1]
  exact ⟨r, p, rfl, a1, by omega, h, a3⟩
 ·rw [if_neg e1]
  have rn : r ≠ n := fun z => e1 (by rw [z]; exact beq_self_eq_true _)
  by_cases e2 : r > 1
  ·rw [if_pos e2]
   refine ⟨r, p, ?_, a1, by omega, h, a3⟩
   show kRun lt (if lt (p.getD 0 0) (p.getD (r - 1) 0) = true then _ else _) = _
   rw [if_pos (a3 0 (r - 1) (by omega) (by omega))]
   rfl
  ·rw [if_neg e2]
   obtain rfl : r = 1 := by omega
   have a4 := a4 (by omega)
   unfold kas_descPart
   rw [Xcf]
   obtain ⟨r2, b1, b2, b3, b4⟩ := Xkw (lt := lt) L h (n - (1 + 1)) (1 + 1) (by omega) (by omega) (fun i j hij hj => by
    have : j = 1 := by omega
    subst this
    have : i = 0 := by omega
    subst this
    exact a4)
   rw [b1]
   dsimp only
   rw [if_neg (by omega)]
   unfold kas_tail3
   rw [Xcf]
   have hrv := h.rev 0 r2
   obtain ⟨c1, c2, c3, _⟩ := Xj1 (lt := lt) L hrv (n - r2) r2 (by omega) (by omega) (fun i j hij hj => by
    rw [rev_at (by omega) (by omega), rev_at (by omega) (by omega)]
    exact b4 _ _ (by omega) (by omega))
   exact ⟨_, _, rfl, by omega, by omega, hrv, c3⟩
theorem Xfy (L : Lin n lt) (h : Gd n p) {k : Nat} (hk : k < n) (so : SoTo lt p k) : ∀ f l r, r - l <= f -> l <= r -> r <= k -> (∀ i, i < l -> lt (p.getD i 0) (p.getD k 0) = true) -> (∀ i, r <= i -> i < k -> lt (p.getD k 0) (p.getD i 0) = true) ->
  kRun lt (kas_place p k f l r) <= k /\ (∀ i, i < kRun lt (kas_place p k f l r) -> lt (p.getD i 0) (p.getD k 0) = true) /\ (∀ i, kRun lt (kas_place p k f l r) <= i -> i < k -> lt (p.getD k 0) (p.getD i 0) = true)
 | 0, l, r, hf, hlr, hr, hl, hg => by
  have : l = r := by omega
  subst this
  exact ⟨hr, hl, hg⟩
 | f + 1, l, r, hf, hlr, hr, hl, hg => by
  unfold kas_place
  by_cases e : l ≥ r
  ·rw [if_pos e]
   have : l = r := by omega
   subst this
   exact ⟨hr, hl, hg⟩
  ·rw [if_neg e]
   have e2 : kRun lt (KasT.ask (p.getD k 0) (p.getD ((l + r) / 2) 0) fun c => if c = true then kas_place p k f l ((l + r) / 2) else kas_place p k f ((l + r) / 2 + 1) r) = kRun lt (if lt (p.getD k 0) (p.getD ((l + r) / 2) 0) = true then kas_place p k f l ((l + r) / 2) else kas_place p k f ((l + r) / 2 + 1) r) := rfl
   rw [e2]
   have hm1 : l <= (l + r) / 2 := by omega
   have hm2 : (l + r) / 2 < r := by omega
   generalize (l + r) / 2 = md at *
   cases c : lt (p.getD k 0) (p.getD md 0) with
   | true =>
    rw [if_pos rfl]
    refine Xfy L h hk so f l md (by omega) (by omega) (by omega) hl fun i h1 h2 => ?_
    by_cases e3 : i = md
    ·rw [e3]; exact c
    ·exact L.tr _ _ _ c (so md i (by omega) h2)
   | false =>
    rw [if_neg (by decide)]
    have c' := L.flip h hk (by omega) (by omega) c
    refine Xfy L h hk so f (md + 1) r (by omega) (by omega) hr (fun i hi => ?_) hg
    by_cases e3 : i = md
    ·rw [e3]; exact c'
    ·exact L.tr _ _ _ (so i md (by omega) (by omega)) c'
theorem bub_at {k l : Nat} (hk : k < p.size) (hl : l <= k) (i : Nat) : (bubble p k (k - l)).getD i 0 = if i = l then p.getD k 0 else if l < i /\ i <= k then p.getD (i - 1) 0 else p.getD i 0 := by
 simp only [Xd3]
 rw [getElem?_bubble hk _ (by omega), show k - (k - l) = l by omega]
 by_cases h1 : i = l
 ·rw [if_pos h1, if_pos h1]
 ·rw [if_neg h1, if_neg h1]
  by_cases h2 : l < i /\ i <= k
  ·rw [if_pos h2, if_pos h2]
  ·rw [if_neg h2, if_neg h2]
theorem Xn4 (L : Lin n lt) : ∀ f (p : Array Nat) k, Gd n p -> k + f <= n -> SoTo lt p k -> SoTo lt (kRun lt (kas_bin f p k)) (k + f)
 | 0, p, k, _, _, so => so
 | f + 1, p, k, h, hk, so => by
  have sz := h.size
  have e : kRun lt (kas_bin (f + 1) p k) = kRun lt ((kas_place p k k 0 k).bind fun l => kas_bin f (bubble p k (k - l)) (k + 1)) := rfl
  rw [e, Xcf]
  obtain ⟨a1, a2, a3⟩ := Xfy (lt := lt) L h (k := k) (by omega) so k 0 k (by omega) (by omega) (Nat.le_refl _) (fun i z => absurd z (Nat.not_lt_zero _)) (fun i h1 h2 => by omega)
  generalize kRun lt (kas_place p k k 0 k) = l at *
  have := Xn4 L f (bubble p k (k - l)) (k + 1) ((bubble_perm p k _).trans h) (by omega) (fun i j hij hj => by
   rw [bub_at (by omega) a1, bub_at (by omega) a1]
   by_cases i1 : i = l
   ·rw [if_pos i1, if_neg (by omega), if_pos (by omega)]
    exact a3 _ (by omega) (by omega)
   ·rw [if_neg i1]
    by_cases i2 : l < i /\ i <= k
    ·rw [if_pos i2, if_neg (by omega), if_pos (by omega)]
     exact so _ _ (by omega) (by omega)
    ·rw [if_neg i2]
     by_cases j1 : j = l
     ·rw [if_pos j1]
      exact a2 i (by omega)
     ·rw [if_neg j1]
      by_cases j2 : l < j /\ j <= k
      ·rw [if_pos j2]
       by_cases z : i = j - 1
       ·omega
       ·exact so _ _ (by omega) (by omega)
      ·rw [if_neg j2]
       exact so _ _ hij (by omega))
  rw [show k + (f + 1) = k + 1 + f by omega]
  exact this
theorem Xkx (L : Lin n lt) (hn : 0 < n) : SoTo lt (kRun lt (kas_sort n)) n := by
 unfold kas_sort
 rw [Xcf]
 obtain ⟨m, p', e, h1, h2, h3, h4⟩ := Xn3 (lt := lt) L (p := List.toArray (List.range n)) (Array.Perm.refl _) hn
 rw [e]
 dsimp only
 by_cases hm : m < n
 ·rw [if_pos hm]
  have := Xn4 L (n - max m 1) p' (max m 1) h3 (by omega) (by rw [show max m 1 = m by omega]; exact h4)
  rwa [show max m 1 + (n - max m 1) = n by omega] at this
 ·rw [if_neg hm]
  have : m = n := by omega
  subst this
  exact h4
end
open PySem.W (KasT kas_asc kas_desc kas_rev kas_tail3 kas_descPart kas_count kas_place kas_bin kas_sort kas_ask kas_item kat_run kat_snds kat_kind kat_lt KatLex kat_cons kat_go kat_yes kat_no kat_one kat_nil KatTups)
def ltL : List Str -> List Str -> Bool
 | [], [] => false
 | [], _ :: _ => true
 | _ :: _, [] => false
 | x :: a, y :: b => if x = y then ltL a b else decide (ltS x y)
theorem Xfz : ∀ a, ltL a a = false
 | [] => rfl
 | x :: a => by
  show (if x = x then ltL a a else _) = false
  rw [if_pos rfl]
  exact Xfz a
theorem Xky : ∀ a b c, ltL a b = true -> ltL b c = true -> ltL a c = true
 | [], [], c, h, _ => by cases h
 | [], _ :: _, [], _, g => by cases g
 | [], _ :: _, _ :: _, _, _ => rfl
 | _ :: _, [], _, h, _ => by cases h
 | _ :: _, _ :: _, [], _, g => by cases g
 | x :: a, y :: b, z :: c, h, g => by
  have h : (if x = y then ltL a b else decide (ltS x y)) = true := h
  have g : (if y = z then ltL b c else decide (ltS y z)) = true := g
  show (if x = z then ltL a c else decide (ltS x z)) = true
  by_cases e1 : x = y
  ·subst e1
   rw [if_pos rfl] at h
   by_cases e2 : x = z
   ·rw [if_pos e2] at g ⊢
    exact Xky a b c h g
   ·rw [if_neg e2] at g ⊢
    exact g
  ·rw [if_neg e1] at h
   by_cases e2 : y = z
   ·subst e2
    rw [if_neg e1]
    exact h
   ·rw [if_neg e2] at g
    have q := Xc1 (of_decide_eq_true h) (of_decide_eq_true g)
    rw [if_neg (Xh7 q)]
    exact decide_eq_true q
theorem Xj2 : ∀ a b, a ≠ b -> ltL a b = true \/ ltL b a = true
 | [], [], n => absurd rfl n
 | [], _ :: _, _ => .inl rfl
 | _ :: _, [], _ => .inr rfl
 | x :: a, y :: b, n => by
  show (if x = y then ltL a b else decide (ltS x y)) = true \/ (if y = x then ltL b a else decide (ltS y x)) = true
  by_cases e : x = y
  ·subst e
   rw [if_pos rfl, if_pos rfl]
   exact Xj2 a b fun z => n (by rw [z])
  ·rw [if_neg e, if_neg (fun z => e z.symm)]
   rcases Xfm x y with z | z
   ·exact .inl (decide_eq_true (ltS_of z e))
   ·exact .inr (decide_eq_true (ltS_of z fun q => e q.symm))
theorem lin_of {Ts : List (List Str)} (nd : Ts.Nodup) : Lin Ts.length fun i j => ltL (Ts.getD i []) (Ts.getD j []) where
 irr i := Xfz _
 tr i j k := Xky _ _ _
 tot i j hi hj ne := Xj2 _ _ fun e => ne (by
  have e1 : Ts.getD i [] = Ts[i] := by simp [List.getD, hi]
  have e2 : Ts.getD j [] = Ts[j] := by simp [List.getD, hj]
  rw [e1, e2] at e
  exact (List.getElem_inj nd).mp e)
theorem Xlt {Ts : List (List Str)} {p : Array Nat} (g : Gd Ts.length p) (so : SoTo (fun i j => ltL (Ts.getD i []) (Ts.getD j [])) p Ts.length) :
  (p.toList.map fun i => Ts.getD i []).Perm Ts /\ (p.toList.map fun i => Ts.getD i []).Pairwise fun a b => ltL a b = true := by
 constructor
 ·have e : ((List.range Ts.length).map fun i => Ts.getD i []) = Ts := by
   refine List.ext_getElem (by simp) fun i h1 h2 => ?_
   simp [List.getElem_map, List.getElem_range, List.getD, h2]
  have q : p.toList.Perm (List.range Ts.length) := by
   have := g.toList
   simpa using this
  have := q.map fun i => Ts.getD i []
  rw [e] at this
  exact this
 ·rw [List.pairwise_iff_getElem]
  intro i j hi hj hij
  have sz := g.size
  rw [List.length_map, Array.length_toList, sz] at hi hj
  have := so i j hij hj
  rw [List.getElem_map, List.getElem_map]
  have e1 : p.getD i 0 = p.toList[i]'(by rw [Array.length_toList, sz]; exact hi) := by simp [Array.getD, sz, hi]
  have e2 : p.getD j 0 = p.toList[j]'(by rw [Array.length_toList, sz]; exact hj) := by simp [Array.getD, sz, hj]
  rw [e1, e2] at this
  exact this
section
variable {prog : Program} {w : World} {A : Around} {E : Value -> Shared -> Prop} {s : Shared}
theorem Xn5 {b fin : Bool} {C : Bool -> Shared -> Prop} : ∀ {us vs : List Value} {as bs : List Str} (i : Nat), StrsAre us as -> StrsAre vs bs -> fin = decide (as.length < bs.length) -> C (ltL as bs) s -> KatLex prog w A b fin C (us.zip vs) i s
 | _, _, _, _, _, .nil, .nil, hf, h => kat_nil (by rw [hf]; exact h)
 | _, _, _, _, _, .nil, .cons _ _ _, hf, h => kat_nil (by rw [hf]; exact h)
 | _, _, _, _, _, .cons _ _ _, .nil, hf, h => kat_nil (by rw [hf]; exact h)
 | _, _, _, _, i, .cons x t r, .cons y u r', hf, h => by
  have h : C (if x = y then ltL _ _ else decide (ltS x y)) s := h
  refine kat_cons (eqBool_str ?_)
  refine kat_go (fun e => kat_yes (Xn5 (i + 1) r r' ?_ ?_)) (fun e => kat_no ?_)
  ·rw [hf]
   simp
  ·rw [if_pos (by simpa using e)] at h
   exact h
  ·have e : ¬ x = y := by simpa using e
   rw [if_neg e] at h
   cases (b && i == 0) with
   | true => exact oneLt_str h
   | false => exact kat_one _ _ (PyProof.Rows.lt_str h)
def TupO (h : Heap) (v : Value) (ss : List Str) : Prop := ∃ a o xs n, v = .ref a /\ h.get? a = some o /\ o.cls = .type "tuple" /\ o.data = .seq xs n /\ StrsAre xs.toList ss
theorem tupO_lt {b : Bool} {x y : Value} {as bs : List Str} {C : Bool -> Shared -> Prop} (hx : TupO s.heap x as) (hy : TupO s.heap y bs) (h : C (ltL as bs) s) : wpAny (model prog w) A (keyLt' (tuples' b) x y) C E s := by
 obtain ⟨a, o, xs, n, rfl, h1, _, h2, h3⟩ := hx
 obtain ⟨b, o', ys, n', rfl, g1, _, g2, g3⟩ := hy
 refine kat_lt h1 h2 g1 g2 (Xn5 0 h3 g3 ?_ h)
 have e1 := h3.length
 have e2 := g3.length
 rw [Array.length_toList] at e1 e2
 rw [e1, e2]
theorem TupO.toS {h : Heap} {v : Value} {ss : List Str} (t : TupO h v ss) (n : ss ≠ []) : TupS h v := by
 obtain ⟨a, o, xs, k, e, h1, h2, h3, h4⟩ := t
 exact ⟨a, o, xs, k, ss, e, h1, h2, h3, h4, n⟩
theorem TupO.kept {h h' : Heap} {v : Value} {ss : List Str} (t : TupO h v ss) (k : ∀ b o, o.cls = .type "tuple" -> h.get? b = some o -> h'.get? b = some o) : TupO h' v ss := by
 obtain ⟨a, o, xs, n, e, h1, h2, h3, h4⟩ := t
 exact ⟨a, o, xs, n, e, k a o h2 h1, h2, h3, h4⟩
def TupsO (h : Heap) (vs : List Value) (Ts : List (List Str)) : Prop := vs.length = Ts.length /\ ∀ i, i < vs.length -> TupO h (vs.getD i .none) (Ts.getD i [])
theorem Xlu {a : Addr} {vs : List Value} {Ts : List (List Str)} {n : Nat} {P : PySem.Fin -> Shared -> Prop} (ho : s.heap.get? a = some (seqObj "list" vs.toArray n)) (hv : TupsO s.heap vs Ts) (hne : [] ∉ Ts) (nd : Ts.Nodup) (h64 : vs.length < 64)
  (h : ∀ p : Array Nat, Gd vs.length p -> SoTo (fun i j => ltL (Ts.getD i []) (Ts.getD j [])) p vs.length -> P (.done (.ret .none)) { s with heap := sortedHeap s.heap a vs (p.toList.map fun i => vs.getD i Value.none).toArray }) :
  wpAny (model prog w) A (Builtin.«list.sort» ⟨[.ref a], []⟩) P E s := by
 rw [list_sort_plain]
 have ha : a < s.heap.objs.size := Heap.lt_size ho
 have L := lin_of nd
 rw [<- hv.1] at L
 have mem : ∀ i, i < vs.length -> Ts.getD i [] ∈ Ts := fun i hi => by
  have hi' : i < Ts.length := by rw [<- hv.1]; exact hi
  have : Ts.getD i [] = Ts[i] := by simp [List.getD, hi']
  rw [this]; exact List.getElem_mem hi'
 refine wpAny_bind (listItems_at ho rfl ?_)
 refine wpAny_bind (listUpdate_at ho rfl ?_)
 obtain ⟨e1, ho1⟩ : ∃ e1, (s.heap.update a (Obj.mapSeq fun _ => #[])).get? a = some (seqObj "list" #[] e1) := ⟨_, get?_update_seq ho (fun _ => #[])⟩
 refine wpAny_bind (seqEpoch_at ho1 rfl ?_)
 refine wpAny_bind (wpAny_newTuple ?_)
 refine wpAny_bind (wpAny_newList ?_)
 refine wpAny_holding ?_
 have ho6 : (((s.heap.update a (Obj.mapSeq fun _ => #[])).push (seqObj "tuple" vs.toArray 0)).push (seqObj "list" #[] 0)).get? a = some (seqObj "list" #[] e1) := by
  rw [Heap.get?_push_ne _ _ _ (by rw [size_push', Heap.size_update]; exact Nat.ne_of_lt (Nat.lt_succ_of_lt ha)), Heap.get?_push_ne _ _ _ (by rw [Heap.size_update]; exact Nat.ne_of_lt ha)]
  exact ho1
 have hk6 : ∀ b o, o.cls = .type "tuple" -> s.heap.get? b = some o -> (((s.heap.update a (Obj.mapSeq fun _ => #[])).push (seqObj "tuple" vs.toArray 0)).push (seqObj "list" #[] 0)).get? b = some o := fun b o g2 g1 => by
  have hne : b ≠ a := fun e => by
   rw [e, ho] at g1
   have e1 := Option.some.inj g1
   rw [<- e1] at g2
   exact absurd (show Value.type "list" = Value.type "tuple" from g2) (by decide)
  exact Heap.get?_push_of_some _ (Heap.get?_push_of_some _ (by rw [Heap.get?_update_ne _ _ _ _ hne]; exact g1))
 have hv6 : ∀ i, i < vs.length -> TupO (((s.heap.update a (Obj.mapSeq fun _ => #[])).push (seqObj "tuple" vs.toArray 0)).push (seqObj "list" #[] 0)) (vs.getD i .none) (Ts.getD i []) := fun i hi => (hv.2 i hi).kept hk6
 show wpAny (model prog w) A _ P E { s with heap := ((s.heap.update a (Obj.mapSeq fun _ => #[])).push (seqObj "tuple" vs.toArray 0)).push (seqObj "list" #[] 0) }
 dsimp only
 have hsz : vs.toArray.size = vs.length := by simp
 by_cases h2 : vs.toArray.size < 2
 ·rw [if_pos h2, if_pos h2]
  refine wpAny_bind (wpAny_pure ?_)
  rw [StateT.run_pure]
  refine wpAny_bind (wpAny_pure ?_)
  dsimp only
  refine wpAny_bind (seqEpoch_at ho6 rfl ?_)
  refine wpAny_bind (listUpdate_at ho6 rfl ?_ (hsz2 := by rw [Array.size_map]; show (pairsOf vs).size <= _; rw [pairsOf_size, sizeLine_eq]; omega))
  simp only [bne_self_eq_false, Bool.false_eq_true, if_false]
  have q := h (List.toArray (List.range vs.length)) (Array.Perm.refl _) (fun i j hij hj => by omega)
  refine wpAny_pure ?_
  have e : (arrOf (SortSt.mk' general' (vs.toArray.zip vs.toArray) #[] 7 none)).map (·.2) = (((List.range vs.length).toArray).toList.map fun i => vs.getD i Value.none).toArray := by
   show ((vs.toArray.zip vs.toArray).map (·.2)) = _
   apply Array.toList_inj.mp
   simp only [Array.toList_map, List.zip_toArray]
   rw [List.map_snd_zip (Nat.le_refl _)]
   refine List.ext_getElem (by simp) fun i h1 h2 => ?_
   simp [List.getD, h1]
  rw [e]
  exact q
 ·rw [if_neg h2, if_neg h2]
  obtain ⟨fs, t1, t2, t3⟩ := Xgb (s := { s with heap := ((s.heap.update a (Obj.mapSeq fun _ => #[])).push (seqObj "tuple" vs.toArray 0)).push (seqObj "list" #[] 0) }) (vs := vs) fun v hm => by
   obtain ⟨i, hi, rfl⟩ := List.mem_iff_getElem.mp hm
   have e : vs.getD i .none = vs[i] := by simp [List.getD, hi]
   have := hv6 i hi
   rw [e] at this
   exact TupO.toS this fun z => hne (z ▸ mem i hi)
  refine wpAny_bind (kat_kind (T := .type "str") t1 (by omega) (fun v hm => ?_) (by decide) ?_)
  ·obtain ⟨x, t, rfl⟩ := t3 v hm
   exact .now
  have eb : ((Value.type "str") != Value.type "tuple") = true := by decide
  rw [eb]
  refine wpAny_bind (wpAny_mono (kat_run (κ := tuples' true) (ks := vs) (vs := vs) (Q := fun st' s' => s' = { s with heap := ((s.heap.update a (Obj.mapSeq fun _ => #[])).push (seqObj "tuple" vs.toArray 0)).push (seqObj "list" #[] 0) } /\ failedOf st' = none /\ ∃ p, Gd vs.length p /\ SoTo (fun i j => ltL (Ts.getD i []) (Ts.getD j [])) p vs.length /\ (arrOf st').map (·.2) = (p.toList.map fun i => vs.getD i Value.none).toArray)
   (G := fun p s' => s' = { s with heap := ((s.heap.update a (Obj.mapSeq fun _ => #[])).push (seqObj "tuple" vs.toArray 0)).push (seqObj "list" #[] 0) } /\ Gd vs.length p /\ SoTo (fun i j => ltL (Ts.getD i []) (Ts.getD j [])) p vs.length) rfl (by omega) h64 (fun p st' s' a1 a2 a3 a4 => ⟨a4.1, a3, p, a4.2.1, a4.2.2, kat_snds rfl a2⟩) ?_) ?_ fun _ _ e => e)
  ·refine Xj0 (n := vs.length) (lt := fun i j => ltL (Ts.getD i []) (Ts.getD j [])) (fun i j C hi hj hC => ?_) (Xe6 (n := vs.length) (by omega)) ⟨rfl, (Xe6 (n := vs.length) (by omega)).run, Xkx L (by omega)⟩
   show wpAny _ _ (keyLt' (tuples' true) (vs.getD i Value.none) (vs.getD j Value.none)) C _ _
   exact tupO_lt (hv6 i hi) (hv6 j hj) hC
  rintro ⟨⟨⟩, st'⟩ s' ⟨rfl, hf, p, hp, so, ea⟩
  dsimp only
  refine wpAny_bind (seqEpoch_at ho6 rfl ?_)
  have hps := hp.size
  refine wpAny_bind (listUpdate_at ho6 rfl ?_ (hsz2 := by
   rw [ea, List.size_toArray, List.length_map, Array.length_toList, hps, sizeLine_eq]; omega))
  rw [hf]
  simp only [bne_self_eq_false, Bool.false_eq_true, if_false]
  rw [ea]
  exact wpAny_pure (h p hp so)
theorem sortedO {l : Addr} {vs : List Value} {Ts : List (List Str)} {Q : Value -> Shared -> Prop} (hl : s.heap.IsList l vs.toArray) (hv : TupsO s.heap vs Ts) (hne : [] ∉ Ts) (nd : Ts.Nodup) (h64 : vs.length < 64)
  (h : ∀ p : Array Nat, Gd vs.length p -> SoTo (fun i j => ltL (Ts.getD i []) (Ts.getD j [])) p vs.length -> Q (.ref (s.heap.objs.size + 1)) { s with heap := sortedAll s.heap vs (p.toList.map fun i => vs.getD i Value.none).toArray }) :
  wpAny (model prog w) A (call (.builtin "sorted") [.ref l]) Q E s := by
 refine Calls.call_function_entry kind_sorted plain_sorted entry_sorted (args_sorted1 _) ?_
 unfold Builtin.«sorted»
 refine wpAny_bind (m := checkCount "sorted" 1 1 _) (wpAny_pure ?_)
 refine wpAny_bind (collect_list hl ?_)
 refine wpAny_bind (wpAny_newList ?_)
 have hsz : ((s.heap.push (seqObj "list" #[] 0)).update s.heap.objs.size (Obj.mapSeq (· ++ vs.toArray))).objs.size = s.heap.objs.size + 1 := by
  rw [Heap.size_update, size_push']
 have hoL : (((s.heap.push (seqObj "list" #[] 0)).update s.heap.objs.size (Obj.mapSeq (· ++ vs.toArray))).push (seqObj "list" vs.toArray 0)).get? (s.heap.objs.size + 1) = some (seqObj "list" vs.toArray 0) := by
  rw [<- hsz]; exact Heap.get?_push_size _ rfl
 have keep : ∀ b o, s.heap.get? b = some o -> (((s.heap.push (seqObj "list" #[] 0)).update s.heap.objs.size (Obj.mapSeq (· ++ vs.toArray))).push (seqObj "list" vs.toArray 0)).get? b = some o := fun b o q => by
  have hlt : b < s.heap.objs.size := Heap.lt_size q
  rw [Heap.get?_push_ne _ _ _ (by rw [hsz]; exact Nat.ne_of_lt (Nat.lt_succ_of_lt hlt)), Heap.get?_update_ne _ _ _ _ (Nat.ne_of_lt hlt), Heap.get?_push_ne _ _ _ (Nat.ne_of_lt hlt)]
  exact q
 show wpAny _ _ _ _ _ { s with heap := ((s.heap.push (seqObj "list" #[] 0)).update s.heap.objs.size (Obj.mapSeq (· ++ vs.toArray))).push (seqObj "list" vs.toArray 0) }
 rw [hsz]
 refine wpAny_bind (wpAny_holding (wpAny_call_entry slot_list_sort ⟨_, hoL, rfl⟩ entry_list_sort (Xlu hoL ⟨hv.1, fun i hi => (hv.2 i hi).kept fun b o _ => keep b o⟩ hne nd h64 fun p a1 a2 => ⟨_, rfl, ?_⟩) (args_list_sort _)))
 exact wpAny_pure ⟨_, rfl, h p a1 a2⟩
end
section
variable {X : Cx}
theorem Xip : Xdg X (.builtin "sorted") (fun xs H Q => ∃ (a : Addr) (ps : List Addr) (Ts : List (List Str)), xs = [.ref a] /\ H a = some (.lst (ps.map V.ref)) /\ Tups H ps Ts /\ [] ∉ Ts /\ Ts.Nodup /\ ps.length < 64 /\
  ∀ (l : Addr) (ps' : List Addr) (Ts' : List (List Str)), H l = none -> Tups H ps' Ts' -> Ts'.Perm Ts -> (Ts'.Pairwise fun a b => ltL a b = true) -> Q (.ref l) (upd H l (.lst (ps'.map V.ref)))) := by
 intro pins s σ H xs us Q I r h
 obtain ⟨a, ps, Ts, rfl, ha, ht, hne, nd, h64, q⟩ := h
 obtain ⟨u, rfl, rx⟩ := vals1 r
 cases rx
 obtain ⟨its, rv, pl, hz⟩ := I.list (SqL.of ha)
 have hits : its = ps.map Value.ref := by
  clear ht h64 q hz pl ha
  induction ps generalizing its with
  | nil => cases rv; rfl
  | cons p t ih =>
   cases rv with
   | cons r t' => cases r; rw [ih _ t']; rfl
 subst hits
 have hget : ∀ i, i < ps.length -> (ps.map Value.ref).getD i .none = .ref (ps.getD i 0) := fun i hi => by simp [List.getD, hi]
 refine sortedO pl.isList (Ts := Ts) ⟨by rw [List.length_map]; exact ht.1, fun i hi => ?_⟩ hne nd (by rw [List.length_map]; exact h64) fun p h1 h2 => ?_
 ·rw [List.length_map] at hi
  obtain ⟨its2, r2, p2, _⟩ := I.tuple (SqT.of (K := X.K) (ht.2 i hi))
  obtain ⟨o, ho, hc, n, hd⟩ := id p2
  exact ⟨ps.getD i 0, o, its2.toArray, n, hget i hi, ho, hc, hd, by simpa using Xcy r2⟩
 ·rw [List.length_map] at h1 h2
  obtain ⟨e, he⟩ := sortedAll_at s.heap (ps.map Value.ref) (p.toList.map fun i => (ps.map Value.ref).getD i Value.none).toArray
  have hf : H (s.heap.objs.size + 1) = none := I.hok.fresh (Nat.le_succ _)
  have hps := h1.size
  have lt : ∀ i ∈ p.toList, i < ps.length := fun i hi => by
   have q : p.toList.Perm (List.range ps.length) := by
    have := h1.toList
    simpa using this
   simpa using q.mem_iff.mp hi
  have eo : (p.toList.map fun i => (ps.map Value.ref).getD i Value.none) = (p.toList.map fun i => ps.getD i 0).map Value.ref := by
   rw [List.map_map]
   exact List.map_congr_left fun i hi => hget i (lt i hi)
  have hst := Xlt (Ts := Ts) (by rw [<- ht.1]; exact h1) (by rw [<- ht.1]; exact h2)
  refine ⟨.ref (s.heap.objs.size + 1), _, I.laid (t' := s.toks) (h' := sortedAll s.heap (ps.map Value.ref) _) (o := .lst ((p.toList.map fun i => ps.getD i 0).map V.ref)) (fun b ob q => sortedAll_old q) (Nat.le_succ _) ?_, rfl, q _ _ (p.toList.map fun i => Ts.getD i []) hf ⟨by simp, fun i hi => ?_⟩ hst.1 hst.2⟩
  ·refine ⟨by rw [List.length_map, List.length_map, Array.length_toList, hps, sizeLine_eq]; omega, _, e, ?_, he⟩
   show Vals ((p.toList.map fun i => ps.getD i 0).map V.ref) (p.toList.map fun i => (ps.map Value.ref).getD i Value.none)
   rw [eo]
   generalize (p.toList.map fun i => ps.getD i 0) = z
   induction z with
   | nil => exact .nil
   | cons p t ih => exact .cons rfl ih
  ·rw [List.length_map] at hi
   have g1 : (p.toList.map fun i => ps.getD i 0).getD i 0 = ps.getD (p.toList[i]) 0 := by rw [List.getD_eq_getElem?_getD, List.getElem?_map, List.getElem?_eq_getElem hi]; rfl
   have g2 : (p.toList.map fun i => Ts.getD i []).getD i [] = Ts.getD (p.toList[i]) [] := by rw [List.getD_eq_getElem?_getD, List.getElem?_map, List.getElem?_eq_getElem hi]; rfl
   rw [g1, g2]
   exact ht.2 _ (lt _ (List.getElem_mem hi))
end
theorem ltL_cc (x y : Str) (xs ys : List Str) : ltL (x :: xs) (y :: ys) = if x = y then ltL xs ys else decide (ltS x y) := rfl
theorem ltL_nn : ltL [] [] = false := rfl
theorem ltL_nc (y : Str) (ys : List Str) : ltL [] (y :: ys) = true := rfl
theorem ltL_cn (x : Str) (xs : List Str) : ltL (x :: xs) [] = false := rfl
theorem eqAt_txt (A : Around) (s : Shared) (a : Str) (t : Tok) (c : Str) (u : Tok) : ∃ e, SeqAt.EqAt A s (.str a t) (.str c u) e /\ (e = true ↔ a = c) :=
 ⟨(a == c), SeqAt.EqAt.str_str a t c u, by simp⟩
theorem rcLt_txt (A : Around) (s : Shared) (a : Str) (t : Tok) (c : Str) (u : Tok) (prog : Program) (w : World) (E : Value -> Shared -> Prop) (Q : Value -> Shared -> Prop) (h : Q (.bool (decide (ltS a c))) s) :
  wpAny (model prog w) A (richCompare .Lt (.str a t) (.str c u)) Q E s :=
 (PyProof.Rows.lt_str h : wpAny (model prog w) A (compareOp .Lt (.str a t) (.str c u)) Q E s)
section
open PySem.SeqAt
open PySem.AutoSeq1 (wpAny_loadPart')
open PySem.MeetsSeq PySem.MeetsSeq2 PySem.MeetsSeq3
theorem Xf5 (l b : Addr) (items items2 : Array Value) (n n2 : Nat) (dd dd2 : Option Addr) (sl sl2 : Array (Option Value)) (ns ms : List Str) (hi : StrsAre items.toList ns) (hj : StrsAre items2.toList ms) :
  Meets (Builtin.«tuple.__lt__» ⟨[.ref l, .ref b], []⟩)
   (fun _ R s => s.heap.get? l = some { cls := .type "tuple", dict := dd, data := .seq items n, slots := sl } /\ s.heap.get? b = some { cls := .type "tuple", dict := dd2, data := .seq items2 n2, slots := sl2 } /\
    R (.ok (.ret (.bool (ltL ns ms)))) s) :=
 .of_wp fun prog w A R s h => by
  obtain ⟨hp, g, d, tk, os⟩ := s; obtain ⟨hl, hb, h⟩ := h
  have f2 := AutoSeq1.sub_tuple_tuple
  have z1 : items.size = ns.length := by rw [<- hi.length]; simp
  have z2 : items2.size = ms.length := by rw [<- hj.length]; simp
  wp_walk using wpAny_loadPart' hl, wpAny_loadPart' hb, wpAny_forIn_list _ (fun rest b s' => b.1 = none /\ s' = ⟨hp, g, d, tk, os⟩ /\ ∃ (vs ws : List Value) (ns' ms' : List Str), rest = vs.zip ws /\
   StrsAre vs ns' /\ StrsAre ws ms' /\ ns'.length + items2.size = ms'.length + items.size /\ R (.ok (.ret (.bool (ltL ns' ms')))) ⟨hp, g, d, tk, os⟩) _
  case turn =>
   rintro ⟨y, x⟩ rest b s' ⟨hb', rfl, vs, ws, ns', ms', hz, hvi, hwi, hlen, hR⟩
   cases hvi with
   | nil => rw [List.zip_nil_left] at hz; cases hz
   | cons a t hvi' =>
    cases hwi with
    | nil => rw [List.zip_nil_right] at hz; cases hz
    | cons c u hwi' =>
     rw [List.zip_cons_cons] at hz
     injection hz with hyx hrest
     injection hyx with hy hx
     subst hy hx
     rw [ltL_cc] at hR
     simp only [List.length_cons] at hlen
     obtain ⟨e, he, hiff⟩ := eqAt_txt A.in1 ⟨hp, g, d, tk, os⟩ a t c u
     refine wpAny_bind (he prog w _ _ ?_)
     cases e with
     | true =>
      rw [if_pos (hiff.mp rfl)] at hR
      wp_walk
      exact ⟨rfl, rfl, _, _, _, _, hrest, hvi', hwi', by omega, hR⟩
     | false =>
      rw [if_neg (fun q => absurd (hiff.mpr q) Bool.false_ne_true)] at hR
      have hri := rcLt_txt A.in1 ⟨hp, g, d, tk, os⟩ a t c u prog w
      wp_walk using hri
      exact ⟨_, rfl, by simpa using hR⟩
  case fin =>
   rintro ⟨b1, b2⟩ s' ⟨hb', rfl, vs, ws, ns', ms', hz, hvi, hwi, hlen, hR⟩
   simp only at hb'
   subst hb'
   have hv : ltL ns' ms' = decide (items.size < items2.size) := by
    cases hvi with
    | nil =>
     cases hwi with
     | nil =>
      simp only [List.length_nil] at hlen
      rw [ltL_nn]
      exact (decide_eq_false (by omega)).symm
     | cons c u hw =>
      simp only [List.length_nil, List.length_cons] at hlen
      rw [ltL_nc]
      exact (decide_eq_true (by omega)).symm
    | cons a t hv =>
     cases hwi with
     | nil =>
      simp only [List.length_nil, List.length_cons] at hlen
      rw [ltL_cn]
      exact (decide_eq_false (by omega)).symm
     | cons c u hw =>
      rw [List.zip_cons_cons] at hz
      cases hz
   rw [hv] at hR
   wp_walk
   exact ⟨_, rfl, by simpa [Builtin.Tuple.tupleCompareSizes] using hR⟩
  case h =>
   exact ⟨rfl, rfl, items.toList, items2.toList, ns, ms, rfl, hi, hj, by omega, h⟩
end
open PySem.W (KasT kas_sort kas_ask kas_item kat_run kat_snds kat_kind kat_lt KatLex kat_cons kat_go kat_yes kat_no kat_one kat_nil KatTups)
section
variable {prog : Program} {w : World} {A : Around} {E : Value -> Shared -> Prop} {s : Shared}
theorem Xj3 {l b : Addr} {items items2 : Array Value} {ns ms : List Str} {Q : Value -> Shared -> Prop} (hl : IsTup s.heap l items) (hb : IsTup s.heap b items2) (hi : StrsAre items.toList ns) (hj : StrsAre items2.toList ms)
  (hu : A.units < cLine) (h : Q (.bool (ltL ns ms)) s) : wpAny (model prog w) A (compareOp .Lt (.ref l) (.ref b)) Q E s := by
 obtain ⟨⟨cls, dd, data, sl⟩, ho, hc, n, hd⟩ := id hl
 obtain ⟨⟨cls2, dd2, data2, sl2⟩, ho2, hc2, n2, hd2⟩ := id hb
 simp only at hc hd hc2 hd2
 subst hc hd hc2 hd2
 exact richCompare_meets_room (op := .Lt) ⟨_, ho, rfl⟩ ⟨_, ho2, rfl⟩ PySem.F.slot_tuple_lt PySem.F.entry_tuple_lt (PySem.F.args_tuple_lt_2 _ _) (Xf5 l b items items2 n n2 dd dd2 sl sl2 ns ms hi hj)
  ⟨ho, ho2, show Value.bool (ltL ns ms) ≠ Value.notImplemented /\ Q (.bool (ltL ns ms)) s from ⟨(fun x => nomatch x), h⟩⟩ hu
def ltNL (n : Nat) (a : List Str) (m : Nat) (b : List Str) : Bool := if n = m then ltL a b else decide (n < m)
theorem itemsK {vs : List Value} {ss : List Str} (h : StrsAre vs ss) : ItemsAre (Xar prog w) (ss.map Sum.inr) vs := by
 induction h with
 | nil => exact .nil
 | cons x t r ih => exact .cons (show Xgh (.inr x) (.str x t) = true by simp [Xgh, Value.isStrOf]) ih
def Xn6 (h : Heap) (v : Value) (n : Nat) (ss : List Str) : Prop := ∃ a o xs k t u, v = .ref a /\ h.get? a = some o /\ o.cls = .type "tuple" /\ o.data = .seq xs k /\ xs.toList = [.int n t, u] /\ TupO h u ss
theorem pair_lt {x y : Value} {n m : Nat} {as bs : List Str} {C : Bool -> Shared -> Prop} (hu : A.units < cLine) (hx : Xn6 s.heap x n as) (hy : Xn6 s.heap y m bs) (h : C (ltNL n as m bs) s) : wpAny (model prog w) A (keyLt' (tuples' true) x y) C E s := by
 obtain ⟨a, o, xs, k, t, u, rfl, h1, h2, h3, h4, h5⟩ := hx
 obtain ⟨b, o', ys, k', t', u', rfl, g1, g2, g3, g4, g5⟩ := hy
 refine kat_lt h1 h3 g1 g3 ?_
 rw [h4, g4]
 have ef : decide (xs.size < ys.size) = false := by
  have e1 : xs.size = 2 := by rw [<- Array.length_toList, h4]; rfl
  have e2 : ys.size = 2 := by rw [<- Array.length_toList, g4]; rfl
  rw [e1, e2]; decide
 rw [ef]
 show KatLex prog w A true false C [(.int n t, .int m t'), (u, u')] 0 s
 unfold ltNL at h
 refine kat_cons (wpAny_eqBool_int ?_)
 refine kat_go (fun e => kat_yes ?_) (fun e => kat_no ?_)
 ·have e : n = m := by have := of_decide_eq_true e; omega
  rw [if_pos e] at h
  obtain ⟨c, oc, cs, kc, rfl, c1, c2, c3, c4⟩ := h5
  obtain ⟨d, od, ds, kd, rfl, d1, d2, d3, d4⟩ := g5
  refine kat_cons (wpAny_eqBool_tuple (knd := Xar prog w) hu ⟨oc, cs, kc, c1, c2, c3, itemsK c4⟩ ⟨od, ds, kd, d1, d2, d3, itemsK d4⟩ ?_)
  refine kat_go (fun e2 => kat_yes (kat_nil ?_)) (fun e2 => kat_no ?_)
  ·have e2 : as = bs := by
    have := of_decide_eq_true e2
    exact List.map_inj_right (fun _ _ q => Sum.inr.inj q) |>.mp this
   rw [e2, Xfz] at h
   exact h
  ·exact kat_one _ _ (Xj3 ⟨oc, c1, c2, kc, c3⟩ ⟨od, d1, d2, kd, d3⟩ c4 d4 hu h)
 ·have e : ¬ n = m := fun z => by
   have := of_decide_eq_false e
   omega
  rw [if_neg e] at h
  refine oneLt_int ?_
  have : decide ((n : Int) < (m : Int)) = decide (n < m) := by simp
  rw [this]
  exact h
end
open PySem.W (KasT kas_sort kas_ask kas_item kat_run kat_snds kat_kind KatTups)
section
variable {X : Cx} {pins : List (Addr × Obj)} {σ : List (Option V)} {H : Hp} {s : Shared}
theorem Inv.unpin {p : Addr × Obj} (I : Inv X (p :: pins) σ H s) : Inv X pins σ H s :=
 I.pins_of fun q hq => I.pin q (List.mem_append_right _ (List.mem_cons_of_mem _ hq))
theorem Xn7 {D : Addr} {e1 : Nat} {ys : List V} {out : List Value} (I : Inv X ((D, seqObj "list" #[] e1) :: pins) σ H s) (hD : X.s₀.heap.objs.size <= D) (hnp : ∀ p ∈ X.pn ++ pins, p.1 ≠ D) (hv : Vals ys out) (hz : ys.length <= sizeLine) :
  Inv X pins σ (upd H D (.lst ys)) { s with heap := s.heap.update D (Obj.mapSeq fun _ => out.toArray) } := by
 obtain ⟨hg, hn, hl, hf, _⟩ := I.pin (D, seqObj "list" #[] e1) (List.mem_append_right _ List.mem_cons_self)
 have J := I.unpin
 have sb := Heap.SameBut.update s.heap D (Obj.mapSeq fun _ => out.toArray)
 obtain ⟨c2, hc2⟩ : ∃ c2, (s.heap.update D (Obj.mapSeq fun _ => out.toArray)).get? D = some (seqObj "list" out.toArray c2) := ⟨_, get?_update_seq hg fun _ => out.toArray⟩
 have kp : ∀ b o, b ≠ D -> s.heap.get? b = some o -> (s.heap.update D (Obj.mapSeq fun _ => out.toArray)).get? b = some o := fun b o n e => (sb.2 b n).trans e
 have nD : ∀ b u, H b = some u -> b ≠ D := fun b u e z => by rw [z, hn] at e; cases e
 have up : ∀ b u, H b = some u -> (upd H D (.lst ys)) b = some u := fun b u e => by rw [Xae (nD b u e)]; exact e
 refine J.step (g' := s.gens) (d' := s.drawn) (t' := s.toks) (ch := [D]) (fun b hb => ?_) (fun b o _ _ hc e _ => kp b o (fun z => hc (by rw [z]; exact List.mem_singleton_self _)) e) (fun b o _ _ hc e _ => ⟨o.slots, kp b o (fun z => hc (by rw [z]; exact List.mem_singleton_self _)) e⟩)
  (fun b o hc e n => ?_) (fun b o hc e => ⟨o, kp b o (fun z => hc (by rw [z]; exact List.mem_singleton_self _)) e⟩) (fun b xs e => up b _ e) (fun b o u e => up b _ e) (fun b pz e => ⟨#[], by rw [up b _ e]; simp⟩) (fun m hm => hm.sameBut sb (Ne.symm hl)) ?_ J.bare
 ·rw [List.mem_singleton.mp hb]
  refine ⟨.inr hD, hl, fun x c e z => ?_, fun p hp => hnp p hp⟩
  obtain ⟨v, o, ho, hd⟩ := J.cell x c e
  rw [z, hg] at ho
  cases ho
  cases hd
 ·rw [Xae (fun z => hc (by rw [z]; exact List.mem_singleton_self _))]
  exact n
 ·intro b u e
  by_cases z : b = D
  ·subst z
   rw [Xaa] at e
   cases e
   exact ⟨hz, out, c2, hv, hc2⟩
  ·rw [Xae z] at e
   refine (J.hok b u e).stay (fun d v hd g => kp d v ?_ g) (fun d g => up d _ g) fun d xs g => up d _ g
   rcases hd with rfl | hd
   ·exact z
   ·exact nD d _ hd
end
abbrev SM := StateT SortSt Sem
def galV : Bool -> Keyed -> Array Keyed -> Nat -> Nat -> Nat -> SM (Option Nat) := sortPriv% PySem.Builtin.gallop
def bey (l : Bool) (k : Keyed) (c : Array Keyed) (i : Nat) : SM (Option Bool) := do
 let x <- elem' c i
 if l then lt' x k else
  let r <- lt' k x
  return r.map (!·)
def galE (l : Bool) (k : Keyed) (c : Array Keyed) (b n u0 v0 : Nat) : SM (Option Nat) := do
 let mut u := u0
 let mut v := v0
 for _ in [0:n] do
  if u ≥ v then break
  let q := u + (v - u) / 2
  let some m <- bey l k c (b + q) | return none
  if m then u := q + 1 else v := q
 return some v
theorem galV_eq (l : Bool) (k : Keyed) (c : Array Keyed) (b n h : Nat) : galV l k c b n h = (do
  let some r <- bey l k c (b + h) | return none
  if r then
   let mut la := 0
   let mut o := 1
   for _ in [0:n] do
    if o ≥ n - h then break
    let some m <- bey l k c (b + (h + o)) | return none
    if !m then break
    la := o
    o := 2 * o + 1
   galE l k c b n (h + la + 1) (h + min o (n - h))
  else
   let mut la := 0
   let mut o := 1
   for _ in [0:n] do
    if o ≥ h + 1 then break
    let some m <- bey l k c (b + (h - o)) | return none
    if m then break
    la := o
    o := 2 * o + 1
   galE l k c b n (h + 1 - min o (h + 1)) (h - la)) := rfl
open PySem.W (kas_item kas_cmp)
structure CmS (prog : Program) (w : World) (A : Around) (s : Shared) (κ : SortKind) (it : Array Keyed) (n : Nat) (lt : Nat -> Nat -> Bool) : Prop where
 L : Lin n lt
 c : ∀ i j (C : Bool -> Shared -> Prop), i < n -> j < n -> C (lt i j) s -> kas_cmp prog w A κ it i j C s
def Fk (it : Array Keyed) (l : List Nat) : Array Keyed := (l.map (kas_item it)).toArray
section
variable {prog : Program} {w : World} {A : Around} {E : Value -> Shared -> Prop} {s : Shared} {κ : SortKind} {it : Array Keyed} {n : Nat} {lt : Nat -> Nat -> Bool}
theorem Xn8 (hc : CmS prog w A s κ it n lt) {x y : Nat} (hx : x < n) (hy : y < n) {st : SortSt} (hk : kindOf st = κ) {Q : Option Bool -> SortSt -> Prop} (h : Q (some (lt x y)) st) : wpS (model prog w) A E s (lt' (kas_item it x) (kas_item it y)) Q st := by
 rw [lt'_eq]
 refine wpS_bind (wpS_get ?_)
 rw [hk]
 refine wpS_bind (wpS_lift (wpAny_attempt (wpAny_mono (hc.c x y (fun b s' => s' = s /\ b = lt x y) hx hy ⟨rfl, rfl⟩) (fun b s' e => ?_) fun _ _ hF => hF.elim)))
 obtain ⟨rfl, rfl⟩ := e
 exact ⟨rfl, wpS_pure h⟩
theorem Xbz {l : List Nat} {i x : Nat} (hi : l[i]? = some x) {st : SortSt} {Q : Keyed -> SortSt -> Prop} (h : Q (kas_item it x) st) : wpS (model prog w) A E s (elem' (Fk it l) i) Q st := by
 rw [elem'_eq]
 have e : (Fk it l)[i]? = some (kas_item it x) := by
  unfold Fk
  rw [List.getElem?_toArray, List.getElem?_map, hi]
  rfl
 rw [e]
 exact wpS_pure h
def beyB (lt : Nat -> Nat -> Bool) (l : Bool) (k x : Nat) : Bool := if l then lt x k else !lt k x
theorem Xgc (hc : CmS prog w A s κ it n lt) {l : List Nat} {left : Bool} {k i x : Nat} (hi : l[i]? = some x) (hx : x < n) (hk : k < n) {st : SortSt} (hks : kindOf st = κ) {Q : Option Bool -> SortSt -> Prop} (h : Q (some (beyB lt left k x)) st) : wpS (model prog w) A E s (bey left (kas_item it k) (Fk it l) i) Q st := by
 unfold bey
 refine wpS_bind (Xbz hi ?_)
 cases left with
 | true =>
  rw [if_pos rfl]
  exact Xn8 hc hx hk hks h
 | false =>
  rw [if_neg (by decide)]
  exact wpS_bind (Xn8 hc hk hx hks (wpS_pure h))
structure Mono (m : Nat) (P : Nat -> Bool) : Prop where
 dn : ∀ i j, i < j -> j < m -> P j = true -> P i = true
theorem Mono.up {m : Nat} {P : Nat -> Bool} (M : Mono m P) {i j : Nat} (h : i <= j) (hj : j < m) (e : P i = false) : P j = false := by
 by_cases z : i = j
 ·rw [<- z]; exact e
 ·cases q : P j with
  | false => rfl
  | true => rw [M.dn i j (by omega) hj q] at e; cases e
theorem Xgd {left : Bool} {key : Keyed} {arr : Array Keyed} {b m h : Nat} {P : Nat -> Bool} {st : SortSt} (M : Mono m P) (hh : h < m)
  (ask : ∀ i, i < m -> ∀ Q : Option Bool -> SortSt -> Prop, Q (some (P i)) st -> wpS (model prog w) A E s (bey left key arr (b + i)) Q st)
  {Q : Option Nat -> SortSt -> Prop} (hq : ∀ r, r <= m -> (∀ i, i < r -> P i = true) -> (∀ i, r <= i -> i < m -> P i = false) -> Q (some r) st) : wpS (model prog w) A E s (galV left key arr b m h) Q st := by
 rw [galV_eq]
 have last : ∀ (u v : Nat), u <= v -> v <= m -> (∀ i, i < u -> P i = true) -> (∀ i, v <= i -> i < m -> P i = false) ->
   wpS (model prog w) A E s (galE left key arr b m u v) Q st := by
  intro u v huv hv hu hvv
  unfold galE
  refine wpS_bind (wpS_mono (wpS_forRange (I := fun x c st' => st' = st /\ ∃ u v, c = (none, u, v) /\ u <= v /\ v <= m /\ v - u <= m - x /\ (∀ i, i < u -> P i = true) /\ (∀ i, v <= i -> i < m -> P i = false)) (Q := fun c st' => st' = st /\ ∃ u, c = (none, u, u) /\ u <= m /\ (∀ i, i < u -> P i = true) /\ (∀ i, u <= i -> i < m -> P i = false)) ?step ?fin ⟨rfl, u, v, rfl, huv, hv, by omega, hu, hvv⟩) ?post)
  case fin =>
   rintro c st' ⟨rfl, u, v, rfl, h1, h2, h3, h4, h5⟩
   have : u = v := by omega
   subst this
   exact ⟨rfl, u, rfl, h2, h4, h5⟩
  case step =>
   rintro x c st' _ hx ⟨rfl, u, v, rfl, h1, h2, h3, h4, h5⟩
   dsimp only
   by_cases e : u ≥ v
   ·rw [if_pos e]
    have : u = v := by omega
    subst this
    exact wpS_pure ⟨rfl, u, rfl, h2, h4, h5⟩
   ·rw [if_neg e]
    refine wpS_bind (ask _ (by omega) _ ?_)
    dsimp only
    cases q : P (u + (v - u) / 2) with
    | true =>
     rw [if_pos rfl]
     refine wpS_pure ⟨rfl, _, v, rfl, by omega, h2, by omega, fun i hi => ?_, h5⟩
     by_cases z : i = u + (v - u) / 2
     ·rw [z]; exact q
     ·exact M.dn i _ (by omega) (by omega) q
    | false =>
     rw [if_neg (by decide)]
     refine wpS_pure ⟨rfl, u, _, rfl, by omega, by omega, by omega, h4, fun i hi hm => M.up hi hm q⟩
  case post =>
   rintro c st' ⟨rfl, u, rfl, h2, h4, h5⟩
   exact wpS_pure (hq u h2 h4 h5)
 refine wpS_bind (ask h hh _ ?_)
 dsimp only
 cases q : P h with
 | true =>
  rw [if_pos rfl]
  refine wpS_bind (wpS_mono (wpS_forRange (I := fun x c st' => st' = st /\ ∃ la o, c = (none, la, o) /\ P (h + la) = true /\ h + la < m /\ la < o /\ x + 1 <= o) (Q := fun c st' => st' = st /\ ∃ la o, c = (none, la, o) /\ P (h + la) = true /\ h + la < m /\ la < o /\ (h + min o (m - h) < m -> P (h + min o (m - h)) = false)) ?step ?fin ⟨rfl, 0, 1, rfl, q, hh, by omega, by omega⟩) ?post)
  case fin =>
   rintro c st' ⟨rfl, la, o, rfl, h1, h2, h3, h4⟩
   exact ⟨rfl, la, o, rfl, h1, h2, h3, fun z => by omega⟩
  case step =>
   rintro x c st' _ hx ⟨rfl, la, o, rfl, h1, h2, h3, h4⟩
   dsimp only
   by_cases e : o ≥ m - h
   ·rw [if_pos e]
    exact wpS_pure ⟨rfl, la, o, rfl, h1, h2, h3, fun z => by omega⟩
   ·rw [if_neg e]
    refine wpS_bind (ask _ (by omega) _ ?_)
    dsimp only
    cases q2 : P (h + o) with
    | true => exact wpS_pure ⟨rfl, o, 2 * o + 1, rfl, q2, by omega, by omega, by omega⟩
    | false => exact wpS_pure ⟨rfl, la, o, rfl, h1, h2, h3, fun z => by rw [show min o (m - h) = o by omega]; exact q2⟩
  case post =>
   rintro c st' ⟨rfl, la, o, rfl, h1, h2, h3, h4⟩
   dsimp only
   refine last (h + la + 1) (h + min o (m - h)) (by omega) (by omega) (fun i hi => ?_) (fun i hi hm => M.up hi hm (h4 (by omega)))
   by_cases z : i = h + la
   ·rw [z]; exact h1
   ·exact M.dn i _ (by omega) h2 h1
 | false =>
  rw [if_neg (by decide)]
  refine wpS_bind (wpS_mono (wpS_forRange (I := fun x c st' => st' = st /\ ∃ la o, c = (none, la, o) /\ P (h - la) = false /\ la <= h /\ la < o /\ x + 1 <= o) (Q := fun c st' => st' = st /\ ∃ la o, c = (none, la, o) /\ P (h - la) = false /\ la <= h /\ la < o /\ (o < h + 1 -> P (h - o) = true)) ?step ?fin ⟨rfl, 0, 1, rfl, q, by omega, by omega, by omega⟩) ?post)
  case fin =>
   rintro c st' ⟨rfl, la, o, rfl, h1, h2, h3, h4⟩
   exact ⟨rfl, la, o, rfl, h1, h2, h3, fun z => by omega⟩
  case step =>
   rintro x c st' _ hx ⟨rfl, la, o, rfl, h1, h2, h3, h4⟩
   dsimp only
   by_cases e : o ≥ h + 1
   ·rw [if_pos e]
    exact wpS_pure ⟨rfl, la, o, rfl, h1, h2, h3, fun z => by omega⟩
   ·rw [if_neg e]
    refine wpS_bind (ask _ (by omega) _ ?_)
    dsimp only
    cases q2 : P (h - o) with
    | true => exact wpS_pure ⟨rfl, la, o, rfl, h1, h2, h3, fun z => q2⟩
    | false => exact wpS_pure ⟨rfl, o, 2 * o + 1, rfl, q2, by omega, by omega, by omega⟩
  case post =>
   rintro c st' ⟨rfl, la, o, rfl, h1, h2, h3, h4⟩
   dsimp only
   refine last (h + 1 - min o (h + 1)) (h - la) (by omega) (by omega) (fun i hi => ?_) (fun i hi hm => M.up hi hm h1)
   have ho : o < h + 1 := by omega
   have := h4 ho
   rw [show min o (h + 1) = o by omega] at hi
   by_cases z : i = h - o
   ·rw [z]; exact this
   ·exact M.dn i _ (by omega) (by omega) this
end
open PySem.W (kas_item kas_cmp)
def mLo : Array Keyed -> Array Keyed -> SM (Array Keyed) := sortPriv% PySem.Builtin.mergeLo
def setG : Nat -> SM Unit := sortPriv% PySem.Builtin.setMinGallop
theorem setG_eq (g : Nat) : setG g = modify fun st => SortSt.mk' (kindOf st) (arrOf st) (pendingOf st) g (failedOf st) := rfl
def dnL (a b o : Array Keyed) (i j : Nat) : Array Keyed := o ++ a.extract i a.size ++ b.extract j b.size
def lsL (a b o : Array Keyed) (i j : Nat) : Array Keyed := o ++ b.extract j b.size ++ a.extract i a.size
abbrev MTO := Option (Array Keyed) × Array Keyed × Nat × Nat × Nat
abbrev MTI := Option (Array Keyed) × Array Keyed × Nat × Nat × Nat × Nat
abbrev MTG := Option (Array Keyed) × Array Keyed × Nat × Nat × Nat × Nat × Nat
def oneL (a b : Array Keyed) (g : Nat) (d : MTI) : SM (ForInStep MTI) := do
 let y <- elem' b d.2.2.2.1
 let x <- elem' a d.2.2.1
 let r <- lt' y x
 match r with
 | some c =>
  if c = true then do
   let y <- elem' b d.2.2.2.1
   if (d.2.2.2.1 + 1 == b.size) = true then pure (.done (some (dnL a b (d.2.1.push y) d.2.2.1 (d.2.2.2.1 + 1)), d.2.1.push y, d.2.2.1, d.2.2.2.1 + 1, 0, d.2.2.2.2.2 + 1))
   else if d.2.2.2.2.2 + 1 ≥ g then pure (.done (none, d.2.1.push y, d.2.2.1, d.2.2.2.1 + 1, 0, d.2.2.2.2.2 + 1))
   else pure (.yield (none, d.2.1.push y, d.2.2.1, d.2.2.2.1 + 1, 0, d.2.2.2.2.2 + 1))
  else do
   let x <- elem' a d.2.2.1
   if (d.2.2.1 + 1 + 1 == a.size) = true then pure (.done (some (lsL a b (d.2.1.push x) (d.2.2.1 + 1) d.2.2.2.1), d.2.1.push x, d.2.2.1 + 1, d.2.2.2.1, d.2.2.2.2.1 + 1, 0))
   else if d.2.2.2.2.1 + 1 ≥ g then pure (.done (none, d.2.1.push x, d.2.2.1 + 1, d.2.2.2.1, d.2.2.2.2.1 + 1, 0))
   else pure (.yield (none, d.2.1.push x, d.2.2.1 + 1, d.2.2.2.1, d.2.2.2.2.1 + 1, 0))
 | _ => pure (.done (some (dnL a b d.2.1 d.2.2.1 d.2.2.2.1), d.2.1, d.2.2.1, d.2.2.2.1, d.2.2.2.2.1, d.2.2.2.2.2))
def gV3 (a b o : Array Keyed) (i j g p q : Nat) : SM (ForInStep MTG) := do
 let x <- elem' a i
 if (i + 1 + 1 == a.size) = true then pure (.done (some (lsL a b (o.push x) (i + 1) j), o.push x, i + 1, j, g, p, q))
 else if (decide (p < 7) && decide (q < 7)) = true then pure (.done (none, o.push x, i + 1, j, g, p, q))
 else pure (.yield (none, o.push x, i + 1, j, g, p, q))
def gV2 (a b o : Array Keyed) (i j g p q : Nat) : SM (ForInStep MTG) := do
 let y <- elem' b j
 if (j + 1 == b.size) = true then pure (.done (some (dnL a b (o.push y) i (j + 1)), o.push y, i, j + 1, g, p, q))
 else do
  let x <- elem' a i
  let r <- galV true x b (j + 1) (b.size - (j + 1)) 0
  match r with
  | some k =>
   if k > 0 then
    if (j + 1 + k == b.size) = true then pure (.done (some (dnL a b (o.push y ++ b.extract (j + 1) (j + 1 + k)) i (j + 1 + k)), o.push y ++ b.extract (j + 1) (j + 1 + k), i, j + 1 + k, g, p, k))
    else gV3 a b (o.push y ++ b.extract (j + 1) (j + 1 + k)) i (j + 1 + k) g p k
   else gV3 a b (o.push y) i (j + 1) g p k
  | _ => pure (.done (some (dnL a b (o.push y) i (j + 1)), o.push y, i, j + 1, g, p, q))
def gV1 (a b o : Array Keyed) (i j g p q : Nat) : SM (ForInStep MTG) := do
 setG g
 let y <- elem' b j
 let r <- galV false y a i (a.size - i) 0
 match r with
 | some k =>
  if k > 0 then
   if (i + k + 1 == a.size) = true then pure (.done (some (lsL a b (o ++ a.extract i (i + k)) (i + k) j), o ++ a.extract i (i + k), i + k, j, g, k, q))
   else if (i + k == a.size) = true then pure (.done (some (dnL a b (o ++ a.extract i (i + k)) (i + k) j), o ++ a.extract i (i + k), i + k, j, g, k, q))
   else gV2 a b (o ++ a.extract i (i + k)) (i + k) j g k q
  else gV2 a b o i j g k q
 | _ => pure (.done (some (dnL a b o i j), o, i, j, g, p, q))
def outL (a b : Array Keyed) (c : MTO) : SM (ForInStep MTO) := do
 let d <- forIn [0:a.size + b.size] ((none, c.2.1, c.2.2.1, c.2.2.2.1, 0, 0) : MTI) fun _ d => oneL a b c.2.2.2.2 d
 match d.1 with
 | some r => pure (.done (some r, d.2.1, d.2.2.1, d.2.2.2.1, c.2.2.2.2))
 | none => do
  liftM (rule "list.sort.gallop")
  let e <- forIn [0:a.size + b.size] ((none, d.2.1, d.2.2.1, d.2.2.2.1, c.2.2.2.2 + 1, d.2.2.2.2.1, d.2.2.2.2.2) : MTG) fun _ e =>
   if e.2.2.2.2.1 > 1 then gV1 a b e.2.1 e.2.2.1 e.2.2.2.1 (e.2.2.2.2.1 - 1) e.2.2.2.2.2.1 e.2.2.2.2.2.2 else gV1 a b e.2.1 e.2.2.1 e.2.2.2.1 e.2.2.2.2.1 e.2.2.2.2.2.1 e.2.2.2.2.2.2
  match e.1 with
  | some r => pure (.done (some r, e.2.1, e.2.2.1, e.2.2.2.1, e.2.2.2.2.1))
  | none => do
   setG (e.2.2.2.2.1 + 1)
   pure (.yield (none, e.2.1, e.2.2.1, e.2.2.2.1, e.2.2.2.2.1 + 1))
theorem mLo_eq0 (a b : Array Keyed) : mLo a b = (do
  liftM (rule "list.sort.merge-lo")
  let x0 <- elem' b 0
  let mut o : Array Keyed := #[x0]
  let mut i := 0
  let mut j := 1
  if j == b.size then return dnL a b o i j
  if i + 1 == a.size then return lsL a b o i j
  let mut g := gallopOf (<- get)
  for _ in [0:a.size + b.size] do
   let mut p := 0
   let mut q := 0
   for _ in [0:a.size + b.size] do
    let some c <- lt' (<- elem' b j) (<- elem' a i) | return dnL a b o i j
    if c then
     o := o.push (<- elem' b j)
     j := j + 1
     q := q + 1
     p := 0
     if j == b.size then return dnL a b o i j
     if q ≥ g then break
    else
     o := o.push (<- elem' a i)
     i := i + 1
     p := p + 1
     q := 0
     if i + 1 == a.size then return lsL a b o i j
     if p ≥ g then break
   liftM (rule "list.sort.gallop")
   g := g + 1
   for _ in [0:a.size + b.size] do
    if g > 1 then g := g - 1
    setG g
    let some k <- galV false (<- elem' b j) a i (a.size - i) 0 | return dnL a b o i j
    p := k
    if k > 0 then
     o := o ++ a.extract i (i + k)
     i := i + k
     if i + 1 == a.size then return lsL a b o i j
     if i == a.size then return dnL a b o i j
    o := o.push (<- elem' b j)
    j := j + 1
    if j == b.size then return dnL a b o i j
    let some k <- galV true (<- elem' a i) b j (b.size - j) 0 | return dnL a b o i j
    q := k
    if k > 0 then
     o := o ++ b.extract j (j + k)
     j := j + k
     if j == b.size then return dnL a b o i j
    o := o.push (<- elem' a i)
    i := i + 1
    if i + 1 == a.size then return lsL a b o i j
    if p < 7 && q < 7 then break
   g := g + 1
   setG g
  unsupported "internal:list.sort.merge-bound") := rfl
theorem mLo_eq (a b : Array Keyed) : mLo a b = (do
  liftM (rule "list.sort.merge-lo")
  let x0 <- elem' b 0
  if (1 == b.size) = true then pure (dnL a b #[x0] 0 1)
  else if (0 + 1 == a.size) = true then pure (lsL a b #[x0] 0 1)
  else do
   let st <- get
   let c <- forIn [0:a.size + b.size] ((none, #[x0], 0, 1, gallopOf st) : MTO) fun _ c => outL a b c
   match c.1 with
   | some r => pure r
   | none => unsupported "internal:list.sort.merge-bound") := by
 rw [mLo_eq0]
 congr 1
 funext _u
 congr 1
 funext x0
 dsimp only
 congr 1
 congr 1
 congr 1
 funext st
 congr 1
 ·congr 1
  funext _x c
  unfold outL
  congr 1
  funext d
  obtain ⟨r, d⟩ := d
  cases r with
  | some r => rfl
  | none =>
   dsimp only
   congr 1
   funext _v
   congr 1
   funext e
   obtain ⟨r, e⟩ := e
   cases r <;> rfl
 ·funext c
  obtain ⟨r, c⟩ := c
  cases r <;> rfl
open PySem.W (kas_item kas_cmp)
section
variable {it : Array Keyed}
theorem Xf0 (l : List Nat) (x : Nat) : (Fk it l).push (kas_item it x) = Fk it (l ++ [x]) := by
 unfold Fk
 rw [List.push_toArray, List.map_append]
 rfl
theorem Xc4 (l m : List Nat) : Fk it l ++ Fk it m = Fk it (l ++ m) := by
 unfold Fk
 rw [List.append_toArray, List.map_append]
theorem Xde (l : List Nat) (i j : Nat) : (Fk it l).extract i j = Fk it ((l.drop i).take (j - i)) := by
 unfold Fk
 rw [List.extract_toArray, List.map_take, List.map_drop]
theorem Xa0 (l : List Nat) : (Fk it l).size = l.length := by
 unfold Fk
 rw [List.size_toArray, List.length_map]
theorem Xiq (la lb lo : List Nat) (i j : Nat) : dnL (Fk it la) (Fk it lb) (Fk it lo) i j = Fk it (lo ++ la.drop i ++ lb.drop j) := by
 unfold dnL
 rw [Xde, Xde, Xa0, Xa0, Xc4, Xc4, List.take_of_length_le (by rw [List.length_drop]; exact Nat.le_refl _), List.take_of_length_le (by rw [List.length_drop]; exact Nat.le_refl _)]
theorem Xkz (la lb lo : List Nat) (i j : Nat) : lsL (Fk it la) (Fk it lb) (Fk it lo) i j = Fk it (lo ++ lb.drop j ++ la.drop i) := by
 unfold lsL
 rw [Xde, Xde, Xa0, Xa0, Xc4, Xc4, List.take_of_length_le (by rw [List.length_drop]; exact Nat.le_refl _), List.take_of_length_le (by rw [List.length_drop]; exact Nat.le_refl _)]
end
structure Two (lt : Nat -> Nat -> Bool) (n : Nat) (la lb : List Nat) : Prop where
 L : Lin n lt
 an : ∀ x ∈ la, x < n
 bn : ∀ x ∈ lb, x < n
 dj : ∀ x ∈ la, ∀ y ∈ lb, x ≠ y
 sa : la.Pairwise fun x y => lt x y = true
 sb : lb.Pairwise fun x y => lt x y = true
structure MI (lt : Nat -> Nat -> Bool) (la lb lo : List Nat) (i j : Nat) : Prop where
 so : lo.Pairwise fun x y => lt x y = true
 pm : lo.Perm (la.take i ++ lb.take j)
 ba : ∀ x ∈ lo, ∀ y ∈ la.drop i, lt x y = true
 bb : ∀ x ∈ lo, ∀ y ∈ lb.drop j, lt x y = true
section
variable {lt : Nat -> Nat -> Bool} {n : Nat} {la lb lo : List Nat} {i j k : Nat}
theorem Two.flip (T : Two lt n la lb) {x y : Nat} (hx : x ∈ la) (hy : y ∈ lb) (h : lt y x = false) : lt x y = true := by
 rcases T.L.tot x y (T.an x hx) (T.bn y hy) (T.dj x hx y hy) with z | z
 ·exact z
 ·rw [z] at h; cases h
theorem drop_split (l : List Nat) (i k : Nat) : l.drop i = (l.drop i).take k ++ l.drop (i + k) := by
 rw [<- List.drop_drop, List.take_append_drop]
theorem take_split (l : List Nat) (i k : Nat) : l.take (i + k) = l.take i ++ (l.drop i).take k := by
 rw [List.take_add]
theorem MI.chA (T : Two lt n la lb) (m : MI lt la lb lo i j) (h : ∀ x ∈ (la.drop i).take k, ∀ y ∈ lb.drop j, lt x y = true) : MI lt la lb (lo ++ (la.drop i).take k) (i + k) j := by
 have sp := drop_split la i k
 have sd := T.sa.sublist (List.drop_sublist i la)
 rw [sp] at sd
 obtain ⟨s1, s2, s3⟩ := List.pairwise_append.mp sd
 refine ⟨List.pairwise_append.mpr ⟨m.so, s1, fun x hx y hy => m.ba x hx y (List.mem_of_mem_take hy)⟩, ?_, fun x hx y hy => ?_, fun x hx y hy => ?_⟩
 ·rw [take_split]
  refine (m.pm.append_right _).trans ?_
  rw [List.append_assoc, List.append_assoc]
  exact List.Perm.append_left _ List.perm_append_comm
 ·rcases List.mem_append.mp hx with z | z
  ·exact m.ba x z y (by rw [sp]; exact List.mem_append_right _ hy)
  ·exact s3 x z y hy
 ·rcases List.mem_append.mp hx with z | z
  ·exact m.bb x z y hy
  ·exact h x z y hy
theorem MI.chB (T : Two lt n la lb) (m : MI lt la lb lo i j) (h : ∀ x ∈ (lb.drop j).take k, ∀ y ∈ la.drop i, lt x y = true) : MI lt la lb (lo ++ (lb.drop j).take k) i (j + k) := by
 have sp := drop_split lb j k
 have sd := T.sb.sublist (List.drop_sublist j lb)
 rw [sp] at sd
 obtain ⟨s1, s2, s3⟩ := List.pairwise_append.mp sd
 refine ⟨List.pairwise_append.mpr ⟨m.so, s1, fun x hx y hy => m.bb x hx y (List.mem_of_mem_take hy)⟩, ?_, fun x hx y hy => ?_, fun x hx y hy => ?_⟩
 ·rw [take_split, <- List.append_assoc]
  exact m.pm.append_right _
 ·rcases List.mem_append.mp hx with z | z
  ·exact m.ba x z y hy
  ·exact h x z y hy
 ·rcases List.mem_append.mp hx with z | z
  ·exact m.bb x z y (by rw [sp]; exact List.mem_append_right _ hy)
  ·exact s3 x z y hy
theorem Xk0 (la lb : List Nat) (h : lo.Perm (la.take i ++ lb.take j)) : (lo ++ la.drop i ++ lb.drop j).Perm (la ++ lb) := by
 refine ((h.append_right _).append_right _).trans ?_
 rw [List.append_assoc, List.append_assoc]
 have e : la ++ lb = la.take i ++ (la.drop i ++ (lb.take j ++ lb.drop j)) := by rw [List.take_append_drop, <- List.append_assoc, List.take_append_drop]
 rw [e]
 refine List.Perm.append_left _ ?_
 rw [<- List.append_assoc, <- List.append_assoc]
 exact List.perm_append_comm.append_right _
def Mrg (lt : Nat -> Nat -> Bool) (la lb r : List Nat) : Prop := r.Perm (la ++ lb) /\ r.Pairwise fun x y => lt x y = true
theorem MI.endB (T : Two lt n la lb) (m : MI lt la lb lo i j) (h : ∀ x ∈ la.drop i, ∀ y ∈ lb.drop j, lt x y = true) : Mrg lt la lb (lo ++ la.drop i ++ lb.drop j) := by
 refine ⟨Xk0 la lb m.pm, List.pairwise_append.mpr ⟨List.pairwise_append.mpr ⟨m.so, T.sa.sublist (List.drop_sublist ..), m.ba⟩, T.sb.sublist (List.drop_sublist ..), fun x hx y hy => ?_⟩⟩
 rcases List.mem_append.mp hx with z | z
 ·exact m.bb x z y hy
 ·exact h x z y hy
theorem MI.endA (T : Two lt n la lb) (m : MI lt la lb lo i j) (h : ∀ x ∈ lb.drop j, ∀ y ∈ la.drop i, lt x y = true) : Mrg lt la lb (lo ++ lb.drop j ++ la.drop i) := by
 refine ⟨?_, List.pairwise_append.mpr ⟨List.pairwise_append.mpr ⟨m.so, T.sb.sublist (List.drop_sublist ..), m.bb⟩, T.sa.sublist (List.drop_sublist ..), fun x hx y hy => ?_⟩⟩
 ·refine List.Perm.trans ?_ (Xk0 la lb m.pm)
  rw [List.append_assoc, List.append_assoc]
  exact List.Perm.append_left _ List.perm_append_comm
 ·rcases List.mem_append.mp hx with z | z
  ·exact m.ba x z y hy
  ·exact h x z y hy
theorem Xek {l : List Nat} (L : Lin n lt) (so : l.Pairwise fun x y => lt x y = true) {x z : Nat} (hz : l[i]? = some z) (h : lt x z = true) : ∀ y ∈ l.drop i, lt x y = true := by
 intro y hy
 obtain ⟨hi, e⟩ := List.getElem?_eq_some_iff.mp hz
 rw [List.drop_eq_getElem_cons hi, e] at hy
 have sd := so.sublist (List.drop_sublist i l)
 rw [List.drop_eq_getElem_cons hi, e] at sd
 rcases List.mem_cons.mp hy with q | q
 ·rw [q]; exact h
 ·exact L.tr _ _ _ h (List.rel_of_pairwise_cons sd q)
end
section
variable {lt : Nat -> Nat -> Bool} {n : Nat} {la lb lo : List Nat} {i j k : Nat}
theorem Xaj {l : List Nat} (h : i < l.length) : l[i]? = some (l.getD i 0) := by
 rw [List.getD_eq_getElem?_getD, List.getElem?_eq_getElem h]
 rfl
theorem Xaw {l : List Nat} (h : i < l.length) : l.getD i 0 ∈ l := List.mem_of_getElem? (Xaj h)
theorem Xbe {l : List Nat} (h : i < l.length) : (l.drop i).take 1 = [l.getD i 0] := by
 rw [List.drop_eq_getElem_cons h]
 show [l[i]] = _
 rw [List.getD_eq_getElem?_getD, List.getElem?_eq_getElem h]
 rfl
theorem Xd4 {l : List Nat} (h : i + 1 = l.length) : l.drop i = [l.getD (l.length - 1) 0] := by
 have hi : i < l.length := by omega
 rw [List.drop_eq_getElem_cons hi, List.drop_eq_nil_of_le (by omega), show l.length - 1 = i by omega, List.getD_eq_getElem?_getD, List.getElem?_eq_getElem hi]
 rfl
theorem Xa1 {l : List Nat} {x : Nat} (h : x ∈ (l.drop i).take k) : ∃ t, t < k /\ i + t < l.length /\ x = l.getD (i + t) 0 := by
 obtain ⟨t, ht, e⟩ := List.mem_iff_getElem.mp h
 rw [List.length_take, List.length_drop] at ht
 rw [List.getElem_take, List.getElem_drop] at e
 have hl : i + t < l.length := by omega
 exact ⟨t, by omega, hl, by rw [<- e, List.getD_eq_getElem?_getD, List.getElem?_eq_getElem hl]; rfl⟩
theorem Xel {l : List Nat} {R : Nat -> Nat -> Prop} (h : l.Pairwise R) {a b : Nat} (hab : a < b) (hb : b < l.length) : R (l.getD a 0) (l.getD b 0) := by
 have := List.pairwise_iff_getElem.mp h a b (by omega) hb hab
 rwa [show l.getD a 0 = l[a] by rw [List.getD_eq_getElem?_getD, List.getElem?_eq_getElem (show a < l.length by omega)]; rfl, show l.getD b 0 = l[b] by rw [List.getD_eq_getElem?_getD, List.getElem?_eq_getElem hb]; rfl]
theorem MI.nil : MI lt la lb [] 0 0 := ⟨.nil, .nil, fun _ h => (nomatch h), fun _ h => (nomatch h)⟩
end
structure SG (st0 st : SortSt) : Prop where
 k : kindOf st = kindOf st0
 a : arrOf st = arrOf st0
 p : pendingOf st = pendingOf st0
 f : failedOf st = failedOf st0
def RsI {τ : Type} (it : Array Keyed) (lt : Nat -> Nat -> Bool) (la lb : List Nat) (c : Option (Array Keyed) × Array Keyed × Nat × Nat × τ) : Prop := ∃ res, c.1 = some (Fk it res) /\ Mrg lt la lb res
def NxI {τ : Type} (it : Array Keyed) (lt : Nat -> Nat -> Bool) (la lb : List Nat) (m : Nat) (c : Option (Array Keyed) × Array Keyed × Nat × Nat × τ) : Prop := ∃ lo i j t, c = (none, Fk it lo, i, j, t) /\ MI lt la lb lo i j /\ i + 1 < la.length /\ j < lb.length /\ m < i + j
def StI {τ : Type} (it : Array Keyed) (lt : Nat -> Nat -> Bool) (la lb : List Nat) (m : Nat) (r : ForInStep (Option (Array Keyed) × Array Keyed × Nat × Nat × τ)) : Prop := match r with
 | .done c => RsI it lt la lb c \/ NxI it lt la lb m c
 | .yield c => NxI it lt la lb m c
def StO {τ : Type} (it : Array Keyed) (lt : Nat -> Nat -> Bool) (la lb : List Nat) (m : Nat) (r : ForInStep (Option (Array Keyed) × Array Keyed × Nat × Nat × τ)) : Prop := match r with
 | .done c => RsI it lt la lb c
 | .yield c => NxI it lt la lb m c
theorem NxI.mono {τ : Type} {it : Array Keyed} {lt : Nat -> Nat -> Bool} {la lb : List Nat} {m m' : Nat} {c : Option (Array Keyed) × Array Keyed × Nat × Nat × τ} (h : NxI it lt la lb m c) (hm : m' <= m) : NxI it lt la lb m' c := by
 obtain ⟨lo, i, j, t, e, a1, a2, a3, a4⟩ := h
 exact ⟨lo, i, j, t, e, a1, a2, a3, by omega⟩
section
variable {prog : Program} {w : World} {A : Around} {E : Value -> Shared -> Prop} {s : Shared} {κ : SortKind} {it : Array Keyed} {n : Nat} {lt : Nat -> Nat -> Bool} {la lb lo : List Nat} {i j k g p q : Nat} {st0 st : SortSt}
theorem wS_setG {Q : Unit -> SortSt -> Prop} (sg : SG st0 st) (h : ∀ st', SG st0 st' -> Q () st') : wpS (model prog w) A E s (setG g) Q st := by
 rw [setG_eq]
 exact wpS_modify (h _ ⟨sg.k, sg.a, sg.p, sg.f⟩)
theorem wS_oneL (hc : CmS prog w A s κ it n lt) (T : Two lt n la lb) (top : ∀ x ∈ lb, lt x (la.getD (la.length - 1) 0) = true) (hk : kindOf st0 = κ) (sg : SG st0 st) (m : MI lt la lb lo i j) (hi : i + 1 < la.length) (hj : j < lb.length)
  {Q : ForInStep MTI -> SortSt -> Prop} (h : ∀ r, StI it lt la lb (i + j) r -> Q r st) : wpS (model prog w) A E s (oneL (Fk it la) (Fk it lb) g (none, Fk it lo, i, j, p, q)) Q st := by
 unfold oneL
 dsimp only
 have hi' : i < la.length := by omega
 have ea := Xaj hi'
 have eb := Xaj hj
 have ma := Xaw hi'
 have mb := Xaw hj
 refine wpS_bind (Xbz eb (wpS_bind (Xbz ea (wpS_bind (Xn8 hc (T.bn _ mb) (T.an _ ma) (sg.k.trans hk) ?_)))))
 dsimp only
 cases c : lt (lb.getD j 0) (la.getD i 0) with
 | true =>
  rw [if_pos rfl]
  refine wpS_bind (Xbz eb ?_)
  rw [Xf0, Xiq, Xa0]
  have m' := MI.chB (k := 1) T m (by rw [Xbe hj]; intro x hx y hy; rw [List.mem_singleton.mp hx]; exact Xek T.L T.sa ea c y hy)
  rw [Xbe hj] at m'
  by_cases e : (j + 1 == lb.length) = true
  ·rw [if_pos e]
   have e' : j + 1 = lb.length := by simpa using e
   exact wpS_pure (h _ (.inl ⟨_, rfl, m'.endB T (by rw [List.drop_eq_nil_of_le (by omega : lb.length <= j + 1)]; intro _ _ y hy; cases hy)⟩))
  ·rw [if_neg e]
   have e' : j + 1 ≠ lb.length := by simpa using e
   by_cases e2 : q + 1 ≥ g
   ·rw [if_pos e2]
    exact wpS_pure (h _ (.inr ⟨_, _, _, _, rfl, m', hi, by omega, by omega⟩))
   ·rw [if_neg e2]
    exact wpS_pure (h _ ⟨_, _, _, _, rfl, m', hi, by omega, by omega⟩)
 | false =>
  rw [if_neg (by decide)]
  have c' := T.flip ma mb c
  refine wpS_bind (Xbz ea ?_)
  rw [Xf0, Xkz, Xa0]
  have m' := MI.chA (k := 1) T m (by rw [Xbe hi']; intro x hx y hy; rw [List.mem_singleton.mp hx]; exact Xek T.L T.sb eb c' y hy)
  rw [Xbe hi'] at m'
  by_cases e : (i + 1 + 1 == la.length) = true
  ·rw [if_pos e]
   have e' : i + 1 + 1 = la.length := by simpa using e
   exact wpS_pure (h _ (.inl ⟨_, rfl, m'.endA T (by rw [Xd4 e']; intro x hx y hy; rw [List.mem_singleton.mp hy]; exact top x (List.mem_of_mem_drop hx))⟩))
  ·rw [if_neg e]
   have e' : i + 1 + 1 ≠ la.length := by simpa using e
   by_cases e2 : p + 1 ≥ g
   ·rw [if_pos e2]
    exact wpS_pure (h _ (.inr ⟨_, _, _, _, rfl, m', by omega, hj, by omega⟩))
   ·rw [if_neg e2]
    exact wpS_pure (h _ ⟨_, _, _, _, rfl, m', by omega, hj, by omega⟩)
theorem wS_gV3 (T : Two lt n la lb) (top : ∀ x ∈ lb, lt x (la.getD (la.length - 1) 0) = true) (m : MI lt la lb lo i j) (hi : i + 1 < la.length) (hj : j < lb.length) (c : lt (la.getD i 0) (lb.getD j 0) = true) {m0 : Nat} (hm : m0 <= i + j)
  {Q : ForInStep MTG -> SortSt -> Prop} (h : ∀ r, StI it lt la lb m0 r -> Q r st) : wpS (model prog w) A E s (gV3 (Fk it la) (Fk it lb) (Fk it lo) i j g p q) Q st := by
 unfold gV3
 have hi' : i < la.length := by omega
 refine wpS_bind (Xbz (Xaj hi') ?_)
 rw [Xf0, Xkz, Xa0]
 have m' := MI.chA (k := 1) T m (by rw [Xbe hi']; intro x hx y hy; rw [List.mem_singleton.mp hx]; exact Xek T.L T.sb (Xaj hj) c y hy)
 rw [Xbe hi'] at m'
 by_cases e : (i + 1 + 1 == la.length) = true
 ·rw [if_pos e]
  have e' : i + 1 + 1 = la.length := by simpa using e
  exact wpS_pure (h _ (.inl ⟨_, rfl, m'.endA T (by rw [Xd4 e']; intro x hx y hy; rw [List.mem_singleton.mp hy]; exact top x (List.mem_of_mem_drop hx))⟩))
 ·rw [if_neg e]
  have e' : i + 1 + 1 ≠ la.length := by simpa using e
  by_cases e2 : (decide (p < 7) && decide (q < 7)) = true
  ·rw [if_pos e2]
   exact wpS_pure (h _ (.inr ⟨_, _, _, _, rfl, m', by omega, hj, by omega⟩))
  ·rw [if_neg e2]
   exact wpS_pure (h _ ⟨_, _, _, _, rfl, m', by omega, hj, by omega⟩)
theorem wS_gV2 (hc : CmS prog w A s κ it n lt) (T : Two lt n la lb) (top : ∀ x ∈ lb, lt x (la.getD (la.length - 1) 0) = true) (hk : kindOf st0 = κ) (sg : SG st0 st) (m : MI lt la lb lo i j) (hi : i + 1 < la.length) (hj : j < lb.length) (c : lt (lb.getD j 0) (la.getD i 0) = true) {m0 : Nat} (hm : m0 <= i + j)
  {Q : ForInStep MTG -> SortSt -> Prop} (h : ∀ r, StI it lt la lb m0 r -> Q r st) : wpS (model prog w) A E s (gV2 (Fk it la) (Fk it lb) (Fk it lo) i j g p q) Q st := by
 unfold gV2
 have hi' : i < la.length := by omega
 have ea := Xaj hi'
 have ma := Xaw hi'
 refine wpS_bind (Xbz (Xaj hj) ?_)
 rw [Xf0, Xiq, Xa0]
 have m' := MI.chB (k := 1) T m (by rw [Xbe hj]; intro x hx y hy; rw [List.mem_singleton.mp hx]; exact Xek T.L T.sa ea c y hy)
 rw [Xbe hj] at m'
 by_cases e : (j + 1 == lb.length) = true
 ·rw [if_pos e]
  have e' : j + 1 = lb.length := by simpa using e
  exact wpS_pure (h _ (.inl ⟨_, rfl, m'.endB T (by rw [List.drop_eq_nil_of_le (by omega : lb.length <= j + 1)]; intro _ _ y hy; cases hy)⟩))
 rw [if_neg e]
 have e' : j + 1 ≠ lb.length := by simpa using e
 refine wpS_bind (Xbz ea ?_)
 refine wpS_bind (Xgd (P := fun t => lt (lb.getD (j + 1 + t) 0) (la.getD i 0)) ⟨fun a b hab hb e => ?_⟩ (by omega) (fun t ht Q' hq => ?_) fun r hr hlo hhi => ?_)
 ·exact T.L.tr _ _ _ (Xel T.sb (by omega) (by omega)) e
 ·exact Xgc hc (Xaj (by omega)) (T.bn _ (Xaw (by omega))) (T.an _ ma) (sg.k.trans hk) (left := true) hq
 dsimp only
 by_cases hr0 : r > 0
 ·rw [if_pos hr0, Xde, Xc4, Xiq, show j + 1 + r - (j + 1) = r by omega]
  have m2 := MI.chB (k := r) T m' (fun x hx y hy => by
   obtain ⟨t, h1, h2, rfl⟩ := Xa1 hx
   exact Xek T.L T.sa ea (hlo t h1) y hy)
  by_cases e3 : (j + 1 + r == lb.length) = true
  ·rw [if_pos e3]
   have e3' : j + 1 + r = lb.length := by simpa using e3
   exact wpS_pure (h _ (.inl ⟨_, rfl, m2.endB T (by rw [List.drop_eq_nil_of_le (by omega : lb.length <= j + 1 + r)]; intro _ _ y hy; cases hy)⟩))
  ·rw [if_neg e3]
   have e3' : j + 1 + r ≠ lb.length := by simpa using e3
   have hjr : j + 1 + r < lb.length := by omega
   exact wS_gV3 T top m2 hi hjr (T.flip ma (Xaw hjr) (hhi r (Nat.le_refl _) (by omega))) (by omega) h
 ·rw [if_neg hr0]
  have hz := hhi 0 (by omega) (by omega)
  exact wS_gV3 T top m' hi (by omega) (T.flip ma (Xaw (by omega)) hz) (by omega) h
theorem wS_gV1 (hc : CmS prog w A s κ it n lt) (T : Two lt n la lb) (top : ∀ x ∈ lb, lt x (la.getD (la.length - 1) 0) = true) (hk : kindOf st0 = κ) (sg : SG st0 st) (m : MI lt la lb lo i j) (hi : i + 1 < la.length) (hj : j < lb.length)
  {Q : ForInStep MTG -> SortSt -> Prop} (h : ∀ r st', SG st0 st' -> StI it lt la lb (i + j) r -> Q r st') : wpS (model prog w) A E s (gV1 (Fk it la) (Fk it lb) (Fk it lo) i j g p q) Q st := by
 unfold gV1
 refine wpS_bind (wS_setG sg fun st' sg' => ?_)
 have eb := Xaj hj
 have mb := Xaw hj
 refine wpS_bind (Xbz eb ?_)
 rw [Xa0]
 refine wpS_bind (Xgd (P := fun t => !lt (lb.getD j 0) (la.getD (i + t) 0)) ⟨fun a b hab hb e => ?_⟩ (by omega) (fun t ht Q' hq => ?_) fun r hr hlo hhi => ?_)
 ·have e : lt (lb.getD j 0) (la.getD (i + b) 0) = false := by simpa using e
  cases q : lt (lb.getD j 0) (la.getD (i + a) 0) with
  | false => rfl
  | true =>
   have := T.L.tr _ _ _ q (Xel T.sa (show i + a < i + b by omega) (by omega))
   rw [this] at e
   cases e
 ·exact Xgc hc (Xaj (by omega)) (T.an _ (Xaw (by omega))) (T.bn _ mb) (sg'.k.trans hk) (left := false) hq
 dsimp only
 have tp := top _ mb
 have hr1 : r < la.length - i := by
  rcases Nat.lt_or_ge r (la.length - i) with z | z
  ·exact z
  ·have := hlo (la.length - 1 - i) (by omega)
   rw [show i + (la.length - 1 - i) = la.length - 1 by omega, tp] at this
   cases this
 have hnx : lt (lb.getD j 0) (la.getD (i + r) 0) = true := by
  have := hhi r (Nat.le_refl _) hr1
  simpa using this
 by_cases hr0 : r > 0
 ·rw [if_pos hr0, Xde, Xc4, Xiq, Xkz, show i + r - i = r by omega]
  have m2 := MI.chA (k := r) T m (fun x hx y hy => by
   obtain ⟨t, h1, h2, rfl⟩ := Xa1 hx
   have := hlo t h1
   exact Xek T.L T.sb eb (T.flip (Xaw h2) mb (by simpa using this)) y hy)
  by_cases e3 : (i + r + 1 == la.length) = true
  ·rw [if_pos e3]
   have e3' : i + r + 1 = la.length := by simpa using e3
   exact wpS_pure (h _ _ sg' (.inl ⟨_, rfl, m2.endA T (by rw [Xd4 e3']; intro x hx y hy; rw [List.mem_singleton.mp hy]; exact top x (List.mem_of_mem_drop hx))⟩))
  ·rw [if_neg e3]
   have e3' : i + r + 1 ≠ la.length := by simpa using e3
   have e4 : ¬ (i + r == la.length) = true := by
    simp
    omega
   rw [if_neg e4]
   exact wS_gV2 hc T top hk sg' m2 (by omega) hj hnx (by omega) fun r' hr' => h r' _ sg' hr'
 ·rw [if_neg hr0]
  have : r = 0 := by omega
  subst this
  exact wS_gV2 hc T top hk sg' m hi hj hnx (Nat.le_refl _) fun r' hr' => h r' _ sg' hr'
theorem wS_outL (hc : CmS prog w A s κ it n lt) (T : Two lt n la lb) (top : ∀ x ∈ lb, lt x (la.getD (la.length - 1) 0) = true) (hk : kindOf st0 = κ) (sg : SG st0 st) (m : MI lt la lb lo i j) (hi : i + 1 < la.length) (hj : j < lb.length)
  {Q : ForInStep MTO -> SortSt -> Prop} (h : ∀ r st', SG st0 st' -> StO it lt la lb (i + j) r -> Q r st') : wpS (model prog w) A E s (outL (Fk it la) (Fk it lb) (none, Fk it lo, i, j, g)) Q st := by
 unfold outL
 dsimp only
 rw [Xa0, Xa0]
 refine wpS_bind (wpS_mono (wpS_forRange (I := fun x c st' => SG st0 st' /\ ∃ lo' i' j' t, c = (none, Fk it lo', i', j', t) /\ MI lt la lb lo' i' j' /\ i' + 1 < la.length /\ j' < lb.length /\ i + j + x <= i' + j') (Q := fun c st' => SG st0 st' /\ (RsI it lt la lb c \/ NxI it lt la lb (i + j) c)) ?step ?fin ⟨sg, lo, i, j, _, rfl, m, hi, hj, Nat.le_refl _⟩) ?post)
 case fin =>
  rintro c st' ⟨sg', lo', i', j', t, rfl, m', h1, h2, h3⟩
  exact ⟨sg', .inr ⟨lo', i', j', t, rfl, m', h1, h2, by omega⟩⟩
 case step =>
  rintro x c st' _ hx ⟨sg', lo', i', j', t, rfl, m', h1, h2, h3⟩
  refine wS_oneL hc T top hk sg' m' h1 h2 fun r hr => ?_
  cases r with
  | done c =>
   rcases hr with z | z
   ·exact ⟨sg', .inl z⟩
   ·exact ⟨sg', .inr (z.mono (by omega))⟩
  | yield c =>
   obtain ⟨lo2, i2, j2, t2, e, a1, a2, a3, a4⟩ := hr
   exact ⟨sg', lo2, i2, j2, t2, e, a1, a2, a3, by omega⟩
 case post =>
  rintro ⟨r, o1, i1, j1, p1, q1⟩ st1 ⟨sg1, z⟩
  rcases z with ⟨res, e, mr⟩ | ⟨lo1, i2, j2, t, e, m1, a1, a2, a3⟩
  ·obtain rfl : r = some (Fk it res) := e
   exact wpS_pure (h _ _ sg1 ⟨res, rfl, mr⟩)
  ·cases e
   dsimp only
   refine wpS_bind (wpS_lift (wpAny_rule ⟨rfl, ?_⟩))
   refine wpS_bind (wpS_mono (wpS_forRange (I := fun x c st' => SG st0 st' /\ NxI it lt la lb (i + j) c) (Q := fun c st' => SG st0 st' /\ (RsI it lt la lb c \/ NxI it lt la lb (i + j) c)) ?step ?fin ⟨sg1, lo1, i1, j1, _, rfl, m1, a1, a2, a3⟩) ?post)
   case fin => exact fun c st' z => ⟨z.1, .inr z.2⟩
   case step =>
    rintro x c st' _ hx ⟨sg', lo', i', j', ⟨g', p', q'⟩, rfl, m', h1, h2, h3⟩
    dsimp only
    have go : ∀ (r : ForInStep MTG) st'', SG st0 st'' -> StI it lt la lb (i' + j') r -> (match r with
     | .done c' => SG st0 st'' /\ (RsI it lt la lb c' \/ NxI it lt la lb (i + j) c')
     | .yield c' => SG st0 st'' /\ NxI it lt la lb (i + j) c') := fun r st'' sg'' hr => by
     cases r with
     | done c =>
      rcases hr with z | z
      ·exact ⟨sg'', .inl z⟩
      ·exact ⟨sg'', .inr (z.mono (by omega))⟩
     | yield c => exact ⟨sg'', NxI.mono hr (by omega)⟩
    by_cases e : g' > 1
    ·rw [if_pos e]
     exact wS_gV1 hc T top hk sg' m' h1 h2 fun r st'' s1 s2 => by have := go r st'' s1 s2; cases r <;> exact this
    ·rw [if_neg e]
     exact wS_gV1 hc T top hk sg' m' h1 h2 fun r st'' s1 s2 => by have := go r st'' s1 s2; cases r <;> exact this
   case post =>
    rintro ⟨r, o2, i2, j2, g2, p2, q2⟩ st2 ⟨sg2, z⟩
    rcases z with ⟨res, e, mr⟩ | ⟨lo2, i3, j3, t, e, m2, b1, b2, b3⟩
    ·obtain rfl : r = some (Fk it res) := e
     exact wpS_pure (h _ _ sg2 ⟨res, rfl, mr⟩)
    ·cases e
     dsimp only
     exact wpS_bind (wS_setG sg2 fun st3 sg3 => wpS_pure (h _ _ sg3 ⟨lo2, i2, j2, _, rfl, m2, b1, b2, b3⟩))
theorem wS_mLo (hc : CmS prog w A s κ it n lt) (T : Two lt n la lb) (ha : 1 <= la.length) (hb : 1 <= lb.length) (h0 : ∀ y ∈ la, lt (lb.getD 0 0) y = true) (top : ∀ x ∈ lb, lt x (la.getD (la.length - 1) 0) = true)
  (hk : kindOf st = κ) {Q : Array Keyed -> SortSt -> Prop} (h : ∀ res st', Mrg lt la lb res -> SG st st' -> Q (Fk it res) st') : wpS (model prog w) A E s (mLo (Fk it la) (Fk it lb)) Q st := by
 rw [mLo_eq]
 have sg0 : SG st st := ⟨rfl, rfl, rfl, rfl⟩
 refine wpS_bind (wpS_lift (wpAny_rule ⟨rfl, ?_⟩))
 have hb' : 0 < lb.length := hb
 refine wpS_bind (Xbz (Xaj hb') ?_)
 have e0 : (#[kas_item it (lb.getD 0 0)] : Array Keyed) = Fk it [lb.getD 0 0] := rfl
 rw [e0, Xiq, Xkz, Xa0, Xa0]
 have m1 := MI.chB (k := 1) T (MI.nil (lt := lt) (la := la) (lb := lb)) (by rw [Xbe hb']; intro x hx y hy; rw [List.mem_singleton.mp hx]; exact h0 y (List.mem_of_mem_drop hy))
 rw [Xbe hb', List.nil_append, Nat.zero_add] at m1
 by_cases e1 : (1 == lb.length) = true
 ·rw [if_pos e1]
  have e1' : 1 = lb.length := by simpa using e1
  exact wpS_pure (h _ _ (m1.endB T (by rw [List.drop_eq_nil_of_le (by omega : lb.length <= 1)]; intro _ _ y hy; cases hy)) sg0)
 rw [if_neg e1]
 have e1' : 1 ≠ lb.length := by simpa using e1
 by_cases e2 : (0 + 1 == la.length) = true
 ·rw [if_pos e2]
  have e2' : 0 + 1 = la.length := by simpa using e2
  exact wpS_pure (h _ _ (m1.endA T (by rw [Xd4 e2']; intro x hx y hy; rw [List.mem_singleton.mp hy]; exact top x (List.mem_of_mem_drop hx))) sg0)
 rw [if_neg e2]
 have e2' : 0 + 1 ≠ la.length := by simpa using e2
 refine wpS_bind (wpS_get ?_)
 refine wpS_bind (wpS_mono (wpS_forRange (I := fun x c st' => SG st st' /\ NxI it lt la lb x c) (Q := fun c st' => SG st st' /\ RsI it lt la lb c) ?step ?fin ⟨sg0, _, _, _, _, rfl, m1, by omega, by omega, by omega⟩) ?post)
 case fin =>
  rintro c st' ⟨sg', lo', i', j', t, rfl, m', h1, h2, h3⟩
  omega
 case step =>
  rintro x c st' _ hx ⟨sg', lo', i', j', t, rfl, m', h1, h2, h3⟩
  refine wS_outL hc T top hk sg' m' h1 h2 fun r st'' sg'' hr => ?_
  cases r with
  | done c => exact ⟨sg'', hr⟩
  | yield c => exact ⟨sg'', NxI.mono hr (by omega)⟩
 case post =>
  rintro ⟨r, o2, i2, j2, g2⟩ st2 ⟨sg2, res, e, mr⟩
  obtain rfl : r = some (Fk it res) := e
  exact wpS_pure (h res _ mr sg2)
end
open PySem.W (kas_item kas_cmp)
def mHi : Array Keyed -> Array Keyed -> SM (Array Keyed) := sortPriv% PySem.Builtin.mergeHi
def dnH (a b o : Array Keyed) (i j : Nat) : Array Keyed := a.extract 0 i ++ b.extract 0 j ++ o.reverse
def fsH (a b o : Array Keyed) (i j : Nat) : Array Keyed := b.extract 0 j ++ a.extract 0 i ++ o.reverse
abbrev HTO := Option (Array Keyed) × Nat × Nat × Array Keyed × Nat
abbrev HTI := Option (Array Keyed) × Nat × Nat × Array Keyed × Nat × Nat
abbrev HTG := Option (Array Keyed) × Nat × Nat × Array Keyed × Nat × Nat × Nat
def oneH (a b : Array Keyed) (g : Nat) (d : HTI) : SM (ForInStep HTI) := do
 let y <- elem' b (d.2.2.1 - 1)
 let x <- elem' a (d.2.1 - 1)
 let r <- lt' y x
 match r with
 | some c =>
  if c = true then do
   let x <- elem' a (d.2.1 - 1)
   if (d.2.1 - 1 == 0) = true then pure (.done (some (dnH a b (d.2.2.2.1.push x) (d.2.1 - 1) d.2.2.1), d.2.1 - 1, d.2.2.1, d.2.2.2.1.push x, d.2.2.2.2.1 + 1, 0))
   else if d.2.2.2.2.1 + 1 ≥ g then pure (.done (none, d.2.1 - 1, d.2.2.1, d.2.2.2.1.push x, d.2.2.2.2.1 + 1, 0))
   else pure (.yield (none, d.2.1 - 1, d.2.2.1, d.2.2.2.1.push x, d.2.2.2.2.1 + 1, 0))
  else do
   let y <- elem' b (d.2.2.1 - 1)
   if (d.2.2.1 - 1 == 1) = true then pure (.done (some (fsH a b (d.2.2.2.1.push y) d.2.1 (d.2.2.1 - 1)), d.2.1, d.2.2.1 - 1, d.2.2.2.1.push y, 0, d.2.2.2.2.2 + 1))
   else if d.2.2.2.2.2 + 1 ≥ g then pure (.done (none, d.2.1, d.2.2.1 - 1, d.2.2.2.1.push y, 0, d.2.2.2.2.2 + 1))
   else pure (.yield (none, d.2.1, d.2.2.1 - 1, d.2.2.2.1.push y, 0, d.2.2.2.2.2 + 1))
 | _ => pure (.done (some (dnH a b d.2.2.2.1 d.2.1 d.2.2.1), d.2.1, d.2.2.1, d.2.2.2.1, d.2.2.2.2.1, d.2.2.2.2.2))
def gH3 (a b o : Array Keyed) (i j g p q : Nat) : SM (ForInStep HTG) := do
 let x <- elem' a (i - 1)
 if (i - 1 == 0) = true then pure (.done (some (dnH a b (o.push x) (i - 1) j), i - 1, j, o.push x, g, p, q))
 else if (decide (p < 7) && decide (q < 7)) = true then pure (.done (none, i - 1, j, o.push x, g, p, q))
 else pure (.yield (none, i - 1, j, o.push x, g, p, q))
def gH2 (a b o : Array Keyed) (i j g p q : Nat) : SM (ForInStep HTG) := do
 let y <- elem' b (j - 1)
 if (j - 1 == 1) = true then pure (.done (some (fsH a b (o.push y) i (j - 1)), i, j - 1, o.push y, g, p, q))
 else do
  let x <- elem' a (i - 1)
  let r <- galV true x b 0 (j - 1) (j - 1 - 1)
  match r with
  | some r =>
   if j - 1 - r > 0 then
    if (r == 1) = true then pure (.done (some (fsH a b (o.push y ++ (b.extract r (j - 1)).reverse) i r), i, r, o.push y ++ (b.extract r (j - 1)).reverse, g, p, j - 1 - r))
    else if (r == 0) = true then pure (.done (some (dnH a b (o.push y ++ (b.extract r (j - 1)).reverse) i r), i, r, o.push y ++ (b.extract r (j - 1)).reverse, g, p, j - 1 - r))
    else gH3 a b (o.push y ++ (b.extract r (j - 1)).reverse) i r g p (j - 1 - r)
   else gH3 a b (o.push y) i (j - 1) g p (j - 1 - r)
  | _ => pure (.done (some (dnH a b (o.push y) i (j - 1)), i, j - 1, o.push y, g, p, q))
def gH1 (a b o : Array Keyed) (i j g p q : Nat) : SM (ForInStep HTG) := do
 setG g
 let y <- elem' b (j - 1)
 let r <- galV false y a 0 i (i - 1)
 match r with
 | some r =>
  if i - r > 0 then
   if (r == 0) = true then pure (.done (some (dnH a b (o ++ (a.extract r i).reverse) r j), r, j, o ++ (a.extract r i).reverse, g, i - r, q))
   else gH2 a b (o ++ (a.extract r i).reverse) r j g (i - r) q
  else gH2 a b o i j g (i - r) q
 | _ => pure (.done (some (dnH a b o i j), i, j, o, g, p, q))
def outH (a b : Array Keyed) (c : HTO) : SM (ForInStep HTO) := do
 let d <- forIn [0:a.size + b.size] ((none, c.2.1, c.2.2.1, c.2.2.2.1, 0, 0) : HTI) fun _ d => oneH a b c.2.2.2.2 d
 match d.1 with
 | some r => pure (.done (some r, d.2.1, d.2.2.1, d.2.2.2.1, c.2.2.2.2))
 | none => do
  liftM (rule "list.sort.gallop")
  let e <- forIn [0:a.size + b.size] ((none, d.2.1, d.2.2.1, d.2.2.2.1, c.2.2.2.2 + 1, d.2.2.2.2.1, d.2.2.2.2.2) : HTG) fun _ e =>
   if e.2.2.2.2.1 > 1 then gH1 a b e.2.2.2.1 e.2.1 e.2.2.1 (e.2.2.2.2.1 - 1) e.2.2.2.2.2.1 e.2.2.2.2.2.2 else gH1 a b e.2.2.2.1 e.2.1 e.2.2.1 e.2.2.2.2.1 e.2.2.2.2.2.1 e.2.2.2.2.2.2
  match e.1 with
  | some r => pure (.done (some r, e.2.1, e.2.2.1, e.2.2.2.1, e.2.2.2.2.1))
  | none => do
   setG (e.2.2.2.2.1 + 1)
   pure (.yield (none, e.2.1, e.2.2.1, e.2.2.2.1, e.2.2.2.2.1 + 1))
theorem mHi_eq0 (a b : Array Keyed) : mHi a b = (do
  liftM (rule "list.sort.merge-hi")
  let mut i := a.size - 1
  let mut j := b.size
  let x0 <- elem' a i
  let mut o : Array Keyed := #[x0]
  if i == 0 then return dnH a b o i j
  if j == 1 then return fsH a b o i j
  let mut g := gallopOf (<- get)
  for _ in [0:a.size + b.size] do
   let mut p := 0
   let mut q := 0
   for _ in [0:a.size + b.size] do
    let some c <- lt' (<- elem' b (j - 1)) (<- elem' a (i - 1)) | return dnH a b o i j
    if c then
     i := i - 1
     o := o.push (<- elem' a i)
     p := p + 1
     q := 0
     if i == 0 then return dnH a b o i j
     if p ≥ g then break
    else
     j := j - 1
     o := o.push (<- elem' b j)
     q := q + 1
     p := 0
     if j == 1 then return fsH a b o i j
     if q ≥ g then break
   liftM (rule "list.sort.gallop")
   g := g + 1
   for _ in [0:a.size + b.size] do
    if g > 1 then g := g - 1
    setG g
    let some r <- galV false (<- elem' b (j - 1)) a 0 i (i - 1) | return dnH a b o i j
    let k := i - r
    p := k
    if k > 0 then
     o := o ++ (a.extract r i).reverse
     i := r
     if i == 0 then return dnH a b o i j
    j := j - 1
    o := o.push (<- elem' b j)
    if j == 1 then return fsH a b o i j
    let some r <- galV true (<- elem' a (i - 1)) b 0 j (j - 1) | return dnH a b o i j
    let k := j - r
    q := k
    if k > 0 then
     o := o ++ (b.extract r j).reverse
     j := r
     if j == 1 then return fsH a b o i j
     if j == 0 then return dnH a b o i j
    i := i - 1
    o := o.push (<- elem' a i)
    if i == 0 then return dnH a b o i j
    if p < 7 && q < 7 then break
   g := g + 1
   setG g
  unsupported "internal:list.sort.merge-bound") := rfl
theorem mHi_eq (a b : Array Keyed) : mHi a b = (do
  liftM (rule "list.sort.merge-hi")
  let x0 <- elem' a (a.size - 1)
  if (a.size - 1 == 0) = true then pure (dnH a b #[x0] (a.size - 1) b.size)
  else if (b.size == 1) = true then pure (fsH a b #[x0] (a.size - 1) b.size)
  else do
   let st <- get
   let c <- forIn [0:a.size + b.size] ((none, a.size - 1, b.size, #[x0], gallopOf st) : HTO) fun _ c => outH a b c
   match c.1 with
   | some r => pure r
   | none => unsupported "internal:list.sort.merge-bound") := by
 rw [mHi_eq0]
 congr 1
 funext _u
 dsimp only
 congr 1
 funext x0
 congr 1
 congr 1
 congr 1
 funext st
 congr 1
 ·congr 1
  funext _x c
  unfold outH
  congr 1
  funext d
  obtain ⟨r, d⟩ := d
  cases r with
  | some r => rfl
  | none =>
   dsimp only
   congr 1
   funext _v
   congr 1
   funext e
   obtain ⟨r, e⟩ := e
   cases r <;> rfl
 ·funext c
  obtain ⟨r, c⟩ := c
  cases r <;> rfl
open PySem.W (kas_item kas_cmp)
section
variable {it : Array Keyed}
theorem Xn9 (l : List Nat) : (Fk it l).reverse = Fk it l.reverse := by
 unfold Fk
 rw [List.reverse_toArray, List.map_reverse]
theorem Xha (l : List Nat) (j : Nat) : (Fk it l).extract 0 j = Fk it (l.take j) := by
 rw [Xde, List.drop_zero, Nat.sub_zero]
theorem Fk_chR (l lo : List Nat) (r i : Nat) : Fk it lo.reverse ++ ((Fk it l).extract r i).reverse = Fk it (((l.take i).drop r) ++ lo).reverse := by
 rw [Xde, Xn9, Xc4, List.reverse_append, List.drop_take]
theorem Fk_pR (lo : List Nat) (x : Nat) : (Fk it lo.reverse).push (kas_item it x) = Fk it (x :: lo).reverse := by
 rw [Xf0, List.reverse_cons]
theorem Xir (la lb lo : List Nat) (i j : Nat) : dnH (Fk it la) (Fk it lb) (Fk it lo.reverse) i j = Fk it (la.take i ++ lb.take j ++ lo) := by
 unfold dnH
 rw [Xha, Xha, Xn9, List.reverse_reverse, Xc4, Xc4]
theorem Xk1 (la lb lo : List Nat) (i j : Nat) : fsH (Fk it la) (Fk it lb) (Fk it lo.reverse) i j = Fk it (lb.take j ++ la.take i ++ lo) := by
 unfold fsH
 rw [Xha, Xha, Xn9, List.reverse_reverse, Xc4, Xc4]
end
structure MJ (lt : Nat -> Nat -> Bool) (la lb lo : List Nat) (i j : Nat) : Prop where
 so : lo.Pairwise fun x y => lt x y = true
 pm : lo.Perm (la.drop i ++ lb.drop j)
 ba : ∀ x ∈ la.take i, ∀ y ∈ lo, lt x y = true
 bb : ∀ x ∈ lb.take j, ∀ y ∈ lo, lt x y = true
section
variable {lt : Nat -> Nat -> Bool} {n : Nat} {la lb lo : List Nat} {i j k r : Nat}
theorem Xe7 {l : List Nat} (h : r <= i) : l.take i = l.take r ++ (l.take i).drop r := by
 have := List.take_append_drop r (l.take i)
 rw [List.take_take, Nat.min_eq_left h] at this
 exact this.symm
theorem Xk2 {l : List Nat} (h : r <= i) (hi : i <= l.length) : l.drop r = (l.take i).drop r ++ l.drop i := by
 have e := List.take_append_drop i l
 have := congrArg (List.drop r) e
 rw [List.drop_append_of_le_length (by rw [List.length_take]; omega)] at this
 exact this.symm
theorem MJ.chA (T : Two lt n la lb) (m : MJ lt la lb lo i j) (hr : r <= i) (hi : i <= la.length) (h : ∀ x ∈ lb.take j, ∀ y ∈ (la.take i).drop r, lt x y = true) : MJ lt la lb ((la.take i).drop r ++ lo) r j := by
 have sd := T.sa.sublist (List.take_sublist i la)
 rw [Xe7 hr] at sd
 obtain ⟨s1, s2, s3⟩ := List.pairwise_append.mp sd
 refine ⟨List.pairwise_append.mpr ⟨s2, m.so, fun x hx y hy => m.ba x (List.mem_of_mem_drop hx) y hy⟩, ?_, fun x hx y hy => ?_, fun x hx y hy => ?_⟩
 ·rw [Xk2 hr hi, List.append_assoc]
  exact List.Perm.append_left _ m.pm
 ·rcases List.mem_append.mp hy with z | z
  ·exact s3 x hx y z
  ·exact m.ba x (by rw [Xe7 hr]; exact List.mem_append_left _ hx) y z
 ·rcases List.mem_append.mp hy with z | z
  ·exact h x hx y z
  ·exact m.bb x hx y z
theorem MJ.chB (T : Two lt n la lb) (m : MJ lt la lb lo i j) (hr : r <= j) (hj : j <= lb.length) (h : ∀ x ∈ la.take i, ∀ y ∈ (lb.take j).drop r, lt x y = true) : MJ lt la lb ((lb.take j).drop r ++ lo) i r := by
 have sd := T.sb.sublist (List.take_sublist j lb)
 rw [Xe7 hr] at sd
 obtain ⟨s1, s2, s3⟩ := List.pairwise_append.mp sd
 refine ⟨List.pairwise_append.mpr ⟨s2, m.so, fun x hx y hy => m.bb x (List.mem_of_mem_drop hx) y hy⟩, ?_, fun x hx y hy => ?_, fun x hx y hy => ?_⟩
 ·rw [Xk2 hr hj]
  refine (List.Perm.append_left _ m.pm).trans ?_
  rw [<- List.append_assoc, <- List.append_assoc]
  exact List.perm_append_comm.append_right _
 ·rcases List.mem_append.mp hy with z | z
  ·exact h x hx y z
  ·exact m.ba x hx y z
 ·rcases List.mem_append.mp hy with z | z
  ·exact s3 x hx y z
  ·exact m.bb x (by rw [Xe7 hr]; exact List.mem_append_left _ hx) y z
theorem permH (h : lo.Perm (la.drop i ++ lb.drop j)) : (la.take i ++ lb.take j ++ lo).Perm (la ++ lb) := by
 refine (List.Perm.append_left _ h).trans ?_
 have e : la ++ lb = la.take i ++ (la.drop i ++ (lb.take j ++ lb.drop j)) := by rw [List.take_append_drop, <- List.append_assoc, List.take_append_drop]
 rw [e, List.append_assoc]
 refine List.Perm.append_left _ ?_
 rw [<- List.append_assoc, <- List.append_assoc]
 exact List.perm_append_comm.append_right _
theorem MJ.endD (T : Two lt n la lb) (m : MJ lt la lb lo i j) (h : ∀ x ∈ la.take i, ∀ y ∈ lb.take j, lt x y = true) : Mrg lt la lb (la.take i ++ lb.take j ++ lo) := by
 refine ⟨permH m.pm, List.pairwise_append.mpr ⟨List.pairwise_append.mpr ⟨T.sa.sublist (List.take_sublist ..), T.sb.sublist (List.take_sublist ..), h⟩, m.so, fun x hx y hy => ?_⟩⟩
 rcases List.mem_append.mp hx with z | z
 ·exact m.ba x z y hy
 ·exact m.bb x z y hy
theorem MJ.endF (T : Two lt n la lb) (m : MJ lt la lb lo i j) (h : ∀ x ∈ lb.take j, ∀ y ∈ la.take i, lt x y = true) : Mrg lt la lb (lb.take j ++ la.take i ++ lo) := by
 refine ⟨?_, List.pairwise_append.mpr ⟨List.pairwise_append.mpr ⟨T.sb.sublist (List.take_sublist ..), T.sa.sublist (List.take_sublist ..), h⟩, m.so, fun x hx y hy => ?_⟩⟩
 ·refine List.Perm.trans ?_ (permH m.pm)
  exact List.perm_append_comm.append_right _
 ·rcases List.mem_append.mp hx with z | z
  ·exact m.bb x z y hy
  ·exact m.ba x z y hy
theorem Xoa {l : List Nat} (L : Lin n lt) (so : l.Pairwise fun x y => lt x y = true) (hi : 1 <= i) (hl : i <= l.length) {x : Nat} (h : lt (l.getD (i - 1) 0) x = true) : ∀ y ∈ l.take i, lt y x = true := by
 intro y hy
 obtain ⟨t, ht, e⟩ := List.mem_iff_getElem.mp hy
 rw [List.length_take] at ht
 rw [List.getElem_take] at e
 have htl : t < l.length := by omega
 have ey : y = l.getD t 0 := by rw [<- e, List.getD_eq_getElem?_getD, List.getElem?_eq_getElem htl]; rfl
 by_cases z : t = i - 1
 ·rw [ey, z]; exact h
 ·rw [ey]
  exact L.tr _ _ _ (Xel so (by omega) (by omega)) h
theorem Xbl {l : List Nat} (h1 : 1 <= i) (h : i <= l.length) : (l.take i).drop (i - 1) = [l.getD (i - 1) 0] := by
 rw [List.drop_take, show i - (i - 1) = 1 by omega]
 exact Xbe (by omega)
theorem Xj4 {l : List Nat} {x : Nat} (h : x ∈ (l.take i).drop r) (hi : i <= l.length) : ∃ t, r <= t /\ t < i /\ x = l.getD t 0 := by
 rw [List.drop_take] at h
 obtain ⟨t, h1, h2, e⟩ := Xa1 h
 exact ⟨r + t, by omega, by omega, e⟩
theorem Xf1 {l : List Nat} {x : Nat} (h : x ∈ l.take i) (hi : i <= l.length) : ∃ t, t < i /\ x = l.getD t 0 := by
 obtain ⟨t, _, h2, e⟩ := Xj4 (r := 0) (by rw [List.drop_zero]; exact h) hi
 exact ⟨t, h2, e⟩
end
def RsH {τ : Type} (it : Array Keyed) (lt : Nat -> Nat -> Bool) (la lb : List Nat) (c : Option (Array Keyed) × τ) : Prop := ∃ res, c.1 = some (Fk it res) /\ Mrg lt la lb res
def NxH {τ : Type} (it : Array Keyed) (lt : Nat -> Nat -> Bool) (la lb : List Nat) (m : Nat) (c : Option (Array Keyed) × Nat × Nat × Array Keyed × τ) : Prop := ∃ lo i j t, c = (none, i, j, Fk it lo.reverse, t) /\ MJ lt la lb lo i j /\ 1 <= i /\ 2 <= j /\ i <= la.length /\ j <= lb.length /\ i + j < m
def StH {τ : Type} (it : Array Keyed) (lt : Nat -> Nat -> Bool) (la lb : List Nat) (m : Nat) (r : ForInStep (Option (Array Keyed) × Nat × Nat × Array Keyed × τ)) : Prop := match r with
 | .done c => RsH it lt la lb c \/ NxH it lt la lb m c
 | .yield c => NxH it lt la lb m c
def SuH {τ : Type} (it : Array Keyed) (lt : Nat -> Nat -> Bool) (la lb : List Nat) (m : Nat) (r : ForInStep (Option (Array Keyed) × Nat × Nat × Array Keyed × τ)) : Prop := match r with
 | .done c => RsH it lt la lb c
 | .yield c => NxH it lt la lb m c
theorem NxH.mono {τ : Type} {it : Array Keyed} {lt : Nat -> Nat -> Bool} {la lb : List Nat} {m m' : Nat} {c : Option (Array Keyed) × Nat × Nat × Array Keyed × τ} (h : NxH it lt la lb m c) (hm : m <= m') : NxH it lt la lb m' c := by
 obtain ⟨lo, i, j, t, e, a1, a2, a3, a4, a5, a6⟩ := h
 exact ⟨lo, i, j, t, e, a1, a2, a3, a4, a5, by omega⟩
section
variable {prog : Program} {w : World} {A : Around} {E : Value -> Shared -> Prop} {s : Shared} {κ : SortKind} {it : Array Keyed} {n : Nat} {lt : Nat -> Nat -> Bool} {la lb lo : List Nat} {i j k g p q : Nat} {st0 st : SortSt}
theorem wS_oneH (hc : CmS prog w A s κ it n lt) (T : Two lt n la lb) (bot : ∀ y ∈ la, lt (lb.getD 0 0) y = true) (hk : kindOf st0 = κ) (sg : SG st0 st) (m : MJ lt la lb lo i j) (hi : 1 <= i) (hj : 2 <= j) (ha : i <= la.length) (hb : j <= lb.length)
  {Q : ForInStep HTI -> SortSt -> Prop} (h : ∀ r, StH it lt la lb (i + j) r -> Q r st) : wpS (model prog w) A E s (oneH (Fk it la) (Fk it lb) g (none, i, j, Fk it lo.reverse, p, q)) Q st := by
 unfold oneH
 dsimp only
 have ea := Xaj (show i - 1 < la.length by omega)
 have eb := Xaj (show j - 1 < lb.length by omega)
 have ma := Xaw (show i - 1 < la.length by omega)
 have mb := Xaw (show j - 1 < lb.length by omega)
 refine wpS_bind (Xbz eb (wpS_bind (Xbz ea (wpS_bind (Xn8 hc (T.bn _ mb) (T.an _ ma) (sg.k.trans hk) ?_)))))
 dsimp only
 cases c : lt (lb.getD (j - 1) 0) (la.getD (i - 1) 0) with
 | true =>
  rw [if_pos rfl]
  refine wpS_bind (Xbz ea ?_)
  rw [Fk_pR, Xir]
  have m' := MJ.chA (r := i - 1) T m (by omega) ha (by rw [Xbl hi ha]; intro x hx y hy; rw [List.mem_singleton.mp hy]; exact Xoa T.L T.sb (by omega) hb c x hx)
  rw [Xbl hi ha] at m'
  by_cases e : (i - 1 == 0) = true
  ·rw [if_pos e]
   have e' : i - 1 = 0 := by simpa using e
   exact wpS_pure (h _ (.inl ⟨_, rfl, m'.endD T (by rw [e']; intro _ hx; simp at hx)⟩))
  ·rw [if_neg e]
   have e' : i - 1 ≠ 0 := by simpa using e
   by_cases e2 : p + 1 ≥ g
   ·rw [if_pos e2]
    exact wpS_pure (h _ (.inr ⟨_, _, _, _, rfl, m', by omega, hj, by omega, hb, by omega⟩))
   ·rw [if_neg e2]
    exact wpS_pure (h _ ⟨_, _, _, _, rfl, m', by omega, hj, by omega, hb, by omega⟩)
 | false =>
  rw [if_neg (by decide)]
  have c' := T.flip ma mb c
  refine wpS_bind (Xbz eb ?_)
  rw [Fk_pR, Xk1]
  have m' := MJ.chB (r := j - 1) T m (by omega) hb (by rw [Xbl (by omega) hb]; intro x hx y hy; rw [List.mem_singleton.mp hy]; exact Xoa T.L T.sa hi ha c' x hx)
  rw [Xbl (by omega) hb] at m'
  by_cases e : (j - 1 == 1) = true
  ·rw [if_pos e]
   have e' : j - 1 = 1 := by simpa using e
   refine wpS_pure (h _ (.inl ⟨_, rfl, m'.endF T fun x hx y hy => ?_⟩))
   obtain ⟨t, ht, rfl⟩ := Xf1 hx (by omega)
   rw [show t = 0 by omega]
   exact bot y (List.mem_of_mem_take hy)
  ·rw [if_neg e]
   have e' : j - 1 ≠ 1 := by simpa using e
   by_cases e2 : q + 1 ≥ g
   ·rw [if_pos e2]
    exact wpS_pure (h _ (.inr ⟨_, _, _, _, rfl, m', hi, by omega, ha, by omega, by omega⟩))
   ·rw [if_neg e2]
    exact wpS_pure (h _ ⟨_, _, _, _, rfl, m', hi, by omega, ha, by omega, by omega⟩)
theorem wS_gH3 (T : Two lt n la lb) (m : MJ lt la lb lo i j) (hi : 1 <= i) (hj : 2 <= j) (ha : i <= la.length) (hb : j <= lb.length) (c : ∀ x ∈ lb.take j, lt x (la.getD (i - 1) 0) = true) {m0 : Nat} (hm : i + j <= m0)
  {Q : ForInStep HTG -> SortSt -> Prop} (h : ∀ r, StH it lt la lb m0 r -> Q r st) : wpS (model prog w) A E s (gH3 (Fk it la) (Fk it lb) (Fk it lo.reverse) i j g p q) Q st := by
 unfold gH3
 refine wpS_bind (Xbz (Xaj (show i - 1 < la.length by omega)) ?_)
 rw [Fk_pR, Xir]
 have m' := MJ.chA (r := i - 1) T m (by omega) ha (by rw [Xbl hi ha]; intro x hx y hy; rw [List.mem_singleton.mp hy]; exact c x hx)
 rw [Xbl hi ha] at m'
 by_cases e : (i - 1 == 0) = true
 ·rw [if_pos e]
  have e' : i - 1 = 0 := by simpa using e
  exact wpS_pure (h _ (.inl ⟨_, rfl, m'.endD T (by rw [e']; intro _ hx; simp at hx)⟩))
 ·rw [if_neg e]
  have e' : i - 1 ≠ 0 := by simpa using e
  by_cases e2 : (decide (p < 7) && decide (q < 7)) = true
  ·rw [if_pos e2]
   exact wpS_pure (h _ (.inr ⟨_, _, _, _, rfl, m', by omega, hj, by omega, hb, by omega⟩))
  ·rw [if_neg e2]
   exact wpS_pure (h _ ⟨_, _, _, _, rfl, m', by omega, hj, by omega, hb, by omega⟩)
theorem wS_gH2 (hc : CmS prog w A s κ it n lt) (T : Two lt n la lb) (bot : ∀ y ∈ la, lt (lb.getD 0 0) y = true) (hk : kindOf st0 = κ) (sg : SG st0 st) (m : MJ lt la lb lo i j) (hi : 1 <= i) (hj : 2 <= j) (ha : i <= la.length) (hb : j <= lb.length) (c : lt (la.getD (i - 1) 0) (lb.getD (j - 1) 0) = true) {m0 : Nat} (hm : i + j <= m0)
  {Q : ForInStep HTG -> SortSt -> Prop} (h : ∀ r, StH it lt la lb m0 r -> Q r st) : wpS (model prog w) A E s (gH2 (Fk it la) (Fk it lb) (Fk it lo.reverse) i j g p q) Q st := by
 unfold gH2
 have ea := Xaj (show i - 1 < la.length by omega)
 have ma := Xaw (show i - 1 < la.length by omega)
 refine wpS_bind (Xbz (Xaj (show j - 1 < lb.length by omega)) ?_)
 rw [Fk_pR, Xk1]
 have m' := MJ.chB (r := j - 1) T m (by omega) hb (by rw [Xbl (by omega) hb]; intro x hx y hy; rw [List.mem_singleton.mp hy]; exact Xoa T.L T.sa hi ha c x hx)
 rw [Xbl (by omega) hb] at m'
 by_cases e : (j - 1 == 1) = true
 ·rw [if_pos e]
  have e' : j - 1 = 1 := by simpa using e
  refine wpS_pure (h _ (.inl ⟨_, rfl, m'.endF T fun x hx y hy => ?_⟩))
  obtain ⟨t, ht, rfl⟩ := Xf1 hx (by omega)
  rw [show t = 0 by omega]
  exact bot y (List.mem_of_mem_take hy)
 rw [if_neg e]
 have e' : j - 1 ≠ 1 := by simpa using e
 refine wpS_bind (Xbz ea ?_)
 refine wpS_bind (Xgd (P := fun t => lt (lb.getD t 0) (la.getD (i - 1) 0)) ⟨fun a b hab hb' e => ?_⟩ (by omega) (fun t ht Q' hq => ?_) fun r hr hlo hhi => ?_)
 ·exact T.L.tr _ _ _ (Xel T.sb hab (by omega)) e
 ·rw [Nat.zero_add]
  exact Xgc hc (Xaj (by omega)) (T.bn _ (Xaw (by omega))) (T.an _ ma) (sg.k.trans hk) (left := true) hq
 dsimp only
 have below : ∀ z ≤ r, ∀ x ∈ lb.take z, lt x (la.getD (i - 1) 0) = true := fun z hz x hx => by
  obtain ⟨t, ht, rfl⟩ := Xf1 hx (by omega)
  exact hlo t (by omega)
 by_cases hr0 : j - 1 - r > 0
 ·rw [if_pos hr0, Fk_chR, Xir, Xk1]
  have m2 := MJ.chB (r := r) T m' hr (by omega) (fun x hx y hy => by
   obtain ⟨t, h1, h2, rfl⟩ := Xj4 hy (by omega)
   exact Xoa T.L T.sa hi ha (T.flip ma (Xaw (by omega)) (hhi t h1 h2)) x hx)
  by_cases e3 : (r == 1) = true
  ·rw [if_pos e3]
   have e3' : r = 1 := by simpa using e3
   refine wpS_pure (h _ (.inl ⟨_, rfl, m2.endF T fun x hx y hy => ?_⟩))
   obtain ⟨t, ht, rfl⟩ := Xf1 hx (by omega)
   rw [show t = 0 by omega]
   exact bot y (List.mem_of_mem_take hy)
  ·rw [if_neg e3]
   have e3' : r ≠ 1 := by simpa using e3
   by_cases e4 : (r == 0) = true
   ·rw [if_pos e4]
    have e4' : r = 0 := by simpa using e4
    exact wpS_pure (h _ (.inl ⟨_, rfl, m2.endD T (by rw [e4']; intro _ _ y hy; simp at hy)⟩))
   ·rw [if_neg e4]
    have e4' : r ≠ 0 := by simpa using e4
    exact wS_gH3 T m2 hi (by omega) ha (by omega) (below r (Nat.le_refl _)) (by omega) h
 ·rw [if_neg hr0]
  exact wS_gH3 T m' hi (by omega) ha (by omega) (below (j - 1) (by omega)) (by omega) h
theorem wS_gH1 (hc : CmS prog w A s κ it n lt) (T : Two lt n la lb) (bot : ∀ y ∈ la, lt (lb.getD 0 0) y = true) (hk : kindOf st0 = κ) (sg : SG st0 st) (m : MJ lt la lb lo i j) (hi : 1 <= i) (hj : 2 <= j) (ha : i <= la.length) (hb : j <= lb.length)
  {Q : ForInStep HTG -> SortSt -> Prop} (h : ∀ r st', SG st0 st' -> StH it lt la lb (i + j) r -> Q r st') : wpS (model prog w) A E s (gH1 (Fk it la) (Fk it lb) (Fk it lo.reverse) i j g p q) Q st := by
 unfold gH1
 refine wpS_bind (wS_setG sg fun st' sg' => ?_)
 have eb := Xaj (show j - 1 < lb.length by omega)
 have mb := Xaw (show j - 1 < lb.length by omega)
 refine wpS_bind (Xbz eb ?_)
 refine wpS_bind (Xgd (P := fun t => !lt (lb.getD (j - 1) 0) (la.getD t 0)) ⟨fun a b hab hb' e => ?_⟩ (by omega) (fun t ht Q' hq => ?_) fun r hr hlo hhi => ?_)
 ·have e : lt (lb.getD (j - 1) 0) (la.getD b 0) = false := by simpa using e
  cases q : lt (lb.getD (j - 1) 0) (la.getD a 0) with
  | false => rfl
  | true =>
   have := T.L.tr _ _ _ q (Xel T.sa hab (by omega))
   rw [this] at e
   cases e
 ·rw [Nat.zero_add]
  exact Xgc hc (Xaj (by omega)) (T.an _ (Xaw (by omega))) (T.bn _ mb) (sg'.k.trans hk) (left := false) hq
 dsimp only
 have last : 1 <= r -> lt (la.getD (r - 1) 0) (lb.getD (j - 1) 0) = true := fun h1 => by
  have := hlo (r - 1) (by omega)
  exact T.flip (Xaw (by omega)) mb (by simpa using this)
 by_cases hr0 : i - r > 0
 ·rw [if_pos hr0, Fk_chR, Xir]
  have m2 := MJ.chA (r := r) T m hr ha (fun x hx y hy => by
   obtain ⟨t, h1, h2, rfl⟩ := Xj4 hy (by omega)
   have := hhi t h1 h2
   exact Xoa T.L T.sb (by omega) hb (by simpa using this) x hx)
  by_cases e3 : (r == 0) = true
  ·rw [if_pos e3]
   have e3' : r = 0 := by simpa using e3
   exact wpS_pure (h _ _ sg' (.inl ⟨_, rfl, m2.endD T (by rw [e3']; intro _ hx; simp at hx)⟩))
  ·rw [if_neg e3]
   have e3' : r ≠ 0 := by simpa using e3
   exact wS_gH2 hc T bot hk sg' m2 (by omega) hj (by omega) hb (last (by omega)) (by omega) fun r' hr' => h r' _ sg' hr'
 ·rw [if_neg hr0]
  have : r = i := by omega
  subst this
  exact wS_gH2 hc T bot hk sg' m hi hj ha hb (last hi) (Nat.le_refl _) fun r' hr' => h r' _ sg' hr'
theorem wS_outH (hc : CmS prog w A s κ it n lt) (T : Two lt n la lb) (bot : ∀ y ∈ la, lt (lb.getD 0 0) y = true) (hk : kindOf st0 = κ) (sg : SG st0 st) (m : MJ lt la lb lo i j) (hi : 1 <= i) (hj : 2 <= j) (ha : i <= la.length) (hb : j <= lb.length)
  {Q : ForInStep HTO -> SortSt -> Prop} (h : ∀ r st', SG st0 st' -> SuH it lt la lb (i + j) r -> Q r st') : wpS (model prog w) A E s (outH (Fk it la) (Fk it lb) (none, i, j, Fk it lo.reverse, g)) Q st := by
 unfold outH
 dsimp only
 rw [Xa0, Xa0]
 refine wpS_bind (wpS_mono (wpS_forRange (I := fun x c st' => SG st0 st' /\ NxH it lt la lb (i + j + 1 - x) c) (Q := fun c st' => SG st0 st' /\ (RsH it lt la lb c \/ NxH it lt la lb (i + j) c)) ?step ?fin ⟨sg, lo, i, j, _, rfl, m, hi, hj, ha, hb, by omega⟩) ?post)
 case fin =>
  rintro c st' ⟨sg', z⟩
  exact ⟨sg', .inr (z.mono (by omega))⟩
 case step =>
  rintro x c st' _ hx ⟨sg', lo', i', j', t, rfl, m', h1, h2, h3, h4, h5⟩
  refine wS_oneH hc T bot hk sg' m' h1 h2 h3 h4 fun r hr => ?_
  cases r with
  | done c =>
   rcases hr with z | z
   ·exact ⟨sg', .inl z⟩
   ·exact ⟨sg', .inr (z.mono (by omega))⟩
  | yield c => exact ⟨sg', NxH.mono hr (by omega)⟩
 case post =>
  rintro ⟨r, i1, j1, o1, p1, q1⟩ st1 ⟨sg1, z⟩
  rcases z with ⟨res, e, mr⟩ | ⟨lo1, i2, j2, t, e, m1, a1, a2, a3, a4, a5⟩
  ·obtain rfl : r = some (Fk it res) := e
   exact wpS_pure (h _ _ sg1 ⟨res, rfl, mr⟩)
  ·cases e
   dsimp only
   refine wpS_bind (wpS_lift (wpAny_rule ⟨rfl, ?_⟩))
   refine wpS_bind (wpS_mono (wpS_forRange (I := fun x c st' => SG st0 st' /\ NxH it lt la lb (i + j) c) (Q := fun c st' => SG st0 st' /\ (RsH it lt la lb c \/ NxH it lt la lb (i + j) c)) ?step ?fin ⟨sg1, lo1, i1, j1, _, rfl, m1, a1, a2, a3, a4, a5⟩) ?post)
   case fin => exact fun c st' z => ⟨z.1, .inr z.2⟩
   case step =>
    rintro x c st' _ hx ⟨sg', lo', i', j', ⟨g', p', q'⟩, rfl, m', h1, h2, h3, h4, h5⟩
    dsimp only
    have go : ∀ (r : ForInStep HTG) st'', SG st0 st'' -> StH it lt la lb (i' + j') r -> (match r with
     | .done c' => SG st0 st'' /\ (RsH it lt la lb c' \/ NxH it lt la lb (i + j) c')
     | .yield c' => SG st0 st'' /\ NxH it lt la lb (i + j) c') := fun r st'' sg'' hr => by
     cases r with
     | done c =>
      rcases hr with z | z
      ·exact ⟨sg'', .inl z⟩
      ·exact ⟨sg'', .inr (z.mono (by omega))⟩
     | yield c => exact ⟨sg'', NxH.mono hr (by omega)⟩
    by_cases e : g' > 1
    ·rw [if_pos e]
     exact wS_gH1 hc T bot hk sg' m' h1 h2 h3 h4 fun r st'' s1 s2 => by have := go r st'' s1 s2; cases r <;> exact this
    ·rw [if_neg e]
     exact wS_gH1 hc T bot hk sg' m' h1 h2 h3 h4 fun r st'' s1 s2 => by have := go r st'' s1 s2; cases r <;> exact this
   case post =>
    rintro ⟨r, i2, j2, o2, g2, p2, q2⟩ st2 ⟨sg2, z⟩
    rcases z with ⟨res, e, mr⟩ | ⟨lo2, i3, j3, t, e, m2, b1, b2, b3, b4, b5⟩
    ·obtain rfl : r = some (Fk it res) := e
     exact wpS_pure (h _ _ sg2 ⟨res, rfl, mr⟩)
    ·cases e
     dsimp only
     exact wpS_bind (wS_setG sg2 fun st3 sg3 => wpS_pure (h _ _ sg3 ⟨lo2, i2, j2, _, rfl, m2, b1, b2, b3, b4, b5⟩))
theorem wS_mHi (hc : CmS prog w A s κ it n lt) (T : Two lt n la lb) (ha : 1 <= la.length) (hb : 1 <= lb.length) (bot : ∀ y ∈ la, lt (lb.getD 0 0) y = true) (top : ∀ x ∈ lb, lt x (la.getD (la.length - 1) 0) = true)
  (hk : kindOf st = κ) {Q : Array Keyed -> SortSt -> Prop} (h : ∀ res st', Mrg lt la lb res -> SG st st' -> Q (Fk it res) st') : wpS (model prog w) A E s (mHi (Fk it la) (Fk it lb)) Q st := by
 rw [mHi_eq]
 have sg0 : SG st st := ⟨rfl, rfl, rfl, rfl⟩
 refine wpS_bind (wpS_lift (wpAny_rule ⟨rfl, ?_⟩))
 rw [Xa0, Xa0]
 refine wpS_bind (Xbz (Xaj (show la.length - 1 < la.length by omega)) ?_)
 have e0 : (#[kas_item it (la.getD (la.length - 1) 0)] : Array Keyed) = Fk it [la.getD (la.length - 1) 0].reverse := rfl
 rw [e0, Xir, Xk1]
 have mn : MJ lt la lb [] la.length lb.length := ⟨.nil, by rw [List.drop_eq_nil_of_le (Nat.le_refl _), List.drop_eq_nil_of_le (Nat.le_refl _)]; exact .nil, fun _ _ _ h => (nomatch h), fun _ _ _ h => (nomatch h)⟩
 have m1 := MJ.chA (r := la.length - 1) T mn (by omega) (Nat.le_refl _) (by rw [Xbl ha (Nat.le_refl _)]; intro x hx y hy; rw [List.mem_singleton.mp hy]; exact top x (List.mem_of_mem_take hx))
 rw [Xbl ha (Nat.le_refl _), List.append_nil] at m1
 by_cases e1 : (la.length - 1 == 0) = true
 ·rw [if_pos e1]
  have e1' : la.length - 1 = 0 := by simpa using e1
  exact wpS_pure (h _ _ (m1.endD T (by rw [e1']; intro _ hx; simp at hx)) sg0)
 rw [if_neg e1]
 have e1' : la.length - 1 ≠ 0 := by simpa using e1
 by_cases e2 : (lb.length == 1) = true
 ·rw [if_pos e2]
  have e2' : lb.length = 1 := by simpa using e2
  refine wpS_pure (h _ _ (m1.endF T fun x hx y hy => ?_) sg0)
  obtain ⟨t, ht, rfl⟩ := Xf1 hx (Nat.le_refl _)
  rw [show t = 0 by omega]
  exact bot y (List.mem_of_mem_take hy)
 rw [if_neg e2]
 have e2' : lb.length ≠ 1 := by simpa using e2
 refine wpS_bind (wpS_get ?_)
 refine wpS_bind (wpS_mono (wpS_forRange (I := fun x c st' => SG st st' /\ NxH it lt la lb (la.length + lb.length - x) c) (Q := fun c st' => SG st st' /\ RsH it lt la lb c) ?step ?fin ⟨sg0, _, _, _, _, rfl, m1, by omega, by omega, by omega, by omega, by omega⟩) ?post)
 case fin =>
  rintro c st' ⟨sg', lo', i', j', t, rfl, m', h1, h2, h3, h4, h5⟩
  omega
 case step =>
  rintro x c st' _ hx ⟨sg', lo', i', j', t, rfl, m', h1, h2, h3, h4, h5⟩
  refine wS_outH hc T bot hk sg' m' h1 h2 h3 h4 fun r st'' sg'' hr => ?_
  cases r with
  | done c => exact ⟨sg'', hr⟩
  | yield c => exact ⟨sg'', NxH.mono hr (by omega)⟩
 case post =>
  rintro ⟨r, o2, i2, j2, g2⟩ st2 ⟨sg2, res, e, mr⟩
  obtain rfl : r = some (Fk it res) := e
  exact wpS_pure (h res _ mr sg2)
end
open PySem.W (kas_item kas_cmp kas_swaps_map)
def SoL (lt : Nat -> Nat -> Bool) (l : List Nat) (u v : Nat) : Prop := ∀ i j, u <= i -> i < j -> j < v -> lt (l.getD i 0) (l.getD j 0) = true
def DeL (lt : Nat -> Nat -> Bool) (l : List Nat) (u v : Nat) : Prop := ∀ i j, u <= i -> i < j -> j < v -> lt (l.getD j 0) (l.getD i 0) = true
structure SA (κ : SortKind) (it : Array Keyed) (pd : Array (Nat × Nat × Nat)) (l : List Nat) (st : SortSt) : Prop where
 k : kindOf st = κ
 a : arrOf st = Fk it l
 f : failedOf st = none
 p : pendingOf st = pd
section
variable {κ : SortKind} {it : Array Keyed} {pd : Array (Nat × Nat × Nat)} {l : List Nat} {st : SortSt}
theorem Xge : Fk it l = l.toArray.map (kas_item it) := by
 unfold Fk
 rw [List.map_toArray]
theorem Xd5 (l : List Nat) (k : Nat) : l.getD k 0 = (l.toArray[k]?).getD 0 := by
 rw [List.getElem?_toArray, List.getD_eq_getElem?_getD]
theorem Xk3 (p : Array Nat) (k : Nat) : p.toList.getD k 0 = (p[k]?).getD 0 := by
 rw [List.getD_eq_getElem?_getD, Array.getElem?_toList]
theorem rev_ex (hst : SA κ it pd l st) {i j : Nat} (hj : j <= l.length) : ∃ l', SA κ it pd l' (setArr st (mirror (arrOf st) i j ((j - i) / 2))) /\ l'.Perm l /\ ∀ k, l'.getD k 0 = if i <= k /\ k < j then l.getD (i + j - 1 - k) 0 else l.getD k 0 := by
 refine ⟨(mirror l.toArray i j ((j - i) / 2)).toList, ⟨hst.k, ?_, hst.f, hst.p⟩, ?_, fun k => ?_⟩
 ·show mirror (arrOf st) i j ((j - i) / 2) = _
  rw [hst.a, Xge, Xge]
  exact kas_swaps_map (kas_item it) (fun k => i + k) (fun k => j - 1 - k) _ l.toArray
 ·have := (mirror_perm l.toArray i j ((j - i) / 2)).toList
  simpa using this
 ·rw [Xk3, getElem?_mirror_all (by simpa using hj)]
  split <;> rw [Xd5]
theorem mov_ex (hst : SA κ it pd l st) {k d : Nat} (hk : k < l.length) (hd : d <= k) : ∃ l', SA κ it pd l' (setArr st (bubble (arrOf st) k (k - d))) /\ l'.Perm l /\ ∀ i, l'.getD i 0 = if i = d then l.getD k 0 else if d < i /\ i <= k then l.getD (i - 1) 0 else l.getD i 0 := by
 refine ⟨(bubble l.toArray k (k - d)).toList, ⟨hst.k, ?_, hst.f, hst.p⟩, ?_, fun i => ?_⟩
 ·show bubble (arrOf st) k (k - d) = _
  rw [hst.a, Xge, Xge]
  exact kas_swaps_map (kas_item it) (fun i => k - i) (fun i => k - i - 1) _ l.toArray
 ·have := (bubble_perm l.toArray k (k - d)).toList
  simpa using this
 ·rw [Xk3, getElem?_bubble (by simpa using hk) _ (by omega), show k - (k - d) = d by omega]
  split
  ·rw [Xd5]
  ·split <;> rw [Xd5]
end
section
variable {prog : Program} {w : World} {A : Around} {E : Value -> Shared -> Prop} {s : Shared} {κ : SortKind} {it : Array Keyed} {n : Nat} {lt : Nat -> Nat -> Bool} {pd : Array (Nat × Nat × Nat)} {l : List Nat} {st : SortSt}
structure Al (n : Nat) (l : List Nat) : Prop where
 pm : l.Perm (List.range n)
theorem Al.len (h : Al n l) : l.length = n := by rw [h.pm.length_eq, List.length_range]
theorem Al.ltn (h : Al n l) {i : Nat} (hi : i < n) : l.getD i 0 < n := List.mem_range.mp (h.pm.mem_iff.mp (Xaw (by rw [h.len]; exact hi)))
theorem Al.nd (h : Al n l) : l.Nodup := h.pm.nodup_iff.mpr List.nodup_range
theorem Al.ne (h : Al n l) {i j : Nat} (hi : i < n) (hj : j < n) (ne : i ≠ j) : l.getD i 0 ≠ l.getD j 0 := fun e => by
 have hl := h.len
 have e1 : l.getD i 0 = l[i]'(by omega) := by rw [List.getD_eq_getElem?_getD, List.getElem?_eq_getElem (by omega)]; rfl
 have e2 : l.getD j 0 = l[j]'(by omega) := by rw [List.getD_eq_getElem?_getD, List.getElem?_eq_getElem (by omega)]; rfl
 rw [e1, e2] at e
 exact ne ((List.getElem_inj h.nd).mp e)
theorem Al.flip (L : Lin n lt) (h : Al n l) {i j : Nat} (hi : i < n) (hj : j < n) (ne : i ≠ j) (e : lt (l.getD i 0) (l.getD j 0) = false) : lt (l.getD j 0) (l.getD i 0) = true := by
 rcases L.tot _ _ (h.ltn hi) (h.ltn hj) (h.ne hi hj ne) with z | z
 ·rw [z] at e; cases e
 ·exact z
theorem Xlv (hc : CmS prog w A s κ it n lt) (hst : SA κ it pd l st) (al : Al n l) {i j : Nat} (hi : i < n) (hj : j < n) {Q : Option Bool -> SortSt -> Prop} (h : Q (some (lt (l.getD i 0) (l.getD j 0))) st) : wpS (model prog w) A E s (ltAt' i j) Q st := by
 rw [ltAt'_eq]
 refine wpS_bind (wpS_get ?_)
 show wpS _ _ _ _ (do let x <- elem' (arrOf st) i; let y <- elem' (arrOf st) j; lt' x y) Q st
 rw [hst.a]
 have hl := al.len
 exact wpS_bind (Xbz (Xaj (by omega)) (wpS_bind (Xbz (Xaj (by omega)) (Xn8 hc (al.ltn hi) (al.ltn hj) hst.k h))))
theorem Xob (L : Lin n lt) {u v : Nat} (so : SoL lt l u v) (huv : u < v) (h : lt (l.getD (v - 1) 0) (l.getD v 0) = true) : SoL lt l u (v + 1) := fun i j h1 h2 h3 => by
 by_cases e : j < v
 ·exact so i j h1 h2 e
 ·have : j = v := by omega
  subst this
  by_cases z : i = j - 1
  ·rw [z]; exact h
  ·exact L.tr _ _ _ (so i (j - 1) h1 (by omega) (by omega)) h
theorem Xoc (L : Lin n lt) {u v : Nat} (so : DeL lt l u v) (huv : u < v) (h : lt (l.getD v 0) (l.getD (v - 1) 0) = true) : DeL lt l u (v + 1) := fun i j h1 h2 h3 => by
 by_cases e : j < v
 ·exact so i j h1 h2 e
 ·have : j = v := by omega
  subst this
  by_cases z : i = j - 1
  ·rw [z]; exact h
  ·exact L.tr _ _ _ h (so i (j - 1) h1 (by omega) (by omega))
theorem Xk4 (hc : CmS prog w A s κ it n lt) (hst : SA κ it pd l st) (al : Al n l) {lo r : Nat} (hr : 1 <= r) (hn : lo + r = n)
  {Q : Option Nat -> SortSt -> Prop} (h : ∀ m l' st', SA κ it pd l' st' -> l'.Perm l -> 1 <= m -> m <= r -> SoL lt l' lo (lo + m) -> (∀ i, i < lo -> l'.getD i 0 = l.getD i 0) -> Q (some m) st') : wpS (model prog w) A E s (countRun' lo r) Q st := by
 have L := hc.L
 have hl := al.len
 rw [countRun'_eq]
 refine wpS_bind (wpS_mono (wpS_forRange (I := fun x c st' => st = st' /\ c = (none, x) /\ SoL lt l lo (lo + x)) (Q := fun c st' => st = st' /\ ∃ m, c = (none, m) /\ 1 <= m /\ m <= r /\ SoL lt l lo (lo + m) /\ (m < r -> lt (l.getD (lo + m) 0) (l.getD (lo + m - 1) 0) = true)) ?step ?fin ⟨rfl, rfl, fun i j h1 h2 h3 => by omega⟩) ?post)
 case fin =>
  rintro c st' ⟨rfl, rfl, so⟩
  exact ⟨rfl, _, rfl, by omega, by omega, so, fun z => by omega⟩
 case step =>
  rintro x c st' hx1 hx ⟨rfl, rfl, so⟩
  dsimp only
  refine wpS_bind (Xlv hc hst al (by omega) (by omega) ?_)
  dsimp only
  cases e : lt (l.getD (lo + x) 0) (l.getD (lo + x - 1) 0) with
  | true =>
   rw [if_pos rfl]
   exact wpS_pure ⟨rfl, x, rfl, hx1, by omega, so, fun _ => e⟩
  | false =>
   rw [if_neg (by decide)]
   exact wpS_pure ⟨rfl, rfl, Xob (v := lo + x) L so (by omega) (al.flip L (by omega) (by omega) (by omega) e)⟩
 case post =>
  rintro c st' ⟨rfl, m, rfl, m1, m2, so, nx⟩
  dsimp only
  by_cases e1 : (m == r) = true
  ·rw [if_pos e1]
   exact wpS_pure (h m l _ hst (.refl _) m1 m2 so fun _ _ => rfl)
  rw [if_neg e1]
  have e1' : m ≠ r := by simpa using e1
  by_cases e2 : m > 1
  ·rw [if_pos e2]
   refine wpS_bind (Xlv hc hst al (by omega) (by omega) ?_)
   dsimp only
   rw [so lo (lo + m - 1) (Nat.le_refl _) (by omega) (by omega), if_pos rfl]
   exact wpS_pure (h m l _ hst (.refl _) m1 m2 so fun _ _ => rfl)
  rw [if_neg e2]
  obtain rfl : m = 1 := by omega
  have nx := nx (by omega)
  refine wpS_bind (wpS_lift (wpAny_rule ⟨rfl, ?_⟩))
  refine wpS_bind (wpS_mono (wpS_forRange (I := fun x c st' => st = st' /\ c = (none, x, 0) /\ DeL lt l lo (lo + x)) (Q := fun c st' => st = st' /\ ∃ m, c = (none, m, 0) /\ 2 <= m /\ m <= r /\ DeL lt l lo (lo + m)) ?step ?fin ⟨rfl, rfl, Xoc (v := lo + 1) L (fun i j h1 h2 h3 => by omega) (by omega) nx⟩) ?post)
  case fin =>
   rintro c st' ⟨rfl, rfl, so⟩
   exact ⟨rfl, _, rfl, by omega, by omega, so⟩
  case step =>
   rintro x c st' hx1 hx ⟨rfl, rfl, so⟩
   dsimp only
   refine wpS_bind (Xlv hc hst al (by omega) (by omega) ?_)
   dsimp only
   cases e : lt (l.getD (lo + x) 0) (l.getD (lo + x - 1) 0) with
   | true =>
    rw [if_pos rfl, if_neg (by omega)]
    exact wpS_pure ⟨rfl, rfl, Xoc (v := lo + x) L so (by omega) e⟩
   | false =>
    rw [if_neg (by decide)]
    refine wpS_bind (Xlv hc hst al (by omega) (by omega) ?_)
    dsimp only
    rw [al.flip L (by omega) (by omega) (by omega) e, if_pos rfl]
    exact wpS_pure ⟨rfl, x, rfl, by omega, by omega, so⟩
  case post =>
   rintro c st' ⟨rfl, m, rfl, m1, m2, de⟩
   dsimp only
   rw [if_neg (by omega)]
   obtain ⟨l', st1, pm1, g1⟩ := rev_ex hst (i := lo) (j := lo + m) (by omega)
   refine wpS_bind (wpS_reverse ?_)
   have al' : Al n l' := ⟨pm1.trans al.pm⟩
   have so' : SoL lt l' lo (lo + m) := fun i j h1 h2 h3 => by
    rw [g1, g1, if_pos (by omega), if_pos (by omega)]
    exact de _ _ (by omega) (by omega) (by omega)
   have pre : ∀ i, i < lo -> l'.getD i 0 = l.getD i 0 := fun i hi => by rw [g1, if_neg (by omega)]
   refine wpS_bind (wpS_mono (wpS_forRange (I := fun x c st' => SA κ it pd l' st' /\ c = (none, x) /\ SoL lt l' lo (lo + x)) (Q := fun c st' => SA κ it pd l' st' /\ ∃ m, c = (none, m) /\ 1 <= m /\ m <= r /\ SoL lt l' lo (lo + m)) ?step ?fin ⟨st1, rfl, so'⟩) ?post)
   case fin =>
    rintro c st' ⟨s1, rfl, so⟩
    exact ⟨s1, _, rfl, by omega, by omega, so⟩
   case step =>
    rintro x c st' hx1 hx ⟨s1, rfl, so⟩
    dsimp only
    refine wpS_bind (Xlv hc s1 al' (by omega) (by omega) ?_)
    dsimp only
    cases e : lt (l'.getD (lo + x) 0) (l'.getD (lo + x - 1) 0) with
    | true =>
     rw [if_pos rfl]
     exact wpS_pure ⟨s1, x, rfl, by omega, by omega, so⟩
    | false =>
     rw [if_neg (by decide)]
     exact wpS_pure ⟨s1, rfl, Xob (v := lo + x) L so (by omega) (al'.flip L (by omega) (by omega) (by omega) e)⟩
   case post =>
    rintro c st' ⟨s1, m', rfl, a1, a2, a3⟩
    exact wpS_pure (h m' l' _ s1 pm1 a1 a2 a3 pre)
theorem Xis (hc : CmS prog w A s κ it n lt) (hst : SA κ it pd l st) (al : Al n l) {lo m ok : Nat} (h1 : 1 <= ok) (h2 : ok <= m) (hn : lo + m <= n) (so : SoL lt l lo (lo + ok))
  {Q : Bool -> SortSt -> Prop} (h : ∀ l' st', SA κ it pd l' st' -> l'.Perm l -> SoL lt l' lo (lo + m) -> (∀ i, i < lo -> l'.getD i 0 = l.getD i 0) -> Q true st') : wpS (model prog w) A E s (binarySort' lo m ok) Q st := by
 have L := hc.L
 have hl := al.len
 rw [binarySort'_eq]
 refine wpS_bind (wpS_mono (wpS_forRange (I := fun x c st' => c = (none, ()) /\ ∃ l', SA κ it pd l' st' /\ l'.Perm l /\ SoL lt l' lo (lo + x) /\ (∀ i, i < lo -> l'.getD i 0 = l.getD i 0)) (Q := fun c st' => c = (none, ()) /\ ∃ l', SA κ it pd l' st' /\ l'.Perm l /\ SoL lt l' lo (lo + m) /\ (∀ i, i < lo -> l'.getD i 0 = l.getD i 0)) ?step ?fin ⟨rfl, l, hst, .refl _, by rw [show max ok 1 = ok by omega]; exact so, fun _ _ => rfl⟩) ?post)
 case fin =>
  rintro c st' ⟨rfl, l', s1, pm, so', pre⟩
  exact ⟨rfl, l', s1, pm, by rw [show max (max ok 1) m = m by omega] at so'; exact so', pre⟩
 case post =>
  rintro c st' ⟨rfl, l', s1, pm, so', pre⟩
  exact wpS_pure (h l' _ s1 pm so' pre)
 case step =>
  rintro k c st' hk1 hk ⟨rfl, l', s1, pm, so', pre⟩
  have al' : Al n l' := ⟨pm.trans al.pm⟩
  have hl' := al'.len
  refine wpS_bind (wpS_mono (wpS_forRange (I := fun x c st'' => st' = st'' /\ ∃ u v, c = (none, u, v) /\ u <= v /\ v <= k /\ v - u <= k - x /\ (∀ i, i < u -> lt (l'.getD (lo + i) 0) (l'.getD (lo + k) 0) = true) /\ (∀ i, v <= i -> i < k -> lt (l'.getD (lo + k) 0) (l'.getD (lo + i) 0) = true))
   (Q := fun c st'' => st' = st'' /\ ∃ u, c = (none, u, u) /\ u <= k /\ (∀ i, i < u -> lt (l'.getD (lo + i) 0) (l'.getD (lo + k) 0) = true) /\ (∀ i, u <= i -> i < k -> lt (l'.getD (lo + k) 0) (l'.getD (lo + i) 0) = true)) ?step ?fin ⟨rfl, 0, k, rfl, by omega, by omega, by omega, fun i hi => by omega, fun i h1 h2 => by omega⟩) ?post)
  case fin =>
   rintro c st'' ⟨rfl, u, v, rfl, b1, b2, b3, b4, b5⟩
   have : u = v := by omega
   subst this
   exact ⟨rfl, u, rfl, b2, b4, b5⟩
  case step =>
   rintro x c st'' _ hx ⟨rfl, u, v, rfl, b1, b2, b3, b4, b5⟩
   dsimp only
   by_cases e : u ≥ v
   ·rw [if_pos e]
    have : u = v := by omega
    subst this
    exact wpS_pure ⟨rfl, u, rfl, b2, b4, b5⟩
   ·rw [if_neg e]
    refine wpS_bind (Xlv hc s1 al' (by omega) (by omega) ?_)
    dsimp only
    have q1 : u <= (u + v) / 2 := by omega
    have q2 : (u + v) / 2 < v := by omega
    generalize (u + v) / 2 = md at q1 q2
    cases c : lt (l'.getD (lo + k) 0) (l'.getD (lo + md) 0) with
    | true =>
     rw [if_pos rfl]
     refine wpS_pure ⟨rfl, u, md, rfl, q1, by omega, by omega, b4, fun i z1 z2 => ?_⟩
     by_cases z : i = md
     ·rw [z]; exact c
     ·exact L.tr _ _ _ c (so' _ _ (by omega) (by omega) (by omega))
    | false =>
     rw [if_neg (by decide)]
     have c' := al'.flip L (by omega) (by omega) (by omega) c
     refine wpS_pure ⟨rfl, md + 1, v, rfl, by omega, b2, by omega, fun i z1 => ?_, b5⟩
     by_cases z : i = md
     ·rw [z]; exact c'
     ·exact L.tr _ _ _ (so' _ _ (by omega) (by omega) (by omega)) c'
  case post =>
   rintro c st'' ⟨rfl, u, rfl, b2, b4, b5⟩
   dsimp only
   obtain ⟨l2, s2, pm2, g2⟩ := mov_ex s1 (k := lo + k) (d := lo + u) (by omega) (by omega)
   have wm : ∀ {Q : Unit -> SortSt -> Prop}, Q () (setArr st' (bubble (arrOf st') (lo + k) (lo + k - (lo + u)))) -> wpS (model prog w) A E s (moveDown' (lo + k) (lo + u)) Q st' := fun hq => by
    rw [moveDown'_eq]
    exact wpS_modify hq
   refine wpS_bind (wm (wpS_pure ⟨rfl, l2, s2, pm2.trans pm, fun i j h1 h2 h3 => ?_, fun i hi => ?_⟩))
   ·rw [g2, g2]
    by_cases i1 : i = lo + u
    ·rw [if_pos i1, if_neg (by omega), if_pos (by omega)]
     have := b5 (j - 1 - lo) (by omega) (by omega)
     rwa [show lo + (j - 1 - lo) = j - 1 by omega] at this
    ·rw [if_neg i1]
     by_cases i2 : lo + u < i /\ i <= lo + k
     ·rw [if_pos i2, if_neg (by omega), if_pos (by omega)]
      exact so' _ _ (by omega) (by omega) (by omega)
     ·rw [if_neg i2]
      by_cases j1 : j = lo + u
      ·rw [if_pos j1]
       have := b4 (i - lo) (by omega)
       rwa [show lo + (i - lo) = i by omega] at this
      ·rw [if_neg j1]
       by_cases j2 : lo + u < j /\ j <= lo + k
       ·rw [if_pos j2]
        exact so' _ _ (by omega) (by omega) (by omega)
       ·rw [if_neg j2]
        exact so' _ _ (by omega) h2 (by omega)
   ·rw [g2, if_neg (by omega), if_neg (by omega)]
    exact pre i hi
end
open PySem.W (kas_item kas_cmp kas_swaps_map)
def putB (m : Array Keyed) (u : Nat) (c : Array Keyed) : Array Keyed := m.toList.zipIdx.foldl (fun a z => a.setIfInBounds (u + z.2) z.1) c
def mEnd (c : Array Keyed) (u v m r : Nat) : SM Bool := do
 let z <- if m <= r then mLo (c.extract u v) (c.extract v (v + r)) else mHi (c.extract u v) (c.extract v (v + r))
 modify fun s => setArr s (putB z u (arrOf s))
 return (failedOf (<- get)).isNone
theorem mAt_eq (i : Nat) : mergeAt' i = (do
  let s <- get
  let (some (u, m, pw), some (v, r, _)) := ((pendingOf s)[i]?, (pendingOf s)[i + 1]?) | unsupported "internal:list.sort.pending"
  set (SortSt.mk' (kindOf s) (arrOf s) (((pendingOf s).setIfInBounds i (u, m + r, pw)).eraseIdxIfInBounds (i + 1)) (gallopOf s) (failedOf s))
  let some k <- galV false (<- elem' (arrOf s) v) (arrOf s) u m 0 | return false
  if m - k == 0 then return true
  let some q <- galV true (<- elem' (arrOf s) (u + k + (m - k) - 1)) (arrOf s) v r (r - 1) | return false
  if q == 0 then return true
  mEnd (arrOf s) (u + k) v (m - k) q) := rfl
theorem Xod (k : Nat) : ∀ (xs : List Keyed) (o : Nat) (c : Array Keyed) (m : Nat), k + o + xs.length <= c.size -> ((xs.zipIdx o).foldl (fun a z => a.setIfInBounds (k + z.2) z.1) c)[m]? = if k + o <= m /\ m < k + o + xs.length then xs[m - (k + o)]? else c[m]?
 | [], o, c, m, _ => by rw [if_neg (by simp)]; rfl
 | x :: xs, o, c, m, h => by
  have hl : (x :: xs).length = xs.length + 1 := rfl
  rw [List.zipIdx_cons, List.foldl_cons, Xod k xs (o + 1) _ m (by rw [Array.size_setIfInBounds]; omega), Array.getElem?_setIfInBounds]
  by_cases h1 : k + (o + 1) <= m /\ m < k + (o + 1) + xs.length
  ·rw [if_pos h1, if_pos (by omega), show m - (k + o) = m - (k + (o + 1)) + 1 by omega, List.getElem?_cons_succ]
  ·rw [if_neg h1]
   by_cases h2 : k + o = m
   ·rw [if_pos h2, if_pos (by omega), if_pos (by omega), show m - (k + o) = 0 by omega]
    rfl
   ·rw [if_neg h2, if_neg (by omega)]
theorem put_Fk {it : Array Keyed} {l res : List Nat} {k : Nat} (h : k + res.length <= l.length) : putB (Fk it res) k (Fk it l) = Fk it (l.take k ++ res ++ l.drop (k + res.length)) := by
 have e1 : (Fk it res).toList = res.map (kas_item it) := by unfold Fk; rfl
 unfold putB
 rw [e1]
 apply Array.ext_getElem?
 intro m
 rw [Xod k _ 0 _ m (by rw [List.length_map, Xa0]; omega), List.length_map, Nat.add_zero]
 unfold Fk
 rw [List.getElem?_toArray, List.getElem?_toArray, List.getElem?_map, List.getElem?_map, List.getElem?_map]
 by_cases h1 : k <= m /\ m < k + res.length
 ·rw [if_pos h1, List.getElem?_append_left (by rw [List.length_append, List.length_take]; omega), List.getElem?_append_right (by rw [List.length_take]; omega), List.length_take, Nat.min_eq_left (by omega)]
 ·rw [if_neg h1]
  by_cases h2 : m < k
  ·rw [List.getElem?_append_left (by rw [List.length_append, List.length_take]; omega), List.getElem?_append_left (by rw [List.length_take]; omega), List.getElem?_take, if_pos h2]
  ·rw [List.getElem?_append_right (by rw [List.length_append, List.length_take]; omega), List.length_append, List.length_take, List.getElem?_drop]
   congr 2
   omega
theorem so_pw {lt : Nat -> Nat -> Bool} {l : List Nat} {u v : Nat} (h : SoL lt l u v) (hv : v <= l.length) : ((l.take v).drop u).Pairwise fun x y => lt x y = true := by
 rw [List.pairwise_iff_getElem]
 intro i j hi hj hij
 rw [List.length_drop, List.length_take] at hi hj
 rw [List.getElem_drop, List.getElem_drop, List.getElem_take, List.getElem_take]
 have := h (u + i) (u + j) (by omega) (by omega) (by omega)
 rwa [List.getD_eq_getElem?_getD, List.getD_eq_getElem?_getD, List.getElem?_eq_getElem (by omega), List.getElem?_eq_getElem (by omega)] at this
section
variable {prog : Program} {w : World} {A : Around} {E : Value -> Shared -> Prop} {s : Shared} {κ : SortKind} {it : Array Keyed} {n : Nat} {lt : Nat -> Nat -> Bool} {l : List Nat} {st : SortSt}
theorem wS_mAt (hc : CmS prog w A s κ it n lt) {n1 n2 pw : Nat} (hst : SA κ it #[(0, n1, pw), (n1, n2, 0)] l st) (al : Al n l) (h1 : 1 <= n1) (h2 : 1 <= n2) (hn : n1 + n2 = n) (so1 : SoL lt l 0 n1) (so2 : SoL lt l n1 n)
  {Q : Bool -> SortSt -> Prop} (h : ∀ l' st', SA κ it #[(0, n, pw)] l' st' -> l'.Perm l -> SoL lt l' 0 n -> Q true st') : wpS (model prog w) A E s (mergeAt' 0) Q st := by
 have L := hc.L
 have hl := al.len
 rw [mAt_eq]
 refine wpS_bind (wpS_get ?_)
 rw [hst.p, hst.a]
 have e0 : (#[(0, n1, pw), (n1, n2, 0)] : Array (Nat × Nat × Nat))[0]? = some (0, n1, pw) := rfl
 have e1 : (#[(0, n1, pw), (n1, n2, 0)] : Array (Nat × Nat × Nat))[0 + 1]? = some (n1, n2, 0) := rfl
 have ep : ((#[(0, n1, pw), (n1, n2, 0)] : Array (Nat × Nat × Nat)).setIfInBounds 0 (0, n1 + n2, pw)).eraseIdxIfInBounds (0 + 1) = #[(0, n1 + n2, pw)] := by simp
 rw [e0, e1]
 dsimp only
 rw [ep]
 clear e0 e1 ep
 have s1 : SA κ it #[(0, n, pw)] l (SortSt.mk' (kindOf st) (Fk it l) #[(0, n1 + n2, pw)] (gallopOf st) (failedOf st)) := ⟨hst.k, rfl, hst.f, by rw [<- hn]⟩
 have wset : ∀ {Q : PUnit -> SortSt -> Prop} {x y : SortSt}, Q ⟨⟩ x -> wpS (model prog w) A E s (set x : StateT SortSt Sem PUnit) Q y := fun hq => by
  unfold wpS
  rw [StateT.run_set]
  exact wpAny_pure ⟨rfl, hq⟩
 refine wpS_bind (wset ?_)
 generalize SortSt.mk' (kindOf st) (Fk it l) #[(0, n1 + n2, pw)] (gallopOf st) (failedOf st) = st1 at s1
 have m1 : l.getD n1 0 ∈ l := Xaw (by omega)
 refine wpS_bind (Xbz (Xaj (show n1 < l.length by omega)) ?_)
 refine wpS_bind (Xgd (P := fun t => !lt (l.getD n1 0) (l.getD t 0)) ⟨fun a b hab hb e => ?_⟩ (by omega) (fun t ht Q' hq => ?_) fun k hk hlo hhi => ?_)
 ·have e : lt (l.getD n1 0) (l.getD b 0) = false := by simpa using e
  cases q : lt (l.getD n1 0) (l.getD a 0) with
  | false => rfl
  | true =>
   have := L.tr _ _ _ q (so1 a b (Nat.zero_le _) hab hb)
   rw [this] at e
   cases e
 ·rw [Nat.zero_add]
  exact Xgc hc (Xaj (by omega)) (al.ltn (by omega)) (al.ltn (by omega)) s1.k (left := false) hq
 dsimp only
 have lo1 : ∀ t, t < k -> lt (l.getD t 0) (l.getD n1 0) = true := fun t ht => by
  have := hlo t ht
  exact al.flip L (by omega) (by omega) (by omega) (by simpa using this)
 have hi1 : ∀ t, k <= t -> t < n1 -> lt (l.getD n1 0) (l.getD t 0) = true := fun t ht ht2 => by
  have := hhi t ht ht2
  simpa using this
 have ge : ∀ {x t : Nat}, n1 <= t -> t < n -> lt x (l.getD n1 0) = true -> lt x (l.getD t 0) = true := fun {x t} h1 h2 hx => by
  by_cases z : t = n1
  ·rw [z]; exact hx
  ·exact L.tr _ _ _ hx (so2 n1 t (Nat.le_refl _) (by omega) h2)
 by_cases e1 : (n1 - k == 0) = true
 ·rw [if_pos e1]
  have e1' : n1 - k = 0 := by simpa using e1
  refine wpS_pure (h l _ s1 (.refl _) fun i j a1 a2 a3 => ?_)
  by_cases c1 : j < n1
  ·exact so1 i j a1 a2 c1
  ·by_cases c2 : n1 <= i
   ·exact so2 i j c2 a2 a3
   ·exact ge (by omega) a3 (lo1 i (by omega))
 rw [if_neg e1]
 have e1' : n1 - k ≠ 0 := by simpa using e1
 rw [show 0 + k + (n1 - k) - 1 = n1 - 1 by omega, Nat.zero_add]
 refine wpS_bind (Xbz (Xaj (show n1 - 1 < l.length by omega)) ?_)
 refine wpS_bind (Xgd (P := fun t => lt (l.getD (n1 + t) 0) (l.getD (n1 - 1) 0)) ⟨fun a b hab hb e => ?_⟩ (by omega) (fun t ht Q' hq => ?_) fun r hr hlo2 hhi2 => ?_)
 ·exact L.tr _ _ _ (so2 _ _ (by omega) (by omega) (by omega)) e
 ·exact Xgc hc (Xaj (by omega)) (al.ltn (by omega)) (al.ltn (by omega)) s1.k (left := true) hq
 dsimp only
 have hi2 : ∀ t, r <= t -> t < n2 -> lt (l.getD (n1 - 1) 0) (l.getD (n1 + t) 0) = true := fun t a b => al.flip L (by omega) (by omega) (by omega) (hhi2 t a b)
 have le : ∀ {x t : Nat}, t < n1 -> lt (l.getD (n1 - 1) 0) x = true -> lt (l.getD t 0) x = true := fun {x t} h1 hx => by
  by_cases z : t = n1 - 1
  ·rw [z]; exact hx
  ·exact L.tr _ _ _ (so1 t (n1 - 1) (Nat.zero_le _) (by omega) (by omega)) hx
 have r1 : 1 <= r := by
  rcases Nat.eq_zero_or_pos r with z | z
  ·have a := hi2 0 (by omega) (by omega)
   have b := hi1 (n1 - 1) (by omega) (by omega)
   have := L.tr _ _ _ a b
   rw [L.irr] at this
   cases this
  ·exact z
 rw [if_neg (by simp; omega)]
 unfold mEnd
 rw [Xde, Xde, show n1 + r - n1 = r by omega]
 have ela : (l.drop k).take (n1 - k) = (l.take n1).drop k := (List.drop_take ..).symm
 have elb : (l.drop n1).take r = (l.take (n1 + r)).drop n1 := by rw [List.drop_take, show n1 + r - n1 = r by omega]
 have T : Two lt n ((l.drop k).take (n1 - k)) ((l.drop n1).take r) := by
  refine ⟨L, fun x hx => ?_, fun x hx => ?_, fun x hx y hy => ?_, ?_, ?_⟩
  ·obtain ⟨t, b1, b2, rfl⟩ := Xa1 hx
   exact al.ltn (by omega)
  ·obtain ⟨t, b1, b2, rfl⟩ := Xa1 hx
   exact al.ltn (by omega)
  ·obtain ⟨t, b1, b2, rfl⟩ := Xa1 hx
   obtain ⟨t', c1, c2, rfl⟩ := Xa1 hy
   exact al.ne (by omega) (by omega) (by omega)
  ·rw [ela]
   exact so_pw (fun i j a1 a2 a3 => so1 i j (Nat.zero_le _) a2 a3) (by omega)
  ·rw [elb]
   exact so_pw (fun i j a1 a2 a3 => so2 i j a1 a2 (by omega)) (by omega)
 have lena : ((l.drop k).take (n1 - k)).length = n1 - k := by rw [List.length_take, List.length_drop]; omega
 have lenb : ((l.drop n1).take r).length = r := by rw [List.length_take, List.length_drop]; omega
 have b0 : ((l.drop n1).take r).getD 0 0 = l.getD n1 0 := by
  rw [List.getD_eq_getElem?_getD, List.getElem?_take, if_pos (by omega), List.getElem?_drop, <- List.getD_eq_getElem?_getD]
  rfl
 have a9 : ((l.drop k).take (n1 - k)).getD (((l.drop k).take (n1 - k)).length - 1) 0 = l.getD (n1 - 1) 0 := by
  rw [lena, List.getD_eq_getElem?_getD, List.getElem?_take, if_pos (by omega), List.getElem?_drop, show k + (n1 - k - 1) = n1 - 1 by omega, <- List.getD_eq_getElem?_getD]
 have bot : ∀ y ∈ (l.drop k).take (n1 - k), lt (((l.drop n1).take r).getD 0 0) y = true := fun y hy => by
  obtain ⟨t, b1, b2, rfl⟩ := Xa1 hy
  rw [b0]
  exact hi1 _ (by omega) (by omega)
 have top : ∀ x ∈ (l.drop n1).take r, lt x (((l.drop k).take (n1 - k)).getD (((l.drop k).take (n1 - k)).length - 1) 0) = true := fun x hx => by
  obtain ⟨t, b1, b2, rfl⟩ := Xa1 hx
  rw [a9]
  exact hlo2 t b1
 have fin : ∀ res st', Mrg lt ((l.drop k).take (n1 - k)) ((l.drop n1).take r) res -> SG st1 st' -> wpS (model prog w) A E s (do
   modify fun s => setArr s (putB (Fk it res) k (arrOf s))
   let z <- get
   pure (failedOf z).isNone) Q st' := by
  intro res st' mr sg
  have hrl : res.length = n1 - k + r := by rw [mr.1.length_eq, List.length_append, lena, lenb]
  refine wpS_bind (wpS_modify (wpS_bind (wpS_get (wpS_pure ?_))))
  have ef : failedOf (setArr st' (putB (Fk it res) k (arrOf st'))) = none := sg.f.trans s1.f
  rw [ef]
  have hmem : ∀ x ∈ res, (∃ t, k <= t /\ t < n1 /\ x = l.getD t 0) \/ (∃ t, t < r /\ x = l.getD (n1 + t) 0) := fun x hx => by
   rcases List.mem_append.mp (mr.1.mem_iff.mp hx) with z | z
   ·obtain ⟨t, b1, b2, e⟩ := Xa1 z
    exact .inl ⟨k + t, by omega, by omega, e⟩
   ·obtain ⟨t, b1, b2, e⟩ := Xa1 z
    exact .inr ⟨t, b1, e⟩
  refine h (l.take k ++ res ++ l.drop (k + res.length)) _ ⟨sg.k.trans s1.k, ?_, ef, sg.p.trans s1.p⟩ ?_ ?_
  ·show putB (Fk it res) k (arrOf st') = _
   rw [sg.a, s1.a, put_Fk (by omega)]
  ·rw [show k + res.length = n1 + r by omega]
   have e : l = l.take k ++ ((l.drop k).take (n1 - k) ++ (l.drop n1).take r) ++ l.drop (n1 + r) := by
    rw [<- List.append_assoc, <- take_split, show k + (n1 - k) = n1 by omega, <- take_split, List.take_append_drop]
   refine List.Perm.trans ?_ (List.Perm.of_eq e.symm)
   exact (List.Perm.append_left _ mr.1).append_right _
  ·have pw : (l.take k ++ res ++ l.drop (k + res.length)).Pairwise fun x y => lt x y = true := by
    refine List.pairwise_append.mpr ⟨List.pairwise_append.mpr ⟨?_, mr.2, fun x hx y hy => ?_⟩, ?_, fun x hx y hy => ?_⟩
    ·have := so_pw (u := 0) (v := k) (l := l) (lt := lt) (fun i j a1 a2 a3 => so1 i j a1 a2 (by omega)) (by omega)
     rwa [List.drop_zero] at this
    ·obtain ⟨t, ht, rfl⟩ := Xf1 hx (by omega)
     rcases hmem y hy with ⟨u, c1, c2, rfl⟩ | ⟨u, c1, rfl⟩
     ·exact so1 _ _ (Nat.zero_le _) (by omega) c2
     ·exact ge (by omega) (by omega) (lo1 t ht)
    ·have := so_pw (u := k + res.length) (v := n) (l := l) (lt := lt) (fun i j a1 a2 a3 => so2 i j (by omega) a2 a3) (by omega)
     rwa [List.take_of_length_le (by omega)] at this
    ·have hy' : y ∈ (l.drop (k + res.length)).take n := by rw [List.take_of_length_le (by rw [List.length_drop]; omega)]; exact hy
     obtain ⟨u, c1, c2, rfl⟩ := Xa1 hy'
     have hju : k + res.length + u = n1 + (r + u) := by omega
     rw [hju]
     have top2 := hi2 (r + u) (by omega) (by omega)
     rcases List.mem_append.mp hx with z | z
     ·obtain ⟨t, ht, rfl⟩ := Xf1 z (by omega)
      exact ge (by omega) (by omega) (lo1 t ht)
     ·rcases hmem x z with ⟨t, c1, c2, rfl⟩ | ⟨t, c1, rfl⟩
      ·exact le c2 top2
      ·exact so2 _ _ (by omega) (by omega) (by omega)
   have len : (l.take k ++ res ++ l.drop (k + res.length)).length = n := by
    rw [List.length_append, List.length_append, List.length_take, List.length_drop]
    omega
   exact fun i j a1 a2 a3 => Xel pw a2 (by omega)
 by_cases e5 : n1 - k <= r
 ·rw [if_pos e5]
  exact wpS_bind (wS_mLo hc T (by omega) (by omega) bot top s1.k fun res st' mr sg => fin res st' mr sg)
 ·rw [if_neg e5]
  exact wpS_bind (wS_mHi hc T (by omega) (by omega) bot top s1.k fun res st' mr sg => fin res st' mr sg)
end
open PySem.W (KasT kas_item kas_cmp kas_ask kas_sort kat_run kat_snds kat_ask_eq kas_range)
section
variable {prog : Program} {w : World} {A : Around} {E : Value -> Shared -> Prop} {s : Shared} {κ : SortKind} {it : Array Keyed} {lt : Nat -> Nat -> Bool} {l : List Nat} {st : SortSt}
def Rn (κ : SortKind) (it : Array Keyed) (lt : Nat -> Nat -> Bool) (l : List Nat) (st : SortSt) : Prop := ∃ l', l'.Perm l /\ ((SA κ it #[(0, 64, 0)] l' st /\ SoL lt l' 0 64) \/ ∃ n1 n2 pw, 1 <= n1 /\ 1 <= n2 /\ n1 + n2 = 64 /\ SA κ it #[(0, n1, pw), (n1, n2, 0)] l' st /\ SoL lt l' 0 n1 /\ SoL lt l' n1 64)
theorem wS_runs (hc : CmS prog w A s κ it 64 lt) (hst : SA κ it #[] l st) (al : Al 64 l) {Q : Unit -> SortSt -> Prop} (h : ∀ l' st' pd, SA κ it pd l' st' -> l'.Perm l -> SoL lt l' 0 64 -> Q () st') : wpS (model prog w) A E s sortRuns' Q st := by
 have hl := al.len
 rw [sortRuns'_eq]
 refine wpS_bind (wpS_get ?_)
 have hsz : (arrOf st).size = 64 := by rw [hst.a, Xa0, hl]
 have hmr : minRun' 64 64 0 = 32 := by
  rw [minRun'_succ, if_neg (by decide)]
  rfl
 dsimp only
 rw [hsz, hmr]
 refine wpS_bind (wpS_mono (wpS_forRange (I := fun x c st' => (x = 0 /\ c = (none, 0) /\ SA κ it #[] l st') \/ (x = 1 /\ ∃ l' n1, c = (none, n1) /\ SA κ it #[(0, n1, 0)] l' st' /\ l'.Perm l /\ 32 <= n1 /\ n1 <= 64 /\ SoL lt l' 0 n1) \/ (2 <= x /\ c = (none, 64) /\ Rn κ it lt l st')) (Q := fun c st' => c = (none, 64) /\ Rn κ it lt l st') ?step ?fin (.inl ⟨rfl, rfl, hst⟩)) ?post)
 case fin =>
  rintro c st' (⟨z, _⟩ | ⟨z, _⟩ | ⟨_, z⟩)
  ·exact absurd z (by decide)
  ·exact absurd z (by decide)
  ·exact z
 case step =>
  rintro x c st' _ hx (⟨rfl, rfl, s0⟩ | ⟨rfl, l1, n1, rfl, s1, pm1, b1, b2, so1⟩ | ⟨x2, rfl, z⟩)
  ·dsimp only
   rw [if_neg (by omega), Nat.sub_zero]
   refine wpS_bind (Xk4 hc s0 al (by omega) (by omega) fun m l1 st1 s1 pm1 m1 m2 so _ => ?_)
   have al1 : Al 64 l1 := ⟨pm1.trans al.pm⟩
   dsimp only
   rw [Nat.zero_add] at so
   by_cases hm : m < 32
   ·rw [if_pos hm]
    refine wpS_bind (wpS_lift (wpAny_rule ⟨rfl, ?_⟩))
    refine wpS_bind (Xis hc s1 al1 m1 (by omega) (by omega) (by rw [Nat.zero_add]; exact so) fun l2 st2 s2 pm2 so2 _ => ?_)
    rw [if_neg (by decide)]
    refine wpS_bind (wpS_get ?_)
    rw [s2.p]
    refine wpS_bind (wpS_modify (wpS_pure (.inr (.inl ⟨rfl, l2, 32, rfl, ⟨s2.k, s2.a, s2.f, ?_⟩, pm2.trans pm1, by omega, by omega, so2⟩))))
    show (pendingOf st2).push _ = _
    rw [s2.p]
    rfl
   ·rw [if_neg hm]
    refine wpS_bind (wpS_get ?_)
    rw [s1.p]
    refine wpS_bind (wpS_modify (wpS_pure (.inr (.inl ⟨rfl, l1, m, by rw [Nat.zero_add], ⟨s1.k, s1.a, s1.f, ?_⟩, pm1, by omega, by omega, so⟩))))
    show (pendingOf st1).push _ = _
    rw [s1.p]
    rfl
  ·dsimp only
   by_cases e : n1 ≥ 64
   ·rw [if_pos e]
    obtain rfl : n1 = 64 := by omega
    exact wpS_pure ⟨rfl, l1, pm1, .inl ⟨s1, so1⟩⟩
   rw [if_neg e]
   have al1 : Al 64 l1 := ⟨pm1.trans al.pm⟩
   have fin : ∀ l2 st2, SA κ it #[(0, n1, 0)] l2 st2 -> l2.Perm l1 -> SoL lt l2 n1 64 -> (∀ i, i < n1 -> l2.getD i 0 = l1.getD i 0) -> ∀ pw, SA κ it #[(0, n1, pw), (n1, 64 - n1, 0)] l2 (setPending (setPending st2 ((pendingOf st2).modify ((pendingOf st2).size - 1) fun x => (x.fst, x.2.fst, pw))) ((pendingOf (setPending st2 ((pendingOf st2).modify ((pendingOf st2).size - 1) fun x => (x.fst, x.2.fst, pw)))).push (n1, 64 - n1, 0))) /\ SoL lt l2 0 n1 := by
    intro l2 st2 s2 pm2 so2 pre pw
    refine ⟨⟨s2.k, s2.a, s2.f, ?_⟩, fun i j a1 a2 a3 => ?_⟩
    ·show ((pendingOf st2).modify ((pendingOf st2).size - 1) fun x => (x.fst, x.2.fst, pw)).push (n1, 64 - n1, 0) = _
     rw [s2.p]
     simp [Array.modify, Array.modifyM]
    ·rw [pre i (by omega), pre j (by omega)]
     exact so1 i j a1 a2 a3
   refine wpS_bind (Xk4 hc s1 al1 (by omega) (by omega) fun m l2 st2 s2 pm2 m1 m2 so pre => ?_)
   have al2 : Al 64 l2 := ⟨pm2.trans al1.pm⟩
   dsimp only
   by_cases hm : m < 32
   ·rw [if_pos hm]
    refine wpS_bind (wpS_lift (wpAny_rule ⟨rfl, ?_⟩))
    rw [show min (64 - n1) 32 = 64 - n1 by omega]
    refine wpS_bind (Xis hc s2 al2 m1 (by omega) (by omega) so fun l3 st3 s3 pm3 so3 pre3 => ?_)
    rw [if_neg (by decide)]
    have so3' : SoL lt l3 n1 64 := by rw [show n1 + (64 - n1) = 64 by omega] at so3; exact so3
    refine wpS_bind (wpS_get ?_)
    rw [s3.p]
    have eb : (#[(0, n1, 0)] : Array (Nat × Nat × Nat)).back? = some (0, n1, 0) := rfl
    rw [eb]
    dsimp only
    refine wpS_bind (wpS_mono (wpS_forRange (I := fun x c st' => c = (none, ()) /\ SA κ it #[(0, n1, 0)] l3 st') (Q := fun c st' => c = (none, ()) /\ SA κ it #[(0, n1, 0)] l3 st') ?_ (fun c st' z => z) ⟨rfl, s3⟩) ?_)
    ·rintro x c st' _ _ ⟨rfl, q⟩
     refine wpS_bind (wpS_get ?_)
     rw [q.p, if_neg (by show ¬ 1 > 1; decide)]
     exact wpS_pure ⟨rfl, q⟩
    ·rintro c st' ⟨rfl, q⟩
     dsimp only
     obtain ⟨q1, q2⟩ := fin l3 st' q (pm3.trans pm2) so3' (fun i hi => (pre3 i hi).trans (pre i hi)) (power' 64 (2 * 0 + n1) (2 * 0 + n1 + n1 + (64 - n1)) 64)
     refine wpS_bind (wpS_modify (wpS_bind (wpS_modify (wpS_pure (.inr (.inr ⟨by omega, by rw [show n1 + (64 - n1) = 64 by omega], l3, ((pm3.trans pm2)).trans pm1, .inr ⟨n1, 64 - n1, _, by omega, by omega, by omega, q1, q2, so3'⟩⟩))))))
   ·rw [if_neg hm]
    obtain rfl : m = 64 - n1 := by omega
    have so' : SoL lt l2 n1 64 := by rw [show n1 + (64 - n1) = 64 by omega] at so; exact so
    refine wpS_bind (wpS_get ?_)
    rw [s2.p]
    have eb : (#[(0, n1, 0)] : Array (Nat × Nat × Nat)).back? = some (0, n1, 0) := rfl
    rw [eb]
    dsimp only
    refine wpS_bind (wpS_mono (wpS_forRange (I := fun x c st' => c = (none, ()) /\ SA κ it #[(0, n1, 0)] l2 st') (Q := fun c st' => c = (none, ()) /\ SA κ it #[(0, n1, 0)] l2 st') ?_ (fun c st' z => z) ⟨rfl, s2⟩) ?_)
    ·rintro x c st' _ _ ⟨rfl, q⟩
     refine wpS_bind (wpS_get ?_)
     rw [q.p, if_neg (by show ¬ 1 > 1; decide)]
     exact wpS_pure ⟨rfl, q⟩
    ·rintro c st' ⟨rfl, q⟩
     dsimp only
     obtain ⟨q1, q2⟩ := fin l2 st' q pm2 so' pre (power' 64 (2 * 0 + n1) (2 * 0 + n1 + n1 + (64 - n1)) 64)
     refine wpS_bind (wpS_modify (wpS_bind (wpS_modify (wpS_pure (.inr (.inr ⟨by omega, by rw [show n1 + (64 - n1) = 64 by omega], l2, (pm2).trans pm1, .inr ⟨n1, 64 - n1, _, by omega, by omega, by omega, q1, q2, so'⟩⟩))))))
  ·dsimp only
   rw [if_pos (Nat.le_refl _)]
   exact wpS_pure ⟨rfl, z⟩
 case post =>
  rintro c st' ⟨rfl, l1, pm1, z⟩
  dsimp only
  have al1 : Al 64 l1 := ⟨pm1.trans al.pm⟩
  refine wpS_bind (wpS_mono (wpS_forRange (I := fun x c st' => c = (none, ()) /\ ∃ l2 pd, l2.Perm l /\ Al 64 l2 /\ SA κ it pd l2 st' /\ ((pd.size <= 1 /\ SoL lt l2 0 64) \/ (x = 0 /\ ∃ n1 n2 pw, 1 <= n1 /\ 1 <= n2 /\ n1 + n2 = 64 /\ pd = #[(0, n1, pw), (n1, n2, 0)] /\ SoL lt l2 0 n1 /\ SoL lt l2 n1 64))) (Q := fun c st' => c = (none, ()) /\ ∃ l2 pd, l2.Perm l /\ SA κ it pd l2 st' /\ SoL lt l2 0 64) ?step ?fin ?init) ?post)
  case init =>
   rcases z with ⟨s1, so⟩ | ⟨n1, n2, pw, a1, a2, a3, s1, so1, so2⟩
   ·exact ⟨rfl, l1, _, pm1, al1, s1, .inl ⟨by show 1 <= 1; decide, so⟩⟩
   ·exact ⟨rfl, l1, _, pm1, al1, s1, .inr ⟨rfl, n1, n2, pw, a1, a2, a3, rfl, so1, so2⟩⟩
  case fin =>
   rintro c st' ⟨rfl, l2, pd, pm2, al2, s2, ⟨_, so⟩ | ⟨e, _⟩⟩
   ·exact ⟨rfl, l2, pd, pm2, s2, so⟩
   ·exact absurd e (by decide)
  case step =>
   rintro x c st' _ _ ⟨rfl, l2, pd, pm2, al2, s2, ⟨e, so⟩ | ⟨rfl, n1, n2, pw, a1, a2, a3, rfl, so1, so2⟩⟩
   ·refine wpS_bind (wpS_get ?_)
    rw [s2.p, if_pos e]
    exact wpS_pure ⟨rfl, l2, pd, pm2, s2, so⟩
   ·refine wpS_bind (wpS_get ?_)
    rw [s2.p, if_neg (by show ¬ 2 <= 1; decide)]
    show wpS _ _ _ _ (do
     let b <- mergeAt' 0
     if (!b) = true then pure (ForInStep.done (some (), ())) else pure (ForInStep.yield (none, ()))) _ _
    refine wpS_bind (wS_mAt hc s2 al2 a1 a2 a3 so1 so2 fun l3 st3 s3 pm3 so3 => ?_)
    rw [if_neg (by decide)]
    exact wpS_pure ⟨rfl, l3, _, pm3.trans pm2, ⟨pm3.trans al2.pm⟩, s3, .inl ⟨by show 1 <= 1; decide, so3⟩⟩
  case post =>
   rintro c st' ⟨rfl, l2, pd, pm2, s2, so⟩
   exact wpS_pure (h l2 _ pd s2 pm2 so)
end
section
variable {prog : Program} {w : World} {A : Around} {E : Value -> Shared -> Prop} {s : Shared} {κ : SortKind} {ks vs : List Value} {lt : Nat -> Nat -> Bool}
theorem run_64 {Q : SortSt -> Shared -> Prop} (hl : ks.length = vs.length) (h2 : 2 <= vs.length) (h64 : vs.length <= 64) (L : Lin vs.length lt)
  (hc : ∀ i j (C : Bool -> Shared -> Prop), i < vs.length -> j < vs.length -> C (lt i j) s -> kas_ask prog w A κ ks i j C s)
  (h : ∀ p st', Gd vs.length p -> SoTo lt p vs.length -> arrOf st' = p.map (kas_item (ks.toArray.zip vs.toArray)) -> failedOf st' = none -> Q st' s) :
  wpAny (model prog w) A ((sortRuns').run (SortSt.mk' κ (ks.toArray.zip vs.toArray) #[] 7 none)) (fun r s' => Q r.2 s') E s := by
 by_cases e : vs.length < 64
 ·exact kat_run (G := fun p s' => s' = s /\ Gd vs.length p /\ SoTo lt p vs.length) hl h2 e (fun p st' s' _ b1 b2 ⟨e1, b3, b4⟩ => by subst e1; exact h p st' b3 b4 b1 b2)
   (Xj0 (n := vs.length) (lt := lt) (fun i j C hi hj hC => hc i j C hi hj hC) (Xe6 (n := vs.length) (by omega)) ⟨rfl, (Xe6 (n := vs.length) (by omega)).run, Xkx L (by omega)⟩)
 ·have e64 : vs.length = 64 := by omega
  have hz : (ks.toArray.zip vs.toArray).size = 64 := by simp [hl, e64]
  rw [e64] at L
  have cm : CmS prog w A s κ (ks.toArray.zip vs.toArray) 64 lt := ⟨L, fun i j C hi hj hC => by
   have := hc i j C (by omega) (by omega) hC
   rw [kat_ask_eq hl] at this
   exact this⟩
  have ea : (ks.toArray.zip vs.toArray) = Fk (ks.toArray.zip vs.toArray) (List.range 64) := by
   have := kas_range (ks.toArray.zip vs.toArray)
   rw [hz] at this
   rw [Xge]
   exact this.symm
  have s0 : SA κ (ks.toArray.zip vs.toArray) #[] (List.range 64) (SortSt.mk' κ (ks.toArray.zip vs.toArray) #[] 7 none) := ⟨rfl, ea, rfl, rfl⟩
  have run := wS_runs (E := E) (Q := fun _ st' => Q st' s) cm s0 ⟨.refl _⟩ fun l' st' pd s1 pm so => by
   refine h l'.toArray st' ?_ ?_ ?_ s1.f
   ·rw [e64]
    exact (List.perm_iff_toArray_perm).mp pm
   ·rw [e64]
    intro i j h1 h2
    have := so i j (Nat.zero_le _) h1 h2
    show lt (l'.toArray.getD i 0) (l'.toArray.getD j 0) = true
    rw [Xd3, Xd3, <- Xd5, <- Xd5]
    exact this
   ·rw [s1.a, Xge]
  exact wpAny_mono run (fun r s' q => by obtain ⟨rfl, q⟩ := q; exact q) fun _ _ z => z
end
open PySem.W (KasT kas_sort kas_ask kas_item kat_run kat_snds kat_kind KatTups)
def ltP' (Ts : List (List Str)) (i j : Nat) : Bool := ltNL (Ts.getD i []).length (Ts.getD i []) (Ts.getD j []).length (Ts.getD j [])
theorem ltNL_irr (n : Nat) (a : List Str) : ltNL n a n a = false := by unfold ltNL; rw [if_pos rfl]; exact Xfz a
theorem ltNL_tr {n m k : Nat} {a b c : List Str} (h : ltNL n a m b = true) (g : ltNL m b k c = true) : ltNL n a k c = true := by
 unfold ltNL at *
 by_cases e1 : n = m
 ·rw [if_pos e1] at h
  by_cases e2 : m = k
  ·rw [if_pos e2] at g
   rw [if_pos (e1.trans e2)]
   exact Xky _ _ _ h g
  ·rw [if_neg e2] at g
   rw [if_neg (by omega)]
   have := of_decide_eq_true g
   exact decide_eq_true (by omega)
 ·rw [if_neg e1] at h
  have h := of_decide_eq_true h
  by_cases e2 : m = k
  ·rw [if_neg (by omega)]
   exact decide_eq_true (by omega)
  ·rw [if_neg e2] at g
   have g := of_decide_eq_true g
   rw [if_neg (by omega)]
   exact decide_eq_true (by omega)
theorem ltNL_tot {n m : Nat} {a b : List Str} (h : a ≠ b) : ltNL n a m b = true \/ ltNL m b n a = true := by
 unfold ltNL
 by_cases e : n = m
 ·rw [if_pos e, if_pos e.symm]
  exact Xj2 _ _ h
 ·rw [if_neg e, if_neg (Ne.symm e)]
  rcases Nat.lt_or_ge n m with z | z
  ·exact .inl (decide_eq_true z)
  ·exact .inr (decide_eq_true (by omega))
theorem linP {Ts : List (List Str)} (nd : Ts.Nodup) : Lin Ts.length (ltP' Ts) where
 irr i := ltNL_irr _ _
 tr i j k := ltNL_tr
 tot i j hi hj ne := ltNL_tot fun e => ne (by
  have e1 : Ts.getD i [] = Ts[i] := by simp [List.getD, hi]
  have e2 : Ts.getD j [] = Ts[j] := by simp [List.getD, hj]
  rw [e1, e2] at e
  exact (List.getElem_inj nd).mp e)
def Turns (X : Cx) (f : Addr) (H : Hp) (ps : List Addr) (Ts : List (List Str)) : Prop :=
 ∀ (pins : List (Addr × Obj)) (σ : L2.St) (s1 : Shared) (H1 : Hp) (i : Nat), i < ps.length -> Same H H1 -> Inv X pins σ H1 s1 ->
  wpAny (model X.prog X.w) X.A.in1.in1 (call (.ref f) [.ref (ps.getD i 0)]) (fun u s' => ∃ t H2, u = .ref t /\ Inv X pins σ H2 s' /\ H2 t = some (.tup [.int (Ts.getD i []).length, .ref (ps.getD i 0)]) /\ Same H1 H2) (fun _ _ => False) s1
section
variable {X : Cx} {pins : List (Addr × Obj)} {σ : L2.St} {H : Hp} {s : Shared}
theorem pair_of {t p : Addr} {n : Nat} {ss : List Str} (I : Inv X pins σ H s) (ht : H t = some (.tup [.int n, .ref p])) (hp : H p = some (.tup (ss.map V.str))) : Xn6 s.heap (.ref t) n ss := by
 obtain ⟨its, r, ⟨o, ho, hc, k, hd⟩, _⟩ := I.tuple (SqT.of (K := X.K) ht)
 obtain ⟨its2, r2, ⟨o2, ho2, hc2, k2, hd2⟩, _⟩ := I.tuple (SqT.of (K := X.K) hp)
 cases r with
 | cons r1 r' =>
  cases r' with
  | cons r2' r'' =>
   cases r''
   obtain ⟨tk, rfl⟩ : ∃ tk, _ = Value.int n tk := r1
   cases r2'
   exact ⟨t, o, _, k, tk, .ref p, rfl, ho, hc, hd, rfl, p, o2, _, k2, rfl, ho2, hc2, hd2, by simpa using Xcy r2⟩
theorem Xoe {D kS : Addr} {e1 : Nat} {ks : List V} {st : SortSt} {out : List Addr} {A : Around} {E : Value -> Shared -> Prop} {P : PySem.Fin -> Shared -> Prop} (I : Inv X ((D, seqObj "list" #[] e1) :: pins) σ H s) (hD : X.s₀.heap.objs.size <= D) (hnp : ∀ p ∈ X.pn ++ pins, p.1 ≠ D)
  (hk : H kS = some (.lst ks)) (ho : (arrOf st).map (·.2) = (out.map Value.ref).toArray) (hf : failedOf st = none) (hz : out.length <= 64) (h : ∀ s', Inv X pins σ (upd (upd H kS (.lst [])) D (.lst (out.map V.ref))) s' -> P (.done (.ret .none)) s') :
  wpAny (model X.prog X.w) A (ksk_tail D false e1 (.ref kS) st) P E s := by
 obtain ⟨z, its, n, r, hl, e⟩ := I.lstM hk
 have J := I.lset (its' := []) (f := fun _ => #[]) (ys := []) (t' := s.toks) hk e rfl .nil (by decide)
 unfold ksk_tail
 try dsimp only
 rw [ho]
 simp only [Bool.false_eq_true, if_false]
 refine wpAny_bind (listUpdate_at e rfl ?_ (by rw [List.size_toArray, <- hl]; exact z) (Nat.zero_le _))
 refine wpAny_bind (wpAny_letGo ?_)
 obtain ⟨hg, _⟩ := J.pin (D, seqObj "list" #[] e1) (List.mem_append_right _ List.mem_cons_self)
 refine wpAny_bind (seqEpoch_at hg rfl ?_)
 refine wpAny_bind (listUpdate_at hg rfl ?_ (Nat.zero_le _) (by rw [List.size_toArray, List.length_map, sizeLine_eq]; omega))
 rw [hf]
 simp only [bne_self_eq_false, Bool.false_eq_true, if_false]
 refine wpAny_pure (h _ ?_)
 have vr : Vals (out.map V.ref) (out.map Value.ref) := by
  clear ho hz h
  induction out with
  | nil => exact .nil
  | cons p t ih => exact .cons rfl ih
 exact Xn7 J hD hnp vr (by rw [List.length_map, sizeLine_eq]; omega)
theorem end_ok {D kS : Addr} {e1 : Nat} {ks : List V} {ps : List Addr} {Ts : List (List Str)} {its : List Value} {A : Around} {E : Value -> Shared -> Prop} {P : PySem.Fin -> Shared -> Prop} (I : Inv X ((D, seqObj "list" #[] e1) :: pins) σ H s) (hu : A.units < cLine) (hD : X.s₀.heap.objs.size <= D) (hnp : ∀ p ∈ X.pn ++ pins, p.1 ≠ D)
  (hk : H kS = some (.lst ks)) (hlen : its.length = ps.length) (hT : ps.length = Ts.length) (nd : Ts.Nodup) (hp : ∀ i, i < ps.length -> Xn6 s.heap (its.getD i .none) (Ts.getD i []).length (Ts.getD i [])) (h64 : ps.length <= 64)
  (h : ∀ (p : Array Nat) s', Gd ps.length p -> SoTo (ltP' Ts) p ps.length -> Inv X pins σ (upd (upd H kS (.lst [])) D (.lst ((p.toList.map fun i => ps.getD i 0).map V.ref))) s' -> P (.done (.ret .none)) s') :
  wpAny (model X.prog X.w) A (ksk_end D false (ps.map Value.ref).toArray e1 (.ref kS) its.toArray) P E s := by
 have hsz : (ps.map Value.ref).toArray.size = ps.length := by simp
 have L := linP nd
 rw [<- hT] at L
 have outs : ∀ p : Array Nat, Gd ps.length p -> (p.toList.map fun i => (ps.map Value.ref).getD i Value.none) = ((p.toList.map fun i => ps.getD i 0).map Value.ref) := fun p g => by
  rw [List.map_map]
  refine List.map_congr_left fun i hi => ?_
  have hi' : i < ps.length := by
   have := (Array.perm_iff_toList_perm.mp g).mem_iff.mp hi
   simpa using this
  simp [List.getD, hi']
 unfold ksk_end
 try dsimp only
 simp only [Bool.false_eq_true, if_false]
 by_cases h2 : (ps.map Value.ref).toArray.size < 2
 ·rw [if_pos h2, if_pos h2]
  refine wpAny_bind (wpAny_pure ?_)
  rw [StateT.run_pure]
  refine wpAny_bind (wpAny_pure ?_)
  try dsimp only
  have g0 : Gd ps.length (List.toArray (List.range ps.length)) := Array.Perm.refl _
  refine Xoe (st := SortSt.mk' general' (its.toArray.zip (ps.map Value.ref).toArray) #[] 7 none) (out := (List.toArray (List.range ps.length)).toList.map fun i => ps.getD i 0) I hD hnp hk ?_ rfl (by simpa using h64) fun s' J => h _ s' g0 (fun i j hij hj => by omega) J
  rw [<- outs _ g0]
  show ((its.toArray.zip (ps.map Value.ref).toArray).map (·.2)) = _
  apply Array.toList_inj.mp
  simp only [Array.toList_map, List.zip_toArray]
  rw [List.map_snd_zip (by simp [hlen])]
  refine List.ext_getElem (by simp) fun i h1 h2 => ?_
  simp [List.getD] at h1 ⊢
  simp [h1]
 ·rw [if_neg h2, if_neg h2]
  have fst : ∀ (l : List Value) (q : ∀ v ∈ l, ∃ n ss, Xn6 s.heap v n ss), ∃ fs, KatTups s.heap l fs /\ fs.length = l.length /\ ∀ f ∈ fs, ∃ (x : Int) (t : Tok), f = .int x t := by
   intro l
   induction l with
   | nil => exact fun _ => ⟨[], KatTups.nil, rfl, fun _ h => by cases h⟩
   | cons v l ih =>
    intro q
    obtain ⟨fs, t1, t2, t3⟩ := ih fun u hm => q u (List.mem_cons_of_mem _ hm)
    obtain ⟨n, ss, a, o, xs, k, t, u, rfl, g1, g2, g3, g4, _⟩ := q v List.mem_cons_self
    refine ⟨.int n t :: fs, KatTups.cons g1 g2 g3 ?_ t1, by simp [t2], fun f hf => ?_⟩
    ·have : xs[0]? = xs.toList[0]? := by simp
     rw [this, g4]; rfl
    ·rcases List.mem_cons.mp hf with e | e
     ·exact ⟨_, _, e⟩
     ·exact t3 f e
  obtain ⟨fs, t1, t2, t3⟩ := fst its fun v hv => by
   obtain ⟨i, hi, rfl⟩ := List.mem_iff_getElem.mp hv
   have := hp i (by omega)
   have e : its.getD i .none = its[i] := by simp [List.getD, hi]
   rw [e] at this
   exact ⟨_, _, this⟩
  refine wpAny_bind (kat_kind (T := .type "int") t1 (by omega) (fun v hm => ?_) (by decide) ?_)
  ·obtain ⟨x, t, rfl⟩ := t3 v hm
   exact .now
  have eb : ((Value.type "int") != Value.type "tuple") = true := by decide
  rw [eb]
  refine wpAny_bind (wpAny_mono (run_64 (lt := ltP' Ts) (κ := tuples' true) (ks := its) (vs := ps.map Value.ref) (Q := fun st' s' => s' = s /\ failedOf st' = none /\ ∃ p, Gd ps.length p /\ SoTo (ltP' Ts) p ps.length /\ (arrOf st').map (·.2) = (p.toList.map fun i => (ps.map Value.ref).getD i Value.none).toArray)
   (by simp [hlen]) (by rw [List.length_map]; omega) (by rw [List.length_map]; exact h64) (by rw [List.length_map]; exact L) (fun i j C hi hj hC => ?_) (fun p st' g so a2 a3 => by rw [List.length_map] at g so; exact ⟨rfl, a3, p, g, so, kat_snds (by simp [hlen]) a2⟩)) ?_ fun _ _ e => e)
  ·rw [List.length_map] at hi hj
   show wpAny _ _ (keyLt' (tuples' true) (its.getD i Value.none) (its.getD j Value.none)) C _ _
   exact pair_lt hu (hp i hi) (hp j hj) hC
  rintro ⟨⟨⟩, st'⟩ s' ⟨rfl, hf, p, g, so, ea⟩
  try dsimp only
  refine Xoe (out := p.toList.map fun i => ps.getD i 0) I hD hnp hk (by rw [ea, outs p g]) hf (by rw [List.length_map, Array.length_toList, g.size]; exact h64) fun s' J => h p s' g so J
end
section
variable {X : Cx} {pins : List (Addr × Obj)} {σ : L2.St} {H : Hp} {s : Shared}
theorem rest_ok {D kS f : Addr} {e1 : Nat} {ps : List Addr} {Ts : List (List Str)} {A : Around} {E : Value -> Shared -> Prop} {P : PySem.Fin -> Shared -> Prop} (hA : A = X.A.in1.in1) (I : Inv X ((D, seqObj "list" #[] e1) :: pins) σ (upd H kS (.lst [])) s) (hkS : H kS = none) (hu : A.units < cLine) (hD : X.s₀.heap.objs.size <= D) (hnp : ∀ p ∈ X.pn ++ pins, p.1 ≠ D) (hDn : H D = none)
  (hT : Tups H ps Ts) (nd : Ts.Nodup) (h64 : ps.length <= 64) (turn : Turns X f H ps Ts)
  (h : ∀ (p : Array Nat) (H' : Hp) s', Gd ps.length p -> SoTo (ltP' Ts) p ps.length -> Same H H' -> H' D = some (.lst ((p.toList.map fun i => ps.getD i 0).map V.ref)) -> Inv X pins σ H' s' -> P (.done (.ret .none)) s') :
  wpAny (model X.prog X.w) A (ksk_rest D (.ref f) false (ps.map Value.ref).toArray e1 (.ref kS)) P E s := by
 subst hA
 unfold ksk_rest
 refine wpAny_bind (wpAny_rule ?_)
 first
  | rw [List.forIn_toArray]
  | (rw [<- Array.forIn_toList]; simp only [List.toList_toArray])
  | rw [<- Array.forIn_toList]
 refine wpAny_bind (ksk_fold (fun i s' => ∃ (H' : Hp) (ks : List V), Inv X ((D, seqObj "list" #[] e1) :: pins) σ H' s' /\ Same H H' /\ H' kS = some (.lst ks) /\ ks.length = i /\ ∀ j, j < i -> ∃ t, ks[j]? = some (.ref t) /\ H' t = some (.tup [.int (Ts.getD j []).length, .ref (ps.getD j 0)])) (ps.map Value.ref) 0 s
  ⟨_, [], I, Same.upd0 hkS, Xaa, rfl, fun j hj => absurd hj (Nat.not_lt_zero _)⟩ ?step ?done)
 case step =>
  rintro j x s' hx ⟨H', ks, J, sm, hk, hkl, hks⟩
  simp only [Nat.zero_add] at hkl hks ⊢
  obtain ⟨hj, ex⟩ := List.getElem?_eq_some_iff.mp hx
  rw [List.length_map] at hj
  have ex' : x = .ref (ps.getD j 0) := by rw [<- ex]; simp [List.getD, hj]
  subst ex'
  refine wpAny_bind (wpAny_attempt (wpAny_mono (turn _ σ s' H' j hj sm J) (fun v s'' he => ?_) fun _ _ hF => hF.elim))
  obtain ⟨t, H2, rfl, J2, ht, sm2⟩ := he
  try dsimp only
  have hk2 := sm2 _ _ hk
  obtain ⟨z, its, n, r, hl, e⟩ := J2.lstM hk2
  have ntk : t ≠ kS := fun q => by rw [q, hk2] at ht; cases ht
  refine wpAny_bind (listUpdate_at e rfl ?_ (by rw [List.size_toArray, <- hl]; exact z) (by rw [Array.size_push, List.size_toArray, <- hl, hkl, sizeLine_eq]; omega))
  refine wpAny_pure ⟨rfl, _, ks ++ [.ref t], J2.lset (ys := ks ++ [.ref t]) (its' := its ++ [.ref t]) (t' := s''.toks) hk2 e (by simp) (r.append (.cons (show RelV (.ref t) (.ref t) from rfl) .nil)) (by rw [List.length_append, List.length_singleton, hkl, sizeLine_eq]; omega), (sm.trans sm2).upd hkS, Xaa, by simp [hkl], fun i hi => ?_⟩
  by_cases q : i = j
  ·subst q
   exact ⟨t, by rw [List.getElem?_append_right (by omega), hkl]; simp, by rw [Xae ntk]; exact ht⟩
  ·obtain ⟨t', a1, a2⟩ := hks i (by omega)
   refine ⟨t', by rw [List.getElem?_append_left (by omega)]; exact a1, ?_⟩
   rw [Xae fun q => by rw [q, hk] at a2; cases a2]
   exact sm2 _ _ a2
 case done =>
  rintro s' ⟨H', ks, J, sm, hk, hkl, hks⟩
  simp only [Nat.zero_add, List.length_map] at hkl hks
  try dsimp only
  obtain ⟨z, its, n, r, hl, e⟩ := J.lstM hk
  refine wpAny_bind (listItems_at e rfl ?_)
  have hTs := hT.same sm
  have nkD : kS ≠ D := fun q => by
   obtain ⟨_, hn, _⟩ := J.pin (D, seqObj "list" #[] e1) (List.mem_append_right _ List.mem_cons_self)
   have hn : H' D = none := hn
   rw [<- q, hk] at hn
   cases hn
  refine end_ok (ks := ks) J hu hD hnp hk (by omega) hT.1 nd (fun i hi => ?_) h64 fun p s2 g so J2 => h p _ s2 g so ((sm.upd hkS).upd hDn) Xaa J2
  obtain ⟨t, a1, a2⟩ := hks i hi
  obtain ⟨u, hu1, hu2⟩ := r.get a1
  have hu2 : u = Value.ref t := hu2
  have e2 : its.getD i .none = .ref t := by simp [List.getD, hu1, hu2]
  rw [e2]
  exact pair_of J a2 (hTs.2 i hi)
theorem Xlw {l f : Addr} {ps : List Addr} {Ts : List (List Str)} {Q : VK} (I : Inv X pins σ H s) (hu : X.A.in1.in1.units < cLine) (hl : H l = some (.lst (ps.map V.ref))) (hT : Tups H ps Ts) (nd : Ts.Nodup) (h64 : ps.length <= 64) (turn : Turns X f H ps Ts)
  (h : ∀ (D : Addr) (p : Array Nat) (H' : Hp), H D = none -> Gd ps.length p -> SoTo (ltP' Ts) p ps.length -> Same H H' -> H' D = some (.lst ((p.toList.map fun i => ps.getD i 0).map V.ref)) -> Q (.ref D) H') :
  wpAny (model X.prog X.w) X.A (call (.builtin "sorted") [.ref l] [(Str.ofString "key", .ref f)]) (EP X pins σ Q) X.xe s := by
 obtain ⟨its, rv, pl, hz⟩ := I.list (SqL.of hl)
 have hits : its = ps.map Value.ref := by
  clear hT h64 turn h pl hl hz
  induction ps generalizing its with
  | nil => cases rv; rfl
  | cons p t ih =>
   cases rv with
   | cons r t' => cases r; rw [ih _ t']; rfl
 subst hits
 refine call_function_entry_kw kind_sorted plain_sorted entry_sorted (ksk_s1 _ _) ?_
 unfold Builtin.«sorted»
 refine wpAny_bind (m := checkCount "sorted" 1 1 _) (wpAny_pure ?_)
 refine wpAny_bind (collect_list pl.isList ?_ (by rw [List.length_map, sizeLine_eq]; omega))
 refine wpAny_bind (wpAny_newList ?_ (by rw [List.length_map, sizeLine_eq]; omega))
 generalize hvs : ps.map Value.ref = vs at *
 have hvl : vs.length = ps.length := by rw [<- hvs, List.length_map]
 have hsz : ((s.heap.push (seqObj "list" #[] 0)).update s.heap.objs.size (Obj.mapSeq (· ++ vs.toArray))).objs.size = s.heap.objs.size + 1 := by
  rw [Heap.size_update, size_push']
 have hoL : (((s.heap.push (seqObj "list" #[] 0)).update s.heap.objs.size (Obj.mapSeq (· ++ vs.toArray))).push (seqObj "list" vs.toArray 0)).get? (s.heap.objs.size + 1) = some (seqObj "list" vs.toArray 0) := by
  rw [<- hsz]; exact Heap.get?_push_size _ rfl
 have keep : ∀ b o, s.heap.get? b = some o -> (((s.heap.push (seqObj "list" #[] 0)).update s.heap.objs.size (Obj.mapSeq (· ++ vs.toArray))).push (seqObj "list" vs.toArray 0)).get? b = some o := fun b o q => by
  have hlt : b < s.heap.objs.size := Heap.lt_size q
  rw [Heap.get?_push_ne _ _ _ (by rw [hsz]; exact Nat.ne_of_lt (Nat.lt_succ_of_lt hlt)), Heap.get?_update_ne _ _ _ _ (Nat.ne_of_lt hlt), Heap.get?_push_ne _ _ _ (Nat.ne_of_lt hlt)]
  exact q
 have hszA : (((s.heap.push (seqObj "list" #[] 0)).update s.heap.objs.size (Obj.mapSeq (· ++ vs.toArray))).push (seqObj "list" vs.toArray 0)).objs.size = s.heap.objs.size + 2 := by
  rw [size_push', hsz]
 show wpAny _ _ _ _ _ { s with heap := ((s.heap.push (seqObj "list" #[] 0)).update s.heap.objs.size (Obj.mapSeq (· ++ vs.toArray))).push (seqObj "list" vs.toArray 0) }
 rw [hsz]
 generalize hhA : ((s.heap.push (seqObj "list" #[] 0)).update s.heap.objs.size (Obj.mapSeq (· ++ vs.toArray))).push (seqObj "list" vs.toArray 0) = hA at *
 refine wpAny_bind (wpAny_holding (wpAny_call_entry_kw slot_list_sort ⟨_, hoL, rfl⟩ entry_list_sort ?body (ksk_l1 _ _)))
 case body =>
  show wpAny (model X.prog X.w) X.A.in1.in1 (Builtin.«list.sort» ⟨[.ref (s.heap.objs.size + 1)], [(Str.ofString "key", .ref f)]⟩) _ _ _
  rw [ksk_t1]
  unfold ksk_tree
  refine wpAny_bind (listItems_at hoL rfl ?_)
  refine wpAny_bind (listUpdate_at hoL rfl ?_ (by rw [List.size_toArray, hvl, sizeLine_eq]; omega) (Nat.zero_le _))
  obtain ⟨e1, ho1⟩ : ∃ e1, (hA.update (s.heap.objs.size + 1) (Obj.mapSeq fun _ => (#[] : Array Value))).get? (s.heap.objs.size + 1) = some (seqObj "list" #[] e1) := ⟨_, get?_update_seq hoL fun _ => #[]⟩
  refine wpAny_bind (seqEpoch_at ho1 rfl ?_)
  refine wpAny_bind (wpAny_newTuple ?_ (by show vs.length <= _; rw [hvl, sizeLine_eq]; omega))
  refine wpAny_bind (wpAny_newList ?_ (Nat.zero_le _))
  refine wpAny_holding ?_
  have hkS : ((hA.update (s.heap.objs.size + 1) (Obj.mapSeq fun _ => (#[] : Array Value))).push (seqObj "tuple" vs.toArray 0)).objs.size = s.heap.objs.size + 3 := by rw [size_push', Heap.size_update, hszA]
  have k6 : ∀ b o, s.heap.get? b = some o -> (((hA.update (s.heap.objs.size + 1) (Obj.mapSeq fun _ => (#[] : Array Value))).push (seqObj "tuple" vs.toArray 0)).push (seqObj "list" #[] 0)).get? b = some o := fun b o e => by
   refine Heap.get?_push_of_some _ (Heap.get?_push_of_some _ ?_)
   rw [Heap.get?_update_ne _ _ _ _ (Nat.ne_of_lt (Nat.lt_succ_of_lt (Heap.lt_size e)))]
   exact keep b o e
  have ho6 : (((hA.update (s.heap.objs.size + 1) (Obj.mapSeq fun _ => (#[] : Array Value))).push (seqObj "tuple" vs.toArray 0)).push (seqObj "list" #[] 0)).get? (s.heap.objs.size + 1) = some (seqObj "list" #[] e1) := Heap.get?_push_of_some _ (Heap.get?_push_of_some _ ho1)
  have hk6 : (((hA.update (s.heap.objs.size + 1) (Obj.mapSeq fun _ => (#[] : Array Value))).push (seqObj "tuple" vs.toArray 0)).push (seqObj "list" #[] 0)).get? (s.heap.objs.size + 3) = some (seqObj "list" #[] 0) := by rw [<- hkS]; exact Heap.get?_push_size _ rfl
  have J0 : Inv X pins σ (upd H (s.heap.objs.size + 3) (.lst [])) { s with heap := ((hA.update (s.heap.objs.size + 1) (Obj.mapSeq fun _ => (#[] : Array Value))).push (seqObj "tuple" vs.toArray 0)).push (seqObj "list" #[] 0) } :=
   I.laid (t' := s.toks) (o := .lst []) k6 (by omega) ⟨by decide, [], 0, .nil, hk6⟩
  have hDn : H (s.heap.objs.size + 1) = none := I.hok.fresh (Nat.le_succ _)
  have hnp : ∀ p ∈ X.pn ++ pins, p.1 ≠ s.heap.objs.size + 1 := fun p hp => Nat.ne_of_lt (Nat.lt_succ_of_lt (Heap.lt_size (I.pin p hp).1))
  have J1 : Inv X ((s.heap.objs.size + 1, seqObj "list" #[] e1) :: pins) σ (upd H (s.heap.objs.size + 3) (.lst [])) { s with heap := ((hA.update (s.heap.objs.size + 1) (Obj.mapSeq fun _ => (#[] : Array Value))).push (seqObj "tuple" vs.toArray 0)).push (seqObj "list" #[] 0) } := by
   refine J0.pins_of fun p hp => ?_
   rcases List.mem_cons.mp hp with rfl | hp
   ·exact ⟨ho6, by rw [Xae (by show s.heap.objs.size + 1 ≠ s.heap.objs.size + 3; omega)]; exact hDn, Nat.ne_of_gt (Nat.lt_succ_of_lt I.lt), I.nofs (Nat.le_succ _), fun v q => by cases q⟩
   ·exact J0.pin p (List.mem_append_right _ hp)
  rw [hkS]
  subst hvs
  refine rest_ok (f := f) rfl J1 (I.hok.fresh (by omega)) hu (Nat.le_trans I.sz (Nat.le_succ _)) hnp hDn hT nd h64 turn fun p H' s' g so sm hD' J => ⟨_, rfl, ?_⟩
  exact wpAny_pure ⟨_, rfl, ⟨.ref (s.heap.objs.size + 1), H', J, rfl, h _ p H' hDn g so sm hD'⟩⟩
end
structure FunT (K : PySem.W.Frag) (x : Str) (st : Stmt) (f : Addr) (fd : FuncData) (T : Addr) : Prop where
 ex : ∃ (oc : Value) (od : Option Addr) (kV doc pm : Value) (an : Option Addr) (c0 : Addr) (ct : Value) (osl : Array (Option Value)),
  fd = PySem.W.fnOf x x (Xck st) (Xbf st) (defScope st) .none kV doc pm an (.ref c0) ct /\ K.lookup f = some ⟨oc, od, .func fd, osl⟩ /\ PySem.W.codeIn K (.ref c0) x = true /\ PySem.W.codeHdIn K c0 T = true
 kp : PySem.W.keepIn K (.ref f) = true
structure DefT (K : PySem.W.Frag) (x : Str) (st : Stmt) (T : Addr) : Prop where
 ex : ∃ f fd, PySem.W.nsIn K mainGlobals x = some (some (.ref f)) /\ PySem.W.keepIn K (.ref f) = true /\ FunT K x st f fd T /\ Fun K x x st f fd
theorem DefT.of {K : PySem.W.Frag} {x : Str} {st : Stmt} {f c0 T : Addr} {oc : Value} {od an : Option Addr} {osl : Array (Option Value)} {kV doc pm ct : Value} (a : PySem.W.nsIn K mainGlobals x = some (some (.ref f)))
  (l : K.lookup f = some ⟨oc, od, .func (PySem.W.fnOf x x (Xck st) (Xbf st) (defScope st) .none kV doc pm an (.ref c0) ct), osl⟩) (c : PySem.W.codeIn K (.ref c0) x = true) (k : PySem.W.keepIn K (.ref f) = true) (t : PySem.W.codeHdIn K c0 T = true) : DefT K x st T :=
 ⟨⟨f, _, a, k, ⟨⟨oc, od, kV, doc, pm, an, c0, ct, osl, rfl, l, c, t⟩, k⟩, fun_mk l c k⟩⟩
section
variable {P : Program} {w : World} {K : PySem.W.Frag} {mg : Str -> Option Value} {base : Heap}
theorem FunT.ok {x : Str} {st : Stmt} {f T : Addr} {fd : FuncData} {N ps : List Str} {k : Nat} {sp : Sp} (F : FunT K x st f fd T) (S : FnScope N ps (defScope st)) (len : ∀ vs H Q E, sp vs H Q E -> vs.length = ps.length)
  (hbody : ∀ (c0 : Addr), PySem.W.codeHdIn K c0 T = true -> ∀ (A : Around) (outer : List Env) (s : Shared) (H : Hp) (vs : List V) (Q : VK) (E : XK), Room k (A.deeper (envOfC x (defScope st) s.heap.objs.size f (.ref c0))) -> sp vs H Q E ->
   ∃ t, PSs (cxOf CX0 P w K mg base N x (defScope st) f (.ref c0) A outer s H E).nox (Xbf st) t /\ t { nx := fun _ H' => Q .non H', rt := Q } (start N vs) H) : FnOk P w K mg base CX0 (k + 1) f fd ps sp := by
 obtain ⟨oc, od, kV, doc, pm, an, c0, ct, osl, rfl, lk, hcd, hhd⟩ := F.ex
 refine fn_of lk hcd S len fun A outer s H vs Q E hr hsp => ?_
 obtain ⟨t, h, q⟩ := hbody c0 hhd A outer s H vs Q E hr hsp
 exact ⟨t, h.nox, q⟩
end
section
variable {X : Cx}
def tSortK (X : Cx) (ta tk : TA) : TE := fun σ H Q => ta σ H fun vs H1 => tk σ H1 fun zs H2 => ∃ (l f : Addr) (ps : List Addr) (Ts : List (List Str)), vs = [.ref l] /\ zs = [.ref f] /\ H2 l = some (.lst (ps.map V.ref)) /\ Tups H2 ps Ts /\ Ts.Nodup /\ ps.length <= 64 /\ Turns X f H2 ps Ts /\
 ∀ (D : Addr) (p : Array Nat) (H' : Hp), H2 D = none -> Gd ps.length p -> SoTo (ltP' Ts) p ps.length -> Same H2 H' -> H' D = some (.lst ((p.toList.map fun i => ps.getD i 0).map V.ref)) -> Q (.ref D) H'
theorem pe_sortK {x : Str} {p pos : Pos} {e : Expr} {es : List Expr} {kws : List Keyword} {ta tk : TA} (hu : X.A.in1.in1.units < cLine) (hg : Gl X x) (hm : X.mg x = none) (hv : bootBuiltins x = some (.builtin "sorted")) (ha : PA X (e :: es) ta) (hkw : PK X kws tk)
  (hks : (backToKw pos (keywordEach kws X.env)).filterMap (·.1) = [Str.ofString "key"] := by rfl)
  (hn : x ≠ "__name__" := by decide) (hdb : (x == ("__debug__" : Str)) = false := by decide)
  (he : backTo pos (starEach (e :: es) X.env) = (false, eval e X.env) :: backTo pos (starEach es X.env) := by rfl)
  (hplain : (backTo pos (starEach (e :: es) X.env)).any (·.1) = false := by rfl)
  (hall : (backToKw pos (keywordEach kws X.env)).all (·.1.isSome) = true := by rfl)
  (hno : (backToKw pos (keywordEach kws X.env)).any (·.1.isNone) = false := by rfl) : PE X (.Call (.Name x p) (e :: es) kws pos) (tSortK X ta tk) := by
 intro pins s σ H Q I h
 refine wpAny_Call_Name_kw (Xf6 I hg hm hv ?_ hn hdb)
 refine callWith_kw (thn (ha pos pins s σ H _ I h) fun us s1 ⟨vs, H1, I1, r1, q1⟩ => thn (hkw pos pins s1 σ H1 _ I1 q1) fun ws s2 ⟨zs, H2, I2, r2, q2⟩ => ?_) he hplain hall hno
 rw [hks]
 obtain ⟨l, f, ps, Ts, rfl, rfl, hl, hT, nd, h64, turn, k⟩ := q2
 obtain ⟨u, rfl, rx⟩ := vals1 r1
 obtain ⟨v, rfl, rf⟩ := vals1 r2
 cases rx
 cases rf
 exact Xlw I2 hu hl hT nd h64 turn k
theorem Xof {k : Nat} {f c : Addr} {x qual : Str} {params : Arguments} {body : Expr} {scope : Scope} {pm ctv : Value} {H : Hp} {ps : List Addr} {Ts : List (List Str)} (hf : H f = some (.ext (lamP f (PySem.W.kla_fn "<lambda>" qual params body scope [] pm (.ref c) ctv)))) (hc : H c = some (.ext (codP c qual)))
  (S : FnScope [x] [x] scope) (hr : Room (k + 3) X.A) (hb : ∀ u, bindArgs (PySem.W.kla_fn "<lambda>" qual params body scope [] pm (.ref c) ctv) ⟨[u], []⟩ = pure ([x].zip [u]))
  (hkey : ∀ (A : Around) (outer : List Env) (s1 : Shared) (H1 : Hp) (i : Nat), i < ps.length -> Same H H1 -> Room k (A.deeper (envOfC qual scope s1.heap.objs.size f (.ref c))) -> ∃ t, PE (cxOf CX0 X.prog X.w X.K X.mg X.base [x] qual scope f (.ref c) A outer s1 H1 E0) body t /\
   ∀ Q : VK, (∀ t H2, H2 t = some (.tup [.int (Ts.getD i []).length, .ref (ps.getD i 0)]) -> Same H1 H2 -> Q (.ref t) H2) -> t (start [x] [.ref (ps.getD i 0)]) H1 Q) : Turns X f H ps Ts := by
 intro pins σ s1 H1 i hi sm I
 have hr1 : Room (k + 1) X.A.in1.in1 := (Room.in1 (k := k + 2) hr).in1
 obtain ⟨t, ht, hq⟩ := hkey X.A.in1.in1 X.stack s1 H1 i hi sm (hr1.deeper _)
 refine wpAny_call (codeAny_mono (lam_run (Q := fun v H2 => ∃ t, v = .ref t /\ H2 t = some (.tup [.int (Ts.getD i []).length, .ref (ps.getD i 0)]) /\ Same H1 H2) (sm _ _ hf) (sm _ _ hc) S hr1 I.env0.in1.in1 rfl (.cons (show RelV (.ref (ps.getD i 0)) (.ref (ps.getD i 0)) from rfl) .nil) (hb _) ht (hq _ fun t H2 a b => ⟨t, rfl, a, b⟩)) fun r s' hq' => ?_)
 cases r with
 | error e => exact hq'.elim
 | ok fl =>
  cases fl with
  | next => exact False.elim hq'
  | brk => exact False.elim hq'
  | cont => exact False.elim hq'
  | ret u =>
   obtain ⟨v, H2, J, rv, t, rfl, a, b⟩ := I.after hq'
   exact ⟨t, H2, rv, J, a, b⟩
end
end L2
namespace SH
open PySem PySem.Spec PyProof.Rows L2
theorem Xem {how : Str} {off : Bool} : Xcq how off = true ↔ (how = "within" -> off = true) /\ (how = "apart" -> off = false) := by
 unfold Xcq
 by_cases h : how = "within"
 ·rw [if_pos h]
  have n : how ≠ "apart" := by rw [h]; decide
  exact ⟨fun z => ⟨fun _ => z, fun z => absurd z n⟩, fun z => z.1 h⟩
 ·rw [if_neg h]
  by_cases g : how = "apart"
  ·rw [decide_eq_true g]
   constructor
   ·exact fun z => ⟨fun q => absurd q h, fun _ => by simpa using z⟩
   ·intro z
    rw [z.2 g]
    rfl
  ·rw [decide_eq_false g]
   exact ⟨fun _ => ⟨fun q => absurd q h, fun q => absurd q g⟩, fun _ => rfl⟩
theorem Xe8 {row S : List Str} : Xam row S = true ↔ S.Pairwise ltS /\ (∀ x ∈ S, x ∈ row) /\ (∀ x ∈ S, ∀ y ∈ row, lieR row x y = "within" -> y ∈ S) /\ (∀ x ∈ S, ∀ y ∈ S, lieR row x y ≠ "apart") := by
 constructor
 ·intro h
  obtain ⟨h1, h2⟩ := Xcr h
  unfold Xam at h
  rw [Bool.and_eq_true] at h
  have al : ∀ x ∈ S, ∀ y ∈ row, Xcq (lieR row x y) (decide (y ∈ S)) = true := fun x hx y hy => List.all_eq_true.mp (List.all_eq_true.mp h.2 x hx) y (Xag.mpr hy)
  refine ⟨h2, h1, fun x hx y hy e => of_decide_eq_true ((Xem.mp (al x hx y hy)).1 e), fun x hx y hy e => ?_⟩
  have := (Xem.mp (al x hx y (h1 y hy))).2 e
  rw [decide_eq_true hy] at this
  cases this
 ·rintro ⟨h1, h2, h3, h4⟩
  unfold Xam
  rw [Bool.and_eq_true, Bool.and_eq_true]
  refine ⟨⟨decide_eq_true (Xg5 h1).symm, List.all_eq_true.mpr fun x hx => decide_eq_true (h2 x hx)⟩, List.all_eq_true.mpr fun x hx => List.all_eq_true.mpr fun y hy => Xem.mpr ⟨fun e => decide_eq_true (h3 x hx y (Xag.mp hy) e), fun e => decide_eq_false fun z => h4 x hx y z e⟩⟩
theorem Xd6 {a b c e : Int} (h : lieT a b c e = "within") : c < a /\ a < e /\ c < b /\ b < e := by
 unfold lieT at h
 split at h
 ·exact absurd h (by decide)
 ·split at h
  ·exact absurd h (by decide)
  ·split at h
   ·rename_i q
    rw [nIn2] at q
    by_cases p1 : c < a /\ a < e
    ·by_cases p2 : c < b /\ b < e
     ·exact ⟨p1.1, p1.2, p2.1, p2.2⟩
     ·rw [if_pos p1, if_neg p2] at q; omega
    ·rw [if_neg p1] at q
     split at q <;> omega
   ·split at h
    ·exact absurd h (by decide)
    ·exact absurd h (by decide)
theorem Xj5 {row : List Str} {x y : Str} (hx : row.count x = 2) (h : lieR row x y = "within") : span row x < span row y := by
 have l1 := Xda hx
 obtain ⟨h1, h2, h3, h4⟩ := Xd6 h
 unfold span
 omega
theorem Xog {S : List Str} {p : Str -> Bool} (h : S.Pairwise ltS) : (S.filter p).Pairwise ltS := h.filter p
theorem Xoh {row S : List Str} (h2 : ∀ y ∈ row, row.count y = 2) (h : Xam row S = true) (ne : S ≠ []) : ∃ x ∈ S, Xam row (S.filter fun y => decide (y ≠ x)) = true := by
 obtain ⟨p1, p2, p3, p4⟩ := Xe8.mp h
 obtain ⟨x, hx, lx⟩ := least (span row) S ne
 refine ⟨x, hx, Xe8.mpr ⟨Xog p1, fun y hy => p2 y (List.mem_filter.mp hy).1, fun y hy z hz e => ?_, fun y hy z hz => p4 y (List.mem_filter.mp hy).1 z (List.mem_filter.mp hz).1⟩⟩
 obtain ⟨hy1, hy2⟩ := List.mem_filter.mp hy
 refine List.mem_filter.mpr ⟨p3 y hy1 z hz e, decide_eq_true fun q => ?_⟩
 subst q
 have := Xj5 (h2 y (p2 y hy1)) e
 have := lx y hy1
 omega
theorem Xit {S : List Str} {x : Str} (h : S.Pairwise ltS) (hx : x ∈ S) : srt ((S.filter fun y => decide (y ≠ x)) ++ [x]) = S := by
 have nd := Xb8 h
 refine Xia ((Xa6 _).trans (Xeg ?_ nd fun y => ?_)) (Xdr _) (Xe1 h)
 ·rw [List.nodup_append]
  refine ⟨nd.filter _, by simp, fun a ha b hb e => ?_⟩
  rw [List.mem_singleton.mp hb] at e
  exact of_decide_eq_true (List.mem_filter.mp ha).2 e
 ·rw [List.mem_append, List.mem_singleton, List.mem_filter]
  constructor
  ·rintro (z | z)
   ·exact z.1
   ·rw [z]; exact hx
  ·intro z
   by_cases e : y = x
   ·exact .inr e
   ·exact .inl ⟨z, decide_eq_true e⟩
theorem less_len {S : List Str} {x : Str} (h : S.Pairwise ltS) (hx : x ∈ S) : (S.filter fun y => decide (y ≠ x)).length + 1 = S.length := by
 have e := Xit h hx
 have := congrArg List.length e
 rw [(Xa6 _).length_eq, List.length_append] at this
 exact this
theorem Xf2 {H : Hp} : ∀ {Ts : List (List Str)} {xs : List V}, DAll H (Ts.map tupD) xs -> ∃ ps : List Addr, xs = ps.map V.ref /\ Tups H ps Ts
 | [], xs, h => by unfold List.map DAll at h; exact ⟨[], h, Tups.nil H⟩
 | T :: Ts, xs, h => by
  rw [List.map_cons] at h
  unfold DAll at h
  obtain ⟨v, vr, rfl, h1, h2⟩ := h
  obtain ⟨p, ys, rfl, hp, hy⟩ := Xnh h1
  rw [Xbd hy] at hp
  obtain ⟨ps, rfl, hq⟩ := Xf2 h2
  exact ⟨p :: ps, rfl, Tups.cons hp hq⟩
theorem Xiu {H : Hp} : ∀ {ps : List Addr} {Ts : List (List Str)}, Tups H ps Ts -> DAll H (Ts.map tupD) (ps.map V.ref)
 | [], Ts, h => by
  have : Ts = [] := List.length_eq_zero_iff.mp h.1.symm
  rw [this]
  unfold List.map DAll
  rfl
 | p :: ps, [], h => by have := h.1; simp at this
 | p :: ps, T :: Ts, h => by
  rw [List.map_cons, List.map_cons]
  unfold DAll
  exact ⟨.ref p, ps.map V.ref, rfl, Xd0 (h.2 0 (by simp)), Xiu ⟨by simpa using h.1, fun i hi => by simpa using h.2 (i + 1) (by simpa using hi)⟩⟩
theorem fits_of {row T : List Str} (h2 : ∀ y ∈ row, row.count y = 2) (h : Xam row T = true) : Xei (bars row) T = true := by
 rw [<- Xjr h2] at h
 unfold Xnr at h
 rw [Bool.and_eq_true] at h
 exact h.2
def Cov (row : List Str) (Us : List (List Str)) (j : Nat) (Ts : List (List Str)) : Prop := ∀ i, i < j -> ∀ x ∈ row, x ∉ Us.getD i [] -> Xam row (srt (Us.getD i [] ++ [x])) = true -> srt (Us.getD i [] ++ [x]) ∈ Ts
theorem Xj6 {α : Type} {R : α -> α -> Prop} (irr : ∀ a, ¬ R a a) (tr : ∀ a b c, R a b -> R b c -> R a c) : ∀ {A B : List α}, A.Pairwise R -> B.Pairwise R -> (∀ x, x ∈ A ↔ x ∈ B) -> A = B
 | [], [], _, _, _ => rfl
 | [], b :: _, _, _, h => absurd ((h b).mpr List.mem_cons_self) (by simp)
 | a :: _, [], _, _, h => absurd ((h a).mp List.mem_cons_self) (by simp)
 | a :: A, b :: B, hA, hB, h => by
  obtain ⟨a1, a2⟩ := List.pairwise_cons.mp hA
  obtain ⟨b1, b2⟩ := List.pairwise_cons.mp hB
  have e : a = b := by
   rcases List.mem_cons.mp ((h a).mp List.mem_cons_self) with z | z
   ·exact z
   ·rcases List.mem_cons.mp ((h b).mpr List.mem_cons_self) with u | u
    ·exact u.symm
    ·exact absurd (tr _ _ _ (a1 b u) (b1 a z)) (irr a)
  subst e
  rw [Xj6 irr tr a2 b2 fun x => ?_]
  constructor
  ·intro hx
   rcases List.mem_cons.mp ((h x).mp (List.mem_cons_of_mem _ hx)) with z | z
   ·exact absurd (z ▸ a1 x hx) (irr a)
   ·exact z
  ·intro hx
   rcases List.mem_cons.mp ((h x).mpr (List.mem_cons_of_mem _ hx)) with z | z
   ·exact absurd (z ▸ b1 x hx) (irr a)
   ·exact z
def LayC (row : List Str) (n : Nat) (Us : List (List Str)) : Prop := ∀ T, T ∈ Us ↔ Xam row T = true /\ T.length = n
end SH
namespace L2
open PySem PySem.Spec PyProof.Rows
end L2
namespace SH
open PySem PySem.Spec PyProof.Rows L2
def spOne : Sp := fun vs H Q _ => ∃ (dr sc l : Addr) (xs : List V), vs = [.ref dr, .ref l] /\ DrawOk H dr sc /\ H l = some (.lst xs) /\ l ≠ dr /\ 0 < xs.length /\ xs.length <= 1000 /\
 ∀ (i : Nat) (H' : Hp), i < xs.length -> DrawOk H' dr sc -> But dr H H' -> Q (xs.getD i .non) H'
def mostL (a b c : List Str) : List Str := srt ((a.filter fun x => decide (x ∈ b) || decide (x ∈ c)) ++ (b.filter fun x => decide (x ∈ c) && !decide (x ∈ a)))
theorem lt_uniq {a b : List Str} (ha : a.Pairwise ltS) (hb : b.Pairwise ltS) (h : ∀ x, x ∈ a ↔ x ∈ b) : a = b := Xj6 Xbu (fun _ _ _ => Xc1) ha hb h
end SH
set_option maxHeartbeats 3200000
namespace L2
open PySem PySem.Spec PyProof.Rows PySem.Calls
def Mask (mask : Nat) : Prop := mask = 7 \/ mask = 15 \/ mask = 31
section
variable {mask : Nat} {owner : Array (Option Nat)}
def liveL (owner : Array (Option Nat)) : List Nat := owner.toList.filterMap id
end
section
variable {P : Program} {w : World} {A : Around} {E : Value -> Shared -> Prop} {s : Shared} {a b c : Addr} {ks ls : List Str}
structure Nu (w : World) (h : Heap) (a : Addr) (n : Nat) : Prop where
 ex : ∃ o ep t, h.get? a = some o /\ o.ExactSet /\ o.data = .set #[] ep t /\ t.place = #[] /\ t.dummies = #[] /\ Mask t.mask /\ n <= t.mask /\ t.led = !Xc9 w /\ t.plain = true
def Wl (P : Program) (w : World) (wl : Array (Int × Value)) (ks : List Str) : Prop := ElemsOf (PySem.strKind P w) wl.toList /\ ∃ zs, StrsAre (wl.toList.map (·.2)) zs /\ zs.Perm ks
end
section
variable {P : Program} {w : World} {A : Around} {E : Value -> Shared -> Prop} {s : Shared} {a b c : Addr} {ks ls : List Str}
def xor1 (ks : List Str) (x : Str) : List Str := if x ∈ ks then ks.erase x else ks ++ [x]
end
section
variable {P : Program} {w : World} {A : Around} {E : Value -> Shared -> Prop} {s : Shared} {a b c : Addr} {ks ls : List Str}
end
section
variable {X : Cx}
end
end L2
set_option maxHeartbeats 4000000
namespace SH
open PySem PySem.Spec PyProof.Rows L2
def xorL (a b : List Str) : List Str := srt ((a.filter fun x => !decide (x ∈ b)) ++ (b.filter fun x => !decide (x ∈ a)))
structure Two (H : Hp) (r p q : Addr) (row a b : List Str) : Prop where
 hr : H r = some (.lst (row.map V.str))
 r2 : Row2 row
 hd : (dit row).length <= 14
 hp : H p = some (.tup (a.map V.str))
 hq : H q = some (.tup (b.map V.str))
 oa : ∀ y ∈ a, okN y
 ob : ∀ y ∈ b, okN y
 la : a.length <= 24
 lb : b.length <= 24
def ltPl (a b : List Str) : Bool := ltNL a.length a b.length b
theorem Xlx {Ts : List (List Str)} {p : Array Nat} (g : Gd Ts.length p) (so : SoTo (ltP' Ts) p Ts.length) :
  (p.toList.map fun i => Ts.getD i []).Perm Ts /\ (p.toList.map fun i => Ts.getD i []).Pairwise fun a b => ltPl a b = true := by
 constructor
 ·have e : ((List.range Ts.length).map fun i => Ts.getD i []) = Ts := by
   refine List.ext_getElem (by simp) fun i h1 h2 => ?_
   simp [List.getElem_map, List.getElem_range, List.getD, h2]
  have q : p.toList.Perm (List.range Ts.length) := by
   have := g.toList
   simpa using this
  have := q.map fun i => Ts.getD i []
  rw [e] at this
  exact this
 ·rw [List.pairwise_iff_getElem]
  intro i j hi hj hij
  have sz := g.size
  rw [List.length_map, Array.length_toList, sz] at hi hj
  have := so i j hij hj
  rw [List.getElem_map, List.getElem_map]
  have e1 : p.getD i 0 = p.toList[i]'(by rw [Array.length_toList, sz]; exact hi) := by simp [Array.getD, sz, hi]
  have e2 : p.getD j 0 = p.toList[j]'(by rw [Array.length_toList, sz]; exact hj) := by simp [Array.getD, sz, hj]
  rw [e1, e2] at this
  exact this
theorem Xiv {α : Type} (f : Nat -> α) (d : α) (l : List Nat) {i : Nat} (hi : i < l.length) : (l.map f).getD i d = f l[i] := by simp [List.getD, hi]
theorem tups_by {H : Hp} {ps : List Addr} {Ts : List (List Str)} {p : Array Nat} (h : Tups H ps Ts) (g : Gd ps.length p) : Tups H (p.toList.map fun i => ps.getD i 0) (p.toList.map fun i => Ts.getD i []) := by
 refine ⟨by simp, fun i hi => ?_⟩
 rw [List.length_map] at hi
 have e1 : (p.toList.map fun i => ps.getD i 0).getD i 0 = ps.getD p.toList[i] 0 := Xiv _ _ _ hi
 have e2 : (p.toList.map fun i => Ts.getD i []).getD i [] = Ts.getD p.toList[i] [] := Xiv _ _ _ hi
 rw [e1, e2]
 refine h.2 _ ?_
 have q : p.toList.Perm (List.range ps.length) := by
  have := g.toList
  simpa using this
 simpa using q.mem_iff.mp (List.getElem_mem hi)
abbrev qIn : Str := (Str.ofString "in_order" ++ Str.ofString ".<locals>.") ++ Str.ofString "<lambda>"
def spInOrder (T : Addr) (pos : Pos) : Sp := fun vs H Q _ => ∃ (l : Addr) (ps : List Addr) (Ts : List (List Str)), vs = [.ref l] /\ H l = some (.lst (ps.map V.ref)) /\ Tups H ps Ts /\ Ts.Nodup /\ ps.length <= 64 /\ Xb0 T pos qIn H /\
 ∀ (D : Addr) (ps' : List Addr) (Ts' : List (List Str)) (H' : Hp), H D = none -> H' D = some (.lst (ps'.map V.ref)) -> Tups H' ps' Ts' -> Ts'.Perm Ts -> (Ts'.Pairwise fun a b => ltPl a b = true) -> Xb0 T pos qIn H' -> But T H H' -> Q (.ref D) H'
theorem Xb0.same {T : Addr} {pos : Pos} {q : Str} {H H' : Hp} (h : Xb0 T pos q H) (s : Same H H') : Xb0 T pos q H' := by
 rcases h with e | ⟨c, e, ec⟩
 ·exact .inl (s _ _ e)
 ·exact .inr ⟨c, s _ _ e, s _ _ ec⟩
theorem Xb0.but {T dr : Addr} {pos : Pos} {q : Str} {H H' : Hp} {o' : List V} (h : Xb0 T pos q H) (hd : H dr = some (.lst o')) (b : But dr H H') : Xb0 T pos q H' := by
 rcases h with e | ⟨c, e, ec⟩
 ·exact .inl (b _ _ e fun z => by rw [z, hd] at e; cases e)
 ·exact .inr ⟨c, b _ _ e (fun z => by rw [z, hd] at e; cases e), b _ _ ec fun z => by rw [z, hd] at ec; cases ec⟩
def lamPos (s : Stmt) : Pos := match Xbf s with
 | [.Return (some (.Call _ _ [⟨_, .Lambda _ _ _ p, _⟩] _)) _] => p
 | _ => ⟨0, 0, 0, 0⟩
theorem Xoi {a b c e : Int} (h1 : a < b) (h2 : c < e) (n1 : a ≠ c) (n2 : a ≠ e) (n3 : b ≠ c) (n4 : b ≠ e) (h : lieT a b c e = "apart") : e < a \/ b < c := by
 unfold lieT at h
 rw [if_neg (by omega)] at h
 split at h
 ·exact absurd h (by decide)
 ·split at h
  ·exact absurd h (by decide)
  ·split at h
   ·exact absurd h (by decide)
   ·rename_i q1 q2 q3
    rw [nIn2] at q1 q2 q3
    by_cases p1 : c < a /\ a < e
    ·by_cases p2 : c < b /\ b < e
     ·rw [if_pos p1, if_pos p2] at q2; omega
     ·rw [if_pos p1, if_neg p2] at q1; omega
    ·by_cases p2 : c < b /\ b < e
     ·rw [if_neg p1, if_pos p2] at q1; omega
     ·by_cases p3 : a < c /\ c < b
      ·by_cases p4 : a < e /\ e < b
       ·rw [if_pos p3, if_pos p4] at q3; omega
       ·omega
      ·omega
theorem Xk5 {a b c e : Int} (h1 : a < b) (h : lieT a b c e = "cross") : a < e /\ c < b := by
 unfold lieT at h
 split at h
 ·exact absurd h (by decide)
 ·split at h
  ·rename_i q
   rw [nIn2] at q
   by_cases p1 : c < a /\ a < e
   ·omega
   ·by_cases p2 : c < b /\ b < e
    ·omega
    ·rw [if_neg p1, if_neg p2] at q; omega
  ·split at h
   ·exact absurd h (by decide)
   ·split at h
    ·exact absurd h (by decide)
    ·exact absurd h (by decide)
theorem Xoj {a b c e : Int} (h1 : a < b) (h2 : c < a) (h3 : b < e) : lieT a b c e = "within" := by
 unfold lieT
 have q : nIn c e [a, b] = 2 := by rw [nIn2, if_pos ⟨h2, by omega⟩, if_pos ⟨by omega, h3⟩]
 rw [if_neg (by omega), q, if_neg (by decide), if_pos rfl]
section
variable {row : List Str}
theorem up_in {a y : Str} (h : upB row a y = true) : (pl row y).1 <= (pl row a).1 /\ (pl row a).2 <= (pl row y).2 := by
 unfold upB at h
 rw [Bool.or_eq_true] at h
 rcases h with h | h
 ·rw [of_decide_eq_true h]; exact ⟨Int.le_refl _, Int.le_refl _⟩
 ·obtain ⟨h1, h2, h3, h4⟩ := Xd6 (of_decide_eq_true h)
  exact ⟨by omega, by omega⟩
theorem Xiw {x y z : Str} (hx : row.count x = 2) (h : lieR row x y = "within") (g : lieR row y z = "within") : lieR row x z = "within" := by
 have l := Xda hx
 obtain ⟨h1, h2, h3, h4⟩ := Xd6 h
 obtain ⟨g1, g2, g3, g4⟩ := Xd6 g
 exact Xoj l (by omega) (by omega)
theorem Xf3 {x : Str} : lieR row x x ≠ "within" := by rw [Xdy]; decide
structure Core (row : List Str) (cs : List Str) (p : Str -> Bool) : Prop where
 inr : ∀ c ∈ cs, c ∈ row
 is : ∀ y, p y = true ↔ ∃ c ∈ cs, upB row c y = true
 ov : ∀ c ∈ cs, ∀ d ∈ cs, (pl row c).1 < (pl row d).2
 an : ∀ c ∈ cs, ∀ d ∈ cs, lieR row c d ≠ "within"
variable {cs cs' : List Str} {p p' : Str -> Bool}
theorem Core.plot (h2 : ∀ y ∈ row, row.count y = 2) (C : Core row cs p) : Xam row ((dit row).filter p) = true := by
 refine Xe8.mpr ⟨(Xds row).filter p, fun x hx => Xag.mp (List.mem_filter.mp hx).1, fun x hx y hy e => ?_, fun x hx y hy e => ?_⟩
 ·obtain ⟨c, hc, hu⟩ := (C.is x).mp (List.mem_filter.mp hx).2
  refine List.mem_filter.mpr ⟨Xag.mpr hy, (C.is y).mpr ⟨c, hc, ?_⟩⟩
  unfold upB at hu ⊢
  rw [Bool.or_eq_true] at hu ⊢
  rcases hu with hu | hu
  ·rw [of_decide_eq_true hu] at e
   exact .inr (decide_eq_true e)
  ·exact .inr (decide_eq_true (Xiw (h2 c (C.inr c hc)) (of_decide_eq_true hu) e))
 ·have mx := List.mem_filter.mp hx
  have my := List.mem_filter.mp hy
  obtain ⟨c, hc, hu⟩ := (C.is x).mp mx.2
  obtain ⟨d, hd, hv⟩ := (C.is y).mp my.2
  have hx2 := h2 x (Xag.mp mx.1)
  have hy2 := h2 y (Xag.mp my.1)
  have ne : x ≠ y := fun z => by rw [z, Xdy] at e; exact absurd e (by decide)
  obtain ⟨n1, n2, n3, n4⟩ := Xjp hx2 hy2 ne
  have u1 := up_in hu
  have u2 := up_in hv
  have o1 := C.ov c hc d hd
  have o2 := C.ov d hd c hc
  rcases Xoi (Xda hx2) (Xda hy2) n1 n2 n3 n4 e with z | z
  ·omega
  ·omega
theorem Core.min (h2 : ∀ y ∈ row, row.count y = 2) (C : Core row cs p) (x : Str) : x ∈ cs ↔ x ∈ (dit row).filter p /\ ∀ y ∈ (dit row).filter p, lieR row y x ≠ "within" := by
 have self : ∀ c ∈ cs, c ∈ (dit row).filter p := fun c hc => List.mem_filter.mpr ⟨Xag.mpr (C.inr c hc), (C.is c).mpr ⟨c, hc, by unfold upB; simp⟩⟩
 constructor
 ·intro hx
  refine ⟨self x hx, fun y hy e => ?_⟩
  obtain ⟨c, hc, hu⟩ := (C.is y).mp (List.mem_filter.mp hy).2
  unfold upB at hu
  rw [Bool.or_eq_true] at hu
  rcases hu with hu | hu
  ·rw [of_decide_eq_true hu] at e
   exact C.an c hc x hx e
  ·exact C.an c hc x hx (Xiw (h2 c (C.inr c hc)) (of_decide_eq_true hu) e)
 ·rintro ⟨hx, hm⟩
  obtain ⟨c, hc, hu⟩ := (C.is x).mp (List.mem_filter.mp hx).2
  unfold upB at hu
  rw [Bool.or_eq_true] at hu
  rcases hu with hu | hu
  ·rw [of_decide_eq_true hu]; exact hc
  ·exact absurd (of_decide_eq_true hu) (hm c (self c hc))
theorem Core.eq (h2 : ∀ y ∈ row, row.count y = 2) (C : Core row cs p) (C' : Core row cs' p') (e : (dit row).filter p = (dit row).filter p') : ∀ x, x ∈ cs ↔ x ∈ cs' := fun x => by
 rw [C.min h2, C'.min h2, e]
theorem core1 (h2 : ∀ y ∈ row, row.count y = 2) {a : Str} (ha : a ∈ row) : Core row [a] (upB row a) where
 inr c hc := by rw [List.mem_singleton.mp hc]; exact ha
 is y := by simp
 ov c hc d hd := by rw [List.mem_singleton.mp hc, List.mem_singleton.mp hd]; exact Xda (h2 a ha)
 an c hc d hd := by rw [List.mem_singleton.mp hc, List.mem_singleton.mp hd]; exact Xf3
theorem Xix {q : Str × Str} (h : q ∈ crs row) : q.1 ∈ row /\ q.2 ∈ row /\ ltS q.1 q.2 /\ lieR row q.1 q.2 = "cross" := by
 unfold crs at h
 obtain ⟨x, hx, h⟩ := List.mem_flatMap.mp h
 obtain ⟨y, hy, rfl⟩ := List.mem_map.mp h
 obtain ⟨h1, h3⟩ := List.mem_filter.mp hy
 rw [Bool.and_eq_true] at h3
 exact ⟨Xag.mp hx, Xag.mp h1, of_decide_eq_true h3.1, of_decide_eq_true h3.2⟩
theorem core2 (h2 : ∀ y ∈ row, row.count y = 2) {q : Str × Str} (h : q ∈ crs row) : Core row [q.1, q.2] fun y => upB row q.1 y || upB row q.2 y := by
 obtain ⟨ha, hb, hl, hx⟩ := Xix h
 have hy : lieR row q.2 q.1 = "cross" := Xa2 (h2 _ ha) (h2 _ hb) hx
 have la := Xda (h2 _ ha)
 have lb := Xda (h2 _ hb)
 have c1 := Xk5 la hx
 have c2 := Xk5 lb hy
 refine ⟨fun c hc => ?_, fun y => by simp, fun c hc d hd => ?_, fun c hc d hd => ?_⟩
 ·simp at hc
  rcases hc with rfl | rfl
  ·exact ha
  ·exact hb
 ·simp at hc hd
  rcases hc with rfl | rfl <;> rcases hd with rfl | rfl
  ·exact la
  ·exact c1.1
  ·exact c2.1
  ·exact lb
 ·simp at hc hd
  rcases hc with rfl | rfl <;> rcases hd with rfl | rfl
  ·exact Xf3
  ·rw [hx]; decide
  ·rw [hy]; decide
  ·exact Xf3
theorem Xly (h2 : ∀ y ∈ row, row.count y = 2) : ∀ S ∈ cands row, Xam row S = true := fun S hS => by
 unfold cands at hS
 rcases List.mem_append.mp hS with h | h
 ·obtain ⟨a, ha, rfl⟩ := List.mem_map.mp h
  exact (core1 h2 (Xag.mp ha)).plot h2
 ·obtain ⟨q, hq, rfl⟩ := List.mem_map.mp h
  exact (core2 h2 hq).plot h2
theorem crs_nd (row : List Str) : (crs row).Nodup := by
 unfold crs
 have nd := Xb8 (Xds row)
 rw [List.Nodup, List.pairwise_flatMap]
 refine ⟨fun x hx => ?_, nd.imp fun {x y} ne a ha b hb e => ?_⟩
 ·rw [List.pairwise_map]
  exact (nd.filter _).imp fun ne e => ne (Prod.mk.inj e).2
 ·obtain ⟨u, _, rfl⟩ := List.mem_map.mp ha
  obtain ⟨v, _, rfl⟩ := List.mem_map.mp hb
  exact ne (Prod.mk.inj e).1
theorem cands_nd (h2 : ∀ y ∈ row, row.count y = 2) : (cands row).Nodup := by
 have nd := Xb8 (Xds row)
 unfold cands
 rw [List.Nodup, List.pairwise_append]
 refine ⟨?_, ?_, ?_⟩
 ·rw [List.pairwise_map]
  refine nd.imp_of_mem fun {a b} ha hb ne e => ne ?_
  have := (Core.eq h2 (core1 h2 (Xag.mp ha)) (core1 h2 (Xag.mp hb)) e a).mp (List.mem_singleton_self _)
  exact List.mem_singleton.mp this
 ·rw [List.pairwise_map]
  refine (crs_nd row).imp_of_mem fun {q r} hq hr ne e => ne ?_
  have E := Core.eq h2 (core2 h2 hq) (core2 h2 hr) e
  obtain ⟨_, _, l1, _⟩ := Xix hq
  obtain ⟨_, _, l2, _⟩ := Xix hr
  have e1 := (E q.1).mp (by simp)
  have e2 := (E q.2).mp (by simp)
  have e3 := (E r.1).mpr (by simp)
  simp at e1 e2 e3
  obtain ⟨a, b⟩ := q
  obtain ⟨c, d⟩ := r
  simp only at *
  rcases e1 with e1 | e1
  ·rcases e2 with e2 | e2
   ·exact absurd (e1.trans e2.symm) (Xh7 l1)
   ·rw [e1, e2]
  ·rcases e2 with e2 | e2
   ·rw [e1, e2] at l1
    exact absurd (Xc1 l1 l2) (Xbu _)
   ·exact absurd (e1.trans e2.symm) (Xh7 l1)
 ·intro A hA B hB e
  obtain ⟨a, ha, rfl⟩ := List.mem_map.mp hA
  obtain ⟨q, hq, rfl⟩ := List.mem_map.mp hB
  have E := Core.eq h2 (core1 h2 (Xag.mp ha)) (core2 h2 hq) e
  obtain ⟨_, _, l1, _⟩ := Xix hq
  have e1 := List.mem_singleton.mp ((E q.1).mpr (by simp))
  have e2 := List.mem_singleton.mp ((E q.2).mpr (by simp))
  exact Xh7 l1 (e1.trans e2.symm)
theorem Xiy (h2 : ∀ y ∈ row, row.count y = 2) (h3 : Xba row) (S : List Str) : S ∈ [] :: cands row ↔ Xam row S = true := by
 constructor
 ·intro h
  rcases List.mem_cons.mp h with e | e
  ·rw [e]; exact Xg9 row
  ·exact Xly h2 S e
 ·intro h
  by_cases e : S = []
  ·rw [e]; exact List.mem_cons_self
  ·exact List.mem_cons_of_mem _ (Xin h2 h3 e h)
theorem cands_ne (h2 : ∀ y ∈ row, row.count y = 2) : [] ∉ cands row := fun h => by
 unfold cands at h
 rcases List.mem_append.mp h with h | h
 ·obtain ⟨a, ha, e⟩ := List.mem_map.mp h
  have := ((core1 h2 (Xag.mp ha)).min h2 a).mp (List.mem_singleton_self _)
  rw [e] at this
  cases this.1
 ·obtain ⟨q, hq, e⟩ := List.mem_map.mp h
  have := ((core2 h2 hq).min h2 q.1).mp (by simp)
  rw [e] at this
  cases this.1
theorem all_nd (h2 : ∀ y ∈ row, row.count y = 2) : ([] :: cands row).Nodup := List.nodup_cons.mpr ⟨cands_ne h2, cands_nd h2⟩
end
end SH
namespace L2
open PySem PySem.Spec PyProof.Rows
theorem Xk6 {X : Cx} {N : List Str} {cap : List (Option Nat)} {scope : Scope} {tg iter elt : Expr} {ifs : List Expr} {g : TG} {tt : TT} {te : TE} {wi : TI} {pos : Pos} {i : Nat} {y : Str} {py spos : Pos} (C : CompScope X N cap scope) (hcalm : X.calm = true) (hN : X.N.Nodup) (hiN : X.N[i]? = some y) (hy : X.env.scope.names.lookup y = some .local) (hi : PI X tg iter wi)
  (hg : ∀ s0 H0 ex, PG (X.comp N scope s0 H0 ex) tg g) (ht : ∀ s0 H0 ex, PIfs (X.comp N scope s0 H0 ex) ifs tt) (he : ∀ s0 H0 ex, PE (X.comp N scope s0 H0 ex) elt te)
  (hsw : swapsWith (.ListComp elt [⟨tg, iter, ifs, 0⟩] scope pos) (some (.Name y py)) spos.line X.env = pure true := by rfl)
  (hs : ∀ x, foldedSetIterable iter X.env x = pure x := by intro _; rfl) : PS X (.Assign [.Name y py] (.ListComp elt [⟨tg, iter, ifs, 0⟩] scope pos) spos) (Xnf i cap (.lst []) wi g tt (mList te)) :=
 Xkr (act := fun D env => do let _ <- call (.builtin "list.append") [.ref D, <- eval elt env]) Xey (fun use => rfl) rfl C hcalm Xfo hN hiN hy hi (fun it D env => rfl) hg ht (fun D s0 H0 ex => Xgy (he s0 H0 ex)) hsw hs
end L2
namespace SH
open PySem PySem.Spec PyProof.Rows L2
def Xhb (T : Addr) (pos : Pos) : Sp := fun vs H Q _ => ∃ (r : Addr) (row : List Str), vs = [.ref r] /\ H r = some (.lst (row.map V.str)) /\ Row2 row /\ Xba row /\ (dit row).length <= 14 /\ Xb0 T pos qIn H /\
 ∀ (D : Addr) (ps : List Addr) (Ts : List (List Str)) (H' : Hp), H D = none -> H' D = some (.lst (ps.map V.ref)) -> Tups H' ps Ts -> (∀ S, S ∈ Ts ↔ Xam row S = true) -> (Ts.Pairwise fun a b => ltPl a b = true) -> ps.length <= 64 -> Xb0 T pos qIn H' -> But T H H' -> Q (.ref D) H'
abbrev NPp : List Str := ["row", "span", "off", "single", "double"]
abbrev NPo : List Str := ["name", "span"]
abbrev NPi : List Str := ["other", "name", "span"]
abbrev NPs : List Str := ["name", "off"]
abbrev NPd : List Str := ["one", "other", "off"]
structure Offs (H : Hp) (kvs : List (Key × V)) (row : List Str) (ns : List Str) : Prop where
 keys : kvs.map (·.1) = ns.map (fun x => (Sum.inr x : Key))
 val : ∀ x ∈ ns, ∃ l, valV kvs (Sum.inr x : Key) = some (.ref l) /\ H l = some (.lst (((dit row).filter (upB row x)).map V.str))
theorem Offs.mono {H H' : Hp} {kvs : List (Key × V)} {row ns : List Str} (s : Offs H kvs row ns) (h : Same H H') : Offs H' kvs row ns := ⟨s.keys, fun x hx => let ⟨l, h1, h2⟩ := s.val x hx; ⟨l, h1, h _ _ h2⟩⟩
theorem Offs.snoc {H H' : Hp} {kvs : List (Key × V)} {row ns : List Str} {x : Str} {l : Addr} (s : Offs H kvs row ns) (nx : x ∉ ns) (h : H' l = some (.lst (((dit row).filter (upB row x)).map V.str))) (k : ∀ b xs, H b = some (.lst xs) -> H' b = some (.lst xs)) :
  Offs H' (putK kvs (Sum.inr x) (.ref l)) row (ns ++ [x]) := by
 have hn : valV kvs (Sum.inr x : Key) = none := by
  cases e : valV kvs (Sum.inr x : Key) with
  | none => rfl
  | some v =>
   exfalso
   have := Xgm e
   rw [s.keys] at this
   obtain ⟨y, hy, e2⟩ := List.mem_map.mp this
   rw [Sum.inr.inj e2] at hy
   exact nx hy
 refine ⟨by rw [Xew _ hn, List.map_append, List.map_append, s.keys]; rfl, fun y hy => ?_⟩
 rw [Xev]
 by_cases e : y = x
 ·subst e
  exact ⟨l, if_pos rfl, h⟩
 ·have hy' : y ∈ ns := by
   rcases List.mem_append.mp hy with z | z
   ·exact z
   ·exact absurd (List.mem_singleton.mp z) e
  obtain ⟨l0, h1, h2⟩ := s.val y hy'
  exact ⟨l0, by rw [if_neg (fun z => e (Sum.inr.inj z))]; exact h1, k _ _ h2⟩
theorem Offs.get {H : Hp} {kvs : List (Key × V)} {row ns : List Str} {d : Addr} {x : Str} (s : Offs H kvs row ns) (hd : Rd H d (.dK kvs)) (hx : x ∈ ns) : ∃ l, DGet H d (.str x) (some (.ref l)) /\ H l = some (.lst (((dit row).filter (upB row x)).map V.str)) := by
 obtain ⟨l, h1, h2⟩ := s.val x hx
 exact ⟨l, DGet.rd hd h1, h2⟩
theorem Offs.at {H : Hp} {kvs : List (Key × V)} {row ns : List Str} (s : Offs H kvs row ns) (i : Nat) (hi : i < ns.length) : (kvs.map fun p => kV p.1).getD i .non = .str (ns.getD i Str.empty) := by
 have e : (kvs.map fun p => kV p.1) = ns.map V.str := by
  have : (kvs.map fun p => kV p.1) = (kvs.map (·.1)).map kV := by rw [List.map_map]; rfl
  rw [this, s.keys, List.map_map]
  rfl
 rw [e]
 exact Xdx V.str Str.empty ns hi
theorem Offs.len {H : Hp} {kvs : List (Key × V)} {row ns : List Str} (s : Offs H kvs row ns) : kvs.length = ns.length := by
 have := congrArg List.length s.keys
 simpa using this
theorem up_word {row : List Str} {x y : Str} (hx : row.count x = 2) (hy : row.count y = 2) : decide (lieR row x y ∈ [Str.ofString "same", Str.ofString "within"]) = upB row x y := by
 unfold upB
 by_cases e : y = x
 ·subst e
  rw [Xdy]
  simp
 ·have n : lieR row x y ≠ "same" := fun z => e (Xny hx hy z).symm
  simp [e, n]
def ltP (a b : List Str) : Prop := a.length < b.length \/ (a.length = b.length /\ ltL a b = true)
theorem Xok (a : List Str) : ¬ ltP a a := fun h => by
 rcases h with h | ⟨_, h⟩
 ·omega
 ·rw [Xfz] at h; cases h
theorem ltP_tr {a b c : List Str} (h : ltP a b) (g : ltP b c) : ltP a c := by
 rcases h with h | ⟨h1, h2⟩
 ·rcases g with g | ⟨g1, g2⟩
  ·exact .inl (by omega)
  ·exact .inl (by omega)
 ·rcases g with g | ⟨g1, g2⟩
  ·exact .inl (by omega)
  ·exact .inr ⟨by omega, Xky _ _ _ h2 g2⟩
structure IsPL (row : List Str) (Ts : List (List Str)) : Prop where
 pw : Ts.Pairwise ltP
 mem : ∀ T, T ∈ Ts ↔ Xam row T = true
theorem IsPL.uniq {row : List Str} {A B : List (List Str)} (h : IsPL row A) (g : IsPL row B) : A = B := Xj6 Xok (fun _ _ _ => ltP_tr) h.pw g.pw fun T => (h.mem T).trans (g.mem T).symm
theorem IsPL.nd {row : List Str} {A : List (List Str)} (h : IsPL row A) : A.Nodup := h.pw.imp fun {a b} (q : ltP a b) => fun (e : a = b) => Xok b (e ▸ q)
theorem IsPL.len {row : List Str} {A : List (List Str)} (h : IsPL row A) (h2 : ∀ y ∈ row, row.count y = 2) (h3 : Xba row) (hl : (dit row).length <= 14) : A.length <= 64 := by
 have nd := h.nd
 have q := Xg6 (L := A.filter fun S => decide (S ≠ [])) h2 h3 hl (nd.filter _) fun S hS => by
  obtain ⟨s1, s2⟩ := List.mem_filter.mp hS
  exact ⟨of_decide_eq_true s2, (h.mem S).mp s1⟩
 have e : (A.filter fun S => decide (S ≠ [])).length + 1 ≥ A.length := by
  have := List.length_eq_countP_add_countP (p := fun S : List Str => decide (S ≠ [])) (l := A)
  rw [List.countP_eq_length_filter, List.countP_eq_length_filter] at this
  have c : (A.filter fun S => decide ¬decide (S ≠ []) = true).length <= 1 := by
   have nd2 : (A.filter fun S => decide ¬decide (S ≠ []) = true).Nodup := nd.filter _
   refine Nat.le_trans (nd_le (b := [[]]) nd2 fun x hx => ?_) (Nat.le_refl 1)
   have := (List.mem_filter.mp hx).2
   simp at this
   simp [this]
  omega
 omega
def spPlotsO : Sp := fun vs H Q _ => ∃ (r : Addr) (row : List Str), vs = [.ref r] /\ H r = some (.lst (row.map V.str)) /\ Row2 row /\ Xba row /\ (dit row).length <= 14 /\
 ∀ (l : Addr) (ps : List Addr) (Ts : List (List Str)) (H' : Hp), H l = none -> H' l = some (.lst (ps.map V.ref)) -> Tups H' ps Ts -> IsPL row Ts -> Same H H' -> Q (.ref l) H'
structure Lay (row : List Str) (n : Nat) (Us : List (List Str)) : Prop where
 pw : Us.Pairwise fun a b => ltL a b = true
 mem : ∀ T, T ∈ Us ↔ Xam row T = true /\ T.length = n
theorem lay_next {row : List Str} {n : Nat} {Us Ts : List (List Str)} (h2 : ∀ y ∈ row, row.count y = 2) (L : Lay row n Us) (c : Cov row Us Us.length Ts) (ok : ∀ T ∈ Ts, Xam row T = true /\ T.length = n + 1) {Ts' : List (List Str)} (p : Ts'.Perm Ts) (pw : Ts'.Pairwise fun a b => ltL a b = true) : Lay row (n + 1) Ts' := by
 refine ⟨pw, fun T => ⟨fun h => ok T (p.mem_iff.mp h), fun ⟨h, hl⟩ => p.mem_iff.mpr ?_⟩⟩
 have ne : T ≠ [] := fun e => by rw [e] at hl; cases hl
 obtain ⟨x, hx, hs⟩ := Xoh h2 h ne
 obtain ⟨p1, p2, _⟩ := Xe8.mp h
 have hlen := less_len p1 hx
 have hm : (T.filter fun y => decide (y ≠ x)) ∈ Us := (L.mem _).mpr ⟨hs, by omega⟩
 obtain ⟨i, hi, e⟩ := List.mem_iff_getElem.mp hm
 have e' : Us.getD i [] = T.filter fun y => decide (y ≠ x) := by rw [<- e]; simp [List.getD, hi]
 have := c i hi x (p2 x hx)
 rw [e', Xit p1 hx] at this
 exact this (fun z => by have := (List.mem_filter.mp z).2; simp at this) h
structure Upto (row : List Str) (n : Nat) (Ts : List (List Str)) : Prop where
 pw : Ts.Pairwise ltP
 mem : ∀ T, T ∈ Ts ↔ Xam row T = true /\ T.length <= n
theorem Upto.next {row : List Str} {n : Nat} {Ts Us : List (List Str)} (U : Upto row n Ts) (L : Lay row (n + 1) Us) : Upto row (n + 1) (Ts ++ Us) := by
 refine ⟨List.pairwise_append.mpr ⟨U.pw, ?_, fun a ha b hb => ?_⟩, fun T => ?_⟩
 ·refine L.pw.imp_of_mem fun {a b} ha hb h => .inr ⟨?_, h⟩
  rw [((L.mem a).mp ha).2, ((L.mem b).mp hb).2]
 ·have h1 := ((U.mem a).mp ha).2
  have h2 := ((L.mem b).mp hb).2
  exact .inl (by omega)
 ·rw [List.mem_append, U.mem, L.mem]
  constructor
  ·rintro (⟨h, l⟩ | ⟨h, l⟩)
   ·exact ⟨h, by omega⟩
   ·exact ⟨h, by omega⟩
  ·rintro ⟨h, l⟩
   by_cases q : T.length <= n
   ·exact .inl ⟨h, q⟩
   ·exact .inr ⟨h, by omega⟩
theorem Upto.all {row : List Str} {Ts : List (List Str)} (U : Upto row (dit row).length Ts) : IsPL row Ts := ⟨U.pw, fun T => (U.mem T).trans ⟨fun h => h.1, fun h => ⟨h, Xg8 h⟩⟩⟩
theorem upto_0 (row : List Str) : Upto row 0 [[]] := ⟨by simp, fun T => by
 rw [List.mem_singleton]
 exact ⟨fun e => by rw [e]; exact ⟨Xg9 row, Nat.le_refl _⟩, fun ⟨_, h⟩ => List.length_eq_zero_iff.mp (by omega)⟩⟩
theorem lay_0 (row : List Str) : Lay row 0 [[]] := ⟨by simp, fun T => by
 rw [List.mem_singleton]
 exact ⟨fun e => by rw [e]; exact ⟨Xg9 row, rfl⟩, fun ⟨_, h⟩ => List.length_eq_zero_iff.mp h⟩⟩
end SH
set_option maxHeartbeats 8000000
namespace SH
open PySem PySem.Spec PyProof.Rows L2
theorem Xgf : ∀ (U : List (List Str)), PyData.depthAll (U.map tupD) <= 1
 | [] => by show 0 <= 1; decide
 | S :: U => by
  have := Xgf U
  show max (PyData.depthAll (S.map PyData.str) + 1) (PyData.depthAll (U.map tupD)) <= 1
  rw [Xc8]
  omega
theorem Xlz {U : List (List Str)} (h : ∀ S ∈ U, ∀ y ∈ S, okN y) : Xa9 (U.map tupD) = true := plainAll_map tupD U fun S hS => Xc3 (h S hS)
theorem Xbi {U : List (List Str)} (h : ∀ S ∈ U, ∀ y ∈ S, okN y) : Xbo (.list (U.map tupD)) = true := Xlz h
theorem Xk7 {U W : List (List Str)} (h1 : ∀ S ∈ U, ∀ y ∈ S, okN y) (h2 : ∀ S ∈ W, ∀ y ∈ S, okN y) : PyData.eqv (.list (U.map tupD)) (.list (W.map tupD)) = decide (U = W) :=
 Xnj (fun U => PyData.list (U.map tupD)) (fun a b e => by injection e with e; exact (List.map_inj_right Xkt).mp e) U W (Xbi h1) (Xbi h2)
theorem Xhc {H : Hp} {l : Addr} {ps : List Addr} {Ts : List (List Str)} (h : H l = some (.lst (ps.map V.ref))) (t : Tups H ps Ts) : DAt H (.list (Ts.map tupD)) (.ref l) := Xg1 h (Xiu t)
theorem Xiz (U W : List (List Str)) : min (PyData.depth (.list (U.map tupD))) (PyData.depth (.list (W.map tupD))) <= 3 := by
 show min (PyData.depthAll (U.map tupD) + 1) _ <= 3
 have := Xgf U
 omega
end SH
set_option maxHeartbeats 4000000
namespace SH
open PySem PySem.Spec PyProof.Rows L2
def Xeu (row : List Str) (x : Str) (ys : List Str) : List (Str × Str) := (ys.filter fun y => decide (lieR row x y = "cross")).map fun y => (x, y)
def Xhd (row : List Str) (i : Nat) : List (Str × Str) := ((dit row).take i).flatMap fun x => ((dit row).filter fun y => decide (ltS x y) && decide (lieR row x y = "cross")).map fun y => (x, y)
theorem Xol (row : List Str) : Xhd row (dit row).length = crs row := by
 unfold Xhd crs
 rw [List.take_length]
theorem Xl0 {l : List Str} (h : l.Pairwise ltS) (p : Str -> Bool) : ∀ (i : Nat) (hi : i < l.length), l.filter (fun y => decide (ltS l[i] y) && p y) = (l.drop (i + 1)).filter p := by
 intro i hi
 have e : l = l.take (i + 1) ++ l.drop (i + 1) := (List.take_append_drop _ _).symm
 have hx : ∀ y ∈ l.take (i + 1), ¬ ltS l[i] y := fun y hy q => by
  obtain ⟨j, hj, ej⟩ := List.mem_iff_getElem.mp hy
  rw [List.length_take] at hj
  rw [List.getElem_take] at ej
  rcases Nat.lt_or_ge j i with z | z
  ·have := List.pairwise_iff_getElem.mp h j i (by omega) hi z
   rw [ej] at this
   exact Xbu _ (Xc1 this q)
  ·have : j = i := by omega
   subst this
   rw [ej] at q
   exact Xbu _ q
 have hy : ∀ y ∈ l.drop (i + 1), ltS l[i] y := fun y hy => by
  obtain ⟨j, hj, ej⟩ := List.mem_iff_getElem.mp hy
  rw [List.length_drop] at hj
  rw [List.getElem_drop] at ej
  rw [<- ej]
  exact List.pairwise_iff_getElem.mp h i (i + 1 + j) hi (by omega) (by omega)
 conv => lhs; arg 2; rw [e]
 rw [List.filter_append, List.filter_eq_nil_iff.mpr (fun y hm => by simp [hx y hm]), List.nil_append]
 exact List.filter_congr fun y hm => by rw [decide_eq_true (hy y hm), Bool.true_and]
theorem Xl1 (row : List Str) {i : Nat} (hi : i < (dit row).length) : Xhd row (i + 1) = Xhd row i ++ Xeu row ((dit row)[i]) ((dit row).drop (i + 1)) := by
 unfold Xhd Xeu
 rw [List.take_succ_eq_append_getElem hi, List.flatMap_append]
 congr 1
 rw [List.flatMap_cons, List.flatMap_nil, List.append_nil, Xl0 (Xds row) _ i hi]
theorem Xom (row : List Str) (i : Nat) : (Xhd row i).length <= i * (dit row).length := by
 unfold Xhd
 rw [List.length_flatMap]
 have : ∀ (l : List Str), (l.map fun x => (((dit row).filter fun y => decide (ltS x y) && decide (lieR row x y = "cross")).map fun y => (x, y)).length).sum <= l.length * (dit row).length := by
  intro l
  induction l with
  | nil => simp
  | cons a r ih =>
   rw [List.map_cons, List.sum_cons, List.length_cons, Nat.succ_mul]
   have : (((dit row).filter fun y => decide (ltS a y) && decide (lieR row a y = "cross")).map fun y => (a, y)).length <= (dit row).length := by
    rw [List.length_map]
    exact List.length_filter_le ..
   omega
 refine Nat.le_trans (this _) (Nat.mul_le_mul_right _ ?_)
 rw [List.length_take]
 omega
theorem getVs {ns : List Str} {i : Nat} {v : V} (h : (ns.map V.str)[i]? = some v) : ∃ x, v = .str x /\ ns[i]? = some x := by
 rw [List.getElem?_map] at h
 cases e : ns[i]? with
 | none => rw [e] at h; cases h
 | some x =>
  rw [e] at h
  exact ⟨x, (Option.some.inj h).symm, rfl⟩
def spAllT : Sp := fun vs H Q _ => ∃ (l : Addr) (ps : List Addr) (Ts : List (List Str)), vs = [.ref l] /\ H l = some (.lst (ps.map V.ref)) /\ Tups H ps Ts /\ (∀ S ∈ Ts, S.length <= 1000) /\ ps.length <= 1000 /\ ∀ H', Same H H' -> Q (.bl true) H'
theorem ltPl_P {a b : List Str} (h : ltPl a b = true) : ltP a b := by
 unfold ltPl ltNL at h
 by_cases e : a.length = b.length
 ·rw [if_pos e] at h
  exact .inr ⟨e, h⟩
 ·rw [if_neg e] at h
  exact .inl (of_decide_eq_true h)
end SH
namespace K7
open PySem PySem.Spec PyProof.Rows L2 SH
def top (i : Nat) : Stmt := PySem.Challenge.pw_shoretold_k07_whole_plots_of_an_island.main.body.getD i (.Pass ⟨0, 0, 0, 0⟩)
abbrev sAsk : Stmt := top 4
abbrev sDitches : Stmt := top 5
abbrev sEnds : Stmt := top 6
abbrev sSpans : Stmt := top 7
abbrev sLieOf : Stmt := top 8
abbrev sCross : Stmt := top 9
abbrev sTold : Stmt := top 11
abbrev s_in_order : Stmt := top 12
abbrev s_plots : Stmt := top 13
abbrev sBegin : Stmt := top 15
abbrev sPick : Stmt := top 16
abbrev sPut : Stmt := top 17
abbrev sWhere : Stmt := top 18
abbrev sWord : Stmt := top 19
abbrev sBarred : Stmt := top 20
abbrev sRow : Stmt := top 21
abbrev sNames : Stmt := top 22
abbrev sIsland : Stmt := top 23
abbrev s__law_bars : Stmt := top 24
abbrev s__law_fits : Stmt := top 25
abbrev s__law_plots : Stmt := top 26
abbrev s__law_tuple : Stmt := top 27
abbrev s__law_all_texts : Stmt := top 28
abbrev s__law_crossed : Stmt := top 29
abbrev s_law : Stmt := top 30
section
variable {P : Program} {w : World} {K : PySem.W.Frag} {mg : Str -> Option Value} {base : Heap}
theorem scAsk : FnScope ["row", "name"] ["row", "name"] (defScope sAsk) := ⟨rfl, rfl, rfl, by decide +kernel, rfl, by decide +kernel, by decide +kernel⟩
theorem ok_ask {f C : Addr} {fd : FuncData} (F : Fun K "ask_ditch" "ask_ditch" sAsk f fd) (hC : mg "NoDitch" = some (.ref C)) (hc : PySem.W.excIn K C bmV "ValueError.__new__" = true) :
  FnOk P w K mg base (CX1 P w) 1 f fd ["row", "name"] (spAsk C) := by
 refine F.ok1 scAsk (fun vs H Q E h => ?_) (fun cdv A outer s H vs Q E hr h => ?_)
 ·obtain ⟨r, row, x, rfl, _⟩ := h
  rfl
 ·obtain ⟨r, row, x, rfl, hR, ⟨hx1, hx2⟩, kq, ke⟩ := h
  refine ⟨_, Xah (Xct (Xap Xeo (pv 1) (pv 0) (by rfl))
   (Xah (ps_raise (C := C) (E := E) hc rfl leaves1 (by rfl) hC (Xab (pe_join (pj_str (by decide +kernel) (pj_repr (pv 1) (pj_str (by decide +kernel) pj_nil)))) Xad))) Xa8), ?_⟩
  refine ⟨_, rfl, _, rfl, r, _, rfl, .inl (SqL.of hR), rfl, Xdt row, _, rfl, ?_⟩
  rw [Xfn]
  by_cases hx : x ∈ row
  ·refine iteNS hx ?_
   exact kq hx H (Same.refl H)
  ·rw [decide_eq_false hx]
   refine iteT ?_
   refine ⟨_, rfl, x, rfl, by omega, (fun c h => Nat.lt_trans (hx2 c h) (by decide)), fun z => ?_⟩
   exact ⟨by show 1 <= sizeLine; decide, ke hx H (Same.refl H)⟩
theorem Xon : FnScope ["row"] ["row"] (defScope sDitches) := ⟨rfl, rfl, rfl, by decide +kernel, rfl, by decide +kernel, by decide +kernel⟩
theorem Xl2 {f : Addr} {fd : FuncData} (F : Fun K "ditches" "ditches" sDitches f fd) (T : Bl mg) : FnOk P w K mg base CX0 1 f fd ["row"] spDitches := by
 refine F.ok Xon (fun vs H Q E h => ?_) (fun cdv A outer s H vs Q E hr h => ?_)
 ·obtain ⟨r, row, rfl, _⟩ := h
  rfl
 ·obtain ⟨r, row, rfl, hR, hl, k⟩ := h
  refine ⟨_, Xah (Xat (Xak (Xcz rfl) (by rfl) T.sorted (by rfl) (Xab (Xbn (Xgw rfl) (by rfl) T.set (by rfl) (Xab (pv 0) Xad)) Xad))), ?_⟩
  refine ⟨_, rfl, r, row, rfl, .inl (SqL.of hR), by unfold scanBound; omega, fun a na => ?_⟩
  have hdl := Xdq row
  refine ⟨a, ddup row, rfl, Xaa, by omega, fun l ls nl hp hs => ?_⟩
  have s1 : Same H (upd H a (SetO P w a (ddup row))) := (Same.refl H).step na
  refine k l _ (s1.free nl) ?_ (s1.step nl)
  rw [Xaa, Xko hp hs]
  rfl
theorem scEnds : FnScope NEn ["row", "name"] (defScope sEnds) := ⟨rfl, rfl, rfl, by decide +kernel, rfl, by decide +kernel, by decide +kernel⟩
theorem ok_ends {f C : Addr} {fd : FuncData} (F : Fun K "ends" "ends" sEnds f fd) (T : Bl mg) (FA : Fn P w K mg base (CX1 P w) 1 "ask_ditch" ["row", "name"] (spAsk C)) :
  FnOk P w K mg base (CX1 P w) 2 f fd ["row", "name"] (Xnn C) := by
 refine F.ok1 scEnds (fun vs H Q E h => ?_) (fun cdv A outer s H vs Q E hr h => ?_)
 ·obtain ⟨r, row, x, rfl, _⟩ := h
  rfl
 ·obtain ⟨r, row, x, rfl, hR, hx, hl, kq, ke⟩ := h
  refine ⟨_, Xac (Xfa (Xaz FA hr rfl pass1 (Xab (pv 0) (Xab (pv 1) Xad))))
   (Xac (Xjh (i := 2) (N := NEc) (cap := [none, none, some 1]) (CompScope.of (defScope sEnds) NEn rfl rfl rfl (by decide +kernel)) rfl scEnds.nd rfl rfl
    (pi_enum (by rfl) T.enum (Xab (pv 0) Xad))
    (fun _ _ _ => Xnc K 2 rfl rfl (Xbt (Xao (i := 0) (show NEc.Nodup by decide +kernel) rfl (Or.inl rfl) (Or.inr rfl)) (Xbt (Xao (i := 1) (show NEc.Nodup by decide +kernel) rfl (Or.inl rfl) (Or.inr rfl)) Xgj)))
    (fun _ _ _ => Xdp (Xap Xfc (pv 1) (pv 2) (nomark _))) (fun _ _ _ => pv 0))
   (Xah (Xat (Xcc (Xab (Xa3 Xav (pv 2) Xai (fun _ _ => rfl)) (Xab (Xa3 Xav (pv 2) Xai (fun _ _ => rfl)) Xad)))))), ?_⟩
  refine ⟨_, rfl, _, rfl, r, row, x, rfl, hR, hx, fun hin H1 s1 => ?_, ke⟩
  obtain ⟨a, b, hab, kq⟩ := kq hin
  refine ⟨_, rfl, r, rfl, ⟨_, SqL.of (s1 _ _ hR)⟩, ?_⟩
  refine blk_enum (K := K) (p := 0) (q := 1) (by decide) (SqL.of (s1 _ _ hR)) (by rw [List.length_map, sizeLine_eq]; omega) (fun i => decide (row.getD i Str.empty = x)) (fun i => .int i) ?_ ?_ ?_
  ·intro i v H2 Q' hv s2 k
   obtain ⟨y, rfl, hy⟩ : ∃ y, v = V.str y /\ row.getD i Str.empty = y := by
    rw [List.getElem?_map] at hv
    cases q : row[i]? with
    | none => rw [q] at hv; cases hv
    | some y => rw [q] at hv; exact ⟨y, (Option.some.inj hv).symm, by simp [List.getD, q]⟩
   refine ⟨_, rfl, _, rfl, rfl, _, rfl, ?_⟩
   have := k H2 (Same.refl _)
   rw [hy] at this
   have e : decide (V.str y = V.str x) = decide (y = x) := by
    by_cases z : y = x
    ·rw [z]; simp
    ·rw [decide_eq_false z, decide_eq_false (fun q => z (by injection q))]
   rw [e]
   exact this
  ·intro i v H2 Q' hv hk s2 k
   exact ⟨_, rfl, k H2 (Same.refl _)⟩
  ·intro D H2 nD s2 hD
   have hD' : H2 D = some (.lst [.int a, .int b]) := by
    rw [hD, List.length_map]
    have := congrArg (List.map V.int) ((Xfr row x).trans hab)
    rw [List.map_map] at this
    rw [show ((List.range row.length).filter fun i => decide (row.getD i Str.empty = x)).map (fun i : Nat => V.int (i : Int)) = _ from this]
    rfl
   refine ⟨_, rfl, _, _, _, _, rfl, rfl, SqL.of hD', rfl, _, rfl, _, _, _, _, rfl, rfl, SqL.of hD', rfl, by show 2 <= sizeLine; decide, fun p np => ?_⟩
   have s3 := s1.trans s2
   exact kq p _ (s3.free np) Xaa (s3.step np)
theorem scSpans : FnScope ["row"] ["row"] (defScope sSpans) := ⟨rfl, rfl, rfl, by decide +kernel, rfl, by decide +kernel, by decide +kernel⟩
theorem ok_spans {f C : Addr} {fd : FuncData} (F : Fun K "spans" "spans" sSpans f fd) (FD : Fn P w K mg base CX0 1 "ditches" ["row"] spDitches) (FE : Fn P w K mg base (CX1 P w) 2 "ends" ["row", "name"] (Xnn C)) :
  FnOk P w K mg base CX0 3 f fd ["row"] spSpans := by
 refine F.ok scSpans (fun vs H Q E h => ?_) (fun cdv A outer s H vs Q E hr h => ?_)
 ·obtain ⟨r, row, rfl, _⟩ := h
  rfl
 ·obtain ⟨r, row, rfl, hR, R2, k⟩ := h
  have hr1 : Room 1 _ := hr.mono (by decide)
  refine ⟨_, Xah (Xat (Xks (N := NSp) (cap := [none, some 0]) (CompScope.of (defScope sSpans) ["row"] rfl rfl rfl (by decide +kernel)) rfl
   (Xbr (Xaz FD hr1 (by rfl) pass0 (Xab (pv 0) Xad))) (fun _ _ _ => Xao (i := 0) (show NSp.Nodup by decide +kernel) rfl (Or.inl rfl) (Or.inr rfl)) (fun _ _ _ => Xcl)
   (fun _ _ _ => pv 0) (fun _ _ _ => Xaz (by exact FE) (by exact hr) (by rfl) passX (Xab (pv 1) (Xab (pv 0) Xad))))), ?_⟩
  have hl := R2.len
  refine ⟨_, rfl, r, row, rfl, hR, hl, fun di H1 ndi hdi s1 => ?_⟩
  refine ⟨di, rfl, ⟨_, SqL.of hdi⟩, fun D nD => ?_⟩
  have hn : ∀ i, i < (dit row).length -> ((dit row).map V.str).getD i .non = .str ((dit row).getD i Str.empty) := fun i hi => Xdx V.str Str.empty _ hi
  have hR1 := s1 _ _ hR
  have hdl := Xef row
  refine ⟨wN (dit row).length fun i σ2 H2 => (∃ v, σ2 = [v, some (.ref r)]) /\ Same H1 H2 /\ ∃ kvs, H2 D = some (.dK kvs) /\ Spn H2 kvs row ((dit row).take i), ⟨(dit row).length, by simp, Nat.zero_le _, ⟨none, rfl⟩, (Same.refl H1).step nD, [], Xaa, ⟨rfl, fun x hx => by simp at hx⟩⟩, ?_⟩
  rintro i m σ1 H2 ⟨rfl, hi, ⟨v, rfl⟩, s2, kvs, hD, sp⟩
  by_cases hlt : i < (dit row).length
  ·have hlt' : i < ((dit row).map V.str).length := by rw [List.length_map]; exact hlt
   obtain ⟨g1, g2⟩ := Xgq (K := K) (SqL.of (s2 _ _ hdi)) hlt'
   refine .inr ⟨g1, fun x H3 y => ?_⟩
   obtain ⟨e1, e2⟩ := g2 x H3 y
   subst e1 e2
   rw [hn i hlt]
   generalize hx : (dit row).getD i Str.empty = x
   have hxd : x ∈ dit row := by rw [<- hx]; exact Xb7 hlt
   have hxr := Xag.mp hxd
   have htk : (dit row).take (i + 1) = (dit row).take i ++ [x] := by
    rw [List.take_succ_eq_append_getElem hlt, <- hx]
    simp [List.getD, hlt]
   have hnx : x ∉ (dit row).take i := by
    have nd := Xf8 row
    have h2 : ((dit row).take (i + 1)).Nodup := nd.sublist (List.take_sublist ..)
    rw [htk] at h2
    exact fun z => (List.nodup_append.mp h2).2.2 x z x (by simp) rfl
   refine ⟨_, rfl, _, rfl, _, rfl, r, row, x, rfl, s2 _ _ hR1, R2.ok x hxr, by omega, fun _ => ⟨_, _, Xfs (R2.two x hxr), fun l H4 nl hl4 s4 => ?_⟩, fun z => absurd hxr z⟩
   have hD4 := s4 _ _ hD
   have kl : kvs.length <= 60 := by
    have := sp.len
    rw [List.length_take] at this
    omega
   refine ⟨kvs, Sum.inr x, rfl, hD4, by rw [sizeLine_eq]; omega, ?_⟩
   refine wskip hlt ⟨⟨_, rfl⟩, fun b u e => ?_, _, Xaa, ?_⟩
   ·rw [Xae (Xaf e nD)]
    exact s4 _ _ (s2 b u e)
   ·rw [htk]
    refine sp.snoc hnx ?_ fun b xs e => ?_
    ·rw [Xae (fun z => by rw [z, hD4] at hl4; cases hl4)]
     exact hl4
    ·have e4 := s4 _ _ e
     rw [Xae (fun z => by rw [z, hD4] at e4; cases e4)]
     exact e4
  ·have ei : i = (dit row).length := by omega
   subst ei
   refine .inl ⟨by have := Xgr (K := K) (SqL.of (s2 _ _ hdi)); rwa [List.length_map] at this, ?_⟩
   rw [List.take_length] at sp
   exact k D kvs H2 (s1.free nD) hD sp (s1.trans s2)
theorem Xj7 : FnScope NLo ["here", "there"] (defScope sLieOf) := ⟨rfl, rfl, rfl, by decide +kernel, rfl, by decide +kernel, by decide +kernel⟩
theorem ok_lieof {f : Addr} {fd : FuncData} (F : Fun K "lie_of" "lie_of" sLieOf f fd) : FnOk P w K mg base CX0 2 f fd ["here", "there"] spLieOf := by
 refine F.ok Xj7 (fun vs H Q E h => ?_) (fun cdv A outer s H vs Q E hr h => ?_)
 ·obtain ⟨p, q, a, b, c, e, rfl, _⟩ := h
  rfl
 ·obtain ⟨p, q, a, b, c, e, rfl, hp, hq, l4, k⟩ := h
  refine ⟨_, Xac (Xct (Xap (Xni (hu3 hr)) (pv 0) (pv 1) (nomark _)) (Xah (Xat Xa4)) Xa8)
   (Xac (Xal (i := 2) Xj7.nd rfl (Or.inl rfl) (Xkd Xet Xet (Xa3 (Xcm K (by rfl)) (pv 1) Xai (fun _ _ => rfl)) (Xa3 (Xcm K (by rfl)) (pv 0) Xai (fun _ _ => rfl)) (Xa3 (Xcm K (by rfl)) (pv 1) Xai (fun _ _ => rfl))))
   (Xac (Xal (i := 3) Xj7.nd rfl (Or.inl rfl) (Xkd Xet Xet (Xa3 (Xcm K (by rfl)) (pv 1) Xai (fun _ _ => rfl)) (Xa3 (Xcm K (by rfl)) (pv 0) Xai (fun _ _ => rfl)) (Xa3 (Xcm K (by rfl)) (pv 1) Xai (fun _ _ => rfl))))
   (Xac (Xct (Xap op_ne (pv 2) (pv 3) (nomark _)) (Xah (Xat Xa4)) Xa8)
   (Xac (Xct (Xkc (pv 2)) (Xah (Xat Xa4)) Xa8)
   (Xah (Xat (Xgi (pt_chain Xet Xet (Xa3 (Xcm K (by rfl)) (pv 0) Xai (fun _ _ => rfl)) (Xa3 (Xcm K (by rfl)) (pv 1) Xai (fun _ _ => rfl)) (Xa3 (Xcm K (by rfl)) (pv 0) Xai (fun _ _ => rfl))) Xa4 Xa4))))))), ?_⟩
  have d2 : ∀ {r : Addr} {x y : Int}, H r = some (.tup [.int x, .int y]) -> DAt H (.tuple [.int x, .int y]) (.ref r) := fun {r x y} h => Xji h (Xng [x, y])
  refine ⟨_, rfl, _, rfl, .tuple [.int a, .int b], .tuple [.int c, .int e], d2 hp, d2 hq, rfl, rfl, (by show min (max 0 (max 0 0) + 1) (max 0 (max 0 0) + 1) <= 3; decide), _, rfl, ?_⟩
  have ee : PyData.eqv (.tuple [.int a, .int b]) (.tuple [.int c, .int e]) = decide (a = c /\ b = e) := by
   rw [Bool.eq_iff_iff, Xg2 _ _ rfl rfl]
   simp
  rw [ee]
  have kk := k H (Same.refl H)
  refine ite2b (fun h1 => ?_) (fun h1 => ?_)
  ·unfold lieT at kk
   rw [if_pos (of_decide_eq_true h1)] at kk
   exact kk
  ·have h1 := of_decide_eq_false h1
   dsimp only [tNext, tSeq, tAsg, Xdm]
   refine Xft (x := c) (y := a) (z := e) (fun Q' h => ⟨_, rfl, q, _, _, _, rfl, rfl, SqT.of hq, rfl, h⟩) (fun Q' h => ⟨_, rfl, p, _, _, _, rfl, rfl, SqT.of hp, rfl, h⟩) (fun Q' h => ⟨_, rfl, q, _, _, _, rfl, rfl, SqT.of hq, rfl, h⟩) ?_
   refine Xft (x := c) (y := b) (z := e) (fun Q' h => ⟨_, rfl, q, _, _, _, rfl, rfl, SqT.of hq, rfl, h⟩) (fun Q' h => ⟨_, rfl, p, _, _, _, rfl, rfl, SqT.of hp, rfl, h⟩) (fun Q' h => ⟨_, rfl, q, _, _, _, rfl, rfl, SqT.of hq, rfl, h⟩) ?_
   refine ⟨_, rfl, _, rfl, rfl, _, rfl, ?_⟩
   rw [Xmh]
   refine ite2b (fun h2 => ?_) (fun h2 => ?_)
   ·rw [lie_cr h1 (by simpa using h2)] at kk
    exact kk
   ·refine ⟨_, rfl, _, rfl, ?_⟩
    refine ite2b (fun h3 => ?_) (fun h3 => ?_)
    ·rw [lie_wi h1 (by simpa using h2) h3] at kk
     exact kk
    ·rw [lie_out l4 h1 (by simpa using h2) h3] at kk
     dsimp only [tNext, tRet, tIf, tTest]
     refine Xft (x := a) (y := c) (z := b) (fun Q' h => ⟨_, rfl, p, _, _, _, rfl, rfl, SqT.of hp, rfl, h⟩) (fun Q' h => ⟨_, rfl, q, _, _, _, rfl, rfl, SqT.of hq, rfl, h⟩) (fun Q' h => ⟨_, rfl, p, _, _, _, rfl, rfl, SqT.of hp, rfl, h⟩) ⟨_, rfl, ?_⟩
     refine ite2b (fun h4 => ?_) (fun h4 => ?_)
     ·rw [if_pos h4] at kk
      exact kk
     ·rw [if_neg (by rw [h4]; exact Bool.false_ne_true)] at kk
      exact kk
theorem Xoo : FnScope NCr ["row"] (defScope sCross) := ⟨rfl, rfl, rfl, by decide +kernel, rfl, by decide +kernel, by decide +kernel⟩
theorem Xi0 {f : Addr} {fd : FuncData} (F : Fun K "crossings" "crossings" sCross f fd) (FS : Fn P w K mg base CX0 3 "spans" ["row"] spSpans) (FO : Fn P w K mg base CX0 2 "lie_of" ["here", "there"] spLieOf) :
  FnOk P w K mg base CX0 4 f fd ["row"] Xbg := by
 refine F.ok Xoo (fun vs H Q E h => ?_) (fun cdv A outer s H vs Q E hr h => ?_)
 ·obtain ⟨r, row, rfl, _⟩ := h
  rfl
 ·obtain ⟨r, row, rfl, hR, R2, k⟩ := h
  have hu := Xmx hr
  have hr2 : Room 2 _ := hr.mono (by decide)
  refine ⟨_, Xac (Xal (i := 1) Xoo.nd rfl (Or.inr rfl) (Xaz FS hr (by rfl) pass0 (Xab (pv 0) Xad)))
   (Xah (Xat (pe_comp2 (N := NCc) (cap := [none, none, some 1]) (CompScope.of (defScope sCross) NCr rfl rfl rfl (by decide +kernel)) rfl
    (Xdv (pv 1)) (fun _ _ _ => Xao (i := 0) (show NCc.Nodup by decide +kernel) rfl (Or.inl rfl) (Or.inr rfl)) (fun _ _ _ => Xcl)
    (fun _ _ _ => Xdv (pv 2)) (fun _ _ _ => Xao (i := 1) (show NCc.Nodup by decide +kernel) rfl (Or.inl rfl) (Or.inr rfl))
    (fun _ _ _ => Xdp (Xe9 (Xap Xhi (pv 0) (pv 1) (nomark _)) (Xdf (Xap Xfc (Xaz (by exact FO) (by exact hr2) (by rfl) pass0 (Xab (Xbx hu (pv 2) (pv 0) (fun _ _ => rfl)) (Xab (Xbx hu (pv 2) (pv 1) (fun _ _ => rfl)) Xad))) Xa4 (nomark _)))).pt)
    (fun _ _ _ => Xcc (Xab (pv 0) (Xab (pv 1) Xad)))))), ?_⟩
  have hl := R2.len
  have hdl := Xef row
  refine ⟨_, rfl, r, row, rfl, hR, R2, fun d kvs H1 nd hd sp s1 => ?_⟩
  refine ⟨_, rfl, d, kvs, rfl, .inl ⟨hd, fun o D nD => ?_⟩⟩
  generalize hH2 : upd H1 d (.frz o (.dK kvs)) = H2 at nD
  have s2 : Same H H2 := fun b u e => by rw [<- hH2, Xae (Xaf e nd)]; exact s1 b u e
  have hd2 : H2 d = some (.frz o (.dK kvs)) := by rw [<- hH2]; exact Xaa
  have sp2 : Spn H2 kvs row (dit row) := ⟨sp.keys, fun x hx => let ⟨l, h1, h2⟩ := sp.val x hx; ⟨l, h1, by rw [<- hH2, Xae (fun z => by rw [z, hd] at h2; cases h2)]; exact h2⟩⟩
  have kl := sp2.len
  have go : ∀ i H3, i < (dit row).length -> Same H2 H3 -> (Itd d o kvs).go i H3 /\ ∀ x H4, (Itd d o kvs).yld i H3 x H4 -> H4 = H3 /\ x = .str ((dit row).getD i Str.empty) := fun i H3 hi s3 => by
   have := Xgs (kvs := kvs) (s3 _ _ hd2) (by omega : i < kvs.length)
   rw [sp2.at i hi] at this
   exact this
  have stp : ∀ H3, Same H2 H3 -> (Itd d o kvs).stop (dit row).length H3 := fun H3 s3 => by
   have := Xgt (kvs := kvs) (s3 _ _ hd2)
   rwa [kl] at this
  let ns := dit row
  let ok : Nat -> Nat -> Bool := fun i j => decide (ltS (ns.getD i Str.empty) (ns.getD j Str.empty)) && decide (lieR row (ns.getD i Str.empty) (ns.getD j Str.empty) = "cross")
  let part : Nat -> List PyData := fun i => ((List.range ns.length).filter (ok i)).map fun j => prD (ns.getD i Str.empty, ns.getD j Str.empty)
  have hpl : ∀ i, (part i).length <= 60 := fun i => by
   show (List.map _ _).length <= 60
   rw [List.length_map]
   refine Nat.le_trans (List.length_filter_le ..) ?_
   rw [List.length_range]
   show (dit row).length <= 60
   omega
  have hacc : ∀ i, ((List.range i).flatMap part).length <= 60 * i := fun i => by
   induction i with
   | zero => simp
   | succ i ih =>
    rw [List.range_succ, List.flatMap_append, List.length_append]
    have := hpl i
    simp only [List.flatMap_cons, List.flatMap_nil, List.append_nil]
    omega
  refine lp_acc (H0 := H2) (xs0 := []) (n := ns.length) (fun i => .str (ns.getD i Str.empty)) (fun i => (List.range i).flatMap part) nD ((Same.refl H2).step nD) Xaa Xcn (fun σ1 => ∃ v0 v1, σ1 = [v0, v1, some (.ref d)]) ⟨none, none, rfl⟩ go stp ?_ ?_
  ·rintro i σ1 xs H3 Q' hi ⟨v0, v1, rfl⟩ s3 hD hal kk
   have hxi := Xb7 hi
   refine ⟨_, rfl, d, kvs, rfl, .inr ⟨o, s3 _ _ hd2, ?_⟩⟩
   refine Xnk (H0 := H2) (n := ns.length) (fun j => .str (ns.getD j Str.empty)) (ok i) (fun j => prD (ns.getD i Str.empty, ns.getD j Str.empty)) ((List.range i).flatMap part) nD s3 hD hal ?_ go stp ?_ ?_ ?_
   ·have := hacc i
    have h2 : i < 60 := by have : i < (dit row).length := hi; omega
    have h3 : ns.length <= 60 := by show (dit row).length <= 60; omega
    rw [sizeLine_eq]
    omega
   ·intro j H4 Q2 hj s4 k2
    have hxj := Xb7 hj
    refine ⟨_, rfl, _, rfl, _, _, rfl, rfl, _, rfl, ?_⟩
    refine ite2b (fun q1 => ?_) (fun q1 => ?_)
    ·obtain ⟨l1, g1, t1⟩ := (sp2.mono s4).get (.inr ⟨o, s4 _ _ hd2⟩) hxi
     obtain ⟨l2, g2, t2⟩ := (sp2.mono s4).get (.inr ⟨o, s4 _ _ hd2⟩) hxj
     refine ⟨_, rfl, _, rfl, d, _, rfl, g1, _, rfl, _, rfl, d, _, rfl, g2, l1, l2, _, _, _, _, rfl, t1, t2, lie4 (R2.two _ (Xag.mp hxi)) (R2.two _ (Xag.mp hxj)), fun H5 s5 => ?_⟩
     refine ⟨rfl, _, rfl, ?_⟩
     rw [Xdw]
     have := k2 H5 s5
     have e1 : ok i j = decide (lieR row (ns.getD i Str.empty) (ns.getD j Str.empty) = "cross") := by
      show (decide _ && decide _) = _
      have q1' : decide (ltS (ns.getD i Str.empty) (ns.getD j Str.empty)) = true := q1
      rw [q1', Bool.true_and]
     rw [e1] at this
     exact this
    ·have := k2 H4 (Same.refl _)
     have e1 : ok i j = false := by
      show (decide _ && decide _) = _
      have q1' : decide (ltS (ns.getD i Str.empty) (ns.getD j Str.empty)) = false := q1
      rw [q1', Bool.false_and]
     rw [e1] at this
     exact this
   ·intro j xs' H4 Q2 hj hk s4 hD4 k2
    refine ⟨_, rfl, _, rfl, by show 2 <= sizeLine; decide, fun p np => ?_⟩
    exact k2 _ _ ((Same.refl H4).step np) (Xjk hD4 np (Xcd [ns.getD i Str.empty, ns.getD j Str.empty]))
   ·intro σ' H4 xs' e s4 hD4 hal4
    refine kk σ' H4 xs' ?_ s4 hD4 ?_
    ·have l1 : σ'.length = 3 := by
      have := congrArg List.length (e none)
      simpa using this
     match σ', l1, e with
     | [w0, w1, w2], _, e =>
      have := e none
      simp at this
      exact ⟨w0, w1, by rw [this.2]⟩
    ·rw [List.range_succ, List.flatMap_append, List.flatMap_cons, List.flatMap_nil, List.append_nil]
     exact hal4
  ·intro σ' H3 xs s3 hD hal
   refine k D xs H3 (s2.free nD) hD ?_ (s2.trans s3)
   have e : (List.range ns.length).flatMap part = (crs row).map prD := by
    have e1 : crs row = (List.range ns.length).flatMap fun i => ((List.range ns.length).filter (ok i)).map fun j => (ns.getD i Str.empty, ns.getD j Str.empty) := by
     have em : dit row = (List.range ns.length).map fun i => ns.getD i Str.empty := by
      have := Xc7 Str.empty (fun _ => true) (dit row)
      rw [List.filter_eq_self.mpr (fun _ _ => rfl), List.filter_eq_self.mpr (fun _ _ => rfl)] at this
      exact this.symm
     show (dit row).flatMap _ = _
     conv => lhs; rw [em]
     rw [List.flatMap_map]
     congr 1
     funext i
     have := Xc7 Str.empty (fun y => decide (ltS (ns.getD i Str.empty) y) && decide (lieR row (ns.getD i Str.empty) y = "cross")) (dit row)
     rw [<- em, <- this, List.map_map]
     rfl
    rw [e1, List.map_flatMap]
    congr 1
    funext i
    rw [List.map_map]
    rfl
   rw [<- e]
   exact hal
theorem scTold : FnScope ["names"] ["names"] (defScope sTold) := ⟨rfl, rfl, rfl, by decide +kernel, rfl, by decide +kernel, by decide +kernel⟩
theorem ok_told {f : Addr} {fd : FuncData} (F : Fun K "told" "told" sTold f fd) (T : Bl mg) : FnOk P w K mg base CX0 1 f fd ["names"] (spTold K) := by
 refine F.ok scTold (fun vs H Q E h => ?_) (fun cdv A outer s H vs Q E hr h => ?_)
 ·obtain ⟨p, ss, rfl, _⟩ := h
  rfl
 ·obtain ⟨p, ss, rfl, hR, hl, k⟩ := h
  refine ⟨_, Xah (Xat (Xbn Xdo (by rfl) T.tuple (by rfl) (Xab (Xak (Xcz rfl) (by rfl) T.sorted (by rfl) (Xab (Xbn (Xgw rfl) (by rfl) T.set (by rfl) (Xab (pv 0) Xad)) Xad)) Xad))), ?_⟩
  refine ⟨_, rfl, p, ss, rfl, hR, by unfold scanBound; omega, fun a na => ?_⟩
  have hdl := Xdq ss
  refine ⟨a, ddup ss, rfl, Xaa, by omega, fun l ls nl hp hs => ?_⟩
  have s1 : Same H (upd H a (SetO P w a (ddup ss))) := (Same.refl H).step na
  refine ⟨l, _, rfl, .inl ⟨SqL.of Xaa, fun t nt => ?_⟩⟩
  have s2 := s1.step (o := .lst (ls.map V.str)) nl
  refine k t _ (s2.free nt) ?_ (s2.step nt)
  rw [Xaa, Xko hp hs]
  rfl
theorem Xop : FnScope ["some"] ["some"] (defScope s_in_order) := ⟨rfl, rfl, rfl, by decide +kernel, rfl, by decide +kernel, by decide +kernel⟩
theorem Xl3 {f T : Addr} {fd : FuncData} (F : FunT K "in_order" s_in_order f fd T) (B : Bl mg) (hbm : BmOk mg base) : FnOk P w K mg base CX0 4 f fd ["some"] (spInOrder T (lamPos s_in_order)) := by
 refine F.ok Xop (fun vs H Q E h => ?_) (fun c0 hhd A outer s H vs Q E hr h => ?_)
 ·obtain ⟨l, ps, Ts, rfl, _⟩ := h
  rfl
 ·obtain ⟨l, ps, Ts, rfl, hl, hT, nd, h64, tab, k⟩ := h
  refine ⟨_, Xah (Xat (pe_sortK (show (A.deeper (envOfC "in_order" (defScope s_in_order) s.heap.objs.size f (.ref c0))).units + 1 + 1 < cLine by have := hr.un; omega) (by rfl) B.sorted (by rfl) (Xab (pv 0) Xad) (pk_cons (pe_lam (T := T) (c0 := c0) (q := qIn) hbm rfl rfl rfl hhd rfl) pk_nil))), ?_⟩
  refine ⟨_, rfl, ⟨tab, fun f' c pm ctv H' nf hf hc tab' kp => ?_⟩⟩
  have nlT : ∀ b o, H b = some o -> (∀ z, o ≠ .tbl z) -> b ≠ T := fun b o e n z => by
   rcases tab with q | ⟨_, q, _⟩ <;> (rw [z, q] at e; cases e; exact n _ rfl)
  have hT' : Tups H' ps Ts := ⟨hT.1, fun i hi => kp _ _ (hT.2 i hi) (nlT _ _ (hT.2 i hi) fun z => by simp)⟩
  refine ⟨l, f', ps, Ts, rfl, rfl, kp _ _ hl (nlT _ _ hl fun z => by simp), hT', nd, h64, ?_, fun D p H2 nD g so sm hD => ?_⟩
  ·refine Xof (k := 0) (x := "plot") hf hc ⟨rfl, rfl, rfl, by decide +kernel, rfl, by decide +kernel, by decide +kernel⟩ hr (fun u => rfl) fun A1 outer1 s1 H1 i hi sm hr1 => ?_
   refine ⟨_, Xcc (Xab (Xak Xan (by rfl) B.len boot_len (Xab (pv 0) Xad)) (Xab (pv 0) Xad)), fun Q1 kk => ?_⟩
   have hp := sm _ _ (hT'.2 i hi)
   refine ⟨_, rfl, ps.getD i 0, _, rfl, .inr (SqT.of hp), _, rfl, by show 2 <= sizeLine; decide, fun t nt => ?_⟩
   refine kk t _ ?_ (Same.upd0 nt)
   rw [Xaa, List.length_map]
  ·obtain ⟨pm', so'⟩ := Xlx (Ts := Ts) (by rw [<- hT.1]; exact g) (by rw [<- hT.1]; exact so)
   refine k D _ _ H2 ?_ hD ((tups_by hT' g).same sm) pm' so' (SH.Xb0.same tab' sm) fun b o e n => sm _ _ (kp b o e n)
   cases e : H D with
   | none => rfl
   | some o =>
    by_cases z : D = T
    ·rcases tab' with q | ⟨_, q, _⟩ <;> (rw [<- z, nD] at q; cases q)
    ·rw [kp D o e z] at nD; cases nD
theorem Xd7 : FnScope NPp ["row"] (defScope s_plots) := ⟨rfl, rfl, rfl, by decide +kernel, rfl, by decide +kernel, by decide +kernel⟩
theorem Xoq {f T : Addr} {fd : FuncData} (F : Fun K "plots" "plots" s_plots f fd) (FS : Fn P w K mg base CX0 3 "spans" ["row"] spSpans) (FO : Fn P w K mg base CX0 2 "lie_of" ["here", "there"] spLieOf) (FT : Fn P w K mg base CX0 1 "told" ["names"] (spTold K)) (FC : Fn P w K mg base CX0 4 "crossings" ["row"] Xbg)
  (FI : Fn P w K mg base CX0 4 "in_order" ["some"] (spInOrder T (lamPos s_in_order))) : FnOk P w K mg base CX0 5 f fd ["row"] (Xhb T (lamPos s_in_order)) := by
 refine F.ok Xd7 (fun vs H Q E h => ?_) (fun cdv A outer s H vs Q E hr h => ?_)
 ·obtain ⟨r, row, rfl, _⟩ := h
  rfl
 ·obtain ⟨r, row, rfl, hR, R2, h3, h14, tab, k⟩ := h
  have hu := Xmx hr
  have hr1 : Room 1 _ := hr.mono (by decide)
  have hr2 : Room 2 _ := hr.mono (by decide)
  have hr3 : Room 3 _ := hr.mono (by decide)
  refine ⟨_, Xac (Xal (i := 1) Xd7.nd rfl (Or.inr rfl) (Xaz FS hr3 (by rfl) pass0 (Xab (pv 0) Xad)))
   (Xac (Xal (i := 2) Xd7.nd rfl (Or.inr rfl) (Xks (N := NPo) (cap := [none, some 1]) (CompScope.of (defScope s_plots) NPp rfl rfl rfl (by decide +kernel)) rfl
    (Xdv (pv 1)) (fun _ _ _ => Xao (i := 0) (show NPo.Nodup by decide +kernel) rfl (Or.inr rfl) (Or.inl rfl)) (fun _ _ _ => Xcl) (fun _ _ _ => pv 0)
    (fun s0 H0 ex => Xjg (N := NPi) (cap := [none, some 0, some 1]) (CompScope.of _ NPo rfl rfl rfl (by kernel_rfl)) rfl
     (Xdv (pv 1)) (fun _ _ _ => Xao (i := 0) (show NPi.Nodup by decide +kernel) rfl (Or.inl rfl) (Or.inr rfl))
     (fun _ _ _ => Xdp (Xap (Xlo K (by rfl)) (Xaz (by exact FO) (by exact hr2) (by rfl) pass0 (Xab (Xbx hu (pv 2) (pv 1) (fun _ _ => rfl)) (Xab (Xbx hu (pv 2) (pv 0) (fun _ _ => rfl)) Xad))) (Xcc (Xab Xa4 (Xab Xa4 Xad))) (by rfl)))
     (fun _ _ _ => pv 0))))
   (Xac (Xk6 (i := 3) (N := NPs) (cap := [none, some 2]) (CompScope.of (defScope s_plots) NPp rfl rfl rfl (by decide +kernel)) rfl Xd7.nd rfl rfl
    (Xdv (pv 2)) (fun _ _ _ => Xao (i := 0) (show NPs.Nodup by decide +kernel) rfl (Or.inl rfl) (Or.inr rfl)) (fun _ _ _ => Xcl)
    (fun _ _ _ => Xaz (by exact FT) (by exact hr1) (by rfl) pass0 (Xab (Xbx hu (pv 1) (pv 0) (fun _ _ => rfl)) Xad)))
   (Xac (Xk6 (i := 4) (N := NPd) (cap := [none, none, some 2]) (CompScope.of (defScope s_plots) NPp rfl rfl rfl (by decide +kernel)) rfl Xd7.nd rfl rfl
    (Xbr (Xaz FC hr (by rfl) pass0 (Xab (pv 0) Xad))) (fun _ _ _ => Xnc K 2 rfl rfl (Xbt (Xao (i := 0) (show NPd.Nodup by decide +kernel) rfl (Or.inl rfl) (Or.inr rfl)) (Xbt (Xao (i := 1) (show NPd.Nodup by decide +kernel) rfl (Or.inl rfl) (Or.inr rfl)) Xgj))) (fun _ _ _ => Xcl)
    (fun _ _ _ => Xaz (by exact FT) (by exact hr1) (by rfl) pass0 (Xab (Xau Xb2 (Xbx hu (pv 2) (pv 0) (fun _ _ => rfl)) (Xbx hu (pv 2) (pv 1) (fun _ _ => rfl))) Xad)))
   (Xah (Xat (Xaz FI hr (by rfl) pass0 (Xab (Xau Xb2 (Xau Xb2 (Xbv (Xab (Xcc Xad) Xad)) (pv 3)) (pv 4)) Xad))))))), ?_⟩
  have hl := R2.len
  have hdl := Xef row
  refine ⟨_, rfl, r, row, rfl, hR, R2, fun d kvs H1 nd hd sp s1 => ?_⟩
  refine ⟨_, rfl, d, kvs, rfl, .inl ⟨hd, fun o D nD => ?_⟩⟩
  generalize hH2 : upd H1 d (.frz o (.dK kvs)) = H2 at nD
  have s2 : Same H H2 := fun b u e => by rw [<- hH2, Xae (Xaf e nd)]; exact s1 b u e
  have hd2 : H2 d = some (.frz o (.dK kvs)) := by rw [<- hH2]; exact Xaa
  have sp2 : Spn H2 kvs row (dit row) := ⟨sp.keys, fun x hx => let ⟨l, h1, h2⟩ := sp.val x hx; ⟨l, h1, by rw [<- hH2, Xae (fun z => by rw [z, hd] at h2; cases h2)]; exact h2⟩⟩
  have kl := sp2.len
  have go : ∀ i H3, i < (dit row).length -> Same H2 H3 -> (Itd d o kvs).go i H3 /\ ∀ x H4, (Itd d o kvs).yld i H3 x H4 -> H4 = H3 /\ x = .str ((dit row).getD i Str.empty) := fun i H3 hi s3 => by
   have := Xgs (kvs := kvs) (s3 _ _ hd2) (by omega : i < kvs.length)
   rw [sp2.at i hi] at this
   exact this
  have stp : ∀ H3, Same H2 H3 -> (Itd d o kvs).stop (dit row).length H3 := fun H3 s3 => by
   have := Xgt (kvs := kvs) (s3 _ _ hd2)
   rwa [kl] at this
  refine ⟨wN (dit row).length fun i σ2 H3 => (∃ v, σ2 = [v, some (.ref d)]) /\ Same H2 H3 /\ ∃ kv2, H3 D = some (.dK kv2) /\ Offs H3 kv2 row ((dit row).take i), ⟨(dit row).length, by simp, Nat.zero_le _, ⟨none, rfl⟩, (Same.refl H2).step nD, [], Xaa, ⟨rfl, fun x hx => by simp at hx⟩⟩, ?_⟩
  rintro i m σ1 H3 ⟨rfl, hi, ⟨v, rfl⟩, s3, kv2, hD, ofs⟩
  by_cases hlt : i < (dit row).length
  ·obtain ⟨g1, g2⟩ := go i H3 hlt s3
   refine .inr ⟨g1, fun x H4 y => ?_⟩
   obtain ⟨e1, e2⟩ := g2 x H4 y
   subst e1 e2
   generalize hx : (dit row).getD i Str.empty = x
   have hxd : x ∈ dit row := by rw [<- hx]; exact Xb7 hlt
   have hxr := Xag.mp hxd
   have htk : (dit row).take (i + 1) = (dit row).take i ++ [x] := by
    rw [List.take_succ_eq_append_getElem hlt, <- hx]
    simp [List.getD, hlt]
   have hnx : x ∉ (dit row).take i := by
    have nd := Xf8 row
    have h2 : ((dit row).take (i + 1)).Nodup := nd.sublist (List.take_sublist ..)
    rw [htk] at h2
    exact fun z => (List.nodup_append.mp h2).2.2 x z x (by simp) rfl
   refine ⟨_, rfl, _, rfl, d, kvs, rfl, .inr ⟨o, s3 _ _ hd2, ?_⟩⟩
   refine Xkp (n := (dit row).length) (by rw [sizeLine_eq]; omega) (fun j => .str ((dit row).getD j Str.empty)) (fun j => upB row x ((dit row).getD j Str.empty)) (fun j => .str ((dit row).getD j Str.empty)) ?_ ?_ ?_ ?_ ?_
   ·exact fun j H5 hj s5 => go j H5 hj (s3.trans s5)
   ·exact fun H5 s5 => stp H5 (s3.trans s5)
   ·intro j H5 Q' hj s5 kk
    have s25 := s3.trans s5
    have hxj := Xb7 hj
    obtain ⟨l1, gg1, t1⟩ := (sp2.mono s25).get (.inr ⟨o, s25 _ _ hd2⟩) hxd
    obtain ⟨l2, gg2, t2⟩ := (sp2.mono s25).get (.inr ⟨o, s25 _ _ hd2⟩) hxj
    refine ⟨_, rfl, _, rfl, d, _, rfl, gg1, _, rfl, _, rfl, d, _, rfl, gg2, l1, l2, _, _, _, _, rfl, t1, t2, lie4 (R2.two x hxr) (R2.two _ (Xag.mp hxj)), fun H6 s6 => ?_⟩
    refine ⟨by show 2 <= sizeLine; decide, fun t nt => ?_⟩
    refine ⟨t, [Str.ofString "same", Str.ofString "within"].map V.str, rfl, .inr (SqT.of Xaa), rfl, Xdt _, _, rfl, ?_⟩
    rw [if_neg (by decide), Xfn]
    have e := up_word (row := row) (x := x) (y := (dit row).getD j Str.empty) (R2.two x hxr) (R2.two _ (Xag.mp hxj))
    unfold lieR at e
    rw [e]
    exact kk _ (s6.step nt)
   ·intro j H5 Q' hj hk s5 kk
    exact ⟨_, rfl, kk H5 (Same.refl _)⟩
   ·intro l H5 nl s5 hl5
    have hl5' : H5 l = some (.lst (((dit row).filter (upB row x)).map V.str)) := by
     rw [hl5, <- Xc7 Str.empty (upB row x) (dit row), List.map_map]
     rfl
    have hD5 := s5 _ _ hD
    have kl2 : kv2.length <= 60 := by
     have := ofs.len
     rw [List.length_take] at this
     omega
    refine ⟨kv2, Sum.inr x, rfl, hD5, by rw [sizeLine_eq]; omega, ?_⟩
    refine wskip hlt ⟨⟨_, rfl⟩, fun b u e => ?_, _, Xaa, ?_⟩
    ·rw [Xae (Xaf e nD)]
     exact s5 _ _ (s3 b u e)
    ·rw [htk]
     refine ofs.snoc hnx ?_ fun b xs e => ?_
     ·rw [Xae (fun z => by rw [z, hD5] at hl5'; cases hl5')]
      exact hl5'
     ·have e4 := s5 _ _ e
      rw [Xae (fun z => by rw [z, hD5] at e4; cases e4)]
      exact e4
  ·have ei : i = (dit row).length := by omega
   subst ei
   refine .inl ⟨stp H3 s3, ?_⟩
   rw [List.take_length] at ofs
   have s03 := s2.trans s3
   refine ⟨_, rfl, D, kv2, rfl, .inl ⟨hD, fun o2 L nL => ?_⟩⟩
   generalize hH4 : upd H3 D (.frz o2 (.dK kv2)) = H4 at nL
   have nD0 : H D = none := s2.free nD
   have s4 : Same H H4 := fun b u e => by rw [<- hH4, Xae (Xaf e nD0)]; exact s03 b u e
   have hD4 : H4 D = some (.frz o2 (.dK kv2)) := by rw [<- hH4]; exact Xaa
   have of4 : Offs H4 kv2 row (dit row) := ⟨ofs.keys, fun x hx => let ⟨l, h1, h2⟩ := ofs.val x hx; ⟨l, h1, by rw [<- hH4, Xae (fun z => by rw [z, hD] at h2; cases h2)]; exact h2⟩⟩
   have kl2 := of4.len
   have fl : ∀ x, ((dit row).filter (upB row x)).length <= 14 := fun x => Nat.le_trans (List.length_filter_le ..) (by omega)
   refine Xnk (H0 := H4) (xs0 := []) (n := (dit row).length) (fun j => .str ((dit row).getD j Str.empty)) (fun _ => true) (fun j => tupD ((dit row).filter (upB row ((dit row).getD j Str.empty)))) [] nL ((Same.refl H4).step nL) Xaa Xcn (by rw [sizeLine_eq, List.length_nil]; omega) ?_ ?_ ?_ ?_ ?_
   ·intro j H5 hj s5
    have := Xgs (kvs := kv2) (s5 _ _ hD4) (by omega : j < kv2.length)
    rw [of4.at j hj] at this
    exact this
   ·intro H5 s5
    have := Xgt (kvs := kv2) (s5 _ _ hD4)
    rwa [kl2] at this
   ·exact fun j H5 Q' hj s5 kk => kk H5 (Same.refl _)
   ·intro j xs H5 Q' hj _ s5 hL5 kk
    obtain ⟨l, gg, hl5⟩ := (of4.mono s5).get (.inr ⟨o2, s5 _ _ hD4⟩) (Xb7 hj)
    refine ⟨_, rfl, _, rfl, D, _, rfl, gg, l, _, rfl, .inl (SqL.of hl5), by have := fl ((dit row).getD j Str.empty); omega, fun t H6 nt ht s6 => ?_⟩
    rw [Xg5 ((Xds row).filter _)] at ht
    refine kk _ H6 s6 (Xd0 ?_)
    have hL6 := s6 _ _ hL5
    unfold hid
    rw [if_neg (fun z => by rw [z, hL6] at ht; cases ht)]
    exact ht
   ·intro σ' H5 xs e s5 hL5 hal
    have e1 : ([] : List PyData) ++ ((List.range (dit row).length).filter fun _ => true).map (fun j => tupD ((dit row).filter (upB row ((dit row).getD j Str.empty)))) = ((dit row).map fun a => (dit row).filter (upB row a)).map tupD := by
     have := Xc7 Str.empty (fun _ => true) (dit row)
     rw [List.filter_eq_self.mpr (fun _ _ => rfl), List.filter_eq_self.mpr (fun _ _ => rfl)] at this
     have q := congrArg (List.map fun a => tupD ((dit row).filter (upB row a))) this
     rw [List.map_map] at q
     rw [List.nil_append, List.filter_eq_self.mpr (fun _ _ => rfl), List.map_map]
     exact q
    rw [e1] at hal
    obtain ⟨ps1, rfl, ht1⟩ := Xf2 hal
    have ht1 : Tups H5 ps1 _ := ht1.same (Xcp L H5)
    have s05 := s4.trans s5
    refine ⟨_, rfl, r, row, rfl, s05 _ _ hR, R2, fun cl xs2 H6 ncl hcl hal6 s6 => ?_⟩
    refine ⟨cl, rfl, ⟨_, SqL.of hcl⟩, fun M nM => ?_⟩
    have hxl : xs2.length = (crs row).length := by
     have := Xb4 hal6
     simpa using this
    have of6 := (of4.mono s5).mono s6
    have hD6 := s6 _ _ (s5 _ _ hD4)
    have c49 := crs_le R2.two h3 (by omega)
    refine ⟨wN (crs row).length fun i σ2 H7 => (∃ u v, σ2 = [u, v, some (.ref D)]) /\ Same H6 H7 /\ ∃ qs : List Addr, H7 M = some (.lst (qs.map V.ref)) /\ Tups H7 qs (((crs row).take i).map fun q => (dit row).filter fun y => upB row q.1 y || upB row q.2 y), ⟨(crs row).length, by simp, Nat.zero_le _, ⟨none, none, rfl⟩, (Same.refl H6).step nM, [], Xaa, Tups.nil _⟩, ?_⟩
    rintro i m σ1 H7 ⟨rfl, hi, ⟨u, v, rfl⟩, s7, qs, hM, htq⟩
    by_cases hlt : i < (crs row).length
    ·obtain ⟨g1, g2⟩ := Xgq (K := K) (SqL.of (s7 _ _ hcl)) (by omega : i < xs2.length)
     refine .inr ⟨g1, fun x H8 y => ?_⟩
     obtain ⟨e1, e2⟩ := g2 x H8 y
     subst e1 e2
     obtain ⟨v1, hv, hdat⟩ := Xg0 (i := i) (d := prD ((crs row)[i])) hal6 (by rw [List.getElem?_map, List.getElem?_eq_getElem hlt]; rfl)
     have hq := List.getElem_mem hlt
     generalize hqe : (crs row)[i] = q at hdat hq
     obtain ⟨hq1, hq2, _, _⟩ := Xix hq
     have ev : xs2.getD i .non = v1 := by simp [List.getD, hv]
     rw [ev]
     unfold prD DAt at hdat
     obtain ⟨pp, ys, rfl, hpp, hys⟩ := hdat
     obtain rfl := Xbd (ss := [q.1, q.2]) hys
     have hpp6 := Xcp cl H6 _ _ hpp
     have htk : (crs row).take (i + 1) = (crs row).take i ++ [q] := by
      rw [List.take_succ_eq_append_getElem hlt, hqe]
     obtain ⟨l1, gg1, hl1⟩ := (of6.mono s7).get (.inr ⟨o2, s7 _ _ hD6⟩) (Xag.mpr hq1)
     obtain ⟨l2, gg2, hl2⟩ := (of6.mono s7).get (.inr ⟨o2, s7 _ _ hD6⟩) (Xag.mpr hq2)
     have f1 := fl q.1
     have f2 := fl q.2
     refine ⟨pp, _, rfl, SqT.of (s7 _ _ hpp6), rfl, _, _, rfl, _, _, rfl, rfl, ?_⟩
     refine ⟨_, rfl, _, rfl, D, _, rfl, gg1, _, rfl, _, rfl, D, _, rfl, gg2, l1, l2, _, _, rfl, rfl, hl1, hl2, by rw [List.length_map, List.length_map, sizeLine_eq]; omega, fun c nc => ?_⟩
     refine ⟨c, (dit row).filter (upB row q.1) ++ (dit row).filter (upB row q.2), rfl, .inl (by rw [List.map_append]; exact SqL.of Xaa), by rw [List.length_append]; omega, fun t H9 nt ht s9 => ?_⟩
     have s79 : Same H8 H9 := ((Same.refl H8).step nc).trans s9
     have hM9 := s79 _ _ hM
     have et : told ((dit row).filter (upB row q.1) ++ (dit row).filter (upB row q.2)) = (dit row).filter fun y => upB row q.1 y || upB row q.2 y := by
      refine lt_uniq (Xjq _) ((Xds row).filter _) fun z => ?_
      rw [told_mem, List.mem_append, List.mem_filter, List.mem_filter, List.mem_filter, Bool.or_eq_true, <- and_or_left]
     rw [et] at ht
     have hql : qs.length <= 49 := by
      have := htq.1
      rw [List.length_map, List.length_take] at this
      omega
     refine ⟨_, hM9, by rw [List.length_map, sizeLine_eq]; omega, ?_⟩
     have keepM : ∀ b w, H9 b = some (.tup w) -> upd H9 M (.lst (qs.map V.ref ++ [.ref t])) b = some (.tup w) := fun b w e => by
      rw [Xae (fun z => by rw [z, hM9] at e; cases e)]
      exact e
     refine wskip hlt ⟨⟨_, _, rfl⟩, fun b w e => ?_, qs ++ [t], by rw [Xaa, List.map_append]; rfl, ?_⟩
     ·rw [Xae (Xaf e nM)]
      exact s79 _ _ (s7 b w e)
     ·rw [htk, List.map_append]
      refine Tups.app ⟨htq.1, fun j hj => keepM _ _ (s79 _ _ (htq.2 j hj))⟩ (Tups.cons (keepM _ _ ht) (Tups.nil _))
    ·have ei : i = (crs row).length := by omega
     subst ei
     refine .inl ⟨by have := Xgr (K := K) (SqL.of (s7 _ _ hcl)); rwa [hxl] at this, ?_⟩
     rw [List.take_length] at htq
     have s57 := s6.trans s7
     have hL7 := s57 _ _ hL5
     have ht7 := ht1.same s57
     have s07 := s05.trans s57
     refine ⟨Nat.zero_le _, fun e0 ne0 => ⟨by show 1 <= sizeLine; decide, fun z nz => ?_⟩⟩
     generalize hHa : upd H7 e0 (.tup []) = Ha at nz
     have sa : Same H7 Ha := by rw [<- hHa]; exact (Same.refl H7).step ne0
     have he0 : Ha e0 = some (.tup (([] : List Str).map V.str)) := by rw [<- hHa]; exact Xaa
     generalize hHb : upd Ha z (.lst [.ref e0]) = Hb
     have sb : Same Ha Hb := by rw [<- hHb]; exact (Same.refl Ha).step nz
     have hz : Hb z = some (.lst [.ref e0]) := by rw [<- hHb]; exact Xaa
     have l1 : ps1.length = (dit row).length := by have := ht1.1; simpa using this
     have l2 : qs.length = (crs row).length := by have := htq.1; simpa using this
     have s7b := sa.trans sb
     refine ⟨_, rfl, z, L, _, _, rfl, rfl, hz, s7b _ _ hL7, by rw [List.length_map, List.length_singleton, sizeLine_eq]; omega, fun c1 n1 => ?_⟩
     generalize hHc : upd Hb c1 (.lst ([.ref e0] ++ ps1.map V.ref)) = Hc
     have sc : Same Hb Hc := by rw [<- hHc]; exact (Same.refl Hb).step n1
     have hc1 : Hc c1 = some (.lst ([.ref e0] ++ ps1.map V.ref)) := by rw [<- hHc]; exact Xaa
     have s7c := s7b.trans sc
     refine ⟨_, rfl, c1, M, _, _, rfl, rfl, hc1, s7c _ _ hM, by rw [List.length_append, List.length_map, List.length_map, List.length_singleton, sizeLine_eq]; omega, fun c2 n2 => ?_⟩
     generalize hHd : upd Hc c2 (.lst (([.ref e0] ++ ps1.map V.ref) ++ qs.map V.ref)) = Hd
     have sd : Same Hc Hd := by rw [<- hHd]; exact (Same.refl Hc).step n2
     have hc2 : Hd c2 = some (.lst ((e0 :: (ps1 ++ qs)).map V.ref)) := by
      rw [<- hHd, Xaa, List.map_cons, List.map_append]
      rfl
     have s7d := s7c.trans sd
     have s0d := s07.trans s7d
     have hTs : Tups Hd (e0 :: (ps1 ++ qs)) ([] :: cands row) := Tups.cons ((sb.trans (sc.trans sd)) _ _ he0) (Tups.app (ht7.same s7d) (htq.same s7d))
     refine ⟨c2, e0 :: (ps1 ++ qs), [] :: cands row, rfl, hc2, hTs, all_nd R2.two, by rw [List.length_cons, List.length_append]; omega, SH.Xb0.same tab s0d, fun D' ps' Ts' H' nD' hD' hT' pm so tab' bt => ?_⟩
     refine k D' ps' Ts' H' (s0d.free nD') hD' hT' (fun S => (pm.mem_iff).trans (Xiy R2.two h3 S)) so ?_ tab' fun b w e n => bt _ _ (s0d _ _ e) n
     rw [hT'.1, pm.length_eq, <- hTs.1, List.length_cons, List.length_append]
     omega
theorem scBegin : FnScope ["_law_script"] ["_law_script"] (defScope sBegin) := ⟨rfl, rfl, rfl, by decide +kernel, rfl, by decide +kernel, by decide +kernel⟩
theorem ok_begin {f : Addr} {fd : FuncData} (F : Fun K "_law_begin" "_law_begin" sBegin f fd) (T : Bl mg) : FnOk P w K mg base CX0 1 f fd ["_law_script"] (Xjl K) := by
 refine F.ok scBegin (fun vs H Q E h => ?_) (fun cdv A outer s H vs Q E hr h => ?_)
 ·obtain ⟨a, ns, rfl, _⟩ := h
  rfl
 ·obtain ⟨a, ns, rfl, hS, hl, k⟩ := h
  refine ⟨_, Xah (Xat (Xbv (Xab (Xbn Xep rfl T.list boot_list (Xab (Xbk Xca (pv 0) Xch (Xbw Xai)) Xad)) (Xab Xai (Xab Xai (Xab Xai (Xab Xai Xad))))))), ?_⟩
  refine ⟨_, rfl, _, rfl, a, _, rfl, hS, fun p hp => ?_⟩
  have cut : cutV (ns.map V.int) none (some 63) = ns.map V.int := by
   unfold cutV
   rw [HT.sIx_none, List.drop_zero, show (some (63 : Int)) = some ((63 : Nat) : Int) from rfl, HT.sIx_nat]
   exact List.take_of_length_le (by rw [List.length_map]; omega)
  rw [cut]
  refine ⟨p, _, rfl, .inl (SqL.of Xaa), fun q hq => ?_⟩
  refine ⟨by show 5 <= sizeLine; decide, fun dr hdr => ?_⟩
  have npq : p ≠ q := Xaf (o := .lst (ns.map V.int)) Xaa hq
  have nqd : q ≠ dr := Xaf (o := .lst (ns.map V.int)) Xaa hdr
  have hqH : H q = none := by rw [Xae npq.symm] at hq; exact hq
  have hpd : p ≠ dr := Xaf (H := upd (upd H p (.lst (ns.map V.int))) q (.lst (ns.map V.int))) (o := .lst (ns.map V.int)) (by rw [Xae npq, Xaa]) hdr
  have hdH : H dr = none := by rw [Xae nqd.symm, Xae hpd.symm] at hdr; exact hdr
  refine k dr q _ hdH hqH ⟨⟨ns, 0, 0, 1, 0, Xaa, by rw [Xae nqd, Xaa], Nat.zero_le _, hl, by decide, by decide⟩⟩ ((((Same.refl H).upd hp).upd hqH).upd hdH)
theorem Xor : FnScope NP ["_law_draw", "_law_many"] (defScope sPick) := ⟨rfl, rfl, rfl, by decide +kernel, rfl, by decide +kernel, by decide +kernel⟩
theorem ok_pick {f : Addr} {fd : FuncData} (F : Fun K "_law_pick" "_law_pick" sPick f fd) (T : Bl mg) : FnOk P w K mg base CX0 1 f fd ["_law_draw", "_law_many"] spPick := by
 refine F.ok Xor (fun vs H Q E h => ?_) (fun cdv A outer s H vs Q E hr h => ?_)
 ·obtain ⟨dr, sc, n, rfl, _⟩ := h
  rfl
 ·obtain ⟨dr, sc, n, rfl, hn0, hn1, ⟨ns, p, c, m, k, hd, hs, hp, hl, hm0, hm1⟩, kk⟩ := h
  have nds : dr ≠ sc := by
   intro e
   subst e
   rw [hd] at hs
   cases ns with
   | nil => cases hs
   | cons a r => cases hs
  refine Xln (fun σ' H' => ∃ x y p c m, σ' = [some (.ref dr), some (.int n), x, y] /\ H' dr = some (.lst [.ref sc, .int (p : Nat), .int c, .int m, .int k]) /\ p <= ns.length /\ 0 <= m /\ m < 1000000007 /\ ∀ b o, H b = some o -> b ≠ dr -> H' b = some o) ?_ ?_
  ·-- the rest
   refine ⟨_, Xac (Xct (Xap op_ge (Xa3 Xav (pv 0) Xai (fun _ _ => rfl)) (pv 1) (nomark _))
     (Xac (Xal (i := 3) Xor.nd rfl (Or.inl rfl) (Xau Xf7 (Xa3 Xav (pv 0) Xai (fun _ _ => rfl)) (pv 1)))
     (Xac (Xen (Xau Xi4 (Xa3 Xav (pv 0) Xai (fun _ _ => rfl)) (pv 1)) (Xfb (pv 0) Xai Xci))
     (Xah (Xat (pv 3))))) Xa8)
    (Xac (Xen (Xau Xbm (Xa3 Xav (pv 0) Xai (fun _ _ => rfl)) Xai) (Xfb (pv 0) Xai Xci))
    (Xac (Xen (Xau Xf7 (Xau Xbm (Xau Xbm (Xau op_pow (Xa3 Xav (pv 0) Xai (fun _ _ => rfl)) Xai) (Xau op_mul Xai (Xa3 Xav (pv 0) Xai (fun _ _ => rfl)))) Xai) Xai) (Xfb (pv 0) Xai Xci))
    (Xah (Xat (Xau Xf7 (Xau Xi4 (Xa3 Xav (pv 0) Xai (fun _ _ => rfl)) Xai) (pv 1)))))), ?_⟩
   rintro σ' H' ⟨x, y, p, c, m, rfl, hd', hp', hm0', hm1', kp⟩
   refine ⟨_, rfl, dr, _, _, _, rfl, rfl, SqL.of hd', rfl, _, rfl, _, _, rfl, rfl, _, rfl, ?_⟩
   refine ite2b (fun hc => ?_) (fun hc => ?_)
   ·-- got
    refine ⟨_, rfl, dr, _, _, _, rfl, rfl, SqL.of hd', rfl, _, rfl, _, _, rfl, rfl, hn0, ?_⟩
    refine ⟨_, rfl, dr, _, _, _, rfl, rfl, SqL.of hd', rfl, _, rfl, _, _, rfl, rfl, ⟨hn0, by omega⟩, ?_⟩
    refine ⟨_, rfl, dr, _, _, 2, rfl, rfl, hd', rfl, ?_⟩
    refine ⟨_, rfl, ?_⟩
    refine kk _ _ (Int.emod_nonneg _ (by omega)) (Int.emod_lt_of_pos _ hn0) ⟨⟨ns, p, c / n, m, k, Xaa, ?_, hp', hl, hm0', hm1'⟩⟩ fun b o e hb => by rw [Xae hb]; exact kp b o e hb
    rw [Xae nds.symm]
    exact kp _ _ hs nds.symm
   ·refine ⟨_, rfl, dr, _, _, _, rfl, rfl, SqL.of hd', rfl, _, _, rfl, rfl, ?_⟩
    refine ⟨_, rfl, dr, _, _, 4, rfl, rfl, hd', rfl, ?_⟩
    refine ⟨_, rfl, dr, _, _, _, rfl, rfl, SqL.of Xaa, rfl, _, _, rfl, rfl, cpow3 hm0' hm1', ?_⟩
    refine ⟨_, rfl, dr, _, _, _, rfl, rfl, SqL.of Xaa, rfl, _, _, rfl, rfl, .inl ⟨by decide, by decide⟩, _, _, rfl, rfl, _, _, rfl, rfl, _, _, rfl, rfl, (by show (0 : Int) < 1000000007; decide), ?_⟩
    refine ⟨_, rfl, dr, _, _, 3, rfl, rfl, Xaa, rfl, ?_⟩
    refine ⟨_, rfl, dr, _, _, _, rfl, rfl, SqL.of Xaa, rfl, _, _, rfl, rfl, ⟨by decide, by decide⟩, _, rfl, _, _, rfl, rfl, hn0, ?_⟩
    refine kk _ _ (Int.emod_nonneg _ (by omega)) (Int.emod_lt_of_pos _ hn0) ⟨⟨ns, p, c, _, k + 1, Xaa, ?_, hp', hl, Int.emod_nonneg _ (by decide), Int.emod_lt_of_pos _ (by decide)⟩⟩ fun b o e hb => by rw [Xae hb, Xae hb]; exact kp b o e hb
    rw [Xae nds.symm, Xae nds.symm]
    exact kp _ _ hs nds.symm
  ·intro nx hnx
   refine ⟨_, Xct (Xe9 (Xap Xet (Xa3 Xav (pv 0) Xai (fun _ _ => rfl)) (pv 1) (nomark _)) (Xdf (Xap Xet (Xa3 Xav (pv 0) Xai (fun _ _ => rfl)) (Xak Xan (by rfl) T.len boot_len (Xab (Xa3 Xav (pv 0) Xai (fun _ _ => rfl)) Xad)) (nomark _)))).pt
     (Xac (Xal (i := 2) Xor.nd rfl (Or.inl rfl) (Xa3 Xav (Xa3 Xav (pv 0) Xai (fun _ _ => rfl)) (Xa3 Xav (pv 0) Xai (fun _ _ => rfl)) (fun _ _ => rfl)))
     (Xac (Xen (Xau Xbm (Xa3 Xav (pv 0) Xai (fun _ _ => rfl)) Xai) (Xfb (pv 0) Xai Xci))
     (Xac (Xen Xai (Xfb (pv 0) Xai Xci))
     (Xah (Xct (Xap op_ge (pv 2) (Xau op_pow Xai Xai) (nomark _))
      (Xah (Xen (pv 2) (Xfb (pv 0) Xai Xci)))
      (Xah (Xen (Xau Xf7 (Xau Xbm (Xa3 Xav (pv 0) Xai (fun _ _ => rfl)) (pv 2)) Xai) (Xfb (pv 0) Xai Xci)))))))) Xa8, ?_⟩
   refine ⟨_, rfl, dr, _, _, _, rfl, rfl, SqL.of hd, rfl, _, rfl, _, _, rfl, rfl, _, rfl, ?_⟩
   have skip : nx [some (.ref dr), some (.int n), none, none] H := hnx _ _ ⟨none, none, p, c, m, rfl, hd, hp, hm0, hm1, fun b o e _ => e⟩
   refine ite2b (fun _ => ?_) (fun _ => iteF skip)
   refine ⟨_, rfl, dr, _, _, _, rfl, rfl, SqL.of hd, rfl, _, rfl, dr, _, _, _, rfl, rfl, SqL.of hd, rfl, sc, _, rfl, .inl (SqL.of hs), _, _, rfl, rfl, _, rfl, ?_⟩
   refine ite2b (fun hlt => ?_) (fun _ => skip)
   have hlt' : (p : Int) < ((ns.map V.int).length : Nat) := of_decide_eq_true hlt
   rw [List.length_map] at hlt'
   have hpl : p < ns.length := by omega
   have hat : (ns.map V.int)[p]? = some (.int (ns[p]'hpl)) := by rw [List.getElem?_map, List.getElem?_eq_getElem hpl]; rfl
   refine ⟨_, rfl, dr, _, _, _, rfl, rfl, SqL.of hd, rfl, _, rfl, dr, _, _, _, rfl, rfl, SqL.of hd, rfl, sc, _, _, _, rfl, rfl, SqL.of hs, Xfe hat, ?_⟩
   refine ⟨_, rfl, dr, _, _, _, rfl, rfl, SqL.of hd, rfl, _, _, rfl, rfl, ?_⟩
   refine ⟨_, rfl, dr, _, _, 1, rfl, rfl, hd, rfl, ?_⟩
   refine ⟨_, rfl, dr, _, _, 2, rfl, rfl, Xaa, rfl, ?_⟩
   refine ⟨_, rfl, _, _, rfl, rfl, ⟨by decide, by decide, by decide⟩, _, _, rfl, rfl, _, rfl, ?_⟩
   refine ite2b (fun _ => ?_) (fun _ => ?_)
   ·refine ⟨_, rfl, _, rfl, dr, _, _, 2, rfl, rfl, Xaa, rfl, ?_⟩
    refine hnx _ _ ⟨_, none, p + 1, _, m, rfl, Xaa, hpl, hm0, hm1, fun b o e hb => by rw [Xae hb, Xae hb, Xae hb]; exact e⟩
   ·refine ⟨_, rfl, dr, _, _, _, rfl, rfl, SqL.of Xaa, rfl, _, rfl, _, _, rfl, rfl, _, _, rfl, rfl, (by show (0 : Int) < 1000000007; decide), ?_⟩
    refine ⟨_, rfl, dr, _, _, 3, rfl, rfl, Xaa, rfl, ?_⟩
    refine hnx _ _ ⟨_, none, p + 1, _, _, rfl, Xaa, hpl, Int.emod_nonneg _ (by decide), Int.emod_lt_of_pos _ (by decide), fun b o e hb => by rw [Xae hb, Xae hb, Xae hb]; exact e⟩
theorem scPut : FnScope NPut ["_law_row_here", "_law_name", "_law_at", "_law_to"] (defScope sPut) := ⟨rfl, rfl, rfl, by decide +kernel, rfl, by decide +kernel, by decide +kernel⟩
theorem ok_put {f : Addr} {fd : FuncData} (F : Fun K "_law_put" "_law_put" sPut f fd) : FnOk P w K mg base CX0 1 f fd ["_law_row_here", "_law_name", "_law_at", "_law_to"] spPut := by
 refine F.ok scPut (fun vs H Q E h => ?_) (fun cdv A outer s H vs Q E hr h => ?_)
 ·obtain ⟨r, row, x, a, b, rfl, _⟩ := h
  rfl
 ·obtain ⟨r, row, x, a, b, rfl, hR, hl, hab, hb, k⟩ := h
  refine ⟨_, Xac (Xal (i := 4) scPut.nd rfl (Or.inl rfl) (Xau Xb2 (Xau Xb2 (Xbk Xca (pv 0) Xch (Xbw (pv 2))) (Xbv (Xab (pv 1) Xad))) (Xbk Xca (pv 0) (Xbw (pv 2)) (Xbw (pv 3)))))
   (Xah (Xat (Xau Xb2 (Xau Xb2 (pv 4) (Xbv (Xab (pv 1) Xad))) (Xbk Xca (pv 0) (Xbw (pv 3)) Xch)))), ?_⟩
  have h24 : ∀ n, n <= 100000 -> n <= sizeLine := fun n h => by rw [sizeLine_eq]; omega
  refine ⟨_, rfl, _, rfl, _, rfl, r, _, rfl, SqL.of hR, fun p1 n1 => ?_⟩
  rw [Xna _ _ _ (by omega)]
  refine ⟨_, rfl, by show 1 <= sizeLine; decide, fun p2 n2 => ?_⟩
  refine ⟨p1, p2, _, _, rfl, rfl, ku Xaa n2, Xaa, h24 _ (by simp; omega), fun p3 n3 => ?_⟩
  refine ⟨_, rfl, _, rfl, _, rfl, _, rfl, _, rfl, r, _, rfl, SqL.of (ku (ku (ku hR n1) n2) n3), fun p4 n4 => ?_⟩
  rw [cut_in _ _ _ _ hab hb]
  refine ⟨p3, p4, _, _, rfl, rfl, ku Xaa n4, Xaa, h24 _ (by simp; omega), fun p5 n5 => ?_⟩
  refine ⟨_, rfl, _, rfl, by show 1 <= sizeLine; decide, fun p6 n6 => ?_⟩
  refine ⟨p5, p6, _, _, rfl, rfl, ku Xaa n6, Xaa, h24 _ (by simp; omega), fun p7 n7 => ?_⟩
  refine ⟨_, rfl, _, rfl, _, rfl, r, _, rfl, SqL.of (ku (ku (ku (ku (ku (ku (ku hR n1) n2) n3) n4) n5) n6) n7), fun p8 n8 => ?_⟩
  rw [Xib _ _ _ hb]
  refine ⟨p7, p8, _, _, rfl, rfl, ku Xaa n8, Xaa, h24 _ (by simp; omega), fun p9 n9 => ?_⟩
  have s8 := ((((((((Same.refl H).go n1 n2).go n2 n3).go n3 n4).go n4 n5).go n5 n6).go n6 n7).go n7 n8).go n8 n9
  refine k p9 _ (s8.free n9) (Xaa.trans ?_) (s8.step n9)
  unfold putR
  simp
theorem Xj8 : FnScope NWh ["_law_row_here"] (defScope sWhere) := ⟨rfl, rfl, rfl, by decide +kernel, rfl, by decide +kernel, by decide +kernel⟩
theorem ok_where {f : Addr} {fd : FuncData} (F : Fun K "_law_where" "_law_where" sWhere f fd) (T : Bl mg) : FnOk P w K mg base CX0 1 f fd ["_law_row_here"] Xfq := by
 refine F.ok Xj8 (fun vs H Q E h => ?_) (fun cdv A outer s H vs Q E hr h => ?_)
 ·obtain ⟨r, row, rfl, _⟩ := h
  rfl
 ·obtain ⟨r, row, rfl, hR, hl, k⟩ := h
  have hu := Xmx hr
  refine ⟨_, Xac (Xal (i := 1) Xj8.nd rfl (Or.inl rfl) pe_dnewK)
   (Xac (Xcb PassesOwn.never rfl (Xcu rfl T.range (Xab (Xak Xan (by rfl) T.len boot_len (Xab (pv 0) Xad)) Xad)) (Xao (i := 2) Xj8.nd rfl (Or.inl rfl))
    (Xah (ps_dput hu (pv 1) (Xa3 Xav (pv 0) (pv 2) (fun _ _ => rfl))
     (Xau Xb2 (pe_dget2 hu (pv 1) (Xa3 Xav (pv 0) (pv 2) (fun _ _ => rfl)) (Xbv Xad) ⟨rfl, rfl, rfl, rfl⟩) (Xbv (Xab (pv 2) Xad))) rfl)))
   (Xah (Xat (pv 1)))), ?_⟩
  intro d nd
  have s0 : Same H (upd H d (.dK [])) := (Same.refl H).step nd
  refine ⟨_, rfl, r, _, rfl, .inl (SqL.of (s0 _ _ hR)), ((row.map V.str).length : Int), rfl, by omega, by rw [List.length_map]; omega, ?_⟩
  have hn : ((row.map V.str).length : Int).toNat = row.length := by rw [List.length_map]; simp
  rw [hn]
  refine Xcv (lo := 0) (n := row.length) (fun i σ H2 => ∃ kvs v, σ = [some (.ref r), some (.ref d), v] /\ Same H H2 /\ H2 d = some (.dK kvs) /\ Wh H2 kvs (row.take i)) ?_ ?_ ?_
  ·exact ⟨[], none, rfl, s0, Xaa, ⟨fun k hk => by simp at hk, fun x hx => by simp at hx, fun _ _ => rfl, by simp, by simp⟩⟩
  ·rintro i σ H2 hi ⟨kvs, v, rfl, s2, hd, wh⟩
   have hat : (row.map V.str)[i]? = some (.str (row[i]'hi)) := by rw [List.getElem?_map, List.getElem?_eq_getElem hi]; rfl
   have hat' : atI (row.map V.str) (0 + (i : Int)) = some (.str (row[i]'hi)) := by rw [Int.zero_add]; exact Xfe hat
   have tk : row.take (i + 1) = row.take i ++ [row[i]'hi] := by rw [List.take_succ_eq_append_getElem hi]
   have kl := wh.len
   rw [List.length_take] at kl
   have ll : (plc (row.take i) (row[i]'hi)).length <= 1000 := by
    rw [Xjm]
    have := List.count_le_length (a := row[i]'hi) (l := row.take i)
    rw [List.length_take] at this
    omega
   have h24 : ∀ n, n <= 100000 -> n <= sizeLine := fun n h => by rw [sizeLine_eq]; omega
   refine ⟨_, rfl, d, rfl, .inl ⟨kvs, .inl hd⟩, _, rfl, _, rfl, r, _, _, _, rfl, rfl, SqL.of (s2 _ _ hR), hat', by show 0 <= sizeLine; decide, fun p1 n1 => ?_⟩
   refine ⟨_, DGet.k (k := Sum.inr (row[i]'hi)) (ku hd n1), ?_⟩
   obtain ⟨q, xs, e1, hq, hxs⟩ : ∃ q xs, (valV kvs (Sum.inr (row[i]'hi) : Key)).getD (V.ref p1) = V.ref q /\ upd H2 p1 (.lst []) q = some (.lst (xs.map V.int)) /\ plc (row.take i) (row[i]'hi) = xs := by
    by_cases hx : row[i]'hi ∈ row.take i
    ·obtain ⟨l, e1, e2⟩ := wh.val _ hx
     exact ⟨l, _, by rw [e1]; rfl, ku e2 n1, rfl⟩
    ·refine ⟨p1, [], by rw [wh.none _ hx]; rfl, Xaa, ?_⟩
     have : (plc (row.take i) (row[i]'hi)).length = 0 := by rw [Xjm]; exact List.count_eq_zero.mpr hx
     exact List.length_eq_zero_iff.mp this
   have hlx : xs.length <= 1000 := by rw [<- hxs]; exact ll
   rw [e1]
   refine ⟨_, rfl, by show 1 <= sizeLine; decide, fun p2 n2 => ?_⟩
   refine ⟨q, p2, _, _, rfl, rfl, ku hq n2, Xaa, h24 _ (by simp; omega), fun p3 n3 => ?_⟩
   refine ⟨_, rfl, _, rfl, _, rfl, r, _, _, _, rfl, rfl, SqL.of (ku (ku (ku (s2 _ _ hR) n1) n2) n3), hat', ?_⟩
   have hd2 := ku (u := .lst [V.int (0 + (i : Int))]) (ku (u := .lst []) hd n1) n2
   have hd3 := ku (u := .lst (xs.map V.int ++ [V.int (0 + (i : Int))])) hd2 n3
   refine ⟨d, _, rfl, DPut.k (k := Sum.inr (row[i]'hi)) hd3 (by rw [sizeLine_eq]; omega), _, _, rfl, ?_, Xaa, ?_⟩
   ·have s3 := ((s2.go n1 n2).go n2 n3).step (o := .lst (xs.map V.int ++ [V.int (0 + (i : Int))])) n3
    exact s3.upd nd
   ·rw [tk]
    refine wh.snoc _ p3 ?_ fun b ys e => ?_
    ·have ne : p3 ≠ d := (Xaf hd2 n3).symm
     rw [Xae ne, Xaa, Xg3, if_pos rfl, hxs, List.map_append, List.length_take, Nat.min_eq_left (Nat.le_of_lt hi)]
     simp
    ·have ne : b ≠ d := fun z => by rw [z, hd] at e; cases e
     rw [Xae ne]
     exact ku (ku (ku e n1) n2) n3
  ·rintro σ H2 ⟨kvs, v, rfl, s2, hd, wh⟩
   rw [List.take_length] at wh
   exact ⟨_, rfl, k d kvs H2 nd hd wh s2⟩
theorem Xk8 : FnScope NWo ["_law_where_here", "_law_one", "_law_other"] (defScope sWord) := ⟨rfl, rfl, rfl, by decide +kernel, rfl, by decide +kernel, by decide +kernel⟩
theorem ok_word {f : Addr} {fd : FuncData} (F : Fun K "_law_word" "_law_word" sWord f fd) (T : Bl mg) : FnOk P w K mg base CX0 1 f fd ["_law_where_here", "_law_one", "_law_other"] spWord := by
 refine F.ok Xk8 (fun vs H Q E h => ?_) (fun cdv A outer s H vs Q E hr h => ?_)
 ·obtain ⟨d, l1, l2, kvs, x, y, a, b, c, e, rfl, _⟩ := h
  rfl
 ·obtain ⟨d, l1, l2, kvs, x, y, a, b, c, e, rfl, hd, v1, v2, h1, h2, k⟩ := h
  have hu := Xmx hr
  refine ⟨_, Xac (Xen (Xbx hu (pv 0) (pv 1) (fun _ _ => rfl)) (pg_tupL rfl (Xbt (Xao (i := 3) Xk8.nd rfl (Or.inr rfl)) (Xbt (Xao (i := 4) Xk8.nd rfl (Or.inr rfl)) Xgj))))
   (Xac (Xjh (i := 5) (N := ["_law_at", "_law_high", "_law_low"]) (cap := [none, some 4, some 3]) (CompScope.of (defScope sWord) NWo rfl rfl rfl (by decide +kernel)) rfl Xk8.nd rfl rfl
     (Xbr (Xbx hu (pv 0) (pv 2) (fun _ _ => rfl))) (fun _ _ _ => Xao (i := 0) (show (["_law_at", "_law_high", "_law_low"] : List Str).Nodup by decide +kernel) rfl (Or.inl rfl) (Or.inr rfl))
     (fun _ _ _ => Xdp (Xe9 (Xap Xet (pv 2) (pv 0) (nomark _)) (Xdf (Xap Xet (pv 0) (pv 1) (nomark _)))).pt) (fun _ _ _ => pv 0))
   (Xac (Xct (pw_or (Xap Xfc (pv 1) (pv 2) (nomark _)) (Xmb (Xap op_gt (Xak Xan (by rfl) T.len boot_len (Xab (pv 5) Xad)) Xai (nomark _)))).pt
    (Xah (Xat (Xa3 Xmr (Xcc (Xab Xa4 (Xab Xa4 (Xab Xa4 Xad)))) (Xak Xan (by rfl) T.len boot_len (Xab (pv 5) Xad)) (fun _ _ => rfl)))) Xa8)
   (Xah (Xat (Xgi (Xe9 (Xap Xet (Xa3 Xav (Xbx hu (pv 0) (pv 2) (fun _ _ => rfl)) Xai (fun _ _ => rfl)) (pv 3) (nomark _)) (Xdf (Xap Xet (pv 4) (Xa3 Xav (Xbx hu (pv 0) (pv 2) (fun _ _ => rfl)) Xai (fun _ _ => rfl)) (nomark _)))).pt Xa4 Xa4))))), ?_⟩
  refine ⟨_, rfl, _, rfl, d, _, rfl, DGet.rd hd v1, l1, _, rfl, SqL.of h1, rfl, ?_⟩
  refine ⟨_, _, rfl, _, _, rfl, rfl, ?_⟩
  refine ⟨_, rfl, _, rfl, d, _, rfl, DGet.rd hd v2, l2, rfl, ⟨_, SqL.of h2⟩, ?_⟩
  refine blk_n (n := 2) (fun i => ([V.int c, V.int e] : List V).getD i .non) (fun D i σ2 H2 => ∃ v, σ2 = [v, some (.int b), some (.int a)] /\ Same H H2 /\ H2 D = some (.lst ((inn a b (([c, e] : List Int).take i)).map V.int))) ?_ ?_ ?_ ?_ ?_
  ·intro D hD
   exact ⟨none, rfl, (Same.refl H).step hD, Xaa⟩
  ·rintro D i σ2 H2 hD hi ⟨v, rfl, s2, hl⟩
   exact Xgq (SqL.of (s2 _ _ h2)) hi
  ·rintro D σ2 H2 hD ⟨v, rfl, s2, hl⟩
   exact Xgr (SqL.of (s2 _ _ h2))
  ·rintro D i σ2 H2 hD hi ⟨v, rfl, s2, hl⟩
   obtain ⟨t, ht1, ht2⟩ : ∃ t, ([V.int c, V.int e] : List V).getD i .non = .int t /\ ([c, e] : List Int).take (i + 1) = ([c, e] : List Int).take i ++ [t] := by
    match i, hi with
    | 0, _ => exact ⟨c, rfl, rfl⟩
    | 1, _ => exact ⟨e, rfl, rfl⟩
   rw [ht1]
   have hil : (inn a b (([c, e] : List Int).take i)).length <= 2 := Nat.le_trans (Xnm ..) (by rw [List.length_take]; simp; omega)
   refine ⟨_, rfl, _, rfl, _, _, rfl, rfl, _, rfl, ?_⟩
   refine ite2b (fun q1 => ?_) (fun q1 => iteF (wskip hi ⟨_, rfl, s2, ?_⟩))
   ·refine ⟨_, rfl, _, rfl, _, _, rfl, rfl, _, rfl, ?_⟩
    refine ite2b (fun q2 => ?_) (fun q2 => wskip hi ⟨_, rfl, s2, ?_⟩)
    ·refine ⟨_, rfl, wput hi hl (by rw [List.length_map, sizeLine_eq]; omega) ⟨_, rfl, ?_, ?_⟩⟩
     ·intro b' o e'
      rw [Xae (Xaf e' hD)]
      exact s2 b' o e'
     ·rw [Xaa, ht2]
      unfold inn
      rw [List.filter_append, List.map_append, List.filter_cons, if_pos (by rw [q1, q2]; rfl)]
      rfl
    ·rw [hl, ht2]
     unfold inn
     rw [List.filter_append, List.filter_cons, if_neg (by rw [q1, q2]; decide)]
     simp
   ·rw [hl, ht2]
    unfold inn
    rw [List.filter_append, List.filter_cons, if_neg (by rw [q1]; simp)]
    simp
  ·rintro D σ2 H2 hD ⟨v, rfl, s2, hl⟩
   have hl' : H2 D = some (.lst ((inn a b [c, e]).map V.int)) := hl
   have hil : (inn a b [c, e]).length <= 2 := Xnm ..
   have three : ∀ p, H2 p = none -> atI ([V.str "same", V.str "cross", V.str "around"] : List V) (((inn a b [c, e]).map V.int).length : Int) = some (.str (words3.getD (inn a b [c, e]).length "apart")) := fun p _ => by
    rw [List.length_map]
    generalize (inn a b [c, e]).length = n at hil
    match n, hil with
    | 0, _ => rfl
    | 1, _ => rfl
    | 2, _ => rfl
   have ret3 : (decide (x = y) || decide (0 < (inn a b [c, e]).length)) = true -> ∀ p, H2 p = none -> ∀ H', Same H H' -> Q (.str (words3.getD (inn a b [c, e]).length "apart")) H' := fun hc p _ H' s' => by
    have := k H' s'
    unfold Xf4 at this
    rw [if_pos hc] at this
    exact this
   refine ⟨_, rfl, _, rfl, rfl, _, rfl, ?_⟩
   refine ite2b (fun q1 => ?_) (fun q1 => ?_)
   ·refine iteT ⟨by show 3 <= sizeLine; decide, fun p hp => ?_⟩
    refine ⟨_, rfl, D, _, rfl, .inl (SqL.of (ku hl' hp)), p, _, _, _, rfl, rfl, SqT.of Xaa, three p hp, ?_⟩
    refine ret3 ?_ p hp _ (s2.step hp)
    have q1' : decide (x = y) = true := by
     have := of_decide_eq_true q1
     injection this with this
     exact decide_eq_true this
    rw [q1']
    rfl
   ·refine ⟨_, rfl, D, _, rfl, .inl (SqL.of hl'), _, _, rfl, rfl, _, rfl, ?_⟩
    have q1' : decide (x = y) = false := by
     have := of_decide_eq_false q1
     exact decide_eq_false fun z => this (by rw [z])
    refine ite2b (fun q2 => ?_) (fun q2 => ?_)
    ·have q2' : 0 < (inn a b [c, e]).length := by
      have := of_decide_eq_true q2
      rw [List.length_map] at this
      omega
     refine ⟨by show 3 <= sizeLine; decide, fun p hp => ?_⟩
     refine ⟨_, rfl, D, _, rfl, .inl (SqL.of (ku hl' hp)), p, _, _, _, rfl, rfl, SqT.of Xaa, three p hp, ?_⟩
     exact ret3 (by rw [decide_eq_true q2', Bool.or_true]) p hp _ (s2.step hp)
    ·have q2' : ¬ 0 < (inn a b [c, e]).length := by
      have := of_decide_eq_false q2
      rw [List.length_map] at this
      omega
     have last : ∀ z : Str, (if c < a /\ b < e then ("within" : Str) else "apart") = z -> Q (.str z) H2 := fun z hz => by
      have := k H2 s2
      unfold Xf4 at this
      rw [if_neg (by rw [q1', decide_eq_false q2']; decide), hz] at this
      exact this
     refine ⟨_, rfl, _, rfl, d, _, rfl, DGet.rd (Rd.same hd s2) v2, l2, _, _, _, rfl, rfl, SqL.of (s2 _ _ h2), rfl, _, rfl, _, _, rfl, rfl, _, rfl, ?_⟩
     refine ite2b (fun q3 => ?_) (fun q3 => ?_)
     ·refine ⟨_, rfl, _, rfl, _, rfl, d, _, rfl, DGet.rd (Rd.same hd s2) v2, l2, _, _, _, rfl, rfl, SqL.of (s2 _ _ h2), rfl, _, _, rfl, rfl, _, rfl, ?_⟩
      refine ite2b (fun q4 => ?_) (fun q4 => ?_)
      ·exact last _ (if_pos ⟨of_decide_eq_true q3, of_decide_eq_true q4⟩)
      ·exact last _ (if_neg fun z => of_decide_eq_false q4 z.2)
     ·exact iteF (last _ (if_neg fun z => of_decide_eq_false q3 z.1))
theorem Xd8 : FnScope NBa ["_law_row_here", "_law_name"] (defScope sBarred) := ⟨rfl, rfl, rfl, by decide +kernel, rfl, by decide +kernel, by decide +kernel⟩
theorem Xos {f : Addr} {fd : FuncData} (F : Fun K "_law_barred" "_law_barred" sBarred f fd) (T : Bl mg) (FW : Fn P w K mg base CX0 1 "_law_where" ["_law_row_here"] Xfq)
  (FO : Fn P w K mg base CX0 1 "_law_word" ["_law_where_here", "_law_one", "_law_other"] spWord) : FnOk P w K mg base CX0 2 f fd ["_law_row_here", "_law_name"] spBarredN := by
 refine F.ok Xd8 (fun vs H Q E h => ?_) (fun cdv A outer s H vs Q E hr h => ?_)
 ·obtain ⟨r, row, x, rfl, _⟩ := h
  rfl
 ·obtain ⟨r, row, x, rfl, hR, hl, h2, hx, k⟩ := h
  have hu := Xmx hr
  refine ⟨_, Xac (Xal (i := 2) Xd8.nd rfl (Or.inr rfl) (Xaz FW hr rfl pass0 (Xab (pv 0) Xad)))
   (Xac (Xjh (i := 3) (N := NBc) (cap := [none, some 1, some 2]) (CompScope.of (defScope sBarred) NBa rfl rfl rfl (by decide +kernel)) rfl Xd8.nd rfl rfl
     (pi_dict (pv 2)) (fun _ _ _ => Xao (i := 0) (show NBc.Nodup by decide +kernel) rfl (Or.inl rfl) (Or.inr rfl))
     (fun _ _ _ => Xdp (Xap Xfc (Xaz FO hr rfl pass0 (Xab (pv 2) (Xab (pv 1) (Xab (pv 0) Xad)))) Xa4 (nomark _))) (fun _ _ _ => pv 0))
   (Xac (Xcb PassesOwn.never rfl (Xcu rfl T.range (Xab (Xak Xan (by rfl) T.len boot_len (Xab (pv 3) Xad)) Xad)) (Xao (i := 4) Xd8.nd rfl (Or.inl rfl))
    (Xah (Xcb PassesOwn.never rfl (Xbr (Xbk Xca (pv 3) (Xbw (Xau Xbm (pv 4) Xai)) Xch)) (Xao (i := 5) Xd8.nd rfl (Or.inl rfl))
     (Xah (Xct (Xap Xfc (Xaz FO hr rfl pass0 (Xab (pv 2) (Xab (Xa3 Xav (pv 3) (pv 4) (fun _ _ => rfl)) (Xab (pv 5) Xad)))) Xa4 (nomark _)) (Xah (Xat Xlb)) Xa8)))))
   (Xah (Xat Xlb)))), ?_⟩
  refine ⟨_, rfl, r, row, rfl, hR, hl, fun d kvs H1 nd hd wh s1 => ?_⟩
  refine ⟨_, rfl, d, kvs, rfl, hd, fun o => ?_⟩
  generalize hH2 : upd H1 d (.frz o (.dK kvs)) = H2
  have s2 : Same H H2 := fun b u e => by rw [<- hH2, Xae (Xaf e nd)]; exact s1 b u e
  have hd2 : H2 d = some (.frz o (.dK kvs)) := by rw [<- hH2]; exact Xaa
  have wh2 : Wh H2 kvs row := ⟨wh.keys, fun y hy => let ⟨l, e1, e2⟩ := wh.val y hy; ⟨l, e1, by rw [<- hH2, Xae (fun z => by rw [z, hd] at e2; cases e2)]; exact e2⟩, wh.none, wh.nd, wh.len⟩
  have hkl := wh.len
  refine blk_n (n := kvs.length) (fun i => (kvs.map fun p => kV p.1).getD i .non) (fun D i σ2 H3 => ∃ (v : Option V) (ms : List Str), σ2 = [v, some (.str x), some (.ref d)] /\ Same H2 H3 /\ H3 D = some (.lst (ms.map V.str)) /\ (∀ m ∈ ms, m ∈ row) /\ ms.length <= i /\ ∀ (j : Nat) (y : Str), j < i -> (kvs.map fun p => kV p.1).getD j .non = .str y -> Xaq row x y -> y ∈ ms) ?_ ?_ ?_ ?_ ?_
  ·intro D hD
   exact ⟨none, [], rfl, (Same.refl H2).step hD, Xaa, by simp, Nat.le_refl _, fun j y h => absurd h (Nat.not_lt_zero _)⟩
  ·rintro D i σ2 H3 hD hi ⟨v, ms, rfl, s3, hm, hin, hml, hall⟩
   exact Xgs (s3 _ _ hd2) hi
  ·rintro D σ2 H3 hD ⟨v, ms, rfl, s3, hm, hin, hml, hall⟩
   exact Xgt (s3 _ _ hd2)
  ·rintro D i σ2 H3 hD hi ⟨v, ms, rfl, s3, hm, hin, hml, hall⟩
   obtain ⟨y, hy1, hy2⟩ : ∃ y, (kvs.map fun p => kV p.1).getD i .non = .str y /\ y ∈ row := by
    obtain ⟨y, e1, e2⟩ := wh.keys (kvs[i]'hi).1 (List.mem_map.mpr ⟨kvs[i]'hi, List.getElem_mem hi, rfl⟩)
    refine ⟨y, ?_, e2⟩
    simp only [List.getD, List.getElem?_map, List.getElem?_eq_getElem hi, Option.map_some, Option.getD_some]
    rw [e1]
    rfl
   rw [hy1]
   obtain ⟨l1, e1, g1⟩ := wh2.pl hx (h2 x hx)
   obtain ⟨l2, e2, g2⟩ := wh2.pl hy2 (h2 y hy2)
   refine ⟨_, rfl, _, rfl, _, rfl, d, l1, l2, kvs, x, y, _, _, _, _, rfl, .inr ⟨o, s3 _ _ hd2⟩, e1, e2, s3 _ _ g1, s3 _ _ g2, fun H4 s4 => ?_⟩
   have s24 := s3.trans s4
   refine ⟨rfl, _, rfl, ?_⟩
   rw [<- Xby (h2 x hx) (h2 y hy2)]
   refine ite2b (fun hc => ?_) (fun hc => wskip hi ⟨_, ms, rfl, s24, s4 _ _ hm, hin, by omega, fun j z hj hz kz => ?_⟩)
   rotate_left
   ·by_cases ej : j = i
    ·subst ej
     rw [hy1] at hz
     injection hz with hz
     subst hz
     exact absurd (by rw [show lieR row x y = "cross" from kz]) (Xim hc)
    ·exact hall j z (by omega) hz kz
   refine ⟨_, rfl, wput hi (s4 _ _ hm) (by rw [List.length_map, sizeLine_eq]; omega) ⟨_, ms ++ [y], rfl, ?_, by rw [Xaa, List.map_append]; rfl, ?_, by rw [List.length_append, List.length_singleton]; omega, fun j z hj hz kz => ?_⟩⟩
   ·intro b u e
    rw [Xae (Xaf e hD)]
    exact s24 b u e
   ·intro m hm
    rcases List.mem_append.mp hm with z | z
    ·exact hin m z
    ·rw [List.mem_singleton.mp z]; exact hy2
   ·by_cases ej : j = i
    ·subst ej
     rw [hy1] at hz
     injection hz with hz
     subst hz
     simp
    ·exact List.mem_append_left _ (hall j z (by omega) hz kz)
  ·rintro D σ2 H3 hD ⟨v, ms, rfl, s3, hm, hin, hml, hall⟩
   refine ⟨_, rfl, D, _, rfl, .inl (SqL.of hm), ((ms.map V.str).length : Int), rfl, by omega, by rw [List.length_map]; omega, ?_⟩
   have hn : ((ms.map V.str).length : Int).toNat = ms.length := by rw [List.length_map]; simp
   rw [hn]
   refine Xcv (lo := 0) (n := ms.length) (fun i σ H4 => ∃ v1 v2, σ = [some (.ref r), some (.str x), some (.ref d), some (.ref D), v1, v2] /\ Same H3 H4 /\ ∀ (p q : Nat) (y z : Str), p < i -> p < q -> ms[p]? = some y -> ms[q]? = some z -> ¬ Xaq row y z) ?_ ?_ ?_
   ·exact ⟨none, none, rfl, Same.refl _, fun p q y z h => absurd h (Nat.not_lt_zero _)⟩
   ·rintro i σ H4 hi ⟨v1, v2, rfl, s4, ho⟩
    refine ⟨_, rfl, _, rfl, _, _, rfl, rfl, _, rfl, D, _, rfl, SqL.of (s4 _ _ hm), fun p np => ?_⟩
    have e0 : (0 : Int) + (i : Int) + 1 = ((i + 1 : Nat) : Int) := by omega
    rw [e0, Xib _ _ _ (by omega)]
    have s5 : Same H3 (upd H4 p (.lst ((ms.drop (i + 1)).map V.str))) := s4.step np
    refine ⟨p, rfl, ⟨_, SqL.of Xaa⟩, ?_⟩
    refine Xb1 (K := K) (a := p) (xs := (ms.drop (i + 1)).map V.str) (fun j σ H5 => ∃ v2, σ = [some (.ref r), some (.str x), some (.ref d), some (.ref D), some (.int (0 + (i : Int))), v2] /\ Same (upd H4 p (.lst ((ms.drop (i + 1)).map V.str))) H5 /\ ∀ (q : Nat) (z : Str), q < j -> ms[i + 1 + q]? = some z -> ¬ Xaq row (ms[i]'hi) z) ?_ ?_ ?_ ?_
    ·exact ⟨_, rfl, Same.refl _, fun q z h => absurd h (Nat.not_lt_zero _)⟩
    ·rintro j σ H5 _ ⟨v2, rfl, s6, hi2⟩
     exact SqL.of (s6 _ _ Xaa)
    ·rintro j y σ H5 hj ⟨v2, rfl, s6, hi2⟩
     obtain ⟨z, rfl, hz, hzj⟩ : ∃ z, y = V.str z /\ z ∈ ms /\ ms[i + 1 + j]? = some z := by
      rw [List.getElem?_map] at hj
      cases q : (ms.drop (i + 1))[j]? with
      | none => rw [q] at hj; cases hj
      | some z =>
       rw [q] at hj
       exact ⟨z, (Option.some.inj hj).symm, List.mem_of_mem_drop (List.mem_of_getElem? q), by rw [<- q, List.getElem?_drop]⟩
     have s36 := s5.trans s6
     have hat : (ms.map V.str)[i]? = some (.str (ms[i]'hi)) := by rw [List.getElem?_map, List.getElem?_eq_getElem hi]; rfl
     have hat' : atI (ms.map V.str) (0 + (i : Int)) = some (.str (ms[i]'hi)) := by rw [Int.zero_add]; exact Xfe hat
     obtain ⟨l1, e1, g1⟩ := wh2.pl (hin _ (List.getElem_mem hi)) (h2 _ (hin _ (List.getElem_mem hi)))
     obtain ⟨l2, e2, g2⟩ := wh2.pl (hin _ hz) (h2 _ (hin _ hz))
     have s26 := s3.trans s36
     refine ⟨_, rfl, _, rfl, _, rfl, D, _, _, _, rfl, rfl, SqL.of (s36 _ _ hm), hat', _, rfl, d, l1, l2, kvs, _, z, _, _, _, _, rfl, .inr ⟨o, s26 _ _ hd2⟩, e1, e2, s26 _ _ g1, s26 _ _ g2, fun H6 s7 => ?_⟩
     refine ⟨rfl, _, rfl, ?_⟩
     rw [<- Xby (h2 _ (hin _ (List.getElem_mem hi))) (h2 _ (hin _ hz))]
     refine ite2b (fun _ => ?_) (fun hc => ?_)
     ·exact k true H6 (fun e => by cases e) ((s2.trans s3).trans (s36.trans s7))
     ·refine ⟨_, rfl, s6.trans s7, fun q u hq hu => ?_⟩
      by_cases eq : q = j
      ·subst eq
       rw [hzj] at hu
       have hu := Option.some.inj hu
       subst hu
       exact fun kz => absurd (by rw [show lieR row (ms[i]'hi) z = "cross" from kz]) (Xim hc)
      ·exact hi2 q u (by omega) hu
    ·rintro σ H5 ⟨v2, rfl, s6, hi2⟩
     refine ⟨_, _, rfl, s5.trans s6, fun p q y z hp hpq hy hz => ?_⟩
     by_cases ep : p = i
     ·subst ep
      rw [List.getElem?_eq_getElem hi] at hy
      rw [<- Option.some.inj hy]
      refine hi2 (q - (p + 1)) z ?_ (by rw [show p + 1 + (q - (p + 1)) = q by omega]; exact hz)
      have := (List.getElem?_eq_some_iff.mp hz).1
      rw [List.length_map, List.length_drop]
      omega
     ·exact ho p q y z (by omega) hpq hy hz
   ·rintro σ H4 ⟨v1, v2, rfl, s4, ho⟩
    refine k false H4 (fun _ y hy z hz k1 k2 k3 => ?_) ((s2.trans s3).trans s4)
    have mem : ∀ u ∈ row, Xaq row x u -> u ∈ ms := fun u hu ku => by
     obtain ⟨l, e, _⟩ := wh.val u hu
     obtain ⟨j, hj, ej⟩ := List.mem_iff_getElem.mp (Xgm e)
     rw [List.length_map] at hj
     refine hall j u hj ?_ ku
     rw [List.getElem_map] at ej
     simp only [List.getD, List.getElem?_map, List.getElem?_eq_getElem hj, Option.map_some, Option.getD_some]
     rw [ej]
     rfl
    obtain ⟨p, hp, ep⟩ := List.mem_iff_getElem.mp (mem y hy k1)
    obtain ⟨q, hq, eq⟩ := List.mem_iff_getElem.mp (mem z hz k2)
    have ep' : ms[p]? = some y := by rw [List.getElem?_eq_getElem hp, ep]
    have eq' : ms[q]? = some z := by rw [List.getElem?_eq_getElem hq, eq]
    rcases Nat.lt_trichotomy p q with h | h | h
    ·exact ho p q y z hp h ep' eq' k3
    ·subst h
     rw [ep'] at eq'
     have e := Option.some.inj eq'
     subst e
     exact Xbq (h2 y hy) k3
    ·exact ho q p z y hq h eq' ep' (Xa2 (h2 y hy) (h2 z hz) k3)
theorem Xhe : FnScope NRo ["_law_draw", "_law_names_here"] (defScope sRow) := ⟨rfl, rfl, rfl, by decide +kernel, rfl, by decide +kernel, by decide +kernel⟩
theorem ok_row {f : Addr} {fd : FuncData} (F : Fun K "_law_row" "_law_row" sRow f fd) (T : Bl mg) (FP : FnPick P w K mg base) (FPut : Fn P w K mg base CX0 1 "_law_put" ["_law_row_here", "_law_name", "_law_at", "_law_to"] spPut)
  (FB : Fn P w K mg base CX0 2 "_law_barred" ["_law_row_here", "_law_name"] spBarredN) : FnOk P w K mg base CX0 3 f fd ["_law_draw", "_law_names_here"] spRowN := by
 refine F.ok Xhe (fun vs H Q E h => ?_) (fun cdv A outer s H vs Q E hr h => ?_)
 ·obtain ⟨dr, sc, nl, ns, rfl, _⟩ := h
  rfl
 ·obtain ⟨dr, sc, nl, ns, rfl, dk, hN, nnd, hnd, hnl, k⟩ := h
  have hr1 : Room 1 _ := hr.mono (by decide)
  have h24 : ∀ m, m <= 100000 -> m <= sizeLine := fun m h => by rw [sizeLine_eq]; omega
  refine ⟨_, Xac (Xct (Xap Xfc (Xaz FP hr1 rfl pass0 (Xab (pv 0) (Xab Xai Xad))) Xai (nomark _))
    (Xac (Xal (i := 2) Xhe.nd rfl (Or.inl rfl) (Xaz FP hr1 rfl pass0 (Xab (pv 0) (Xab (Xau Xbm (Xak Xan (by rfl) T.len boot_len (Xab (pv 1) Xad)) Xai) Xad))))
    (Xah (Xat (Xau Xb2 (Xau Xb2 (pv 1) (pe_rev (Xbk Xca (pv 1) Xch (Xbw (pv 2))))) (pe_rev (Xbk Xca (pv 1) (Xbw (pv 2)) Xch)))))) Xa8)
   (Xac (Xal (i := 3) Xhe.nd rfl (Or.inl rfl) (Xbv Xad))
   (Xac (Xcb PassesOwn.never rfl (Xbr (pv 1)) (Xao (i := 4) Xhe.nd rfl (Or.inl rfl))
    (Xac (Xal (i := 5) Xhe.nd rfl (Or.inl rfl) (Xaz FP hr1 rfl pass0 (Xab (pv 0) (Xab (Xau Xbm (Xak Xan (by rfl) T.len boot_len (Xab (pv 3) Xad)) Xai) Xad))))
    (Xac (Xal (i := 6) Xhe.nd rfl (Or.inl rfl) (Xau Xbm (pv 5) (Xaz FP hr1 rfl pass0 (Xab (pv 0) (Xab (Xau op_sub (Xau Xbm (Xak Xan (by rfl) T.len boot_len (Xab (pv 3) Xad)) Xai) (pv 5)) Xad)))))
    (Xac (Xal (i := 7) Xhe.nd rfl (Or.inl rfl) (Xaz FPut hr1 rfl pass0 (Xab (pv 3) (Xab (pv 4) (Xab (pv 5) (Xab (pv 6) Xad))))))
    (Xac (Xct (Xkc (Xaz FB hr rfl pass0 (Xab (pv 7) (Xab (pv 4) Xad))))
     (Xah (Xal (i := 7) Xhe.nd rfl (Or.inl rfl) (Xau Xb2 (Xau Xb2 (Xbk Xca (pv 3) Xch (Xbw (pv 5))) (Xbv (Xab (pv 4) (Xab (pv 4) Xad)))) (Xbk Xca (pv 3) (Xbw (pv 5)) Xch)))) Xa8)
    (Xah (Xal (i := 3) Xhe.nd rfl (Or.inl rfl) (pv 7))))))))
   (Xah (Xat (pv 3))))), ?_⟩
  refine ⟨_, rfl, dr, sc, 4, rfl, by decide, by decide, dk, fun r1 H1 _ _ d1 b1 => ?_⟩
  refine ⟨rfl, _, rfl, ?_⟩
  have b1 : But dr H H1 := b1
  have hN1 := b1 _ _ hN nnd
  refine ite2b (fun _ => ?_) (fun _ => ?_)
  ·-- the grid
   refine ⟨_, rfl, _, rfl, nl, _, rfl, .inl (SqL.of hN1), _, _, rfl, rfl, dr, sc, _, rfl, by omega, by rw [List.length_map]; omega, d1, fun c H2 c0 c1 d2 b2 => ?_⟩
   obtain ⟨c, rfl⟩ := Int.eq_ofNat_of_zero_le c0
   rw [List.length_map] at c1
   have hc : c <= ns.length := by omega
   have b12 := But.trans b1 b2
   have hN2 := b2 _ _ hN1 nnd
   obtain ⟨xs, hdr⟩ := d2.at
   refine ⟨_, rfl, _, rfl, _, rfl, _, rfl, nl, _, rfl, SqL.of hN2, fun p1 n1 => ?_⟩
   rw [Xna _ _ _ hc]
   refine ⟨p1, _, rfl, SqL.of Xaa, fun p2 n2 => ?_⟩
   refine ⟨nl, p2, _, _, rfl, rfl, ku (ku hN2 n1) n2, Xaa, h24 _ (by simp; omega), fun p3 n3 => ?_⟩
   refine ⟨_, rfl, _, rfl, _, rfl, nl, _, rfl, SqL.of (ku (ku (ku hN2 n1) n2) n3), fun p4 n4 => ?_⟩
   rw [Xib _ _ _ hc]
   refine ⟨p4, _, rfl, SqL.of Xaa, fun p5 n5 => ?_⟩
   refine ⟨p3, p5, _, _, rfl, rfl, ku (ku Xaa n4) n5, Xaa, h24 _ (by simp; omega), fun p6 n6 => ?_⟩
   have s5 := (((((Same.refl H2).go n1 n2).go n2 n3).go n3 n4).go n4 n5).go n5 n6
   have f6 := s5.free n6
   have hpm : (ns ++ (ns.take c).reverse ++ (ns.drop c).reverse).Perm (ns ++ ns) := by
    rw [List.append_assoc]
    refine List.Perm.append_left ns ?_
    refine ((List.reverse_perm _).append (List.reverse_perm _)).trans ?_
    rw [List.take_append_drop]
   refine k p6 (ns ++ (ns.take c).reverse ++ (ns.drop c).reverse) _ (b12.free hdr f6) (Xaa.trans (by simp)) hpm (noThree_grid hnd c fun z hz => Xce hnd hpm z ?_) (d2.same (s5.step n6)) (b12.same (s5.step n6))
   exact hpm.mem_iff.mpr (List.mem_append_left _ hz)
  ·-- dug one by one
   refine ⟨by show 0 <= sizeLine; decide, fun p np => ?_⟩
   obtain ⟨xs1, hdr1⟩ := d1.at
   have s0 : Same H1 (upd H1 p (.lst [])) := (Same.refl H1).step np
   refine ⟨_, rfl, nl, rfl, ⟨_, SqL.of (s0 _ _ hN1)⟩, ?_⟩
   refine Xb1 (K := K) (a := nl) (xs := ns.map V.str) (fun i σ H2 => ∃ (v2 v4 v5 v6 v7 : Option V) (q : Addr) (row : List Str), σ = [some (.ref dr), some (.ref nl), v2, some (.ref q), v4, v5, v6, v7] /\ H2 q = some (.lst (row.map V.str)) /\ H q = none /\ q ≠ dr /\ row.Perm (ns.take i ++ ns.take i) /\ Xba row /\ DrawOk H2 dr sc /\ But dr H H2) ?_ ?_ ?_ ?_
   ·exact ⟨_, _, _, _, _, p, [], rfl, Xaa, b1.free hdr1 np, (Xaf hdr1 np).symm, by simp, Xjv, d1.same s0, b1.same s0⟩
   ·rintro i σ H2 _ ⟨v2, v4, v5, v6, v7, q, row, rfl, hq, nq, nqd, hp, hno, d2, b2⟩
    exact SqL.of (b2 _ _ hN nnd)
   ·rintro i y σ H2 hi ⟨v2, v4, v5, v6, v7, q, row, rfl, hq, nq, nqd, hp, hno, d2, b2⟩
    have hil : i < ns.length := by
     have := (List.getElem?_eq_some_iff.mp hi).1
     rwa [List.length_map] at this
    obtain ⟨x, rfl, hx⟩ : ∃ x, y = V.str x /\ ns[i]? = some x := by
     rw [List.getElem?_map] at hi
     cases z : ns[i]? with
     | none => rw [z] at hi; cases hi
     | some x => rw [z] at hi; exact ⟨x, (Option.some.inj hi).symm, rfl⟩
    have tk : ns.take (i + 1) = ns.take i ++ [x] := by
     rw [List.take_succ_eq_append_getElem hil]
     rw [List.getElem?_eq_getElem hil] at hx
     rw [Option.some.inj hx]
    have hrl : row.length <= 28 := by
     have := hp.length_eq
     rw [List.length_append, List.length_take] at this
     omega
    have ndT : (ns.take i ++ [x]).Nodup := by rw [<- tk]; exact hnd.sublist (List.take_sublist ..)
    refine ⟨_, rfl, _, rfl, q, _, rfl, .inl (SqL.of hq), _, _, rfl, rfl, dr, sc, _, rfl, by omega, by rw [List.length_map]; omega, d2, fun a H3 a0 a1 d3 b3 => ?_⟩
    obtain ⟨a, rfl⟩ := Int.eq_ofNat_of_zero_le a0
    rw [List.length_map] at a1
    have hq3 := b3 _ _ hq nqd
    refine ⟨_, rfl, _, rfl, _, rfl, q, _, rfl, .inl (SqL.of hq3), _, _, rfl, rfl, _, rfl, _, _, rfl, rfl, dr, sc, _, rfl, by rw [List.length_map]; omega, by rw [List.length_map]; omega, d3, fun c H4 c0 c1 d4 b4 => ?_⟩
    obtain ⟨c, rfl⟩ := Int.eq_ofNat_of_zero_le c0
    rw [List.length_map] at c1
    refine ⟨_, _, rfl, rfl, ?_⟩
    have eac : (a : Int) + (c : Int) = ((a + c : Nat) : Int) := by omega
    dsimp only
    rw [eac]
    have hac : a + c <= row.length := by omega
    have hq4 := b4 _ _ hq3 nqd
    have b24 := But.trans b2 (But.trans b3 b4)
    obtain ⟨xs4, hdr4⟩ := d4.at
    refine ⟨_, rfl, _, rfl, _, rfl, _, rfl, q, row, x, a, a + c, rfl, hq4, by omega, by omega, hac, fun l H5 nl5 hl5 s5 => ?_⟩
    have d5 := d4.same s5
    have b25 := b24.same s5
    have nlH := b24.free hdr4 nl5
    have nld : l ≠ dr := (Xaf hdr4 nl5).symm
    have hperm : (putR row x a (a + c)).Perm ((ns.take i ++ [x]) ++ (ns.take i ++ [x])) := Xij hp (Xif row x a (a + c) (by omega))
    have hll : (putR row x a (a + c)).length <= 1000 := by
     have := hperm.length_eq
     rw [List.length_append, List.length_append, List.length_take, List.length_singleton] at this
     omega
    refine ⟨_, rfl, _, rfl, l, _, x, rfl, hl5, hll, Xce ndT hperm, hperm.mem_iff.mpr (by simp), fun bb H6 hbb s6 => ?_⟩
    have d6 := d5.same s6
    have b26 := b25.same s6
    refine ⟨bb, rfl, ?_⟩
    have two0 : ∀ y ∈ row, row.count y = 2 := Xce (hnd.sublist (List.take_sublist ..)) hp
    refine ite2b (fun _ => ?_) (fun hbf => ?_)
    ·have hq6 := s6 _ _ (s5 _ _ hq4)
     refine ⟨_, rfl, _, rfl, _, rfl, q, _, rfl, SqL.of hq6, fun p1 n1 => ?_⟩
     rw [Xna _ _ _ (by omega)]
     refine ⟨_, rfl, _, rfl, by show 2 <= sizeLine; decide, fun p2 n2 => ?_⟩
     refine ⟨p1, p2, _, _, rfl, rfl, ku Xaa n2, Xaa, h24 _ (by simp; omega), fun p3 n3 => ?_⟩
     refine ⟨_, rfl, _, rfl, _, rfl, q, _, rfl, SqL.of (ku (ku (ku hq6 n1) n2) n3), fun p4 n4 => ?_⟩
     rw [Xib _ _ _ (by omega)]
     refine ⟨p3, p4, _, _, rfl, rfl, ku Xaa n4, Xaa, h24 _ (by simp; omega), fun p5 n5 => ?_⟩
     have s4' := ((((Same.refl H6).go n1 n2).go n2 n3).go n3 n4).go n4 n5
     have f5 := s4'.free n5
     obtain ⟨xs6, hdr6⟩ := d6.at
     have pN : (row.take a ++ [x, x] ++ row.drop a).Perm (x :: x :: row) := by
      have e : row.take a ++ [x, x] ++ row.drop a = row.take a ++ x :: x :: row.drop a := by simp
      rw [e]
      refine List.perm_middle.trans (List.Perm.cons x (List.perm_middle.trans (List.Perm.cons x ?_)))
      rw [List.take_append_drop]
     have pM := Xij hp pN
     have twoN := Xce ndT pM
     refine ⟨_, rfl, _, _, _, _, _, p5, row.take a ++ [x, x] ++ row.drop a, rfl, Xaa.trans (by simp), b26.free hdr6 f5, (Xaf hdr6 f5).symm, by rw [tk]; exact pM, ?_, d6.same (s4'.step n5), b26.same (s4'.step n5)⟩
     refine Xfw (x := x) hno two0 twoN (fun y hy => ?_) (fun p hp => Xjx hp) (fun y hy z hz ky => absurd ky (near_not (twoN x (by simp)) (twoN y hy)))
     have := pN.mem_iff.mp hy
     simp only [List.mem_cons] at this
     rcases this with h | h | h
     ·exact .inl h
     ·exact .inl h
     ·exact .inr h
    ·refine ⟨_, rfl, _, _, _, _, _, l, _, rfl, s6 _ _ hl5, nlH, nld, by rw [tk]; exact hperm, ?_, d6, b26⟩
     refine Xfw (x := x) hno two0 (Xce ndT hperm) (fun y hy => ?_) (fun p hp => Xjw (by omega) hp) (hbb hbf)
     have := (Xif row x a (a + c) (by omega)).mem_iff.mp hy
     simp only [List.mem_cons] at this
     rcases this with h | h | h
     ·exact .inl h
     ·exact .inl h
     ·exact .inr h
   ·rintro σ H2 ⟨v2, v4, v5, v6, v7, q, row, rfl, hq, nq, nqd, hp, hno, d2, b2⟩
    rw [List.length_map, List.take_length] at hp
    exact ⟨_, rfl, k q row H2 nq hq hp hno d2 b2⟩
theorem Xc5 : FnScope NNa ["_law_draw", "_law_many"] (defScope sNames) := ⟨rfl, rfl, rfl, by decide +kernel, rfl, by decide +kernel, by decide +kernel⟩
theorem ok_names {f : Addr} {fd : FuncData} (F : Fun K "_law_names" "_law_names" sNames f fd) (T : Bl mg) (FP : FnPick P w K mg base) : FnOk P w K mg base CX0 2 f fd ["_law_draw", "_law_many"] Xjo := by
 refine F.ok Xc5 (fun vs H Q E h => ?_) (fun cdv A outer s H vs Q E hr h => ?_)
 ·obtain ⟨dr, sc, n, rfl, _⟩ := h
  rfl
 ·obtain ⟨dr, sc, n, rfl, hn, dk, k⟩ := h
  refine ⟨_, Xac (Xal (i := 2) Xc5.nd rfl (Or.inl rfl) Xa4)
   (Xac (Xal (i := 3) Xc5.nd rfl (Or.inl rfl) (Xaz FP hr rfl pass0 (Xab (pv 0) (Xab Xai Xad))))
   (Xac (Xal (i := 4) Xc5.nd rfl (Or.inl rfl) (Xfd Xfc (Xaz FP hr rfl pass0 (Xab (pv 0) (Xab Xai Xad))) Xai (nomark _)))
   (Xac (Xal (i := 5) Xc5.nd rfl (Or.inl rfl) (Xbv Xad))
   (Xac (Xcb PassesOwn.never rfl (Xcu rfl T.range (Xab (pv 1) Xad)) (Xao (i := 6) Xc5.nd rfl (Or.inl rfl))
    (Xac (Xal (i := 7) Xc5.nd rfl (Or.inl rfl) (Xa3 ix_str (pv 2) (Xau Xf7 (Xau Xbm (pv 3) (pv 6)) Xai) (fun _ _ => rfl)))
    (Xac (Xal (i := 8) Xc5.nd rfl (Or.inl rfl) (Xau Xli Xa4 (Xau Xf7 (Xau Xbm (pv 3) (Xau op_mul (pv 6) (pv 6))) Xai)))
    (Xah (Xfa (pe_bm PySem.F.plainAttrs_list PySem.F.slot_list_append PySem.F.type_list_append Xcw (pv 5)
     (Xab (Xgi (Xkc (pv 4)) (Xau Xd9 (Xau Xd9 (pv 8) (pv 7)) Xa4) (Xau Xd9 (pv 7) (pv 8))) Xad)))))))
   (Xah (Xat (pv 5))))))), ?_⟩
  refine ⟨_, rfl, dr, sc, 26, rfl, by decide, by decide, dk, fun r1 H1 r10 r11 d1 b1 => ?_⟩
  refine ⟨_, rfl, dr, sc, 2, rfl, by decide, by decide, d1, fun r2 H2 r20 r21 d2 b2 => ?_⟩
  refine ⟨rfl, ?_⟩
  refine ⟨by show 0 <= sizeLine; decide, fun l nl => ?_⟩
  obtain ⟨st, rfl⟩ := Int.eq_ofNat_of_zero_le r10
  have hst : st < 26 := by omega
  generalize hlt : decide (V.int r2 = V.int 1) = late
  have b12 : But dr H H2 := But.trans b1 b2
  obtain ⟨xs, hdr⟩ := d2.at
  have nlH : H l = none := b12.free hdr nl
  obtain ⟨nld, nls⟩ := d2.ne nl
  refine ⟨_, rfl, (n : Int), rfl, by omega, by omega, ?_⟩
  rw [Int.toNat_natCast]
  refine Xcv (lo := 0) (n := n) (fun i σ H3 => ∃ v1 v2 v3, σ = [some (.ref dr), some (.int n), some (.str Xjn), some (.int st), some (.bl late), some (.ref l), v1, v2, v3] /\ H3 l = some (.lst ((Xas st late i).map V.str)) /\ DrawOk H3 dr sc /\ But dr H H3) ?_ ?_ ?_
  ·exact ⟨none, none, none, rfl, Xaa, d2.upd nld nls, b12.upd nlH⟩
  ·rintro i σ H3 hi ⟨v1, v2, v3, rfl, hl3, d3, b3⟩
   have e26 : ((st : Int) + (0 + (i : Int))) % 26 = (((st + i) % 26 : Nat) : Int) := by omega
   have h26 : (st + i) % 26 < 26 := Nat.mod_lt _ (by decide)
   have eii : ((0 : Int) + (i : Int)) * (0 + (i : Int)) = ((i * i : Nat) : Int) := by rw [Int.zero_add]; exact (Int.natCast_mul i i).symm
   have h7 : (st + i * i) % 7 < 7 := Nat.mod_lt _ (by decide)
   have e7 : ((st : Int) + ((i * i : Nat) : Int)) % 7 = (((st + i * i) % 7 : Nat) : Int) := by
    generalize i * i = j
    omega
   refine ⟨_, rfl, _, rfl, _, rfl, _, _, rfl, rfl, _, _, rfl, rfl, (by show (0 : Int) < 26; decide), _, _, _, rfl, rfl, (by show 26 <= sizeLine; decide), by rw [e26]; exact sign_at h26, ?_⟩
   refine ⟨_, rfl, _, rfl, _, rfl, _, _, rfl, rfl, .inl ⟨by omega, by omega⟩, _, _, rfl, rfl, _, _, rfl, rfl, (by show (0 : Int) < 7; decide), ?_⟩
   have e77 : ((st : Int) + ((0 : Int) + (i : Int)) * (0 + (i : Int))) % 7 = (((st + i * i) % 7 : Nat) : Int) := by rw [eii, e7]
   refine ⟨_, _, rfl, rfl, by rw [e77]; omega, by rw [e77]; omega, by show 1 <= 1000; decide, ?_⟩
   rw [e77, Int.toNat_natCast]
   have hrl : (repS "m" ((st + i * i) % 7)).length <= 6 := by
    rw [Xgp]
    have : (Str.ofString "m").length = 1 := rfl
    rw [this]
    omega
   have hsl : (signOf ((st + i) % 26)).length = 1 := rfl
   have hnl : (Xas st late i).length = i := by unfold Xas; simp
   have hsnoc : Xas st late (i + 1) = Xas st late i ++ [Xii st late i] := by unfold Xas; rw [List.range_succ, List.map_append]; rfl
   have h24 : ∀ m, m <= 100000 -> m <= sizeLine := fun m h => by rw [sizeLine_eq]; omega
   have fin : ∀ z : Str, Xii st late i = z -> Xi7 (.ref l) [.str z] H3 fun _ H4 => ∃ v1 v2 v3, [some (V.ref dr), some (.int n), some (.str Xjn), some (.int st), some (.bl late), some (.ref l), some (.int (0 + (i : Int))), some (.str (signOf ((st + i) % 26))), some (.str (repS "m" ((st + i * i) % 7)))] = [some (.ref dr), some (.int n), some (.str Xjn), some (.int st), some (.bl late), some (.ref l), v1, v2, v3] /\ H4 l = some (.lst ((Xas st late (i + 1)).map V.str)) /\ DrawOk H4 dr sc /\ But dr H H4 := fun z hz => by
    refine ⟨l, _, _, rfl, rfl, hl3, by rw [List.length_map, hnl, sizeLine_eq]; omega, _, _, _, rfl, ?_, d3.upd nld nls, b3.upd nlH⟩
    rw [Xaa, hsnoc, List.map_append, <- hz]
    rfl
   refine ⟨_, rfl, .inl ⟨rfl, _, SqL.of hl3⟩, _, rfl, late, rfl, ?_⟩
   refine ite2b (fun hL => ?_) (fun hL => ?_)
   ·refine ⟨_, rfl, _, rfl, _, _, rfl, rfl, h24 _ (by show (repS "m" ((st + i * i) % 7)).length + 1 <= 100000; omega), _, _, rfl, rfl, h24 _ ?_, fin _ (by unfold Xii; rw [if_pos hL]; rfl)⟩
    rw [Xfl]
    show (repS "m" ((st + i * i) % 7)).length + 1 + 1 <= 100000
    omega
   ·exact ⟨_, rfl, _, rfl, _, _, rfl, rfl, h24 _ (by show 1 + (repS "m" ((st + i * i) % 7)).length <= 100000; omega), fin _ (by unfold Xii; rw [if_neg (by rw [hL]; decide)]; rfl)⟩
  ·rintro σ H3 ⟨v1, v2, v3, rfl, hl3, d3, b3⟩
   exact ⟨_, rfl, k l st late H3 nlH hst hl3 nls d3 b3⟩
theorem Xhf : FnScope NIs ["_law_draw", "_law_most"] (defScope sIsland) := ⟨rfl, rfl, rfl, by decide +kernel, rfl, by decide +kernel, by decide +kernel⟩
theorem Xot {f : Addr} {fd : FuncData} (F : Fun K "_law_island" "_law_island" sIsland f fd) (T : Bl mg) (FP : FnPick P w K mg base) (FN : Fn P w K mg base CX0 2 "_law_names" ["_law_draw", "_law_many"] Xjo)
  (FR : Fn P w K mg base CX0 3 "_law_row" ["_law_draw", "_law_names_here"] spRowN) : FnOk P w K mg base CX0 4 f fd ["_law_draw", "_law_most"] spIslandN := by
 refine F.ok Xhf (fun vs H Q E h => ?_) (fun cdv A outer s H vs Q E hr h => ?_)
 ·obtain ⟨dr, sc, m, rfl, _⟩ := h
  rfl
 ·obtain ⟨dr, sc, m, rfl, hm, dk, k⟩ := h
  have hr1 : Room 1 _ := hr.mono (by decide)
  have hr2 : Room 2 _ := hr.mono (by decide)
  refine ⟨_, Xac (Xal (i := 2) Xhf.nd rfl (Or.inl rfl) (Xau Xbm Xai (Xaz FP hr1 rfl pass0 (Xab (pv 0) (Xab Xai Xad)))))
   (Xac (Xal (i := 3) Xhf.nd rfl (Or.inl rfl) (Xa3 Xmr (Xcc (Xab (Xaz FP hr1 rfl pass0 (Xab (pv 0) (Xab Xai Xad))) (Xab (pv 2) (Xab (Xaz FP hr1 rfl pass0 (Xab (pv 0) (Xab (Xau Xbm (pv 1) Xai) Xad))) Xad))))
    (Xaz FP hr1 rfl pass0 (Xab (pv 0) (Xab Xai Xad))) (fun _ _ => rfl)))
   (Xah (Xat (Xaz FR hr rfl pass0 (Xab (pv 0) (Xab (Xaz FN hr2 rfl pass0 (Xab (pv 0) (Xab (Xak (Xml rfl) (by rfl) T.min boot_min (Xab (pv 3) (Xab (pv 1) Xad))) Xad))) Xad)))))), ?_⟩
  refine ⟨_, rfl, dr, sc, 5, rfl, by decide, by decide, dk, fun r1 H1 r10 _ d1 b1 => ⟨_, _, rfl, rfl, ?_⟩⟩
  refine ⟨_, rfl, dr, sc, 5, rfl, by decide, by decide, d1, fun r2 H2 r20 _ d2 b2 => ?_⟩
  refine ⟨_, rfl, _, rfl, _, rfl, _, _, rfl, rfl, dr, sc, _, rfl, by omega, by omega, d2, fun r3 H3 r30 _ d3 b3 => ?_⟩
  have b1 : But dr H H1 := b1
  have b13 : But dr H H3 := But.trans b1 (But.trans b2 b3)
  refine ⟨by show 3 <= sizeLine; decide, fun p np => ?_⟩
  obtain ⟨ne1, ne2⟩ := d3.ne np
  obtain ⟨xs3, hdr3⟩ := d3.at
  have npH := b13.free hdr3 np
  refine ⟨_, rfl, dr, sc, 3, rfl, by decide, by decide, d3.upd ne1 ne2, fun r4 H4 r40 r41 d4 b4 => ?_⟩
  have b4 : But dr (L2.upd H3 p (.tup [.int r2, .int (2 + r1), .int r3])) H4 := b4
  have hp4 := b4 p _ Xaa ne1
  have b14 : But dr H H4 := But.trans (b13.upd npH) b4
  obtain ⟨mm, hmm0, hmm⟩ : ∃ mm : Int, 0 <= mm /\ atI ([.int r2, .int (2 + r1), .int r3] : List V) r4 = some (.int mm) := by
   obtain ⟨i, rfl⟩ := Int.eq_ofNat_of_zero_le r40
   have hi : i < 3 := by omega
   match i, hi with
   | 0, _ => exact ⟨r2, r20, rfl⟩
   | 1, _ => exact ⟨2 + r1, by omega, rfl⟩
   | 2, _ => exact ⟨r3, r30, rfl⟩
  refine ⟨p, _, _, _, rfl, rfl, SqT.of hp4, hmm, ?_⟩
  obtain ⟨n, hn, hnm⟩ : ∃ n : Nat, (if (m : Int) < mm then (m : Int) else mm) = (n : Int) /\ n <= m := by
   obtain ⟨j, rfl⟩ := Int.eq_ofNat_of_zero_le hmm0
   by_cases hj : (m : Int) < (j : Int)
   ·exact ⟨m, if_pos hj, Nat.le_refl _⟩
   ·exact ⟨j, if_neg hj, by omega⟩
  refine ⟨_, rfl, _, rfl, _, rfl, _, rfl, _, _, rfl, ?_⟩
  rw [hn]
  refine ⟨dr, sc, n, rfl, by omega, d4, fun l st late H5 nl hst hl5 nls d5 b5 => ?_⟩
  obtain ⟨xs4, hdr4⟩ := d4.at
  have nld : l ≠ dr := (Xaf hdr4 nl).symm
  have b15 := But.trans b14 b5
  refine ⟨dr, sc, l, _, rfl, d5, hl5, nld, Xe0 hst (by omega), by unfold Xas; simp; omega, fun l2 row H6 nl2 hl6 hp hno d6 b6 => ?_⟩
  obtain ⟨xs5, hdr5⟩ := d5.at
  exact k l2 row n st late H6 (b15.free hdr5 nl2) hnm hst hl6 hp hno d6 (But.trans b15 b6)
theorem Xgg : FnScope NBr ["_law_row_here"] (defScope s__law_bars) := ⟨rfl, rfl, rfl, by decide +kernel, rfl, by decide +kernel, by decide +kernel⟩
theorem ok_bars {f : Addr} {fd : FuncData} (F : Fun K "_law_bars" "_law_bars" s__law_bars f fd) (T : Bl mg) (FW : Fn P w K mg base CX0 1 "_law_where" ["_law_row_here"] Xfq)
  (FO : Fn P w K mg base CX0 1 "_law_word" ["_law_where_here", "_law_one", "_law_other"] spWord) : FnOk P w K mg base CX0 2 f fd ["_law_row_here"] spBars := by
 refine F.ok Xgg (fun vs H Q E h => ?_) (fun cdv A outer s H vs Q E hr h => ?_)
 ·obtain ⟨r, row, rfl, _⟩ := h
  rfl
 ·obtain ⟨r, row, rfl, hR, R2, k⟩ := h
  refine ⟨_, Xac (Xal (i := 1) Xgg.nd rfl (Or.inl rfl) (Xaz FW hr (by rfl) pass0 (Xab (pv 0) Xad)))
   (Xac (Xal (i := 2) Xgg.nd rfl (Or.inl rfl) (Xbv Xad))
   (Xac (Xcb PassesOwn.never rfl (Xbr (Xak (Xc0 rfl) (by rfl) T.sorted (by rfl) (Xab (pv 1) Xad))) (Xao (i := 3) Xgg.nd rfl (Or.inl rfl))
    (Xah (Xcb PassesOwn.never rfl (Xbr (Xak (Xc0 rfl) (by rfl) T.sorted (by rfl) (Xab (pv 1) Xad))) (Xao (i := 4) Xgg.nd rfl (Or.inl rfl))
     (Xac (Xal (i := 5) Xgg.nd rfl (Or.inl rfl) (Xaz FO hr (by rfl) pass0 (Xab (pv 1) (Xab (pv 3) (Xab (pv 4) Xad)))))
     (Xah (Xct (pw_or (Xap Xfc (pv 5) Xa4 (nomark _)) (Xmb (Xe9 (Xap Xfc (pv 5) Xa4 (nomark _)) (Xdf (Xap Xhi (pv 3) (pv 4) (nomark _)))).pt)).pt
      (Xah (Xfa (pe_bm PySem.F.plainAttrs_list PySem.F.slot_list_append PySem.F.type_list_append Xcw (pv 2) (Xab (Xcc (Xab (pv 3) (Xab (pv 4) (Xab (pv 5) Xad)))) Xad)))) Xa8))))))
   (Xah (Xat (pv 2))))), ?_⟩
  have hrl := R2.len
  have hdl := Xef row
  refine ⟨_, rfl, r, row, rfl, hR, by omega, fun d kvs H1 nd hd wh s1 => ?_⟩
  obtain ⟨ss, hss, hsn, hsm⟩ := wh.names
  have hsl : ss.length <= 60 := by
   have h1 := congrArg List.length hss
   rw [List.length_map, List.length_map] at h1
   have := wh.len
   omega
  refine ⟨by show 0 <= sizeLine; decide, fun u nu => ?_⟩
  refine ⟨_, rfl, d, kvs, ss, rfl, .inl (ku hd nu), hss, by omega, fun sn ls nsn hp1 hs1 => ?_⟩
  rw [Xm9 hp1 hs1 hsn hsm]
  have hnu : ∀ {xs : List V}, upd (upd H1 u (.lst [])) sn (.lst xs) u = some (.lst []) := fun {xs} => ku Xaa nsn
  have s2 : Same H1 (upd (upd H1 u (.lst [])) sn (.lst ((dit row).map V.str))) := ((Same.refl H1).step nu).step nsn
  have hsn2 : upd (upd H1 u (.lst [])) sn (.lst ((dit row).map V.str)) sn = some (.lst ((dit row).map V.str)) := Xaa
  have nsu : sn ≠ u := (Xaf (H := upd H1 u (.lst [])) Xaa nsn).symm
  have hu2 : upd (upd H1 u (.lst [])) sn (.lst ((dit row).map V.str)) u = some (.lst []) := hnu
  generalize upd (upd H1 u (.lst [])) sn (.lst ((dit row).map V.str)) = H2 at s2 hsn2 hu2
  have hlq : ∀ (i j : Nat), i <= 60 -> ∀ x, ((Xbs row i ++ Xbh row x ((dit row).take j)).map trD).length <= 5000 := fun i j hi x => by
   rw [List.length_map, List.length_append]
   have h1 := Xjt row i
   have h2 := Xfu row x ((dit row).take j)
   rw [List.length_take] at h2
   have h3 : i * (dit row).length <= 60 * 60 := Nat.mul_le_mul hi (by omega)
   omega
  have hbase : ∀ b o, H1 b = some o -> hid u H2 b = some o := fun b o e => Xcs (s2 _ _ e) (Xaf e nu)
  refine ⟨sn, rfl, ⟨_, SqL.of hsn2⟩, ?_⟩
  refine Xb1 (K := K) (a := sn) (xs := (dit row).map V.str) (fun i σ H9 => ∃ v3 v4 v5, σ = [some (.ref r), some (.ref d), some (.ref u), v3, v4, v5] /\ Same (hid u H2) H9 /\ ∃ xs, H9 u = some (.lst xs) /\ DAll (hid u H9) ((Xbs row i).map trD) xs) ?_ ?_ ?_ ?_
  ·exact ⟨none, none, none, rfl, Xcp u H2, [], hu2, Xcn⟩
  ·rintro i σ H9 _ ⟨v3, v4, v5, rfl, s9, _⟩
   exact SqL.of (s9 _ _ (Xcs hsn2 nsu))
  ·rintro i y σ H9 hi ⟨v3, v4, v5, rfl, s9, xs, hu9, hal⟩
   have hil : i < (dit row).length := by
    have := (List.getElem?_eq_some_iff.mp hi).1
    rwa [List.length_map] at this
   obtain ⟨x, rfl, hx⟩ : ∃ x, y = V.str x /\ (dit row).getD i Str.empty = x := by
    rw [List.getElem?_map, List.getElem?_eq_getElem hil] at hi
    exact ⟨_, (Option.some.inj hi).symm, by simp [List.getD, hil]⟩
   have hxr : x ∈ row := Xag.mp (by rw [<- hx]; exact Xb7 hil)
   refine ⟨_, rfl, d, kvs, ss, rfl, .inl (s9 _ _ (hbase _ _ hd)), hss, by omega, fun sn2 ls2 nsn2 hp2 hs2 => ?_⟩
   rw [Xm9 hp2 hs2 hsn hsm]
   have s10 : Same H9 (upd H9 sn2 (.lst ((dit row).map V.str))) := (Same.refl H9).step nsn2
   have hsn10 : upd H9 sn2 (.lst ((dit row).map V.str)) sn2 = some (.lst ((dit row).map V.str)) := Xaa
   have nsu2 : sn2 ≠ u := (Xaf hu9 nsn2).symm
   generalize upd H9 sn2 (.lst ((dit row).map V.str)) = H10 at s10 hsn10
   have hal10 := DAll.same (Xb6 (D := u) s10) _ _ hal
   have hu10 := s10 _ _ hu9
   have b10 := s9.trans s10
   refine ⟨sn2, rfl, ⟨_, SqL.of hsn10⟩, ?_⟩
   refine Xb1 (K := K) (a := sn2) (xs := (dit row).map V.str) (fun j σ H11 => ∃ v4 v5, σ = [some (.ref r), some (.ref d), some (.ref u), some (.str x), v4, v5] /\ Same (hid u H10) H11 /\ ∃ xs, H11 u = some (.lst xs) /\ DAll (hid u H11) ((Xbs row i ++ Xbh row x ((dit row).take j)).map trD) xs) ?_ ?_ ?_ ?_
   ·exact ⟨v4, v5, rfl, Xcp u H10, xs, hu10, by simpa [Xbh] using hal10⟩
   ·rintro j σ H11 _ ⟨v4, v5, rfl, s11, _⟩
    exact SqL.of (s11 _ _ (Xcs hsn10 nsu2))
   ·rintro j z σ H11 hj ⟨v4, v5, rfl, s11, xs, hu11, hal11⟩
    have hjl : j < (dit row).length := by
     have := (List.getElem?_eq_some_iff.mp hj).1
     rwa [List.length_map] at this
    obtain ⟨y, rfl, hy⟩ : ∃ x, z = V.str x /\ (dit row).getD j Str.empty = x := by
     rw [List.getElem?_map, List.getElem?_eq_getElem hjl] at hj
     exact ⟨_, (Option.some.inj hj).symm, by simp [List.getD, hjl]⟩
    have hyr : y ∈ row := Xag.mp (by rw [<- hy]; exact Xb7 hjl)
    have c1 := R2.two x hxr
    have c2 := R2.two y hyr
    have bb : ∀ b o, H1 b = some o -> H11 b = some o := fun b o e => s11 _ _ (Xcs (b10 _ _ (hbase b o e)) (Xaf e nu))
    obtain ⟨l1, e1, g1⟩ := wh.two' hxr c1
    obtain ⟨l2, e2, g2⟩ := wh.two' hyr c2
    refine ⟨_, rfl, _, rfl, _, rfl, d, l1, l2, kvs, x, y, _, _, _, _, rfl, .inl (bb _ _ hd), e1, e2, bb _ _ g1, bb _ _ g2, fun H12 s12 => ?_⟩
    rw [<- Xby c1 c2]
    have hu12 := s12 _ _ hu11
    have hal12 := DAll.same (Xb6 (D := u) s12) _ _ hal11
    have b12 := s11.trans s12
    have hps := Xil row x hjl
    rw [hy] at hps
    have stay : barB row x y = false -> ∃ v4 v5, [some (V.ref r), some (.ref d), some (.ref u), some (.str x), some (.str y), some (.str (lieR row x y))] = [some (.ref r), some (.ref d), some (.ref u), some (.str x), v4, v5] /\ Same (hid u H10) H12 /\ ∃ xs, H12 u = some (.lst xs) /\ DAll (hid u H12) ((Xbs row i ++ Xbh row x ((dit row).take (j + 1))).map trD) xs := fun hk => by
     refine ⟨_, _, rfl, b12, xs, hu12, ?_⟩
     rw [hps, hk, if_neg Bool.false_ne_true, List.append_nil]
     exact hal12
    have app : barB row x y = true -> tDrop (tBM K "list" Xi7 (tVar 2) (Xle (tTup (Xle (tVar 3) (Xle (tVar 4) (Xle (tVar 5) tNil)))) tNil)) { nx := fun σ H => ∃ v4 v5, σ = [some (.ref r), some (.ref d), some (.ref u), some (.str x), v4, v5] /\ Same (hid u H10) H /\ ∃ xs, H u = some (.lst xs) /\ DAll (hid u H) ((Xbs row i ++ Xbh row x ((dit row).take (j + 1))).map trD) xs, rt := Q } [some (V.ref r), some (.ref d), some (.ref u), some (.str x), some (.str y), some (.str (lieR row x y))] H12 := fun hk => by
     refine ⟨_, rfl, .inl ⟨rfl, _, SqL.of hu12⟩, _, rfl, _, rfl, _, rfl, by show 3 <= sizeLine; decide, fun p np => ?_⟩
     have hxl : xs.length <= 5000 := by
      rw [Xb4 hal12]
      exact hlq i j (by omega) x
     refine ⟨u, _, _, rfl, rfl, ku hu12 np, by rw [sizeLine_eq]; omega, ?_⟩
     refine ⟨_, _, rfl, ?_, xs ++ [.ref p], Xaa, ?_⟩
     ·intro b o e
      have nb : b ≠ u := fun z => by rw [z] at e; unfold hid at e; rw [if_pos rfl] at e; cases e
      rw [Xae nb, Xae (Xaf (b12 _ _ e) np)]
      exact b12 _ _ e
     ·rw [Xjj, hps, hk, if_pos rfl, <- List.append_assoc, List.map_append]
      refine Xc2 (DAll.same (Xb6 (D := u) ((Same.refl H12).step np)) _ _ hal12) ?_
      exact Xjk hu12 np (Xcd [x, y, lieR row x y])
    refine ⟨_, rfl, rfl, _, rfl, ?_⟩
    rw [Xdw]
    refine ite2b (fun q1 => ?_) (fun q1 => ?_)
    ·exact iteT (app (by unfold barB; rw [q1]; rfl))
    ·refine ⟨_, rfl, rfl, _, rfl, ?_⟩
     rw [Xdw]
     refine ite2b (fun q2 => ?_) (fun q2 => ?_)
     ·refine ⟨_, rfl, _, rfl, _, _, rfl, rfl, _, rfl, ?_⟩
      refine ite2b (fun q3 => ?_) (fun q3 => ?_)
      ·refine app ?_
       unfold barB
       have q3' : decide (ltS x y) = true := q3
       rw [q2, q3', Bool.and_self, Bool.or_true]
      ·refine stay ?_
       unfold barB
       have q3' : decide (ltS x y) = false := q3
       rw [q1, q3', Bool.and_false, Bool.or_false]
     ·refine iteF (stay ?_)
      unfold barB
      rw [q1, q2, Bool.false_and, Bool.or_false]
   ·rintro σ H11 ⟨v4, v5, rfl, s11, xs, hu11, hal11⟩
    rw [List.length_map, List.take_length] at hal11
    refine ⟨_, _, _, rfl, fun b o e => ?_, xs, hu11, ?_⟩
    ·have nb : b ≠ u := fun z => by rw [z] at e; unfold hid at e; rw [if_pos rfl] at e; cases e
     exact s11 _ _ (Xcs (b10 _ _ e) nb)
    ·rw [Xik row hil, hx]
     exact hal11
  ·rintro σ H9 ⟨v3, v4, v5, rfl, s9, xs, hu9, hal⟩
   rw [List.length_map, Xjs] at hal
   refine ⟨_, rfl, k u xs H9 (s1.free nu) hu9 (DAll.same (Xcp u H9) _ _ hal) (fun b o e => s9 _ _ (hbase _ _ (s1 _ _ e)))⟩
theorem Xk9 : FnScope NFi ["_law_bars_here", "_law_plot"] (defScope s__law_fits) := ⟨rfl, rfl, rfl, by decide +kernel, rfl, by decide +kernel, by decide +kernel⟩
theorem ok_fits {f : Addr} {fd : FuncData} (F : Fun K "_law_fits" "_law_fits" s__law_fits f fd) : FnOk P w K mg base CX0 1 f fd ["_law_bars_here", "_law_plot"] Xnv := by
 refine F.ok Xk9 (fun vs H Q E h => ?_) (fun cdv A outer s H vs Q E hr h => ?_)
 ·obtain ⟨b, p, xs, bs, ss, rfl, _⟩ := h
  rfl
 ·obtain ⟨b, p, xs, bs, ss, rfl, hB, hal, hP, k⟩ := h
  refine ⟨_, Xac (Xcb PassesOwn.never rfl (Xbr (pv 0)) (pg_tup (n := 3) rfl (Xbt (Xao (i := 2) Xk9.nd rfl (Or.inl rfl)) (Xbt (Xao (i := 3) Xk9.nd rfl (Or.inl rfl)) (Xbt (Xao (i := 4) Xk9.nd rfl (Or.inl rfl)) Xgj))))
    (Xah (Xct (Xe9 (Xap Xfg (pv 2) (pv 1) (by rfl)) (Xdf (Xap op_ne (Xfd Xfg (pv 3) (pv 1) (by rfl)) (Xfd Xfc (pv 4) Xa4 (nomark _)) (nomark _)))).pt (Xah (Xat Xlb)) Xa8)))
   (Xah (Xat Xlb)), ?_⟩
  refine ⟨_, rfl, b, rfl, ⟨_, SqL.of hB⟩, ?_⟩
  have hxl : xs.length = bs.length := by rw [Xb4 hal, List.length_map]
  refine Xb1 (K := K) (a := b) (xs := xs) (fun i σ H2 => ∃ v2 v3 v4, σ = [some (.ref b), some (.ref p), v2, v3, v4] /\ Same H H2 /\ Xei (bs.take i) ss = true) ?_ ?_ ?_ ?_
  ·exact ⟨none, none, none, rfl, Same.refl H, rfl⟩
  ·rintro i σ H2 _ ⟨v2, v3, v4, rfl, s2, _⟩
   exact SqL.of (s2 _ _ hB)
  ·rintro i y σ H2 hi ⟨v2, v3, v4, rfl, s2, hf⟩
   have hil : i < xs.length := (List.getElem?_eq_some_iff.mp hi).1
   have hib : i < bs.length := by omega
   obtain ⟨v, hv, dv⟩ := Xg0 hal (show (bs.map trD)[i]? = some (trD bs[i]) by rw [List.getElem?_map, List.getElem?_eq_getElem hib]; rfl)
   rw [hi] at hv
   cases hv
   obtain ⟨q, rfl, hq⟩ := dall_tr dv
   have htk : bs.take (i + 1) = bs.take i ++ [bs[i]] := List.take_succ_eq_append_getElem hib
   generalize bs[i] = t at *
   have hfs : Xei (bs.take (i + 1)) ss = !(decide (t.1 ∈ ss) && !decide (decide (t.2.1 ∈ ss) = decide (t.2.2 = "within"))) := by
    rw [htk]
    unfold Xei at hf ⊢
    rw [List.all_append, hf, Bool.true_and]
    simp
   have bad : (decide (t.1 ∈ ss) && !decide (decide (t.2.1 ∈ ss) = decide (t.2.2 = "within"))) = true -> Xei bs ss = false := fun hb => by
    rw [Bool.eq_false_iff]
    intro z
    have hz : Xei (bs.take (i + 1)) ss = true := by
     unfold Xei at z ⊢
     rw [List.all_eq_true] at z ⊢
     exact fun x hx => z x (List.mem_of_mem_take hx)
    rw [hfs, hb] at hz
    cases hz
   refine ⟨q, _, rfl, SqT.of (s2 _ _ hq), rfl, _, _, rfl, _, _, rfl, _, _, rfl, rfl, ?_⟩
   refine ⟨_, rfl, _, rfl, p, _, rfl, .inr (SqT.of (s2 _ _ hP)), rfl, Xdt ss, _, rfl, ?_⟩
   rw [if_neg (by decide), Xfn]
   refine ite2b (fun q1 => ?_) (fun q1 => ?_)
   ·refine ⟨_, rfl, _, rfl, p, _, rfl, .inr (SqT.of (s2 _ _ hP)), rfl, Xdt ss, _, rfl, rfl, rfl, _, rfl, ?_⟩
    rw [if_neg (by decide), Xfn, Xdw]
    have eb : (!decide (V.bl (decide (t.2.1 ∈ ss)) = V.bl (decide (t.2.2 = "within")))) = !decide (decide (t.2.1 ∈ ss) = decide (t.2.2 = "within")) := by
     congr 1
     rw [Bool.eq_iff_iff, decide_eq_true_eq, decide_eq_true_eq]
     exact ⟨fun z => by injection z, fun z => by rw [z]⟩
    rw [eb]
    refine ite2b (fun q2 => ?_) (fun q2 => ?_)
    ·have := k H2 s2
     rw [bad (by rw [q1, q2]; rfl)] at this
     exact this
    ·exact ⟨_, _, _, rfl, s2, by rw [hfs, q1, q2]; rfl⟩
   ·exact iteF ⟨_, _, _, rfl, s2, by rw [hfs, q1]; rfl⟩
  ·rintro σ H2 ⟨v2, v3, v4, rfl, s2, hf⟩
   rw [hxl, List.take_length] at hf
   have := k H2 s2
   rw [hf] at this
   exact this
theorem Xbj : FnScope NPl ["_law_row_here"] (defScope s__law_plots) := ⟨rfl, rfl, rfl, by decide +kernel, rfl, by decide +kernel, by decide +kernel⟩
theorem ok_plots {f : Addr} {fd : FuncData} (F : Fun K "_law_plots" "_law_plots" s__law_plots f fd) (T : Bl mg) (FFi : Fn P w K mg base CX0 1 "_law_fits" ["_law_bars_here", "_law_plot"] Xnv)
  (FBr : Fn P w K mg base CX0 2 "_law_bars" ["_law_row_here"] spBars) : FnOk P w K mg base CX0 3 f fd ["_law_row_here"] spPlotsO := by
 refine F.ok Xbj (fun vs H Q E h => ?_) (fun cdv A outer s H vs Q E hr h => ?_)
 ·obtain ⟨r, row, rfl, _⟩ := h
  rfl
 ·obtain ⟨r, row, rfl, hR, R2, h3, h14, k⟩ := h
  have hu4 : _ + 4 < cLine := Nat.lt_of_le_of_lt (Nat.add_le_add_left (by decide : 4 <= 64) _) hr.units
  have hr1 : Room 1 _ := hr.mono (by decide)
  have hr2 : Room 2 _ := hr.mono (by decide)
  refine ⟨_, Xac (Xal (i := 1) Xbj.nd rfl (Or.inl rfl) (Xaz FBr hr2 (by rfl) pass0 (Xab (pv 0) Xad)))
   (Xac (Xal (i := 2) Xbj.nd rfl (Or.inl rfl) (pe_ssetv (i := 0) rfl (by rfl) T.sorted (by rfl) T.set (pv 0)))
   (Xac (Xal (i := 3) Xbj.nd rfl (Or.inl rfl) (Xbv (Xab (Xcc Xad) Xad)))
   (Xac (Xal (i := 4) Xbj.nd rfl (Or.inl rfl) (Xbv (Xab (Xcc Xad) Xad)))
   (Xac (Xcb PassesOwn.never rfl (Xcu rfl T.range (Xab (Xak Xan (by rfl) T.len boot_len (Xab (pv 2) Xad)) Xad)) (Xao (i := 5) Xbj.nd rfl (Or.inl rfl))
    (Xac (Xal (i := 6) Xbj.nd rfl (Or.inl rfl) (Xbv Xad))
    (Xac (Xcb PassesOwn.never rfl (Xbr (pv 4)) (Xao (i := 7) Xbj.nd rfl (Or.inl rfl))
     (Xah (Xcb PassesOwn.never rfl (Xbr (pv 2)) (Xao (i := 8) Xbj.nd rfl (Or.inl rfl))
      (Xac (Xal (i := 9) Xbj.nd rfl (Or.inl rfl) (Xbn Xdo (by rfl) T.tuple (by rfl) (Xab (Xak Xg7 (by rfl) T.sorted (by rfl) (Xab (Xau op_catT2 (pv 7) (Xcc (Xab (pv 8) Xad))) Xad)) Xad)))
      (Xah (Xct (Xe9 (Xap Xeo (pv 8) (pv 7) (by rfl)) (Xdf (Xap (Xn1 hu4) (pv 9) (pv 6) (by rfl)))).pt
       (Xah (Xal (i := 6) Xbj.nd rfl (Or.inl rfl) (Xau Xb2 (pv 6) (Xau op_rep (Xbv (Xab (pv 9) Xad)) (Xbn Xmm (by rfl) T.int (by rfl) (Xab (Xaz FFi hr1 (by rfl) pass0 (Xab (pv 1) (Xab (pv 9) Xad))) Xad))))))
       Xa8))))))
    (Xac (Xal (i := 4) Xbj.nd rfl (Or.inl rfl) (Xak Xip (by rfl) T.sorted (by rfl) (Xab (pv 6) Xad)))
    (Xah (Xal (i := 3) Xbj.nd rfl (Or.inl rfl) (Xau Xb2 (pv 3) (pv 4))))))))
   (Xah (Xat (pv 3))))))), ?_⟩
  have hrl := R2.len
  have hdl := Xef row
  refine ⟨_, rfl, r, row, rfl, hR, R2, fun b xs0 H1 nb hb hall s1 => ?_⟩
  refine ⟨_, rfl, r, row, rfl, .inl (SqL.of (s1 _ _ hR)), R2.len, fun nl H2 nn hn2 s2 => ?_⟩
  have hb2 := s2 _ _ hb
  have hall2 := DAll.same s2 _ _ hall
  have s12 := s1.trans s2
  refine ⟨by show 0 <= sizeLine; decide, fun e1 ne1 => ?_⟩
  refine ⟨by show 1 <= sizeLine; decide, fun tl0 ntl0 => ?_⟩
  refine ⟨by show 0 <= sizeLine; decide, fun e2 ne2 => ?_⟩
  refine ⟨by show 1 <= sizeLine; decide, fun ly0 nly0 => ?_⟩
  generalize hH3 : upd (upd (upd (upd H2 e1 (.tup [])) tl0 (.lst [.ref e1])) e2 (.tup [])) ly0 (.lst [.ref e2]) = H3
  have f1 : Same H2 H3 := by
   rw [<- hH3]
   exact ((((Same.refl H2).step ne1).step ntl0).step ne2).step nly0
  have ht3 : H3 tl0 = some (.lst ([e1].map V.ref)) := by
   rw [<- hH3]
   exact ku (ku Xaa ne2) nly0
  have hy3 : H3 ly0 = some (.lst ([e2].map V.ref)) := by
   rw [<- hH3]
   exact Xaa
  have hP1 : Tups H3 [e1] [[]] := Tups.cons (by rw [<- hH3]; exact ku (ku (ku Xaa ntl0) ne2) nly0) (Tups.nil _)
  have hP2 : Tups H3 [e2] [[]] := Tups.cons (by rw [<- hH3]; exact ku Xaa nly0) (Tups.nil _)
  have ntl : H tl0 = none := s12.free (((Same.refl H2).step ne1).free ntl0)
  clear hH3
  have hn3 := f1 _ _ hn2
  refine ⟨_, rfl, nl, _, rfl, .inl (SqL.of hn3), (((dit row).map V.str).length : Int), rfl, by omega, by rw [List.length_map]; omega, ?_⟩
  have hnn : (((dit row).map V.str).length : Int).toNat = (dit row).length := by rw [List.length_map]; simp
  rw [hnn]
  refine Xcv (lo := 0) (n := (dit row).length) (fun i σ H4 => ∃ (v5 v6 v7 v8 v9 : Option V) (tl ly : Addr) (ps qs : List Addr) (Vs Us : List (List Str)), σ = [some (.ref r), some (.ref b), some (.ref nl), some (.ref tl), some (.ref ly), v5, v6, v7, v8, v9] /\ Same H3 H4 /\ H tl = none /\ H4 tl = some (.lst (ps.map V.ref)) /\ H4 ly = some (.lst (qs.map V.ref)) /\ ps.length <= 1 + 63 * i /\ Tups H4 ps Vs /\ Upto row i Vs /\ Tups H4 qs Us /\ SH.Lay row i Us) ?_ ?_ ?_
  ·exact ⟨_, _, _, _, _, tl0, ly0, [e1], [e2], [[]], [[]], rfl, Same.refl _, ntl, ht3, hy3, by simp, hP1, upto_0 row, hP2, lay_0 row⟩
  ·rintro i σ H4 hi ⟨v5, v6, v7, v8, v9, tl, ly, ps, qs, Vs, Us, rfl, s4, nt4, ht4, hy4, hpl, hPs, hVs, hQs, hUs⟩
   refine ⟨by show 0 <= sizeLine; decide, fun f0 nf0 => ?_⟩
   have g1 : Same H4 (upd H4 f0 (.lst [])) := (Same.refl H4).step nf0
   have hf0 : Fresh row (upd H4 f0 (.lst [])) f0 [] [] := ⟨Xaa, rfl, .nil, fun _ h => by cases h⟩
   generalize upd H4 f0 (.lst []) = H5 at g1 hf0
   have s35 := s4.trans g1
   have hn5 := s35 _ _ hn3
   have hb5 := s35 _ _ (f1 _ _ hb2)
   have ha5 := DAll.same s35 _ _ (DAll.same f1 _ _ hall2)
   have hQ5 := hQs.same g1
   refine ⟨_, rfl, ly, rfl, ⟨_, SqL.of (g1 _ _ hy4)⟩, ?_⟩
   refine Xb1 (K := K) (a := ly) (xs := qs.map V.ref) (fun j σ H6 => ∃ (v7 v8 v9 : Option V) (f : Addr) (xs : List V) (Ts : List (List Str)), σ = [some (.ref r), some (.ref b), some (.ref nl), some (.ref tl), some (.ref ly), some (.int (0 + (i : Int))), some (.ref f), v7, v8, v9] /\ Same H5 H6 /\ Fresh row H6 f xs Ts /\ (∀ T ∈ Ts, T.length = i + 1) /\ Cov row Us j Ts) ?_ ?_ ?_ ?_
   ·exact ⟨_, _, _, f0, [], [], rfl, Same.refl _, hf0, (fun _ h => by cases h), fun j hj => absurd hj (Nat.not_lt_zero _)⟩
   ·rintro j σ H6 _ ⟨v7, v8, v9, f, xs, Ts, rfl, s6, hf, hfl, hcv⟩
    exact SqL.of (s6 _ _ (g1 _ _ hy4))
   ·rintro j y σ H6 hj ⟨v7, v8, v9, f, xs, Ts, rfl, s6, hf, hfl, hcv⟩
    obtain ⟨q, rfl, hjl, hqj⟩ : ∃ q, y = V.ref q /\ j < qs.length /\ qs.getD j 0 = q := by
     rw [List.getElem?_map] at hj
     cases z : qs[j]? with
     | none => rw [z] at hj; cases hj
     | some q => rw [z] at hj; exact ⟨q, (Option.some.inj hj).symm, (List.getElem?_eq_some_iff.mp z).1, by simp [List.getD, z]⟩
    have hqs := hQ5.2 j hjl
    rw [hqj] at hqs
    have hjU : j < Us.length := by rw [<- hQ5.1]; exact hjl
    have hUj : Us.getD j [] ∈ Us := by
     have : Us.getD j [] = Us[j] := by simp [List.getD, hjU]
     rw [this]; exact List.getElem_mem hjU
    obtain ⟨hip, hil⟩ := (hUs.mem _).mp hUj
    generalize hss : Us.getD j [] = ss at hqs hip hil
    have hssl := Xg8 hip
    obtain ⟨hsr, hslt⟩ := Xcr hip
    refine ⟨_, rfl, nl, rfl, ⟨_, SqL.of (s6 _ _ hn5)⟩, ?_⟩
    refine Xb1 (K := K) (a := nl) (xs := (dit row).map V.str) (fun m σ H7 => ∃ (v8 v9 : Option V) (f : Addr) (xs : List V) (Ts : List (List Str)), σ = [some (.ref r), some (.ref b), some (.ref nl), some (.ref tl), some (.ref ly), some (.int (0 + (i : Int))), some (.ref f), some (.ref q), v8, v9] /\ Same H5 H7 /\ Fresh row H7 f xs Ts /\ (∀ T ∈ Ts, T.length = i + 1) /\ Cov row Us j Ts /\ ∀ m', m' < m -> (dit row).getD m' Str.empty ∉ ss -> Xam row (srt (ss ++ [(dit row).getD m' Str.empty])) = true -> srt (ss ++ [(dit row).getD m' Str.empty]) ∈ Ts) ?_ ?_ ?_ ?_
    ·exact ⟨_, _, f, xs, Ts, rfl, s6, hf, hfl, hcv, fun m' hm' => absurd hm' (Nat.not_lt_zero _)⟩
    ·rintro m σ H7 _ ⟨v8, v9, f, xs, Ts, rfl, s7, hf, hfl, hcv, hcm⟩
     exact SqL.of (s7 _ _ hn5)
    ·rintro m y σ H7 hm ⟨v8, v9, f, xs, Ts, rfl, s7, hf, hfl, hcv, hcm⟩
     obtain ⟨x, rfl, hx, hxm⟩ : ∃ x, y = V.str x /\ x ∈ row /\ (dit row).getD m Str.empty = x := by
      rw [List.getElem?_map] at hm
      cases z : (dit row)[m]? with
      | none => rw [z] at hm; cases hm
      | some x => rw [z] at hm; exact ⟨x, (Option.some.inj hm).symm, Xag.mp (List.mem_of_getElem? z), by simp [List.getD, z]⟩
     have step : ∀ Ts' : List (List Str), (∀ T ∈ Ts, T ∈ Ts') -> (x ∉ ss -> Xam row (srt (ss ++ [x])) = true -> srt (ss ++ [x]) ∈ Ts') -> ∀ m', m' < m + 1 -> (dit row).getD m' Str.empty ∉ ss -> Xam row (srt (ss ++ [(dit row).getD m' Str.empty])) = true -> srt (ss ++ [(dit row).getD m' Str.empty]) ∈ Ts' := fun Ts' sub new m' hm' a1 a2 => by
      by_cases e : m' = m
      ·subst e
       rw [hxm] at a1 a2 ⊢
       exact new a1 a2
      ·exact sub _ (hcm m' (by omega) a1 a2)
     refine ⟨_, rfl, _, rfl, by show 1 <= sizeLine; decide, fun t1 nt1 => ?_⟩
     have s8 : Same H5 (upd H7 t1 (.tup [.str x])) := s7.step nt1
     have k78 : Same H7 (upd H7 t1 (.tup [.str x])) := (Same.refl H7).step nt1
     refine ⟨q, t1, _, _, rfl, rfl, s8 _ _ hqs, Xaa, by rw [List.length_map, sizeLine_eq]; show ss.length + 1 <= _; omega, fun p1 H9 s9 hp1 => ?_⟩
     have hp1' : H9 p1 = some (.tup ((ss ++ [x]).map V.str)) := by rw [hp1, List.map_append]; rfl
     refine ⟨p1, _, rfl, hp1', by rw [List.length_append]; show ss.length + 1 < 64; omega, fun l2 nl2 => ?_⟩
     refine ⟨l2, _, rfl, .inl ⟨SqL.of Xaa, fun ov nov => ?_⟩⟩
     have k7 : Same H7 (upd (upd H9 l2 (.lst ((srt (ss ++ [x])).map V.str))) ov (.tup ((srt (ss ++ [x])).map V.str))) := ((k78.trans s9).step nl2).step nov
     have hov : upd (upd H9 l2 (.lst ((srt (ss ++ [x])).map V.str))) ov (.tup ((srt (ss ++ [x])).map V.str)) ov = some (.tup ((srt (ss ++ [x])).map V.str)) := Xaa
     generalize upd (upd H9 l2 (.lst ((srt (ss ++ [x])).map V.str))) ov (.tup ((srt (ss ++ [x])).map V.str)) = HA at k7 hov
     have s5A := s7.trans k7
     have hfA := hf.same k7
     have okr : ∀ y ∈ srt (ss ++ [x]), okN y := fun y hy => by
      rcases List.mem_append.mp (Xgx.mp hy) with z | z
      ·exact R2.ok y (hsr y z)
      ·rw [List.mem_singleton.mp z]; exact R2.ok x hx
     have okT : ∀ T ∈ Ts, ∀ y ∈ T, okN y := fun T hT y hy => R2.ok y ((Xcr (hf.ok T hT).2).1 y hy)
     have dep : PyData.depth (tupD (srt (ss ++ [x]))) <= 3 := by
      have := Xnt (srt (ss ++ [x])) (srt (ss ++ [x]))
      rwa [Nat.min_self] at this
     have xsl : xs.length = Ts.length := by rw [Xb4 hfA.all, List.length_map]
     have hlt := Xg6 R2.two h3 h14 hf.nd hf.ok
     dsimp only [Xdm]
     refine ⟨_, rfl, _, rfl, q, _, rfl, .inr (SqT.of (s5A _ _ hqs)), rfl, Xdt ss, _, rfl, ?_⟩
     rw [if_pos rfl, Xfn]
     refine ite2b (fun hc => ?_) (fun hc => iteF ⟨_, _, f, xs, Ts, rfl, s5A, hfA, hfl, hcv, step Ts (fun _ h => h) fun z => absurd (by simpa using hc) z⟩)
     have hxs : x ∉ ss := by simpa using hc
     refine ⟨_, rfl, _, rfl, tupD (srt (ss ++ [x])), Ts.map tupD, Xd0 hov, Xg1 hfA.at' hfA.all, Xbp _ (Xc3 okr), Xb5 _ (plainAll_map tupD Ts fun T hT => Xc3 (okT T hT)), dep, _, rfl, ?_⟩
     refine ite2b (fun hd => ?_) (fun hd => ⟨_, _, f, xs, Ts, rfl, s5A, hfA, hfl, hcv, step Ts (fun _ h => h) fun _ _ => ?_⟩)
     rotate_left
     ·have hd : ((Ts.map tupD).any fun e => PyData.eqv e (tupD (srt (ss ++ [x])))) = true := by simpa using hd
      rw [List.any_eq_true] at hd
      obtain ⟨e, he, hq⟩ := hd
      obtain ⟨T, hT, rfl⟩ := List.mem_map.mp he
      have hq : PyData.eqv (.tuple (T.map PyData.str)) (.tuple ((srt (ss ++ [x])).map PyData.str)) = true := hq
      rw [Xnu (okT T hT) okr] at hq
      rw [<- of_decide_eq_true hq]
      exact hT
     have hnew : srt (ss ++ [x]) ∉ Ts := fun hm => by
      have : ((Ts.map tupD).any fun e => PyData.eqv e (tupD (srt (ss ++ [x])))) = true := by
       rw [List.any_eq_true]
       refine ⟨_, List.mem_map.mpr ⟨_, hm, rfl⟩, ?_⟩
       show PyData.eqv (.tuple _) (.tuple _) = true
       rw [Xnu okr okr]
       exact decide_eq_true rfl
      rw [this] at hd
      exact absurd hd (by decide)
     refine ⟨_, rfl, _, rfl, by show 1 <= sizeLine; decide, fun c nc => ?_⟩
     have kA : Same HA (upd HA c (.lst [.ref ov])) := (Same.refl HA).step nc
     refine ⟨_, rfl, _, rfl, b, ov, xs0, bars row, srt (ss ++ [x]), rfl, kA _ _ (s5A _ _ hb5), DAll.same kA _ _ (DAll.same s5A _ _ ha5), kA _ _ hov, fun HB sB => ?_⟩
     have hcB := sB _ _ (show upd HA c (.lst [.ref ov]) c = _ from Xaa)
     refine .inr ⟨_, rfl, ?_⟩
     cases hfit : Xei (bars row) (srt (ss ++ [x])) with
     | false =>
      refine ⟨c, _, _, rfl, rfl, hcB, by simp, by simp, by simp, fun c2 nc2 => ?_⟩
      have e0 : (if True then (List.replicate ((if (false : Bool) = true then (1 : Int) else 0)).toNat [V.ref ov]).flatten else ([] : List V)) = [] := by simp
      have kB : Same HA (upd HB c2 (.lst [])) := (kA.trans sB).step nc2
      refine ⟨f, c2, xs, [], rfl, rfl, kB _ _ hfA.at', Xaa, by rw [sizeLine_eq]; simp; omega, fun g ng => ?_⟩
      have kC : Same HA (upd (upd HB c2 (.lst [])) g (.lst (xs ++ []))) := kB.step ng
      refine ⟨_, _, g, xs ++ [], Ts, rfl, s5A.trans kC, ⟨Xaa, ?_, hf.nd, hf.ok⟩, hfl, hcv, step Ts (fun _ h => h) fun _ z => absurd ((fits_of R2.two z).symm.trans hfit) (by decide)⟩
      exact (congrArg (DAll _ _) (List.append_nil xs)).mpr (DAll.same kC _ _ hfA.all)
     | true =>
      refine ⟨c, _, _, rfl, rfl, hcB, by simp, by simp, by show 1 * 1 <= sizeLine; decide, fun c2 nc2 => ?_⟩
      have kB : Same HA (upd HB c2 (.lst [V.ref ov])) := (kA.trans sB).step nc2
      refine ⟨f, c2, xs, [V.ref ov], rfl, rfl, kB _ _ hfA.at', Xaa, by rw [sizeLine_eq]; simp; omega, fun g ng => ?_⟩
      have kC : Same HA (upd (upd HB c2 (.lst [V.ref ov])) g (.lst (xs ++ [V.ref ov]))) := kB.step ng
      refine ⟨_, _, g, xs ++ [V.ref ov], Ts ++ [srt (ss ++ [x])], rfl, s5A.trans kC, ⟨Xaa, ?_, ?_, ?_⟩, ?_, fun i' hi' z hz a1 a2 => List.mem_append_left _ (hcv i' hi' z hz a1 a2), step _ (fun _ h => List.mem_append_left _ h) fun _ _ => by simp⟩
      ·rw [List.map_append]
       exact Xc2 (DAll.same kC _ _ hfA.all) (Xd0 (kC _ _ hov))
      ·rw [List.nodup_append]
       exact ⟨hf.nd, by simp, fun a ha b hb e => hnew (by rw [List.mem_singleton.mp hb] at e; exact e ▸ ha)⟩
      ·intro T hT
       rcases List.mem_append.mp hT with z | z
       ·exact hf.ok T z
       ·rw [List.mem_singleton.mp z]
        exact ⟨srt_ne, Xn2 R2.two hip hx hxs hfit⟩
      ·intro T hT
       rcases List.mem_append.mp hT with z | z
       ·exact hfl T z
       ·rw [List.mem_singleton.mp z, (Xa6 _).length_eq, List.length_append, hil]
        rfl
    ·rintro σ H7 ⟨v8, v9, f, xs, Ts, rfl, s7, hf, hfl, hcv, hcm⟩
     refine ⟨_, _, _, f, xs, Ts, rfl, s7, hf, hfl, fun i' hi' z hz a1 a2 => ?_⟩
     by_cases e : i' = j
     ·subst e
      rw [hss] at a1 a2 ⊢
      obtain ⟨m', hm', e'⟩ := List.mem_iff_getElem.mp (Xag.mpr hz)
      have e2 : (dit row).getD m' Str.empty = z := by rw [<- e']; simp [List.getD, hm']
      have := hcm m' (by rw [List.length_map]; exact hm')
      rw [e2] at this
      exact this a1 a2
     ·exact hcv i' (by omega) z hz a1 a2
   ·rintro σ H6 ⟨v7, v8, v9, f, xs, Ts, rfl, s6, hf, hfl, hcv⟩
    have hlt := Xg6 R2.two h3 h14 hf.nd hf.ok
    obtain ⟨fs, rfl, hfs⟩ := Xf2 hf.all
    have hfl0 := hfs.1
    refine ⟨_, rfl, f, fs, Ts, rfl, hf.at', hfs, fun z => (hf.ok _ z).1 rfl, hf.nd, by omega, fun ly' fs' Ts' nly' hfs' hpm hpw => ?_⟩
    have g6 : Same H6 (upd H6 ly' (.lst (fs'.map V.ref))) := (Same.refl H6).step nly'
    have s46 := (g1.trans s6).trans g6
    rw [List.length_map, hQ5.1] at hcv
    have hL' := lay_next R2.two hUs hcv (fun T hT => ⟨(hf.ok T hT).2, hfl T hT⟩) hpm hpw
    have hP' := hfs'.same g6
    have hly' : upd H6 ly' (.lst (fs'.map V.ref)) ly' = some (.lst (fs'.map V.ref)) := Xaa
    generalize upd H6 ly' (.lst (fs'.map V.ref)) = H8 at g6 s46 hP' hly'
    have hfl1 := hfs'.1
    have hfl' := hpm.length_eq
    refine ⟨_, rfl, _, rfl, tl, ly', _, _, rfl, rfl, s46 _ _ ht4, hly', by rw [List.length_map, List.length_map, sizeLine_eq]; omega, fun tl' ntl' => ?_⟩
    have g8 : Same H8 (upd H8 tl' (.lst (ps.map V.ref ++ fs'.map V.ref))) := (Same.refl H8).step ntl'
    have e8 : upd H8 tl' (.lst (ps.map V.ref ++ fs'.map V.ref)) tl' = some (.lst ((ps ++ fs').map V.ref)) := by rw [Xaa, List.map_append]
    refine ⟨_, _, _, _, _, tl', ly', ps ++ fs', fs', Vs ++ Ts', Ts', rfl, (s4.trans s46).trans g8, ?_, e8, g8 _ _ hly', by rw [List.length_append]; omega, (hPs.same (s46.trans g8)).app (hP'.same g8), hVs.next hL', hP'.same g8, hL'⟩
    exact s12.free (f1.free (s4.free (s46.free ntl')))
  ·rintro σ H4 ⟨v5, v6, v7, v8, v9, tl, ly, ps, qs, Vs, Us, rfl, s4, nt4, ht4, hy4, hpl, hPs, hVs, hQs, hUs⟩
   exact ⟨_, rfl, k tl ps Vs H4 nt4 ht4 hPs hVs.all ((s12.trans f1).trans s4)⟩
theorem scTuple : FnScope ["_law_found"] ["_law_found"] (defScope s__law_tuple) := ⟨rfl, rfl, rfl, by decide +kernel, rfl, by decide +kernel, by decide +kernel⟩
theorem ok_tuple {f : Addr} {fd : FuncData} (F : Fun K "_law_tuple" "_law_tuple" s__law_tuple f fd) (T : Bl mg) : FnOk P w K mg base CX0 1 f fd ["_law_found"] spTuple := by
 refine F.ok scTuple (fun vs H Q E h => ?_) (fun cdv A outer s H vs Q E hr h => ?_)
 ·obtain ⟨v, ss, rfl, _⟩ := h
  rfl
 ·obtain ⟨v, ss, rfl, hv, hl, k⟩ := h
  obtain ⟨a, xs, rfl, hR, hs⟩ := Xnh hv
  rw [Xbd hs] at hR
  refine ⟨_, Xah (Xat (Xmd (Xak Xdi (by rfl) T.isi boot_isinstance (Xab (pv 0) (Xab (Xi3 (v := .ty "tuple") (by rfl) T.tuple (by rfl) rfl) Xad)))
   (Xmc (Xak (Xkk rfl) (by rfl) T.all (by rfl) (Xab (Xjg (N := ["_law_one"]) (cap := [none]) (CompScope.of (defScope s__law_tuple) ["_law_found"] rfl rfl rfl (by decide +kernel)) rfl
    (pi_tup (pv 0)) (fun _ _ _ => Xao (i := 0) (show (["_law_one"] : List Str).Nodup by decide +kernel) rfl (Or.inl rfl) (Or.inr rfl)) (fun _ _ _ => Xcl)
    (fun _ _ _ => Xak (Xic K rfl) (by rfl) T.isi boot_isinstance (Xab (pv 0) (Xab (Xi3 (v := .ty "str") (by rfl) T.str boot_str rfl) Xad)))) Xad))))), ?_⟩
  refine ⟨_, rfl, _, _, _, _, true, rfl, .tup hR, rfl, Xg4 K "tuple", true, rfl, iteT ?_⟩
  refine ⟨_, rfl, a, rfl, ⟨_, SqT.of hR⟩, ?_⟩
  refine Xnb (n := ss.length) (by rw [sizeLine_eq]; omega) (fun i => (ss.map V.str).getD i .non) (fun _ => .bl true) ?_ ?_ ?_ ?_
  ·intro i H2 hi s2
   exact go_tup (SqT.of (s2 _ _ hR)) (by rw [List.length_map]; exact hi)
  ·intro H2 s2
   have := st_tup (K := K) (SqT.of (s2 _ _ hR))
   rwa [List.length_map] at this
  ·intro i H2 Q' hi s2 kk
   rw [Xdx V.str Str.empty ss hi]
   exact ⟨_, rfl, _, _, _, _, true, rfl, .str _, rfl, Xg4 K "str", kk H2 (Same.refl _)⟩
  ·intro D H2 nD s2 hD
   refine ⟨D, List.replicate ss.length true, rfl, ?_, ?_⟩
   ·rw [hD, List.map_const', List.length_range, List.map_replicate]
   ·have e : (List.replicate ss.length true).all id = true := by
     rw [List.all_eq_true]
     intro b hb
     rw [(List.mem_replicate.mp hb).2]
     rfl
    rw [e]
    exact k H2 s2
theorem scAllT : FnScope ["_law_found"] ["_law_found"] (defScope s__law_all_texts) := ⟨rfl, rfl, rfl, by decide +kernel, rfl, by decide +kernel, by decide +kernel⟩
theorem Xj9 {f : Addr} {fd : FuncData} (F : Fun K "_law_all_texts" "_law_all_texts" s__law_all_texts f fd) (T : Bl mg) (FT : Fn P w K mg base CX0 1 "_law_tuple" ["_law_found"] spTuple) : FnOk P w K mg base CX0 2 f fd ["_law_found"] spAllT := by
 refine F.ok scAllT (fun vs H Q E h => ?_) (fun cdv A outer s H vs Q E hr h => ?_)
 ·obtain ⟨l, ps, Ts, rfl, _⟩ := h
  rfl
 ·obtain ⟨l, ps, Ts, rfl, hl, hT, hS, hp, k⟩ := h
  have hr1 : Room 1 _ := hr.mono (by decide)
  refine ⟨_, Xah (Xat (Xmd (Xak Xdi (by rfl) T.isi boot_isinstance (Xab (pv 0) (Xab (Xi3 (v := .ty "list") (by rfl) T.list boot_list rfl) Xad)))
   (Xmc (Xak (Xkk rfl) (by rfl) T.all (by rfl) (Xab (Xjg (N := ["_law_one"]) (cap := [none]) (CompScope.of (defScope s__law_all_texts) ["_law_found"] rfl rfl rfl (by decide +kernel)) rfl
    (Xbr (pv 0)) (fun _ _ _ => Xao (i := 0) (show (["_law_one"] : List Str).Nodup by decide +kernel) rfl (Or.inl rfl) (Or.inr rfl)) (fun _ _ _ => Xcl)
    (fun _ _ _ => Xaz (by exact FT) (by exact hr1) (by rfl) pass0 (Xab (pv 0) Xad))) Xad))))), ?_⟩
  refine ⟨_, rfl, _, _, _, _, true, rfl, .lst hl, rfl, Xg4 K "list", true, rfl, iteT ?_⟩
  refine ⟨_, rfl, l, rfl, ⟨_, SqL.of hl⟩, ?_⟩
  refine Xnb (n := ps.length) (by rw [sizeLine_eq]; omega) (fun i => .ref (ps.getD i 0)) (fun i => .bl true) ?_ ?_ ?_ ?_
  ·intro j H2 hj s2
   have := Xgq (K := K) (SqL.of (s2 _ _ hl)) (show j < (ps.map V.ref).length by rw [List.length_map]; exact hj)
   rwa [Xdx V.ref 0 ps hj] at this
  ·intro H2 s2
   have := Xgr (K := K) (SqL.of (s2 _ _ hl))
   rwa [List.length_map] at this
  ·intro j H2 Q' hj s2 kk
   have hj' : j < Ts.length := by rw [<- hT.1]; exact hj
   have hm : Ts.getD j [] ∈ Ts := by
    have : Ts.getD j [] = Ts[j] := by simp [List.getD, hj']
    rw [this]
    exact List.getElem_mem hj'
   exact ⟨_, rfl, _, Ts.getD j [], rfl, Xd0 (s2 _ _ (hT.2 j hj)), hS _ hm, fun H3 s3 => kk H3 s3⟩
  ·intro D H2 nD s2 hD
   have hD' : H2 D = some (.lst (((List.range ps.length).map fun _ => true).map V.bl)) := by rw [hD, List.map_map]; rfl
   refine ⟨D, _, rfl, hD', ?_⟩
   have e : ((List.range ps.length).map fun _ => true).all id = true := by simp
   rw [e]
   exact k H2 s2
abbrev NCr : List Str := ["_law_row_here", "_law_where_here", "_law_names_here", "_law_told", "_law_at", "_law_other"]
theorem Xcg : FnScope NCr ["_law_row_here"] (defScope s__law_crossed) := ⟨rfl, rfl, rfl, by decide +kernel, rfl, by decide +kernel, by decide +kernel⟩
theorem Xl4 {f : Addr} {fd : FuncData} (F : Fun K "_law_crossed" "_law_crossed" s__law_crossed f fd) (T : Bl mg) (FW : Fn P w K mg base CX0 1 "_law_where" ["_law_row_here"] Xfq)
  (FO : Fn P w K mg base CX0 1 "_law_word" ["_law_where_here", "_law_one", "_law_other"] spWord) : FnOk P w K mg base CX0 2 f fd ["_law_row_here"] Xbg := by
 refine F.ok Xcg (fun vs H Q E h => ?_) (fun cdv A outer s H vs Q E hr h => ?_)
 ·obtain ⟨r, row, rfl, _⟩ := h
  rfl
 ·obtain ⟨r, row, rfl, hR, R2, k⟩ := h
  refine ⟨_, Xac (Xal (i := 1) Xcg.nd rfl (Or.inl rfl) (Xaz FW hr (by rfl) pass0 (Xab (pv 0) Xad)))
   (Xac (Xal (i := 2) Xcg.nd rfl (Or.inl rfl) (Xak (Xc0 rfl) (by rfl) T.sorted (by rfl) (Xab (pv 1) Xad)))
   (Xac (Xal (i := 3) Xcg.nd rfl (Or.inl rfl) (Xbv Xad))
   (Xac (Xcb PassesOwn.never rfl (Xcu rfl T.range (Xab (Xak Xan (by rfl) T.len boot_len (Xab (pv 2) Xad)) Xad)) (Xao (i := 4) Xcg.nd rfl (Or.inl rfl))
    (Xah (Xcb PassesOwn.never rfl (Xbr (Xbk Xca (pv 2) (Xbw (Xau Xbm (pv 4) Xai)) Xch)) (Xao (i := 5) Xcg.nd rfl (Or.inl rfl))
     (Xah (Xct (Xap Xfc (Xaz FO hr (by rfl) pass0 (Xab (pv 1) (Xab (Xa3 Xav (pv 2) (pv 4) (fun _ _ => rfl)) (Xab (pv 5) Xad)))) Xa4 (nomark _))
      (Xah (Xfa (pe_bm PySem.F.plainAttrs_list PySem.F.slot_list_append PySem.F.type_list_append Xcw (pv 3) (Xab (Xcc (Xab (Xa3 Xav (pv 2) (pv 4) (fun _ _ => rfl)) (Xab (pv 5) Xad))) Xad)))) Xa8)))))
   (Xah (Xat (pv 3)))))), ?_⟩
  have hrl := R2.len
  have hdl := Xef row
  have two := R2.two
  refine ⟨_, rfl, r, row, rfl, hR, by omega, fun d kvs H1 nd hd wh s1 => ?_⟩
  obtain ⟨ss, hss, hsn, hsm⟩ := wh.names
  have hsl : ss.length <= 60 := by
   have h1 := congrArg List.length hss
   rw [List.length_map, List.length_map] at h1
   have := wh.len
   omega
  refine ⟨_, rfl, d, kvs, ss, rfl, .inl hd, hss, Nat.lt_of_le_of_lt hsl (by decide), fun sn ls nsn hp1 hs1 => ?_⟩
  rw [Xm9 hp1 hs1 hsn hsm]
  have s2 : Same H1 (upd H1 sn (.lst ((dit row).map V.str))) := (Same.refl H1).step nsn
  have hsn2 : upd H1 sn (.lst ((dit row).map V.str)) sn = some (.lst ((dit row).map V.str)) := Xaa
  dsimp only [Xdm]
  generalize upd H1 sn (.lst ((dit row).map V.str)) = H2 at s2 hsn2
  refine ⟨by show 0 <= sizeLine; decide, fun u nu => ?_⟩
  have s3 : Same H2 (upd H2 u (.lst [])) := (Same.refl H2).step nu
  have hu3 : upd H2 u (.lst []) u = some (.lst []) := Xaa
  have nsu : sn ≠ u := Xaf hsn2 nu
  dsimp only [Xdm]
  generalize upd H2 u (.lst []) = H3 at s3 hu3
  have s23 := s2.trans s3
  have hsn3 := s3 _ _ hsn2
  have base3 : ∀ b o, H1 b = some o -> hid u H3 b = some o := fun b o e => Xcs (s23 _ _ e) (Xaf (s2 _ _ e) nu)
  refine ⟨_, rfl, sn, _, rfl, .inl (SqL.of hsn3), (((dit row).map V.str).length : Int), rfl, by omega, by rw [List.length_map]; omega, ?_⟩
  have hn : (((dit row).map V.str).length : Int).toNat = (dit row).length := by rw [List.length_map]; simp
  rw [hn]
  refine Xcv (lo := 0) (n := (dit row).length) (fun i σ H4 => ∃ v4 v5, σ = [some (.ref r), some (.ref d), some (.ref sn), some (.ref u), v4, v5] /\ Same (hid u H3) H4 /\ ∃ xs, H4 u = some (.lst xs) /\ DAll (hid u H4) ((Xhd row i).map prD) xs) ?_ ?_ ?_
  ·exact ⟨none, none, rfl, Xcp u H3, [], hu3, Xcn⟩
  ·rintro i σ H4 hi ⟨v4, v5, rfl, s4, xs, hu4, hal⟩
   have hx1 : (dit row)[i]? = some ((dit row)[i]'hi) := List.getElem?_eq_getElem hi
   have hxm : (dit row)[i]'hi ∈ row := Xag.mp (List.getElem_mem hi)
   generalize hxe : (dit row)[i]'hi = x at hx1 hxm
   have hat : atI ((dit row).map V.str) (0 + (i : Int)) = some (.str x) := by
    rw [Int.zero_add]
    exact Xfe (by rw [List.getElem?_map, hx1]; rfl)
   have hsn4 := s4 _ _ (Xcs hsn3 nsu)
   refine ⟨_, rfl, _, rfl, _, _, rfl, rfl, _, rfl, sn, _, rfl, SqL.of hsn4, fun c nc => ?_⟩
   have e0 : (0 : Int) + (i : Int) + 1 = ((i + 1 : Nat) : Int) := by omega
   rw [e0, Xib _ _ _ (by omega)]
   have s5 : Same H4 (upd H4 c (.lst (((dit row).drop (i + 1)).map V.str))) := (Same.refl H4).step nc
   have hc5 : upd H4 c (.lst (((dit row).drop (i + 1)).map V.str)) c = some (.lst (((dit row).drop (i + 1)).map V.str)) := Xaa
   have ncu : c ≠ u := (Xaf hu4 nc).symm
   generalize upd H4 c (.lst (((dit row).drop (i + 1)).map V.str)) = H5 at s5 hc5
   have hal5 := DAll.same (Xb6 (D := u) s5) _ _ hal
   have hu5 := s5 _ _ hu4
   have b5 := s4.trans s5
   refine ⟨c, rfl, ⟨_, SqL.of hc5⟩, ?_⟩
   refine Xb1 (K := K) (a := c) (xs := ((dit row).drop (i + 1)).map V.str) (fun j σ H6 => ∃ v5, σ = [some (.ref r), some (.ref d), some (.ref sn), some (.ref u), some (.int (0 + (i : Int))), v5] /\ Same (hid u H5) H6 /\ ∃ xs, H6 u = some (.lst xs) /\ DAll (hid u H6) ((Xhd row i ++ Xeu row x (((dit row).drop (i + 1)).take j)).map prD) xs) ?_ ?_ ?_ ?_
   ·exact ⟨v5, rfl, Xcp u H5, xs, hu5, by simpa [Xeu] using hal5⟩
   ·rintro j σ H6 _ ⟨v5, rfl, s6, _⟩
    exact SqL.of (s6 _ _ (Xcs hc5 ncu))
   ·rintro j z σ H6 hj ⟨v5, rfl, s6, xs, hu6, hal6⟩
    obtain ⟨y, rfl, hy1⟩ := getVs hj
    have hyd : y ∈ (dit row).drop (i + 1) := List.mem_of_getElem? hy1
    have hyr : y ∈ row := Xag.mp (List.mem_of_mem_drop hyd)
    have bb : ∀ b o, H1 b = some o -> H6 b = some o := fun b o e => s6 _ _ (Xcs (b5 _ _ (base3 b o e)) (Xaf (s2 _ _ e) nu))
    have hsn6 := s6 _ _ (Xcs (s5 _ _ hsn4) nsu)
    obtain ⟨l1, e1, g1⟩ := wh.pl hxm (two x hxm)
    obtain ⟨l2, e2, g2⟩ := wh.pl hyr (two y hyr)
    refine ⟨_, rfl, _, rfl, _, rfl, sn, _, _, _, rfl, rfl, SqL.of hsn6, hat, _, rfl, ?_⟩
    dsimp only [tNil, List.cons_append, List.nil_append]
    refine ⟨d, l1, l2, kvs, x, y, _, _, _, _, rfl, .inl (bb _ _ hd), e1, e2, bb _ _ g1, bb _ _ g2, fun H7 s7 => ?_⟩
    rw [<- Xby (two x hxm) (two y hyr)]
    refine ⟨rfl, _, rfl, ?_⟩
    rw [Xdw]
    have hu7 := s7 _ _ hu6
    have hal7 := DAll.same (Xb6 (D := u) s7) _ _ hal6
    have b7 := s6.trans s7
    have htk : ((dit row).drop (i + 1)).take (j + 1) = ((dit row).drop (i + 1)).take j ++ [y] := by
     rw [List.take_succ, hy1]
     rfl
    refine ite2b (fun q => ?_) (fun q => ?_)
    ·have hxl : xs.length <= 5000 := by
      rw [Xb4 hal7, List.length_map, List.length_append]
      have h1 := Xom row i
      have h2 : (Xeu row x (((dit row).drop (i + 1)).take j)).length <= 60 := by
       unfold Xeu
       rw [List.length_map]
       refine Nat.le_trans (List.length_filter_le ..) ?_
       rw [List.length_take, List.length_drop]
       omega
      have h3 : i * (dit row).length <= 60 * 60 := Nat.mul_le_mul (by omega) (by omega)
      omega
     refine ⟨_, rfl, .inl ⟨rfl, _, SqL.of hu7⟩, _, rfl, _, rfl, sn, _, _, _, rfl, rfl, SqL.of (s7 _ _ hsn6), hat, _, rfl, by show 2 <= sizeLine; decide, fun p np => ?_⟩
     refine ⟨u, _, _, rfl, rfl, ku hu7 np, by rw [sizeLine_eq]; omega, ?_⟩
     refine ⟨_, rfl, ?_, xs ++ [.ref p], Xaa, ?_⟩
     ·intro b o e
      have nb : b ≠ u := fun z => by rw [z] at e; unfold hid at e; rw [if_pos rfl] at e; cases e
      rw [Xae nb, Xae (Xaf (b7 _ _ e) np)]
      exact b7 _ _ e
     ·have hq : Xeu row x (((dit row).drop (i + 1)).take (j + 1)) = Xeu row x (((dit row).drop (i + 1)).take j) ++ [(x, y)] := by
       unfold Xeu
       rw [htk, List.filter_append, List.map_append]
       congr 1
       rw [List.filter_cons_of_pos (by simpa using q)]
       rfl
      rw [Xjj, hq, <- List.append_assoc, List.map_append]
      refine Xc2 (DAll.same (Xb6 (D := u) ((Same.refl H7).step np)) _ _ hal7) ?_
      exact Xjk hu7 np (Xcd [x, y])
    ·refine ⟨_, rfl, b7, xs, hu7, ?_⟩
     have hq : Xeu row x (((dit row).drop (i + 1)).take (j + 1)) = Xeu row x (((dit row).drop (i + 1)).take j) := by
      unfold Xeu
      rw [htk, List.filter_append, List.filter_cons_of_neg (by simpa using q)]
      simp
     rw [hq]
     exact hal7
   ·rintro σ H6 ⟨v5, rfl, s6, xs, hu6, hal6⟩
    rw [List.length_map, List.take_length] at hal6
    refine ⟨_, _, rfl, fun b o e => ?_, xs, hu6, ?_⟩
    ·have nb : b ≠ u := fun z => by rw [z] at e; unfold hid at e; rw [if_pos rfl] at e; cases e
     exact s6 _ _ (Xcs (b5 _ _ e) nb)
    ·rw [Xl1 row hi, hxe]
     exact hal6
  ·rintro σ H4 ⟨v4, v5, rfl, s4, xs, hu4, hal⟩
   rw [Xol] at hal
   exact ⟨_, rfl, k u xs H4 (s1.free (s2.free nu)) hu4 hal (fun b o e => s4 _ _ (base3 _ _ (s1 _ _ e)))⟩
end
end K7
set_option maxHeartbeats 8000000
namespace K7
open PySem PySem.Spec PyProof.Rows L2 SH
def Xla (K : PySem.W.Frag) (T : Addr) : Sp := fun vs H Q _ => ∃ (a : Addr) (ns : List Int), vs = [.ref a] /\ SqL K H a (ns.map V.int) /\ ns.length <= 63 /\ H T = some (.tbl #[]) /\ ∀ H', Q (.bl true) H'
theorem eqv_lst {a : List Str} (ha : ∀ y ∈ a, okN y) : PyData.eqv (.list (a.map PyData.str)) (.list (a.map PyData.str)) = true := (Xg2 _ _ (Xdz ha) (Xdz ha)).mpr rfl
theorem Xou (a : List Str) (d : PyData) : min (PyData.list (a.map PyData.str)).depth d.depth <= 3 := by
 show min (PyData.depthAll (a.map PyData.str) + 1) _ <= 3
 rw [Xc8]
 omega
theorem Xl5 {row : List Str} {Ts : List (List Str)} (R2 : Row2 row) (h3 : Xba row) (g : IsPL row Ts) : Ts.length = 1 + (dit row).length + (crs row).length := by
 have e : Ts.Perm ([] :: cands row) := (List.perm_ext_iff_of_nodup g.nd (all_nd R2.two)).mpr fun S => (g.mem S).trans (Xiy R2.two h3 S).symm
 rw [e.length_eq]
 unfold cands
 rw [List.length_cons, List.length_append, List.length_map, List.length_map]
 omega
section
variable {P : Program} {w : World} {K : PySem.W.Frag} {mg : Str -> Option Value} {base : Heap}
abbrev NLw : List Str := ["_law_script", "_law_draw", "_law_row_here", "_law_kept", "_law_due", "_law_found"]
theorem Xl6 : FnScope NLw ["_law_script"] (defScope s_law) := ⟨rfl, rfl, rfl, by decide +kernel, rfl, by decide +kernel, by decide +kernel⟩
theorem ok_law {f T : Addr} {fd : FuncData} (F : Fun K "law" "law" s_law f fd) (B : Bl mg) (FB : Fn P w K mg base CX0 1 "_law_begin" ["_law_script"] (Xjl K))
  (FI : Fn P w K mg base CX0 4 "_law_island" ["_law_draw", "_law_most"] spIslandN) (FLp : Fn P w K mg base CX0 3 "_law_plots" ["_law_row_here"] spPlotsO) (FPl : Fn P w K mg base CX0 5 "plots" ["row"] (Xhb T (lamPos s_in_order)))
  (FA : Fn P w K mg base CX0 2 "_law_all_texts" ["_law_found"] spAllT) (FC : Fn P w K mg base CX0 2 "_law_crossed" ["_law_row_here"] Xbg) :
  FnOk P w K mg base CX0 8 f fd ["_law_script"] (Xla K T) := by
 refine F.ok Xl6 (fun vs H Q E h => ?_) (fun cdv A outer s H vs Q E hr h => ?_)
 ·obtain ⟨a, ns, rfl, _⟩ := h
  rfl
 ·obtain ⟨a, ns, rfl, hS, hlen, hTb, k⟩ := h
  have hr1 : Room 1 _ := hr.mono (by decide)
  have hr2 : Room 2 _ := hr.mono (by decide)
  have hr3 : Room 3 _ := hr.mono (by decide)
  have hr4 : Room 4 _ := hr.mono (by decide)
  have hr5 : Room 5 _ := hr.mono (by decide)
  refine ⟨_, Xac (Xal (i := 1) Xl6.nd rfl (Or.inl rfl) (Xaz FB hr1 (by rfl) pass0 (Xab (pv 0) Xad)))
   (Xac (Xal (i := 2) Xl6.nd rfl (Or.inl rfl) (Xaz FI hr4 (by rfl) pass0 (Xab (pv 1) (Xab Xai Xad))))
   (Xac (Xal (i := 3) Xl6.nd rfl (Or.inl rfl) (Xbn Xep (by rfl) B.list (by rfl) (Xab (pv 2) Xad)))
   (Xac (Xal (i := 4) Xl6.nd rfl (Or.inl rfl) (Xaz FLp hr3 (by rfl) pass0 (Xab (pv 2) Xad)))
   (Xac (Xal (i := 5) Xl6.nd rfl (Or.inl rfl) (Xaz FPl hr5 (by rfl) pass0 (Xab (pv 2) Xad)))
   (Xac (Xct (pw_or (pt_not (Xkc (Xaz FA hr2 (by rfl) pass0 (Xab (pv 5) Xad)))) (Xmb (Xap (op_neD (hu3 hr)) (pv 5) (pv 4) (nomark _)))).pt (Xah (Xat Xlb)) Xa8)
   (Xac (Xct (Xap op_ne (Xak Xan (by rfl) B.len boot_len (Xab (pv 5) Xad)) (Xau Xbm (Xau Xbm Xai (Xau Xi4 (Xak Xan (by rfl) B.len boot_len (Xab (pv 2) Xad)) Xai)) (Xak Xan (by rfl) B.len boot_len (Xab (Xaz FC hr2 (by rfl) pass0 (Xab (pv 2) Xad)) Xad))) (nomark _)) (Xah (Xat Xlb)) Xa8)
   (Xac (Xfa (pe_bm PySem.F.plainAttrs_list PySem.F.slot_list_append PySem.F.type_list_append Xcw (pv 5) (Xab (Xcc (Xab Xa4 Xad)) Xad)))
   (Xah (Xat (Xmd (Xfd (Xni (hu3 hr)) (Xaz FPl hr5 (by rfl) pass0 (Xab (pv 2) Xad)) (pv 4) (nomark _)) (Xmc (Xfd (Xni (hu3 hr)) (pv 2) (pv 3) (nomark _))))))))))))), ?_⟩
  have nT : ∀ {H' : Hp} {b : Addr} {o : HO}, Xb0 T (lamPos s_in_order) qIn H' -> H' b = some o -> (∀ z, o ≠ .tbl z) -> b ≠ T := fun tb e n z => by
   rcases tb with q | ⟨_, q, _⟩ <;> (rw [z, q] at e; cases e; exact n _ rfl)
  refine ⟨_, rfl, a, ns, rfl, hS, hlen, fun dr sc H1 ndr nsc d1 s1 => ?_⟩
  have tab1 : Xb0 T (lamPos s_in_order) qIn H1 := .inl (s1 _ _ hTb)
  refine ⟨_, rfl, dr, sc, 14, rfl, by decide, d1, fun r row n st late H2 nr hn hst hr2' hp hno d2 b2 => ?_⟩
  have tab2 : Xb0 T (lamPos s_in_order) qIn H2 := by
   obtain ⟨xs1, h1⟩ := d1.at
   exact SH.Xb0.but tab1 h1 b2
  have hI : Isl row := ⟨n, st, late, by omega, hst, hp⟩
  have R2 := hI.row2
  have ok := R2.ok
  have nd14 : (dit row).length <= 14 := by
   have hp' : (dit row).Perm (Xas st late n) := Xeg (Xf8 row) (Xe0 hst (by omega)) fun x => by
    rw [Xag, hp.mem_iff, List.mem_append, or_self]
   rw [hp'.length_eq]
   unfold Xas
   rw [List.length_map, List.length_range]
   exact hn
  have half : row.length = 2 * (dit row).length := by
   have hp' : (dit row).Perm (Xas st late n) := Xeg (Xf8 row) (Xe0 hst (by omega)) fun x => by
    rw [Xag, hp.mem_iff, List.mem_append, or_self]
   rw [hp'.length_eq, hp.length_eq, List.length_append]
   omega
  refine ⟨_, rfl, r, _, rfl, .inl (SqL.of hr2'), fun kp nkp => ?_⟩
  have s3 : Same H2 (upd H2 kp (.lst (row.map V.str))) := (Same.refl H2).step nkp
  have hk3 : upd H2 kp (.lst (row.map V.str)) kp = some (.lst (row.map V.str)) := Xaa
  dsimp only [Xdm]
  generalize upd H2 kp (.lst (row.map V.str)) = H3 at s3 hk3
  have hR3 := s3 _ _ hr2'
  have tab3 := SH.Xb0.same tab2 s3
  refine ⟨_, rfl, r, row, rfl, hR3, R2, hno, nd14, fun l4 ps4 Ts4 H4 nl4 hl4 hT4 g4 s4 => ?_⟩
  have tab4 := SH.Xb0.same tab3 s4
  have hR4 := s4 _ _ hR3
  have hk4 := s4 _ _ hk3
  have len4 := g4.len R2.two hno nd14
  have pok : ∀ S ∈ Ts4, (∀ y ∈ S, okN y) /\ S.length <= 14 := fun S hS => by
   have hp := (g4.mem S).mp hS
   exact ⟨fun y hy => R2.ok y ((Xcr hp).1 y hy), Nat.le_trans (Xg8 hp) nd14⟩
  have ok4 : ∀ S ∈ Ts4, ∀ y ∈ S, okN y := fun S hS => (pok S hS).1
  refine ⟨_, rfl, r, row, rfl, hR4, R2, hno, nd14, tab4, fun l5 ps5 Ts5 H5 nl5 hl5 hT5 hall5 hpw5 hle5 tab5 bt5 => ?_⟩
  have e5 : Ts5 = Ts4 := IsPL.uniq (row := row) ⟨hpw5.imp fun h => ltPl_P h, hall5⟩ g4
  subst e5
  have keep5 : ∀ {b : Addr} {o : HO}, H4 b = some o -> (∀ z, o ≠ .tbl z) -> H5 b = some o := fun e n => bt5 _ _ e (nT tab4 e n)
  have hR5 := keep5 hR4 fun z => by simp
  have hk5 := keep5 hk4 fun z => by simp
  have hl45 := keep5 hl4 fun z => by simp
  have hT45 : Tups H5 ps4 Ts5 := ⟨hT4.1, fun i hi => keep5 (hT4.2 i hi) fun z => by simp⟩
  refine ⟨_, rfl, l5, ps5, Ts5, rfl, hl5, hT5, fun S hS => Nat.le_trans (pok S hS).2 (by decide), Nat.le_trans hle5 (by decide), fun H6 s6 => ⟨_, rfl, ?_⟩⟩
  refine iteF ?_
  have hl6 := s6 _ _ hl5
  refine ⟨_, rfl, _, rfl, _, _, Xhc hl6 (hT5.same s6), Xhc (s6 _ _ hl45) (hT45.same s6), Xbp _ (Xbi ok4), Xbp _ (Xbi ok4), Xiz _ _, _, rfl, ?_⟩
  rw [Xk7 ok4 ok4, decide_eq_true rfl]
  refine iteF ?_
  have hR6 := s6 _ _ hR5
  refine ⟨_, rfl, l5, _, rfl, .inl (SqL.of hl6), _, rfl, r, _, rfl, .inl (SqL.of hR6), ?_⟩
  refine ⟨_, _, rfl, rfl, ⟨by decide, by decide⟩, _, _, rfl, rfl, _, rfl, r, row, rfl, hR6, R2, fun l7 xs7 H7 nl7 hl7 hal7 s7 => ⟨l7, xs7, rfl, .inl (SqL.of hl7), _, _, rfl, rfl, rfl, _, rfl, ?_⟩⟩
  have ex : xs7.length = (crs row).length := by
   have := Xb4 hal7
   rwa [List.length_map] at this
  have many := Xl5 R2 hno g4
  rw [<- hT5.1] at many
  have ei : V.int ((ps5.map V.ref).length : Int) = V.int (1 + ((row.map V.str).length : Int) / 2 + (xs7.length : Int)) := by
   rw [List.length_map, List.length_map, ex, half]
   congr 1
   omega
  rw [decide_eq_true ei]
  refine iteF ?_
  have hl7' := s7 _ _ hl6
  refine ⟨_, rfl, .inl ⟨rfl, _, SqL.of hl7'⟩, by show 1 <= sizeLine; decide, fun p np => ⟨l5, _, _, rfl, rfl, ku hl7' np, by rw [List.length_map, sizeLine_eq]; omega, ?_⟩⟩
  have s57 := s6.trans s7
  have s5p : Same H5 (upd H7 p (.tup [.str "none"])) := s57.trans ((Same.refl H7).step np)
  have tabp := SH.Xb0.same tab5 s5p
  have hlp := s5p _ _ hl5
  have bp : But l5 (upd H7 p (.tup [.str "none"])) (upd (upd H7 p (.tup [.str "none"])) l5 (.lst (ps5.map V.ref ++ [.ref p]))) := fun b o e n => by rw [Xae n]; exact e
  have tab8 := SH.Xb0.but tabp hlp bp
  have k8 : ∀ {b : Addr} {o : HO}, H5 b = some o -> b ≠ l5 -> upd (upd H7 p (.tup [.str "none"])) l5 (.lst (ps5.map V.ref ++ [.ref p])) b = some o := fun e n => bp _ _ (s5p _ _ e) n
  have hR8 := k8 hR5 (Xaf hR4 nl5)
  have hk8 := k8 hk5 (Xaf hk4 nl5)
  have hl48 := k8 hl45 (Xaf hl4 nl5)
  have hT48 : Tups _ ps4 Ts5 := ⟨hT4.1, fun i hi => k8 (hT45.2 i hi) (Xaf (hT4.2 i hi) nl5)⟩
  dsimp only
  generalize upd (upd H7 p (.tup [.str "none"])) l5 (.lst (ps5.map V.ref ++ [.ref p])) = H8 at tab8 hR8 hk8 hl48 hT48
  refine ⟨_, rfl, r, row, rfl, hR8, R2, hno, nd14, tab8, fun l9 ps9 Ts9 H9 nl9 hl9 hT9 hall9 hpw9 hle9 tab9 bt9 => ?_⟩
  have e9 : Ts9 = Ts5 := IsPL.uniq (row := row) ⟨hpw9.imp fun h => ltPl_P h, hall9⟩ g4
  subst e9
  have keep9 : ∀ {b : Addr} {o : HO}, H8 b = some o -> (∀ z, o ≠ .tbl z) -> H9 b = some o := fun e n => bt9 _ _ e (nT tab8 e n)
  refine ⟨_, rfl, _, _, Xhc hl9 hT9, Xhc (keep9 hl48 fun z => by simp) ⟨hT48.1, fun i hi => keep9 (hT48.2 i hi) fun z => by simp⟩, Xbp _ (Xbi ok4), Xbp _ (Xbi ok4), Xiz _ _, ?_⟩
  rw [Xk7 ok4 ok4, decide_eq_true rfl]
  refine ⟨_, rfl, iteT ?_⟩
  refine ⟨_, rfl, _, rfl, _, _, Xg1 (keep9 hR8 fun z => by simp) (Xcd _), Xg1 (keep9 hk8 fun z => by simp) (Xcd _), Xbp _ (Xdz ok), Xbp _ (Xdz ok), Xou _ _, ?_⟩
  rw [eqv_lst ok]
  exact k _
end
end K7
set_option maxHeartbeats 4000000
namespace PySem.OldK
theorem of_tab {h₀ h : Heap} {T : Addr} (ht : isCodeTable h₀ T) (hT : h₀.get? T = some (PySem.W.tabObj #[])) (hT' : ∃ ps, h.get? T = some (PySem.W.tabObj ps)) (k : ∀ b o, b ≠ T -> h₀.get? b = some o -> h.get? b = some o) : OldK h₀ h := by
 obtain ⟨ps, hps⟩ := hT'
 refine ⟨fun b o e => ?_, fun b o e => ?_⟩
 ·by_cases z : b = T
  ·subst z
   rw [hT] at e
   cases e
   exact .inr (.inl ⟨ht, rfl, #[], ps, rfl, by simpa using hps⟩)
  ·exact .inl (k b o z e)
 ·by_cases z : b = T
  ·exact ⟨_, z ▸ hps⟩
  ·exact ⟨o, k b o z e⟩
end PySem.OldK
namespace L2
open PySem PySem.Spec PyProof.Rows
theorem Xov {P : Program} {w : World} {K : PySem.W.Frag} {mg mb : Str -> Option Value} {CX : CXT} {k : Nat} {fa a : Addr} {fd : FuncData} {x : Str} {sp : Sp} {s₁ : Shared} {vs : List Value} {ns : List Int} {T c0 : Addr}
  (hT : s₁.heap.get? T = some (PySem.W.tabObj #[])) (hTK : K.lookup T = none) (hhd : PySem.W.codeHdIn K c0 T = true) (hbm : BmOk mg s₁.heap)
  (KX : K.In s₁.heap) (hns : s₁.heap.Ns mainGlobals mg) (hb : s₁.heap.Ns builtinsNs mb) (hbb : ∀ x : Str, x ≠ "__name__" -> mb x = bootBuiltins x) (hlim : s₁.heap.NoLimit) (hg : s₁.gens = #[])
  (ha : s₁.heap.get? a = some { cls := .type "list", data := .seq vs.toArray }) (hi : IntsAre vs ns) (hl : ns.length <= sizeLine) (hr : Room k callerA)
  (F : ∀ base : Heap, K.In base -> base.Ns mainGlobals mg -> BmOk mg base -> FnOk P w K mg base CX k fa fd [x] sp) (hbind : ∀ (s : Shared) (u : Value), BindsTo s fd ⟨[u], []⟩ [(x, u)])
  (hsp : ∀ H : Hp, H T = some (.tbl #[]) -> SqL K H a (ns.map V.int) -> sp [.ref a] H (fun v _ => v = .bl true) fun _ _ _ => False)
  (hCX : ∀ H e s', CX [] H s₁ (fun _ _ _ => False) e s' -> False) :
  codeAny (model P w) callerA (.call (.ref fa) ⟨[.ref a], []⟩) (fun r s' => r = .ok (.ret (.bool true)) /\ OldK s₁.heap s'.heap /\ s'.os = s₁.os /\ AllBare s'.gens) s₁ := by
 have rv := Xhs hi
 have lenV := hi.length
 have core : ∀ H : Hp, H T = some (.tbl #[]) -> (∀ b, b ≠ T -> H b = none \/ ∃ o xs, H b = some (.frz o (.lst xs))) -> SqL K H a (ns.map V.int) -> HOk P w H s₁.heap -> (∀ b, H b ≠ none -> b = a \/ b = T) -> (H a ≠ none -> K.lookup a = none) ->
   codeAny (model P w) callerA (.call (.ref fa) ⟨[.ref a], []⟩) (fun r s' => r = .ok (.ret (.bool true)) /\ OldK s₁.heap s'.heap /\ s'.os = s₁.os /\ AllBare s'.gens) s₁ := by
  intro H hHT hO hS hok hA hK
  have base_of : ∀ {b : Addr} {o : Obj}, s₁.heap.get? b = some o -> H b = none -> (hidT s₁.heap H).get? b = some o := fun e n => hidT_get e n
  have noA : ∀ {b : Addr} {o : Obj} {es : Array DictEntry} {ep : Nat}, s₁.heap.get? b = some o -> o.data = .dict es ep -> H b = none := fun {b o es ep} e d => by
   cases q : H b with
   | none => rfl
   | some u =>
    rcases hA b (by rw [q]; simp) with e' | e'
    ·subst e'
     rw [ha] at e; cases e
     have d' : Data.seq vs.toArray _ = Data.dict es ep := d
     cases d'
    ·subst e'
     rw [hT] at e; cases e
     cases d
  have nsK : ∀ {b : Addr} {m : Str -> Option Value}, s₁.heap.Ns b m -> (hidT s₁.heap H).Ns b m := fun {b m} ⟨o, es, ep, e, d, r⟩ => ⟨o, es, ep, base_of e (noA e d), d, r⟩
  have hKb : K.In (hidT s₁.heap H) := fun b o e => base_of (KX b o e) (by
   cases q : H b with
   | none => rfl
   | some u =>
    rcases hA b (by rw [q]; simp) with e' | e'
    ·subst e'
     rw [hK (by rw [q]; simp)] at e; cases e
    ·subst e'
     rw [hTK] at e; cases e)
  have hbm' : BmOk mg (hidT s₁.heap H) := by
   obtain ⟨bm, ob, b1, b2, b3, b4, b5, b6⟩ := hbm
   refine ⟨bm, ob, b1, b2, base_of b3 ?_, b4, b5, b6⟩
   cases q : H bm with
   | none => rfl
   | some u =>
    rcases hA bm (by rw [q]; simp) with e' | e'
    ·subst e'
     rw [ha] at b3; cases b3
     exact absurd (show Value.type "list" = Value.type "module" from b4) (by decide)
    ·subst e'
     rw [hT] at b3; cases b3
     cases b4
  have hM : Mod K mg (hidT s₁.heap H) := ⟨hKb, nsK hns, ⟨mb, nsK hb, hbb⟩, let ⟨mc, h1, h2⟩ := hlim; ⟨mc, nsK h1, h2⟩⟩
  have e0 : Env0 P w K mg (hidT s₁.heap H) callerA [] s₁ H := ⟨rfl, hM, fun b o e => of_hidT e, Nat.le_of_eq (Xl9 _ _), trivial, fun b hb => absurd (show b ∈ ([] : List Addr) from hb) (by simp), hok, .of_eq hg⟩
  refine codeAny_mono ((F _ hKb (nsK hns) hbm').run callerA [] s₁ H ⟨[.ref a], []⟩ [.ref a] [.ref a] _ _ hr e0 (hbind s₁ (.ref a)) (.cons rfl .nil) (hsp H hHT hS)) fun r s' h => ?_
  cases r with
  | error e => exact (hCX H e s' h).elim
  | ok fl =>
   cases fl with
   | next => exact False.elim h
   | brk => exact False.elim h
   | cont => exact False.elim h
   | ret u =>
    obtain ⟨v, H', os, bare, un, hok', r', q⟩ := h
    have q' : v = .bl true := q
    subst q'
    obtain rfl : u = Value.bool true := r'
    refine ⟨rfl, OldK.of_tab (T := T) (by have C := PySem.W.codeHd_of_K KX hhd; exact (C.tab hT).isCodeTable) hT ?_ fun b o nb e => ?_, os, bare⟩
    ·obtain ⟨more, hm⟩ := un.tbls T #[] hHT
     exact ⟨#[] ++ more, hok' T _ hm⟩
    cases q : H b with
    | none => exact un.keep b o e q (by intro z; exact absurd (show b ∈ ([] : List Addr) from z) (by simp)) (by simp)
    | some u =>
     rcases hO b nb with z | ⟨ob, xs, z⟩
     ·rw [q] at z; cases z
     ·have z2 := un.frzs b ob _ z
      obtain ⟨e1, _⟩ := hok b _ z
      obtain ⟨e2, _⟩ := hok' b _ z2
      rw [e] at e1; cases e1
      exact e2
 cases hk : K.lookup a with
 | some o =>
  have e := KX a o hk
  rw [ha] at e
  cases e
  have naT : a ≠ T := fun z => by rw [z, hTK] at hk; cases hk
  refine core (fun b => if b = T then some (.tbl #[]) else none) (if_pos rfl) (fun b n => .inl (if_neg n)) (.inr ⟨_, vs.toArray, _, hk, rfl, rfl, rfl, by rw [List.size_toArray, lenV]; exact hl, by simpa using rv⟩) (fun b u z => ?_) (fun b z => .inr (Classical.byContradiction fun n => z (if_neg n))) fun z => absurd (if_neg naT) z
  by_cases hb : b = T
  ·have z' := (if_pos hb).symm.trans z
   cases z'
   rw [hb]
   exact hT
  ·have z' := (if_neg hb).symm.trans z
   cases z'
 | none =>
  have naT : T ≠ a := fun z => by rw [z, ha] at hT; cases hT
  refine core (fun b => if b = T then some (.tbl #[]) else if b = a then some (.frz { cls := .type "list", data := .seq vs.toArray } (.lst (ns.map V.int))) else none) (if_pos rfl) (fun b n => ?_) (.inl (.inr ⟨{ cls := .type "list", data := .seq vs.toArray }, (if_neg naT.symm).trans (if_pos rfl)⟩)) (fun b u z => ?_) (fun b z => ?_) fun _ => hk
  ·by_cases hb : b = a
   ·exact .inr ⟨_, _, (if_neg n).trans (if_pos hb)⟩
   ·exact .inl ((if_neg n).trans (if_neg hb))
  ·by_cases hb : b = T
   ·have z' := (if_pos hb).symm.trans z
    cases z'
    rw [hb]
    exact hT
   ·have z1 := (if_neg hb).symm.trans z
    by_cases hb : b = a
    ·have z' := (if_pos hb).symm.trans z1
     cases z'
     subst hb
     exact ⟨ha, by rw [List.length_map]; exact hl, vs, _, rv, ha⟩
    ·have z' := (if_neg hb).symm.trans z1
     cases z'
  ·by_cases hb : b = T
   ·exact .inr hb
   ·by_cases hc : b = a
    ·exact .inl hc
    ·exact absurd ((if_neg hb).trans (if_neg hc)) z
theorem walk_ofT {l : PySem.W.OpenLaw} {n k : Nat} {q : Program} {loose : List Str} {XP : (Str -> Option Value) -> Heap -> Prop} {YP : World -> Heap -> Prop} {d : DefRec} {K : Params -> PySem.W.Frag} {CX : World -> CXT} {sp : World -> Sp} {x : Str} {T c0 : Addr}
  (hn : l.most = some n) (hn2 : n <= sizeLine) (hdf : d.params.defaults = []) (hr : Room k callerA)
  (hY : ∀ (w : World) (h : Heap), YP w h -> (K w.params).In h) (hYT : ∀ (w : World) (h : Heap), YP w h -> h.get? T = some (PySem.W.tabObj #[])) (hTK : ∀ P, (K P).lookup T = none) (hhd : ∀ P, PySem.W.codeHdIn (K P) c0 T = true)
  (F : ∀ (w : World) (mg : Str -> Option Value) (fa : Addr) (h : Heap), (K w.params).In h -> h.Ns mainGlobals mg -> mg d.name = some (.ref fa) ->
   ∃ fd : FuncData, (∀ (s : Shared) (u : Value), BindsTo s fd ⟨[u], []⟩ [(x, u)]) /\
    ∀ base : Heap, (K w.params).In base -> base.Ns mainGlobals mg -> BmOk mg base -> FnOk l.prog w (K w.params) mg base (CX w) k fa fd [x] (sp w))
  (hsp : ∀ (w : World) (H : Hp) (a : Addr) (ns : List Int), ns.length <= n -> H T = some (.tbl #[]) -> SqL (K w.params) H a (ns.map V.int) -> sp w [.ref a] H (fun v _ => v = .bl true) fun _ _ _ => False)
  (hCX : ∀ (w : World) (H : Hp) (s : Shared) (e : Value) (s' : Shared), CX w [] H s (fun _ _ _ => False) e s' -> False) :
  PySem.W.WalkO q loose XP YP l.row.toRowW d [] (fun f vs => PySem.call f vs) := by
 refine Att.attach_call hn hdf fun w s₀ s₁ mg mb fa o pm cd doc a vs ns G Y ho hd hcd hmg hobj hints hlen hg => ?_
 have KX := hY w _ Y
 obtain ⟨fd, hb, hF⟩ := F w mg fa _ KX G.T.g hmg
 exact Xov (hYT w _ Y) (hTK _) (hhd _) G.T.bmain KX G.T.g G.T.b G.T.builtins G.T.nolimit hg hobj hints (Nat.le_trans hlen hn2) hr hF hb (fun H hO hS => hsp w H a ns hlen hO hS) fun H e s' => hCX w H s₁ e s'
theorem Fn.ofT {P : Program} {w : World} {K : PySem.W.Frag} {h : Heap} {mg : Str -> Option Value} {base : Heap} {CX : CXT} {k : Nat} {x : Str} {st : Stmt} {ps : List Str} {sp : Sp} {T : Addr} (X : K.In h) (G : h.Ns mainGlobals mg) (D : DefT K x st T)
  (hb : ∀ (kV doc pm : Value) (an : Option Addr) (cdv ct : Value) (us : List Value), us.length = ps.length -> bindArgs (PySem.W.fnOf x x (Xck st) (Xbf st) (defScope st) .none kV doc pm an cdv ct) ⟨us, []⟩ = pure (ps.zip us))
  (ok : ∀ f fd, FunT K x st f fd T -> FnOk P w K mg base CX k f fd ps sp) : Fn P w K mg base CX k x ps sp := by
 obtain ⟨f, fd, a, hk, F, F'⟩ := D.ex
 exact ⟨⟨f, fd, PySem.W.mg_of X G a, hk, F'.binds hb, ok f fd F⟩⟩
end L2
namespace L2
open PySem
theorem len1 {us : List Value} (h : us.length = 1) : ∃ a, us = [a] := List.length_eq_one_iff.mp h
theorem len2 {us : List Value} (h : us.length = 2) : ∃ a b, us = [a, b] := by
 cases us with
 | nil => cases h
 | cons a r =>
  obtain ⟨b, rfl⟩ := len1 (Nat.succ.inj h)
  exact ⟨a, b, rfl⟩
theorem len3 {us : List Value} (h : us.length = 3) : ∃ a b c, us = [a, b, c] := by
 cases us with
 | nil => cases h
 | cons a r =>
  obtain ⟨b, c, rfl⟩ := len2 (Nat.succ.inj h)
  exact ⟨a, b, c, rfl⟩
theorem len4 {us : List Value} (h : us.length = 4) : ∃ a b c d, us = [a, b, c, d] := by
 cases us with
 | nil => cases h
 | cons a r =>
  obtain ⟨b, c, d, rfl⟩ := len3 (Nat.succ.inj h)
  exact ⟨a, b, c, d, rfl⟩
end L2
namespace K7
open PySem PySem.Spec PyProof.Rows L2 SH
theorem all_mk {P : Program} {w : World} {K : PySem.W.Frag} {h : Heap} {mg : Str -> Option Value} {fa C_NoDitch T_ : Addr} (X : K.In h) (G : h.Ns mainGlobals mg) (hfa : mg "law" = some (.ref fa))
  (d_ask_ditch : DefAt K "ask_ditch" sAsk)
  (d_ditches : DefAt K "ditches" sDitches)
  (d_ends : DefAt K "ends" sEnds)
  (d_spans : DefAt K "spans" sSpans)
  (d_lie_of : DefAt K "lie_of" sLieOf)
  (d_crossings : DefAt K "crossings" sCross)
  (d_told : DefAt K "told" sTold)
  (d_in_order : DefT K "in_order" s_in_order T_)
  (d_plots : DefAt K "plots" s_plots)
  (d__law_begin : DefAt K "_law_begin" sBegin)
  (d__law_pick : DefAt K "_law_pick" sPick)
  (d__law_put : DefAt K "_law_put" sPut)
  (d__law_where : DefAt K "_law_where" sWhere)
  (d__law_word : DefAt K "_law_word" sWord)
  (d__law_barred : DefAt K "_law_barred" sBarred)
  (d__law_row : DefAt K "_law_row" sRow)
  (d__law_names : DefAt K "_law_names" sNames)
  (d__law_island : DefAt K "_law_island" sIsland)
  (d__law_bars : DefAt K "_law_bars" s__law_bars)
  (d__law_fits : DefAt K "_law_fits" s__law_fits)
  (d__law_plots : DefAt K "_law_plots" s__law_plots)
  (d__law_tuple : DefAt K "_law_tuple" s__law_tuple)
  (d__law_all_texts : DefAt K "_law_all_texts" s__law_all_texts)
  (d__law_crossed : DefAt K "_law_crossed" s__law_crossed)
  (d_law : DefAt K "law" s_law)
  (x_NoDitch : ExcAt K "NoDitch" C_NoDitch)
  (z_len : PySem.W.nsIn K mainGlobals "len" = some none)
  (z_range : PySem.W.nsIn K mainGlobals "range" = some none)
  (z_list : PySem.W.nsIn K mainGlobals "list" = some none)
  (z_min : PySem.W.nsIn K mainGlobals "min" = some none)
  (z_isinstance : PySem.W.nsIn K mainGlobals "isinstance" = some none)
  (z_all : PySem.W.nsIn K mainGlobals "all" = some none)
  (z_str : PySem.W.nsIn K mainGlobals "str" = some none)
  (z_ValueError : PySem.W.nsIn K mainGlobals "ValueError" = some none)
  (z_sorted : PySem.W.nsIn K mainGlobals "sorted" = some none)
  (z_set : PySem.W.nsIn K mainGlobals "set" = some none)
  (z_enumerate : PySem.W.nsIn K mainGlobals "enumerate" = some none)
  (z_int : PySem.W.nsIn K mainGlobals "int" = some none)
  (z_bool : PySem.W.nsIn K mainGlobals "bool" = some none)
  (z_tuple : PySem.W.nsIn K mainGlobals "tuple" = some none)
  (z_any : PySem.W.nsIn K mainGlobals "any" = some none)
  (z_dict : PySem.W.nsIn K mainGlobals "dict" = some none)
  (z_sum : PySem.W.nsIn K mainGlobals "sum" = some none)
  (z_max : PySem.W.nsIn K mainGlobals "max" = some none)
  : ∃ fd : FuncData, (∀ (s : Shared) (v : Value), BindsTo s fd ⟨[v], []⟩ [("_law_script", v)]) /\ ∀ base : Heap, K.In base -> base.Ns mainGlobals mg -> BmOk mg base -> FnOk P w K mg base CX0 8 fa fd ["_law_script"] (Xla K T_) := by
 have T : Bl mg := ⟨PySem.W.mg_none_of X G z_len, PySem.W.mg_none_of X G z_range, PySem.W.mg_none_of X G z_list, PySem.W.mg_none_of X G z_min, PySem.W.mg_none_of X G z_isinstance, PySem.W.mg_none_of X G z_all, PySem.W.mg_none_of X G z_str, PySem.W.mg_none_of X G z_ValueError, PySem.W.mg_none_of X G z_sorted, PySem.W.mg_none_of X G z_set, PySem.W.mg_none_of X G z_enumerate, PySem.W.mg_none_of X G z_int, PySem.W.mg_none_of X G z_bool, PySem.W.mg_none_of X G z_tuple, PySem.W.mg_none_of X G z_any, PySem.W.mg_none_of X G z_dict, PySem.W.mg_none_of X G z_sum, PySem.W.mg_none_of X G z_max⟩
 obtain ⟨f, fd, a, hk, F⟩ := d_law.ex
 have e := hfa.symm.trans (PySem.W.mg_of X G a)
 cases e
 refine ⟨fd, ?_, fun base hB hG hbm => ?_⟩
 ·obtain ⟨oc, od, kV, doc, pm, an, cdv, ct, osl, rfl, lk, hcd⟩ := F.ex
  exact fun s v => .of_eq rfl
 ·have FB : Fn P w K mg base CX0 1 "_law_begin" ["_law_script"] (Xjl K) := Fn.of X G d__law_begin (fun _ _ _ _ _ _ us hl => by obtain ⟨a, rfl⟩ := L2.len1 hl; rfl) fun f fd F => ok_begin F T
  have FP : FnPick P w K mg base := Fn.of X G d__law_pick (fun _ _ _ _ _ _ us hl => by obtain ⟨a, b, rfl⟩ := L2.len2 hl; rfl) fun f fd F => ok_pick F T
  have FU : Fn P w K mg base CX0 1 "_law_put" ["_law_row_here", "_law_name", "_law_at", "_law_to"] spPut := Fn.of X G d__law_put (fun _ _ _ _ _ _ us hl => by obtain ⟨a, b, c, d, rfl⟩ := L2.len4 hl; rfl) fun f fd F => ok_put F
  have FW : Fn P w K mg base CX0 1 "_law_where" ["_law_row_here"] Xfq := Fn.of X G d__law_where (fun _ _ _ _ _ _ us hl => by obtain ⟨a, rfl⟩ := L2.len1 hl; rfl) fun f fd F => ok_where F T
  have FO : Fn P w K mg base CX0 1 "_law_word" ["_law_where_here", "_law_one", "_law_other"] spWord := Fn.of X G d__law_word (fun _ _ _ _ _ _ us hl => by obtain ⟨a, b, c, rfl⟩ := L2.len3 hl; rfl) fun f fd F => ok_word F T
  have FA : Fn P w K mg base CX0 2 "_law_barred" ["_law_row_here", "_law_name"] spBarredN := Fn.of X G d__law_barred (fun _ _ _ _ _ _ us hl => by obtain ⟨a, b, rfl⟩ := L2.len2 hl; rfl) fun f fd F => Xos F T FW FO
  have FR : Fn P w K mg base CX0 3 "_law_row" ["_law_draw", "_law_names_here"] spRowN := Fn.of X G d__law_row (fun _ _ _ _ _ _ us hl => by obtain ⟨a, b, rfl⟩ := L2.len2 hl; rfl) fun f fd F => ok_row F T FP FU FA
  have FN : Fn P w K mg base CX0 2 "_law_names" ["_law_draw", "_law_many"] Xjo := Fn.of X G d__law_names (fun _ _ _ _ _ _ us hl => by obtain ⟨a, b, rfl⟩ := L2.len2 hl; rfl) fun f fd F => ok_names F T FP
  have FI : Fn P w K mg base CX0 4 "_law_island" ["_law_draw", "_law_most"] spIslandN := Fn.of X G d__law_island (fun _ _ _ _ _ _ us hl => by obtain ⟨a, b, rfl⟩ := L2.len2 hl; rfl) fun f fd F => Xot F T FP FN FR
  have FK : Fn P w K mg base (CX1 P w) 1 "ask_ditch" ["row", "name"] (spAsk C_NoDitch) := Fn.of X G d_ask_ditch (fun _ _ _ _ _ _ us hl => by obtain ⟨a, b, rfl⟩ := L2.len2 hl; rfl) fun f fd F => ok_ask F (PySem.W.mg_of X G x_NoDitch.a) x_NoDitch.e
  have FD : Fn P w K mg base CX0 1 "ditches" ["row"] spDitches := Fn.of X G d_ditches (fun _ _ _ _ _ _ us hl => by obtain ⟨a, rfl⟩ := L2.len1 hl; rfl) fun f fd F => Xl2 F T
  have FE : Fn P w K mg base (CX1 P w) 2 "ends" ["row", "name"] (Xnn C_NoDitch) := Fn.of X G d_ends (fun _ _ _ _ _ _ us hl => by obtain ⟨a, b, rfl⟩ := L2.len2 hl; rfl) fun f fd F => ok_ends F T FK
  have FSp : Fn P w K mg base CX0 3 "spans" ["row"] spSpans := Fn.of X G d_spans (fun _ _ _ _ _ _ us hl => by obtain ⟨a, rfl⟩ := L2.len1 hl; rfl) fun f fd F => ok_spans F FD FE
  have FLo : Fn P w K mg base CX0 2 "lie_of" ["here", "there"] spLieOf := Fn.of X G d_lie_of (fun _ _ _ _ _ _ us hl => by obtain ⟨a, b, rfl⟩ := L2.len2 hl; rfl) fun f fd F => ok_lieof F
  have FCr : Fn P w K mg base CX0 4 "crossings" ["row"] Xbg := Fn.of X G d_crossings (fun _ _ _ _ _ _ us hl => by obtain ⟨a, rfl⟩ := L2.len1 hl; rfl) fun f fd F => Xi0 F FSp FLo
  have FTo : Fn P w K mg base CX0 1 "told" ["names"] (spTold K) := Fn.of X G d_told (fun _ _ _ _ _ _ us hl => by obtain ⟨a, rfl⟩ := L2.len1 hl; rfl) fun f fd F => ok_told F T
  have FIo : Fn P w K mg base CX0 4 "in_order" ["some"] (spInOrder T_ (lamPos s_in_order)) := Fn.ofT X G d_in_order (fun _ _ _ _ _ _ us hl => by obtain ⟨a, rfl⟩ := L2.len1 hl; rfl) fun f fd F => Xl3 F T hbm
  have FPl : Fn P w K mg base CX0 5 "plots" ["row"] (Xhb T_ (lamPos s_in_order)) := Fn.of X G d_plots (fun _ _ _ _ _ _ us hl => by obtain ⟨a, rfl⟩ := L2.len1 hl; rfl) fun f fd F => Xoq F FSp FLo FTo FCr FIo
  have FT : Fn P w K mg base CX0 1 "_law_tuple" ["_law_found"] spTuple := Fn.of X G d__law_tuple (fun _ _ _ _ _ _ us hl => by obtain ⟨a, rfl⟩ := L2.len1 hl; rfl) fun f fd F => ok_tuple F T
  have FFi : Fn P w K mg base CX0 1 "_law_fits" ["_law_bars_here", "_law_plot"] Xnv := Fn.of X G d__law_fits (fun _ _ _ _ _ _ us hl => by obtain ⟨a, b, rfl⟩ := L2.len2 hl; rfl) fun f fd F => ok_fits F
  have FBr : Fn P w K mg base CX0 2 "_law_bars" ["_law_row_here"] spBars := Fn.of X G d__law_bars (fun _ _ _ _ _ _ us hl => by obtain ⟨a, rfl⟩ := L2.len1 hl; rfl) fun f fd F => ok_bars F T FW FO
  have FLp : Fn P w K mg base CX0 3 "_law_plots" ["_law_row_here"] spPlotsO := Fn.of X G d__law_plots (fun _ _ _ _ _ _ us hl => by obtain ⟨a, rfl⟩ := L2.len1 hl; rfl) fun f fd F => ok_plots F T FFi FBr
  have FAt : Fn P w K mg base CX0 2 "_law_all_texts" ["_law_found"] spAllT := Fn.of X G d__law_all_texts (fun _ _ _ _ _ _ us hl => by obtain ⟨a, rfl⟩ := L2.len1 hl; rfl) fun f fd F => Xj9 F T FT
  have FCd : Fn P w K mg base CX0 2 "_law_crossed" ["_law_row_here"] Xbg := Fn.of X G d__law_crossed (fun _ _ _ _ _ _ us hl => by obtain ⟨a, rfl⟩ := L2.len1 hl; rfl) fun f fd F => Xl4 F T FW FO
  exact ok_law F T FB FI FLp FPl FAt FCd
theorem walk {l : PySem.W.OpenLaw} {q : Program} {loose : List Str} {XP : (Str -> Option Value) -> Heap -> Prop} {YP : World -> Heap -> Prop} {d : DefRec} {K : Params -> PySem.W.Frag} {T c0 : Addr} (hn : l.most = some 63) (hdf : d.params.defaults = [])
  (hY : ∀ (w : World) (h : Heap), YP w h -> (K w.params).In h) (hYT : ∀ (w : World) (h : Heap), YP w h -> h.get? T = some (PySem.W.tabObj #[])) (hTK : ∀ P, (K P).lookup T = none) (hhd : ∀ P, PySem.W.codeHdIn (K P) c0 T = true)
  (F : ∀ (w : World) (mg : Str -> Option Value) (fa : Addr) (h : Heap), (K w.params).In h -> h.Ns mainGlobals mg -> mg d.name = some (.ref fa) ->
   ∃ fd : FuncData, (∀ (s : Shared) (u : Value), BindsTo s fd ⟨[u], []⟩ [("_law_script", u)]) /\ ∀ base : Heap, (K w.params).In base -> base.Ns mainGlobals mg -> BmOk mg base -> FnOk l.prog w (K w.params) mg base CX0 8 fa fd ["_law_script"] (Xla (K w.params) T)) :
  PySem.W.WalkO q loose XP YP l.row.toRowW d [] (fun f vs => PySem.call f vs) :=
 L2.walk_ofT (n := 63) (k := 8) (x := "_law_script") (CX := fun _ => CX0) (sp := fun w => Xla (K w.params) T) hn (by decide) hdf ⟨rfl, by decide, by decide, rfl⟩ hY hYT hTK hhd F (fun _ _ a ns hl hT hS => ⟨a, ns, rfl, hS, hl, hT, fun _ => rfl⟩) fun _ _ _ _ _ z => z
end K7
open PySem PySem.W PyProof.Rows
set_option maxRecDepth 100000 in
set_option maxHeartbeats 0 in
theorem PySem.Challenge.cw_shoretold_k07_whole_plots_of_an_island_holds : PySem.Challenge.rw_shoretold_k07_whole_plots_of_an_island.Holds := by
 w_on; o_law; k_head; (case hw => w_witness2)
 k_fill
 refine K7.walk (l := PySem.Challenge.rw_shoretold_k07_whole_plots_of_an_island) (T := 84) (c0 := 88) rfl rfl (fun w h Y => PySem.W.km_in_of Y) (fun w h Y => PySem.W.km_tabs_of Y _ (List.mem_singleton.mpr rfl)) ?hTK ?hhd ?F
 case hTK => intro P; kernel_rfl
 case hhd => intro P; kernel_rfl
 case F =>
  intro w mg fa h KX G hmg
  refine' K7.all_mk KX G hmg ?d_ask_ditch ?d_ditches ?d_ends ?d_spans ?d_lie_of ?d_crossings ?d_told ?d_in_order ?d_plots ?d__law_begin ?d__law_pick ?d__law_put ?d__law_where ?d__law_word ?d__law_barred ?d__law_row ?d__law_names ?d__law_island ?d__law_bars ?d__law_fits ?d__law_plots ?d__law_tuple ?d__law_all_texts ?d__law_crossed ?d_law ?x_NoDitch ?z_len ?z_range ?z_list ?z_min ?z_isinstance ?z_all ?z_str ?z_ValueError ?z_sorted ?z_set ?z_enumerate ?z_int ?z_bool ?z_tuple ?z_any ?z_dict ?z_sum ?z_max
  (case d_ask_ditch => (refine' L2.DefAt.of ?a ?l ?c ?k; (case a => k_is); (case l => k_is); (case c => k_is); (case k => k_is)))
  (case d_ditches => (refine' L2.DefAt.of ?a ?l ?c ?k; (case a => k_is); (case l => k_is); (case c => k_is); (case k => k_is)))
  (case d_ends => (refine' L2.DefAt.of ?a ?l ?c ?k; (case a => k_is); (case l => k_is); (case c => k_is); (case k => k_is)))
  (case d_spans => (refine' L2.DefAt.of ?a ?l ?c ?k; (case a => k_is); (case l => k_is); (case c => k_is); (case k => k_is)))
  (case d_lie_of => (refine' L2.DefAt.of ?a ?l ?c ?k; (case a => k_is); (case l => k_is); (case c => k_is); (case k => k_is)))
  (case d_crossings => (refine' L2.DefAt.of ?a ?l ?c ?k; (case a => k_is); (case l => k_is); (case c => k_is); (case k => k_is)))
  (case d_told => (refine' L2.DefAt.of ?a ?l ?c ?k; (case a => k_is); (case l => k_is); (case c => k_is); (case k => k_is)))
  (case d_in_order => (refine' L2.DefT.of ?a ?l ?c ?k ?t; (case a => k_is); (case l => k_is); (case c => k_is); (case k => k_is); (case t => kernel_rfl)))
  (case d_plots => (refine' L2.DefAt.of ?a ?l ?c ?k; (case a => k_is); (case l => k_is); (case c => k_is); (case k => k_is)))
  (case d__law_begin => (refine' L2.DefAt.of ?a ?l ?c ?k; (case a => k_is); (case l => k_is); (case c => k_is); (case k => k_is)))
  (case d__law_pick => (refine' L2.DefAt.of ?a ?l ?c ?k; (case a => k_is); (case l => k_is); (case c => k_is); (case k => k_is)))
  (case d__law_put => (refine' L2.DefAt.of ?a ?l ?c ?k; (case a => k_is); (case l => k_is); (case c => k_is); (case k => k_is)))
  (case d__law_where => (refine' L2.DefAt.of ?a ?l ?c ?k; (case a => k_is); (case l => k_is); (case c => k_is); (case k => k_is)))
  (case d__law_word => (refine' L2.DefAt.of ?a ?l ?c ?k; (case a => k_is); (case l => k_is); (case c => k_is); (case k => k_is)))
  (case d__law_barred => (refine' L2.DefAt.of ?a ?l ?c ?k; (case a => k_is); (case l => k_is); (case c => k_is); (case k => k_is)))
  (case d__law_row => (refine' L2.DefAt.of ?a ?l ?c ?k; (case a => k_is); (case l => k_is); (case c => k_is); (case k => k_is)))
  (case d__law_names => (refine' L2.DefAt.of ?a ?l ?c ?k; (case a => k_is); (case l => k_is); (case c => k_is); (case k => k_is)))
  (case d__law_island => (refine' L2.DefAt.of ?a ?l ?c ?k; (case a => k_is); (case l => k_is); (case c => k_is); (case k => k_is)))
  (case d__law_bars => (refine' L2.DefAt.of ?a ?l ?c ?k; (case a => k_is); (case l => k_is); (case c => k_is); (case k => k_is)))
  (case d__law_fits => (refine' L2.DefAt.of ?a ?l ?c ?k; (case a => k_is); (case l => k_is); (case c => k_is); (case k => k_is)))
  (case d__law_plots => (refine' L2.DefAt.of ?a ?l ?c ?k; (case a => k_is); (case l => k_is); (case c => k_is); (case k => k_is)))
  (case d__law_tuple => (refine' L2.DefAt.of ?a ?l ?c ?k; (case a => k_is); (case l => k_is); (case c => k_is); (case k => k_is)))
  (case d__law_all_texts => (refine' L2.DefAt.of ?a ?l ?c ?k; (case a => k_is); (case l => k_is); (case c => k_is); (case k => k_is)))
  (case d__law_crossed => (refine' L2.DefAt.of ?a ?l ?c ?k; (case a => k_is); (case l => k_is); (case c => k_is); (case k => k_is)))
  (case d_law => (refine' L2.DefAt.of ?a ?l ?c ?k; (case a => k_is); (case l => k_is); (case c => k_is); (case k => k_is)))
  (case x_NoDitch => (refine' ⟨?a, ?e, ?ga, ?gn, ?cl, ?sb, ?so, ?sv, ?ss, ?ic, ?ty⟩; (case a => k_is); (case e => k_exc); (case ga => k_is); (case gn => k_is); (case cl => k_is); (case sb => k_is); (case so => k_is); (case sv => k_is); (case ss => k_is); (case ic => k_is); (case ty => k_is)))
  (case z_len => k_is); (case z_range => k_is); (case z_list => k_is); (case z_min => k_is); (case z_isinstance => k_is); (case z_all => k_is); (case z_str => k_is); (case z_ValueError => k_is); (case z_sorted => k_is); (case z_set => k_is); (case z_enumerate => k_is); (case z_int => k_is); (case z_bool => k_is); (case z_tuple => k_is); (case z_any => k_is); (case z_dict => k_is); (case z_sum => k_is); (case z_max => k_is)
#print axioms PySem.Challenge.cw_shoretold_k07_whole_plots_of_an_island_holds
